import PyProof.Rows.All
import Wide.All
import OpenK.AllK
import Wide.FinOn
import Lean
import PyProof.EqAt
import PyProof.EqKinds
import PyProof.TupleCall
import PySem.Challenge.RW_stemshelf_k20_whole_one_copy_is_enough
set_option Elab.async false
set_option linter.all false
set_option maxRecDepth 100000
namespace L2
open PySem PySem.Spec PyProof.Rows
abbrev Key:=Sum Int Str
def L0:Key→Value→Bool
 | .inl k,v=>Value.isInt k v
 | .inr x,v=>Value.isStrOf x v
def YV (w:World):Key→Int
 | .inl k=>hashInt k
 | .inr x=>hashStr w x
theorem Bu:∀{k:Key} {v:Value},L0 k v=true→(∃i t,k=Sum.inl i∧v=Value.int i t)∨(∃x t,k=Sum.inr x∧v=Value.str x t)
 | .inl i,v,h=>by
  obtain⟨t,e⟩:=Value.isInt_shape (k:=i) (v:=v) h
  exact .inl ⟨i,t,rfl,e⟩
 | .inr x,v,h=>by
  obtain⟨t,e⟩:=Value.isStrOf_shape (x:=x) (v:=v) h
  exact .inr ⟨x,t,rfl,e⟩
theorem Ry (i:Int)(t:Tok):L0 (.inl i) (.int i t)=true:=by simp[L0,Value.isInt]
theorem RB (x:Str)(t:Tok):L0 (.inr x) (.str x t)=true:=by simp[L0,Value.isStrOf]
theorem W7 (a b:Int):decide ((Sum.inl a:Key)=Sum.inl b)=(a == b):=by
 by_cases e:a=b
 ·subst e;simp
 ·have h:¬(Sum.inl a:Key)=Sum.inl b:=fun q=>e (Sum.inl.inj q)
  rw[decide_eq_false h]
  exact(beq_eq_false_iff_ne.mpr e).symm
theorem Wk (a b:Str):decide ((Sum.inr a:Key)=Sum.inr b)=decide (a=b):=by
 by_cases e:a=b
 ·subst e;simp
 ·have h:¬(Sum.inr a:Key)=Sum.inr b:=fun q=>e (Sum.inr.inj q)
  rw[decide_eq_false h,decide_eq_false e]
theorem WJ (a:Int)(b:Str):decide ((Sum.inl a:Key)=Sum.inr b)=false:=decide_eq_false (fun q=>nomatch q)
theorem WA (a:Str)(b:Int):decide ((Sum.inr a:Key)=Sum.inl b)=false:=decide_eq_false (fun q=>nomatch q)
def Bf (prog:Program)(w:World):PySem.KeyKind prog w Key where
 is:=L0
 hash:=YV w
 inj:=fun v a b ha hb=>by
  rcases Bu ha with⟨i,t,rfl,rfl⟩|⟨x,t,rfl,rfl⟩
  ·rcases Bu hb with⟨j,u,rfl,e⟩|⟨y,u,rfl,e⟩
   ·injection e with e1 _;rw[e1]
   ·exact nomatch e
  ·rcases Bu hb with⟨j,u,rfl,e⟩|⟨y,u,rfl,e⟩
   ·exact nomatch e
   ·injection e with e1 _;rw[e1]
 byValue:=fun k v h=>by
  rcases Bu h with⟨i,t,rfl,rfl⟩|⟨x,t,rfl,rfl⟩<;>rfl
 pyHash:=fun hv h=>by
  rcases Bu hv with⟨i,t,rfl,rfl⟩|⟨x,t,rfl,rfl⟩
  ·exact wpAny_pyHash_int h
  ·exact wpAny_pyHash_str h
 eqBool:=fun hu hv h=>by
  rcases Bu hu with⟨i,t,rfl,rfl⟩|⟨x,t,rfl,rfl⟩
  ·rcases Bu hv with⟨j,u,rfl,rfl⟩|⟨y,u,rfl,rfl⟩
   ·rw[W7] at h;exact wpAny_eqBool_int h
   ·rw[WJ] at h;exact SeqAt.EqAt.int_str i t y u _ _ _ _ h
  ·rcases Bu hv with⟨j,u,rfl,rfl⟩|⟨y,u,rfl,rfl⟩
   ·rw[WA] at h;exact SeqAt.EqAt.str_int x t j u _ _ _ _ h
   ·rw[Wk] at h;exact wpAny_eqBool_str h
 «strs»:=fun k x t v h=>by
  rcases Bu h with⟨i,u,rfl,e⟩|⟨y,u,rfl,e⟩
  ·exact nomatch e
  ·injection e with e1 _
   subst e1
   cases v<;>rfl
theorem NM (prog:Program)(w:World)(i:Int)(t:Tok):(Bf prog w).is (.inl i) (.int i t)=true:=Ry i t
theorem Oh (prog:Program)(w:World)(x:Str)(t:Tok):(Bf prog w).is (.inr x) (.str x t)=true:=RB x t
end L2
namespace L2
open PySem PySem.Spec PyProof.Rows
inductive V where
 |non|bl (b:Bool)|int (i:Int)|str (x:Str)|byt (b:Array UInt8)|flt (b:UInt64)|ref (a:Addr)|ty (n:String)
 deriving DecidableEq
def RelV:V→Value→Prop
 | .non,u=>u=Value.none
 | .bl b,u=>u=Value.bool b
 | .int i,u=>∃t,u=Value.int i t
 | .str x,u=>∃t,u=Value.str x t
 | .byt b,u=>∃t,u=Value.bytes b t
 | .flt b,u=>∃t,u=Value.float b t
 | .ref a,u=>u=Value.ref a
 | .ty n,u=>u=Value.type n
abbrev AC:List V→List Value→Prop:=Paired RelV
theorem AC.length {xs:List V}{us:List Value}(r:AC xs us):xs.length=us.length:=Paired.length r
theorem AC.get:∀{xs:List V} {us:List Value} {i:Nat} {x:V},AC xs us→xs[i]?=some x→∃u,us[i]?=some u∧RelV x u
 |_,_,_,_,.nil,e=>by simp at e
 |_,_,0,_,.cons r _,e=>by simp at e;subst e;exact⟨_,rfl,r⟩
 |_,_,i+1,x,.cons _ t,e=>by
  obtain⟨u,h1,h2⟩:=AC.get (i:=i) (x:=x) t (by simpa using e)
  exact⟨u,by simpa using h1,h2⟩
theorem AC.set {x:V}{u:Value}(r:RelV x u):∀{xs:List V} {us:List Value} (i:Nat),AC xs us→AC (xs.set i x) (us.set i u)
 |_,_,_,.nil=>.nil
 |_,_,0,.cons _ t=>.cons r t
 |_,_,i+1,.cons q t=>.cons q (AC.set r i t)
theorem AC.append:∀{xs ys:List V} {us ws:List Value},AC xs us→AC ys ws→AC (xs++ys) (us++ws)
 |_,_,_,_,.nil,s=>s
 |_,_,_,_,.cons r t,s=>.cons r (AC.append t s)
theorem AC.take:∀{xs:List V} {us:List Value} (n:Nat),AC xs us→AC (xs.take n) (us.take n)
 |_,_,0,_=>.nil
 |_,_,_+1,.nil=>.nil
 |_,_,n+1,.cons r t=>.cons r (AC.take n t)
theorem AC.drop:∀{xs:List V} {us:List Value} (n:Nat),AC xs us→AC (xs.drop n) (us.drop n)
 |_,_,0,r=>r
 |_,_,_+1,.nil=>.nil
 |_,_,n+1,.cons _ t=>AC.drop n t
theorem AC.none_of:∀{xs:List V} {us:List Value} {i:Nat},AC xs us→xs[i]?=none→us[i]?=none:=fun{xs us i} r e=>by
 have h1:=r.length
 have h2:xs.length≤i:=List.getElem?_eq_none_iff.mp e
 exact List.getElem?_eq_none_iff.mpr (by omega)
def E5:Option V→Option Value→Prop
 |some v,some u=>RelV v u
 |none,none=>True
 |_,_=>False
def KV {κ:Type}:List (κ×V)→List (κ×Value)→Prop:=Paired fun(p:κ×V) (q:κ×Value)=>p.1=q.1∧RelV p.2 q.2
def kV:Key→V
 | .inl i=>.int i
 | .inr x=>.str x
inductive HO where
 |lst (xs:List V)
 |tup (xs:List V)
 |dK (kvs:List (Key×V))|dT (kvs:List (List Key×V))
 |set (S:Int→Bool) (n:Nat)
 |ins (C dx:Addr) (fs:List (Str×V))
 |own (x:Addr)
 |xd (fs:List (Str×V))
 |met (f x:Addr)
 |rng (lo hi:Int)
 |frz (o:Obj) (u:HO)
 |tbl (ps:Array Value)
 |ext (φ:Heap→Prop)
abbrev Hp:=Addr→Option HO
def upd (H:Hp)(a:Addr)(o:HO):Hp:=fun b=>if b=a then some o else H b
theorem Ad {H:Hp}{a:Addr}{o:HO}:upd H a o a=some o:=by unfold upd;rw[if_pos rfl]
theorem Ai {H:Hp}{a b:Addr}{o:HO}(h:b≠a):upd H a o b=H b:=by unfold upd;rw[if_neg h]
theorem FV {H:Hp}{a:Addr}{o u:HO}:upd (upd H a o) a u=upd H a u:=by
 funext b;unfold upd;split<;>rfl
theorem Av {H:Hp}{a b:Addr}{o u:HO}(h:H a=some o)(h':H b=some u)(d:o≠u):a≠b:=by
 intro e;subst e;rw[h] at h';exact d (Option.some.inj h')
theorem Ar {H:Hp}{a b:Addr}{o:HO}(h:H a=some o)(h':H b=none):a≠b:=by
 intro e;subst e;rw[h] at h';cases h'
section
variable (P:Program)(w:World)
def AZ (H:Hp)(h:Heap)(a:Addr):HO→Prop
 | .lst xs=>xs.length≤sizeLine∧∃(its:List Value) (n:Nat),AC xs its∧h.get? a=some { cls:=.type "list",data:=.seq its.toArray n }
 | .tup xs=>xs.length≤sizeLine∧∃its:List Value,AC xs its∧IsTup h a its.toArray
 | .dK kvs=>kvs.length≤sizeLine∧(a == sysModules)=false∧∃vs,KV kvs vs∧h.DictOf (Bf P w) a vs
 | .dT kvs=>kvs.length≤sizeLine∧(a == sysModules)=false∧∃xs:List (List Key×Addr×Value),
   Paired (fun(p:List Key×V) (q:List Key×Addr×Value)=>p.1=q.1∧H q.2.1=some (.tup (p.1.map kV))∧RelV p.2 q.2.2) kvs xs∧
   ∃o es ep,h.get? a=some o∧o.ExactDict∧o.data=.dict es ep∧es.toList=xs.map (entryOfKey (tupleKind (Bf P w)))∧(xs.map (·.1)).Nodup
 | .set S n=>h.SetOf (intKind P w) a S n
 | .ins C dx fs=>H dx=some (.own a)∧fs.length≤1000∧dx≠a∧h.get? a=some (PySem.W.instObj C dx)∧
   ∃mA,h.Ns1 dx mA∧(∀f,E5 (fs.lookup f) (mA f))∧PySem.Within mA (fs.map (·.1))
 | .own _=>∃o,h.get? a=some o
 | .xd fs=>∃mA,h.Ns1 a mA∧∀f,E5 (fs.lookup f) (mA f)
 | .rng lo hi=>∃t u v,h.get? a=some { cls:=.type "range",data:=.fields #[.int lo t,.int hi u,.int 1 v] }
 | .frz o u=>h.get? a=some o∧AZ H h a u
 | .tbl ps=>h.get? a=some { cls:=.none,data:=.fields ps }
 | .met f x=>h.get? a=some (PySem.W.methodObj (.ref f) (.ref x))
 | .ext φ=>φ h∧(∃o,h.get? a=some o)∧∀h1 h2:Heap,φ h1→(∀o,h1.get? a=some o→h2.get? a=some o)→φ h2
def G9 (H:Hp)(h:Heap):Prop:=∀a o,H a=some o→AZ P w H h a o
end
section
variable {P:Program}{w:World}{H H':Hp}{h h':Heap}{a:Addr}{o:HO}
theorem AZ.lt (x:AZ P w H h a o):a<h.objs.size:=by
 cases o with
 |lst xs=>obtain⟨_,_,_,_,e⟩:=x;exact Heap.lt_size e
 |tup xs=>obtain⟨_,_,_,p⟩:=x;exact p.lt
 |dK kvs=>obtain⟨_,_,_,_,o,_,_,e,_⟩:=x;exact Heap.lt_size e
 |dT kvs=>obtain⟨_,_,_,_,o,_,_,e,_⟩:=x;exact Heap.lt_size e
 |set S n=>obtain⟨o,_,_,_,e,_⟩:=x;exact Heap.lt_size e
 |ins C dx fs=>obtain⟨_,_,_,e,_⟩:=x;exact Heap.lt_size e
 |own y=>obtain⟨_,e⟩:=x;exact Heap.lt_size e
 |xd fs=>obtain⟨_,⟨_,_,_,e,_⟩,_⟩:=x;exact Heap.lt_size e
 |rng lo hi=>obtain⟨_,_,_,e⟩:=x;exact Heap.lt_size e
 |frz ob u=>obtain⟨e,_⟩:=x;exact Heap.lt_size e
 |tbl ps=>exact Heap.lt_size (show h.get? a=some _ from x)
 |met f y=>exact Heap.lt_size (show h.get? a=some _ from x)
 |ext φ=>obtain⟨_,⟨_,e⟩,_⟩:=x;exact Heap.lt_size e
theorem Paired.mapP {α β:Type}{F G:α→β→Prop}:∀{l₁:List α} {l₂:List β},Paired F l₁ l₂→(∀a b,F a b→G a b)→Paired G l₁ l₂
 |_,_,.nil,_=>.nil
 |_,_,.cons r t,f=>.cons (f _ _ r) (Paired.mapP t f)
theorem AZ.stay (x:AZ P w H h a o) (k:∀b u,(b=a∨H b=some (.own a))→h.get? b=some u→h'.get? b=some u)
  (ho:∀b,H b=some (.own a)→H' b=some (.own a)) (ht:∀b xs,H b=some (.tup xs)→H' b=some (.tup xs)):AZ P w H' h' a o:=by
 induction o with
 |lst xs=>obtain⟨z,its,n,r,e⟩:=x;exact⟨z,its,n,r,k _ _ (.inl rfl) e⟩
 |tup xs=>obtain⟨z,its,r,ob,e,c⟩:=x;exact⟨z,its,r,ob,k _ _ (.inl rfl) e,c⟩
 |dK kvs=>obtain⟨z,y,vs,r,ob,es,ep,e,c⟩:=x;exact⟨z,y,vs,r,ob,es,ep,k _ _ (.inl rfl) e,c⟩
 |dT kvs=>
  obtain⟨z,y,xs,r,ob,es,ep,e,c⟩:=x
  exact⟨z,y,xs,Paired.mapP r fun p q z=>⟨z.1,ht _ _ z.2.1,z.2.2⟩,ob,es,ep,k _ _ (.inl rfl) e,c⟩
 |set S n=>obtain⟨ob,es,ep,t,e,c⟩:=x;exact⟨ob,es,ep,t,k _ _ (.inl rfl) e,c⟩
 |ins C dx fs=>
  obtain⟨d,z,ne,e,mA,⟨od,es,ep,e2,c⟩,r⟩:=x
  exact⟨ho _ d,z,ne,k _ _ (.inl rfl) e,mA,⟨od,es,ep,k _ _ (.inr d) e2,c⟩,r⟩
 |own y=>obtain⟨ob,e⟩:=x;exact⟨ob,k _ _ (.inl rfl) e⟩
 |xd fs=>obtain⟨mA,⟨od,es,ep,e,c⟩,r⟩:=x;exact⟨mA,⟨od,es,ep,k _ _ (.inl rfl) e,c⟩,r⟩
 |rng lo hi=>obtain⟨t,u,v,e⟩:=x;exact⟨t,u,v,k _ _ (.inl rfl) e⟩
 |frz ob u ih=>obtain⟨e,q⟩:=x;exact⟨k _ _ (.inl rfl) e,ih q⟩
 |tbl ps=>
  have e:h.get? a=some { cls:=.none,data:=.fields ps }:=x
  show h'.get? a=some { cls:=.none,data:=.fields ps }
  exact k a _ (.inl rfl) e
 |met f y=>
  have e:h.get? a=some (PySem.W.methodObj (.ref f) (.ref y)):=x
  show h'.get? a=some (PySem.W.methodObj (.ref f) (.ref y))
  exact k a _ (.inl rfl) e
 |ext φ=>obtain⟨p,⟨o,e⟩,st⟩:=x;exact⟨st _ _ p fun o q=>k _ _ (.inl rfl) q,⟨o,k _ _ (.inl rfl) e⟩,st⟩
theorem G9.lt (x:G9 P w H h)(e:H a=some o):a<h.objs.size:=(x a o e).lt
theorem G9.fresh (x:G9 P w H h)(e:h.objs.size≤a):H a=none:=by
 cases q:H a with
 |none=>rfl
 |some u=>exact absurd (Nat.lt_of_lt_of_le (x.lt q) e) (Nat.lt_irrefl _)
theorem G9.kept (x:G9 P w H h)(k:∀b u,h.get? b=some u→h'.get? b=some u):G9 P w H h':=fun a o e=>
 (x a o e).stay (fun b u _ q=>k b u q) (fun _ q=>q) fun _ _ q=>q
theorem G9.laid (x:G9 P w H h)(k:∀b u,h.get? b=some u→h'.get? b=some u)(hp:h.objs.size≤a)(new:AZ P w (upd H a o) h' a o):G9 P w (upd H a o) h':=fun b u e=>by
 have hn:=x.fresh hp
 by_cases hb:b=a
 ·subst hb;rw[Ad] at e;cases e;exact new
 ·rw[Ai hb] at e
  exact(x b u e).stay (fun c v _ q=>k c v q) (fun c q=>by rw[Ai (Ar q hn)];exact q) fun c xs q=>by rw[Ai (Ar q hn)];exact q
end
def Rd (H:Hp)(a:Addr)(u:HO):Prop:=H a=some u∨∃o,H a=some (.frz o u)
theorem Rd.of {H:Hp}{a:Addr}{u:HO}(h:H a=some u):Rd H a u:=.inl h
theorem Rd.ok {P:Program}{w:World}{H:Hp}{h:Heap}{a:Addr}{u:HO}(r:Rd H a u)(x:G9 P w H h):AZ P w H h a u:=by
 rcases r with r|⟨o,r⟩
 ·exact x a u r
 ·obtain⟨_,q⟩:=x a _ r
  exact q
def X3:Option HO→Prop
 |some (.lst _)=>True
 |some (.dK _)=>True
 |some (.dT _)=>True
 |some (.set _ _)=>True
 |some (.ins _ _ _)=>True
 |some (.ext _)=>True
 |_=>False
section
variable {P:Program}{w:World}{H:Hp}{h h':Heap}{x e:Addr}{o':HO}
theorem G9.write (ok:G9 P w H h) (mu:X3 (H x)) (he:e=x∨H e=some (.own x)) (k:∀b u,b≠e→h.get? b=some u→h'.get? b=some u) (heo:∃u,h'.get? e=some u)
  (new:AZ P w (upd H x o') h' x o'):G9 P w (upd H x o') h':=fun b u q=>by
 have nown:∀c y,H c=some (.own y)→c≠x:=fun c y r z=>by subst z;rw[r] at mu;exact mu
 have ntup:∀c xs,H c=some (.tup xs)→c≠x:=fun c xs r z=>by subst z;rw[r] at mu;exact mu
 by_cases hb:b=x
 ·subst hb;rw[Ad] at q;cases q;exact new
 ·rw[Ai hb] at q
  by_cases hbe:b=e
  ·have q':H b=some (.own x):=by
    rcases he with z|z
    ·exact absurd (hbe.trans z) hb
    ·rw[hbe];exact z
   rw[q] at q';cases q'
   obtain⟨v,hv⟩:=heo
   exact⟨v,by rw[hbe];exact hv⟩
  ·refine(ok b u q).stay (fun c v hc r=>k c v ?_ r) (fun c r=>by rw[Ai (nown c b r)];exact r) fun c xs r=>by rw[Ai (ntup c xs r)];exact r
   rcases hc with rfl|hc
   ·exact hbe
   ·rintro rfl
    rcases he with z|z
    ·exact nown c b hc z
    ·rw[hc] at z;cases z;exact hb rfl
end
structure Un (fs ex:List Addr) (H H':Hp) (h h':Heap):Prop where
 keep:∀b o,h.get? b=some o→H b=none→b∉fs→b∉ex→h'.get? b=some o
 slot:∀b o,h.get? b=some o→H b=none→b∈fs→b∉ex→∃sl,h'.get? b=some { o with slots:=sl }
 free:∀b o,h.get? b=some o→H b=none→b∉ex→H' b=none
 there:∀b o,h.get? b=some o→b∉ex→∃o',h'.get? b=some o'
 tups:∀b xs,H b=some (.tup xs)→H' b=some (.tup xs)
 frzs:∀b o u,H b=some (.frz o u)→H' b=some (.frz o u)
 tbls:∀b ps,H b=some (.tbl ps)→∃more,H' b=some (.tbl (ps++more))
section
variable {fs fs' ex ex':List Addr}{H H1 H2:Hp}{h h1 h2 h':Heap}{a x e:Addr}{o:HO}
theorem Un.any (u:Un fs ex H H1 h h1){b:Addr}{ob:Obj}(q:h.get? b=some ob)(n:H b=none)(hx:b∉ex):∃sl,h1.get? b=some { ob with slots:=sl }:=by
 by_cases hb:b∈fs
 ·exact u.slot b ob q n hb hx
 ·exact⟨ob.slots,u.keep b ob q n hb hx⟩
theorem Un.trans (a:Un fs ex H H1 h h1)(b:Un fs ex H1 H2 h1 h2):Un fs ex H H2 h h2 where
 keep:=fun c ob q n hc hx=>b.keep c ob (a.keep c ob q n hc hx) (a.free c ob q n hx) hc hx
 slot:=fun c ob q n hc hx=>by
  obtain⟨sl,e1⟩:=a.slot c ob q n hc hx
  obtain⟨sl',e2⟩:=b.slot c _ e1 (a.free c ob q n hx) hc hx
  exact⟨sl',e2⟩
 free:=fun c ob q n hx=>by
  obtain⟨o',e1⟩:=a.there c ob q hx
  exact b.free c o' e1 (a.free c ob q n hx) hx
 there:=fun c ob q hx=>by
  obtain⟨o',e1⟩:=a.there c ob q hx
  exact b.there c o' e1 hx
 tups:=fun c xs q=>b.tups c xs (a.tups c xs q)
 frzs:=fun c ob xs q=>b.frzs c ob xs (a.frzs c ob xs q)
 tbls:=fun c ps q=>by
  obtain⟨m1,e1⟩:=a.tbls c ps q
  obtain⟨m2,e2⟩:=b.tbls c _ e1
  exact⟨m1++m2,by rw[e2,Array.append_assoc]⟩
theorem Un.kept (k:∀b u,h.get? b=some u→h'.get? b=some u):Un fs ex H H h h':=
 ⟨fun b ob q _ _ _=>k b ob q,fun b ob q _ _ _=>⟨ob.slots,k b ob q⟩,fun _ _ _ n _=>n,fun b ob q _=>⟨ob,k b ob q⟩,fun _ _ q=>q,fun _ _ _ q=>q,fun _ ps q=>⟨#[],by rw[q];simp⟩⟩
theorem Un.refl:Un fs ex H H h h:=Un.kept fun _ _ q=>q
theorem Un.laid (k:∀b u,h.get? b=some u→h'.get? b=some u)(hp:h.objs.size≤a)(hn:H a=none):Un fs ex H (upd H a o) h h' where
 keep:=fun b u q _ _ _=>k b u q
 slot:=fun b u q _ _ _=>⟨u.slots,k b u q⟩
 free:=fun b u q n _=>by rw[Ai (Nat.ne_of_lt (Nat.lt_of_lt_of_le (Heap.lt_size q) hp))];exact n
 there:=fun b u q _=>⟨u,k b u q⟩
 tups:=fun b xs q=>by rw[Ai (Ar q hn)];exact q
 frzs:=fun b u xs q=>by rw[Ai (Ar q hn)];exact q
 tbls:=fun b ps q=>⟨#[],by rw[Ai (Ar q hn),q];simp⟩
theorem Un.write (mu:X3 (H x))(he:e=x∨H e=some (.own x))(k:∀b u,b≠e→h.get? b=some u→h'.get? b=some u)(heo:∃u,h'.get? e=some u):Un fs ex H (upd H x o) h h':=by
 have hx:∀b,H b=none→b≠x:=fun b n z=>by subst z;rw[n] at mu;exact mu
 have hb:∀b,H b=none→b≠e:=fun b n z=>by
  subst z
  rcases he with r|r
  ·exact hx b n r
  ·rw[n] at r;cases r
 have hm:∀b u,H b=some u→¬X3 (some u)→b≠x:=fun b u q nm z=>by subst z;rw[q] at mu;exact nm mu
 refine⟨fun b u q n _ _=>k b u (hb b n) q,fun b u q n _ _=>⟨u.slots,k b u (hb b n) q⟩,fun b u q n _=>by rw[Ai (hx b n)];exact n,fun b u q _=>?_,
  fun b xs q=>by rw[Ai (hm b _ q fun z=>z)];exact q,fun b u xs q=>by rw[Ai (hm b _ q fun z=>z)];exact q,fun b ps q=>⟨#[],by rw[Ai (hm b _ q fun z=>z),q];simp⟩⟩
 by_cases hbe:b=e
 ·subst hbe;exact heo
 ·exact⟨u,k b u hbe q⟩
theorem Un.mono (u:Un fs ex H H1 h h1)(hs:∀b∈fs,b∈fs')(hx:∀b∈ex,b∈ex'):Un fs' ex' H H1 h h1:=
 ⟨fun b ob q n hb he=>u.keep b ob q n (fun z=>hb (hs b z)) fun z=>he (hx b z),fun _ _ q n _ he=>u.any q n fun z=>he (hx _ z),fun b ob q n he=>u.free b ob q n fun z=>he (hx b z),fun b ob q he=>u.there b ob q fun z=>he (hx b z),u.tups,u.frzs,u.tbls⟩
end
def Ys (h:Heap)(H:Hp):List Addr:=(List.range h.objs.size).filter fun a=>(H a).isSome
def M7 (h:Heap)(H:Hp):Heap:=PySem.W.hideAll h (Ys h H)
theorem Rx (h:Heap)(H:Hp):(M7 h H).objs.size=h.objs.size:=PySem.W.hideAll_size _ _
theorem Up {h:Heap}{H:Hp}{b:Addr}{o:Obj}(e:h.get? b=some o)(n:H b=none):(M7 h H).get? b=some o:=
 PySem.W.hideAll_get _ e fun hm=>by
  have q:(H b).isSome=true:=(List.mem_filter.mp hm).2
  rw[n] at q;simp at q
theorem U4 {h:Heap}{H:Hp}{b:Addr}{o:Obj}(e:(M7 h H).get? b=some o):h.get? b=some o∧H b=none:=by
 have e':h.get? b=some o:=PySem.W.of_hideAll (Ys h H) e
 refine⟨e',?_⟩
 cases q:H b with
 |none=>rfl
 |some x=>
  have hm:b∈Ys h H:=List.mem_filter.mpr ⟨List.mem_range.mpr (Heap.lt_size e'),by simp[q]⟩
  have z:(M7 h H).get? b=none:=PySem.W.hideAll_none (Ys h H) hm
  rw[z] at e;cases e
def VF (g h:Heap)(L:Addr):List (Addr×Obj):=(List.range h.objs.size).filterMap fun a=>if a=L∨(g.get? a).isSome=true then none else(h.get? a).map fun o=>(a,o)
def rest (g h:Heap)(L d:Addr):List (Addr×Obj):=(VF g h L).filter fun p=>decide (p.1≠d)
end L2
namespace L2
open PySem PySem.Spec PyProof.Rows
structure Mod (K:PySem.W.Frag) (mg:Str→Option Value) (base:Heap):Prop where
 kin:K.In base
 glob:base.Ns mainGlobals mg
 blt:∃mb,base.Ns builtinsNs mb∧∀x:Str,x≠"__name__"→mb x=bootBuiltins x
 nolimit:base.NoLimit
structure Cx where
 prog:Program
 w:World
 K:PySem.W.Frag
 mg:Str→Option Value
 base:Heap
 A:Around
 N:List Str
 s₀:Shared
 H₀:Hp
 env:Env
 outer:List Env
 stack:List Env
 ex:List Addr
 fn:Str→Bool
 calm:Bool
 pn:List (Addr×Obj)
 xe:Value→Shared→Prop
def D3 (l:List Env):List Addr:=l.filterMap (·.frame)
abbrev Cx.fs (X:Cx):List Addr:=D3 X.outer
def YF (sc:Scope)(x:Str):Prop:=sc.names.lookup x=some .local∨sc.names.lookup x=some .cell∨sc.names.lookup x=some .free
def Loc (sc:Scope)(x:Str):Prop:=sc.names.lookup x=some .local∨sc.names.lookup x=some .cell
def Look (env:Env)(h:Heap)(m:Str→Option Value)(x:Str)(u:Value):Prop:=
 (env.kindOf x=some .local∧m x=some u)∨((env.kindOf x=some .cell∨env.kindOf x=some .free)∧∃c,env.cells.lookup x=some c∧h.IsCell c (some u))
structure Cx.Ok (X:Cx):Prop where
 mod:Mod X.K X.mg X.base
 kind:X.env.scope.kind=.function
 glob:X.env.globals=mainGlobals
 blt:X.env.builtins=builtinsNs
 above:X.s₀.heap.objs.size≤X.env.locals
 inj:∀x y c,X.env.cells.lookup x=some c→X.env.cells.lookup y=some c→x=y
 has:∀x,(X.env.kindOf x=some .cell∨X.env.kindOf x=some .free)→∃c,X.env.cells.lookup x=some c
 cab:∀x c,X.fn x=true→X.env.cells.lookup x=some c→X.s₀.heap.objs.size≤c
 hd:X.calm=true→X.A.handled=none
 frames:X.A.frames=some X.stack
 stk:X.stack=X.outer∨(X.stack=X.env::X.outer∧X.env.frame=some X.env.locals)
 exf:∀b∈X.ex,b≠X.env.locals∧∀x c,X.env.cells.lookup x=some c→c≠b
 bs:∀b o,X.base.get? b=some o→X.s₀.heap.get? b=some o∧X.H₀ b=none
 bsz:X.base.objs.size≤X.s₀.heap.objs.size
 noex:∀b o,X.base.get? b=some o→b∉X.ex
 exfs:∀b∈X.ex,b∉X.fs
 funs:X.s₀.heap.FunFrames X.base X.outer
 frf:∀b∈X.fs,X.H₀ b=none
structure Inv (X:Cx) (pins:List (Addr×Obj)) (σ:List (Option V)) (H:Hp) (s:Shared):Prop where
 ok:X.Ok
 os:s.os=X.s₀.os
 bare:AllBare s.gens
 base:Un X.fs X.ex X.H₀ H X.s₀.heap s.heap
 loc:∃m,s.heap.Ns X.env.locals m∧∀(i:Nat) (x:Str) (v:V),X.N[i]?=some x→σ[i]?=some (some v)→YF X.env.scope x→∃u,RelV v u∧Look X.env s.heap m x u
 cell:∀x c,X.env.cells.lookup x=some c→∃v,s.heap.IsCell c v
 free:H X.env.locals=none
 freeC:∀x c,X.env.cells.lookup x=some c→H c=none
 pin:∀p∈X.pn++pins,s.heap.get? p.1=some p.2∧H p.1=none∧p.1≠X.env.locals∧p.1∉X.fs∧∀v,p.2.data≠.cell v
 hok:G9 X.prog X.w H s.heap
 len:σ.length=X.N.length
section
variable {X:Cx}{pins:List (Addr×Obj)}{σ:List (Option V)}{H H':Hp}{s:Shared}{h':Heap}
theorem Cx.Ok.nofr (ok:X.Ok){b:Addr}{o:Obj}(e:X.base.get? b=some o):b∉X.fs:=fun hb=>by
 have:=(ok.funs.mem hb).1
 rw[e] at this;cases this
theorem Inv.bs (I:Inv X pins σ H s):∀b o,X.base.get? b=some o→s.heap.get? b=some o∧H b=none:=fun b o e=>
 ⟨I.base.keep b o (I.ok.bs b o e).1 (I.ok.bs b o e).2 (I.ok.nofr e) (I.ok.noex b o e),I.base.free b o (I.ok.bs b o e).1 (I.ok.bs b o e).2 (I.ok.noex b o e)⟩
theorem Inv.bk (I:Inv X pins σ H s):∀b o,X.base.get? b=some o→s.heap.get? b=some o:=fun b o e=>(I.bs b o e).1
theorem Inv.mod (I:Inv X pins σ H s):Mod X.K X.mg X.base:=I.ok.mod
theorem Inv.kIn (I:Inv X pins σ H s):X.K.In s.heap:=I.ok.mod.kin.keeps I.bk
theorem Inv.nolimit (I:Inv X pins σ H s):s.heap.NoLimit:=I.ok.mod.nolimit.keeps I.bk
theorem Inv.fr (I:Inv X pins σ H s):∃m,Fr X.base X.env.locals s.heap m:=
 let⟨m,hn,_⟩:=I.loc
 ⟨m,hn,I.bk,Nat.le_trans I.ok.bsz I.ok.above⟩
theorem Inv.lt (I:Inv X pins σ H s):X.env.locals<s.heap.objs.size:=let⟨_,hn,_⟩:=I.loc;hn.lt
theorem Inv.sz (I:Inv X pins σ H s):X.s₀.heap.objs.size≤s.heap.objs.size:=Nat.le_trans I.ok.above (Nat.le_of_lt I.lt)
theorem Inv.nofs (I:Inv X pins σ H s){a:Addr}(h:s.heap.objs.size≤a):a∉X.fs:=fun hb=>by
 obtain⟨_,o,ho,_⟩:=I.ok.funs.mem hb
 exact absurd (Nat.lt_of_lt_of_le (Heap.lt_size ho) (Nat.le_trans I.sz h)) (Nat.lt_irrefl _)
theorem Inv.cne (I:Inv X pins σ H s):∀x c,X.env.cells.lookup x=some c→c≠X.env.locals:=fun x c e z=>by
 obtain⟨v,o,ho,hd⟩:=I.cell x c e
 obtain⟨m,⟨o',es,ep,ho',hd',_⟩,_⟩:=I.loc
 rw[z,ho'] at ho;cases ho;rw[hd'] at hd;cases hd
theorem Inv.funs (I:Inv X pins σ H s):s.heap.FunFrames X.base X.outer:=by
 have all:∀(l:List Env),(∀b∈D3 l,b∈X.fs)→X.s₀.heap.FunFrames X.base l→s.heap.FunFrames X.base l:=by
  intro l
  induction l with
  |nil=>intro _ _;trivial
  |cons env r ih=>
   intro hs hl
   obtain⟨hk,⟨L,o,hf,hn,ho,hd⟩,hr⟩:=hl
   have hL:L∈X.fs:=hs L (by unfold D3;rw[List.filterMap_cons,hf];exact List.mem_cons_self)
   obtain⟨sl,e⟩:=I.base.slot L o ho (I.ok.frf L hL) hL fun z=>I.ok.exfs L z hL
   exact⟨hk,⟨L,_,hf,hn,e,hd⟩,ih (fun b hb=>hs b (by unfold D3;rw[List.filterMap_cons,hf];exact List.mem_cons_of_mem _ hb)) hr⟩
 exact all X.outer (fun _ hb=>hb) I.ok.funs
theorem Inv.stack (I:Inv X pins σ H s):s.heap.FunFrames X.base X.stack:=by
 rcases I.ok.stk with e|⟨e,hf⟩
 ·rw[e];exact I.funs
 ·rw[e]
  obtain⟨m,hn,_⟩:=I.loc
  refine .cons (by rw[I.ok.kind];decide) hf hn ?_ I.funs
  exact Heap.get?_none_of_le (Nat.le_trans I.ok.bsz I.ok.above)
theorem Inv.stkSub (I:Inv X pins σ H s):∀b∈D3 X.stack,b∈X.env.locals::X.fs:=fun b hb=>by
 rcases I.ok.stk with e|⟨e,hf⟩
 ·rw[e] at hb;exact List.mem_cons_of_mem _ hb
 ·rw[e] at hb
  unfold D3 at hb
  rw[List.filterMap_cons,hf] at hb
  exact hb
theorem Inv.stkFree (I:Inv X pins σ H s):∀b∈D3 X.stack,H b=none:=fun b hb=>by
 rcases List.mem_cons.mp (I.stkSub b hb) with e|hb
 ·rw[e];exact I.free
 ·obtain⟨_,o,ho,_⟩:=I.ok.funs.mem hb
  exact I.base.free b o ho (I.ok.frf b hb) fun z=>I.ok.exfs b z hb
theorem Inv.step {g':Array GenState} {t':Nat} {d':Drawn} {ch:List Addr} (I:Inv X pins σ H s)
  (hch:∀b∈ch,(b∈X.ex∨X.s₀.heap.objs.size≤b)∧b≠X.env.locals∧(∀x c,X.env.cells.lookup x=some c→c≠b)∧∀p∈X.pn++pins,p.1≠b)
  (keep:∀b o,b≠X.env.locals→b∉X.fs→b∉ch→s.heap.get? b=some o→H b=none→h'.get? b=some o)
  (slot:∀b o,b≠X.env.locals→b∈X.fs→b∉ch→s.heap.get? b=some o→H b=none→∃sl,h'.get? b=some { o with slots:=sl }) (free:∀b o,b∉ch→s.heap.get? b=some o→H b=none→H' b=none)
  (there:∀b o,b∉ch→s.heap.get? b=some o→∃o',h'.get? b=some o')
  (tups:∀b xs,H b=some (.tup xs)→H' b=some (.tup xs)) (frzs:∀b o u,H b=some (.frz o u)→H' b=some (.frz o u)) (tbls:∀b ps,H b=some (.tbl ps)→∃more,H' b=some (.tbl (ps++more)))
  (ns:∀m,s.heap.Ns X.env.locals m→h'.Ns X.env.locals m) (hok:G9 X.prog X.w H' h') (hg:AllBare g') :
  Inv X pins σ H' { s with heap:=h',gens:=g',drawn:=d',toks:=t' }:=by
 have neL:∀b o,X.s₀.heap.get? b=some o→b≠X.env.locals:=fun b o e=>Nat.ne_of_lt (Nat.lt_of_lt_of_le (Heap.lt_size e) I.ok.above)
 have neC:∀b o,X.s₀.heap.get? b=some o→b∉X.ex→b∉ch:=fun b o e hx hb=>by
  rcases(hch b hb).1 with z|z
  ·exact hx z
  ·exact absurd (Nat.lt_of_lt_of_le (Heap.lt_size e) z) (Nat.lt_irrefl _)
 have cellK:∀x c,X.env.cells.lookup x=some c→∀v,s.heap.IsCell c v→h'.IsCell c v:=fun x c e v ⟨o,ho,hd⟩=>by
  have nch:c∉ch:=fun z=>(hch c z).2.2.1 x c e rfl
  by_cases hc:c∈X.fs
  ·obtain⟨sl,q⟩:=slot c o (I.cne x c e) hc nch ho (I.freeC x c e)
   exact⟨_,q,hd⟩
  ·exact⟨o,keep c o (I.cne x c e) hc nch ho (I.freeC x c e),hd⟩
 refine⟨I.ok,I.os,hg,⟨fun b o e n hb hx=>?_,fun b o e n hb hx=>?_,fun b o e n hx=>?_,fun b o e hx=>?_,fun b xs e=>tups b xs (I.base.tups b xs e),fun b o xs e=>frzs b o xs (I.base.frzs b o xs e),fun b ps e=>?_⟩,?_,fun x c e=>?_,?_,fun x c e=>?_,fun p hp=>?_,hok,I.len⟩
 ·exact keep b o (neL b o e) hb (neC b o e hx) (I.base.keep b o e n hb hx) (I.base.free b o e n hx)
 ·obtain⟨sl,e1⟩:=I.base.slot b o e n hb hx
  obtain⟨sl',e2⟩:=slot b _ (neL b o e) hb (neC b o e hx) e1 (I.base.free b o e n hx)
  exact⟨sl',e2⟩
 ·obtain⟨o',e1⟩:=I.base.there b o e hx
  exact free b o' (neC b o e hx) e1 (I.base.free b o e n hx)
 ·obtain⟨o',e1⟩:=I.base.there b o e hx
  exact there b o' (neC b o e hx) e1
 ·obtain⟨m1,e1⟩:=I.base.tbls b ps e
  obtain⟨m2,e2⟩:=tbls b _ e1
  exact⟨m1++m2,by rw[e2,Array.append_assoc]⟩
 ·obtain⟨m,hn,hl⟩:=I.loc
  refine⟨m,ns m hn,fun i x v e1 e2 e3=>?_⟩
  obtain⟨u,r,l⟩:=hl i x v e1 e2 e3
  refine⟨u,r,?_⟩
  rcases l with l|⟨k,c,e,z⟩
  ·exact .inl l
  ·exact .inr ⟨k,c,e,cellK x c e _ z⟩
 ·obtain⟨v,z⟩:=I.cell x c e
  exact⟨v,cellK x c e v z⟩
 ·obtain⟨m,⟨o,_,_,ho,_⟩,_⟩:=I.loc
  exact free _ o (fun z=>(hch _ z).2.1 rfl) ho I.free
 ·obtain⟨v,o,ho,hd⟩:=I.cell x c e
  exact free c o (fun z=>(hch c z).2.2.1 x c e rfl) ho (I.freeC x c e)
 ·obtain⟨e,n,ne,nf,d⟩:=I.pin p hp
  have nch:p.1∉ch:=fun z=>(hch p.1 z).2.2.2 p hp rfl
  exact⟨keep p.1 p.2 ne nf nch e n,free p.1 p.2 nch e n,ne,nf,d⟩
theorem Inv.un {t':Nat}(I:Inv X pins σ H s)(u:Un X.fs [] H H' s.heap h')(hok:G9 X.prog X.w H' h'):Inv X pins σ H' { s with heap:=h',toks:=t' }:=by
 obtain⟨m,⟨o,es,ep,ho,r⟩,_⟩:=id I.loc
 obtain⟨sl,hL⟩:=u.any ho I.free (by simp)
 exact I.step (g':=s.gens) (d':=s.drawn) (ch:=[]) (fun _ z=>nomatch z) (fun b o _ hb _ e n=>u.keep b o e n hb (by simp)) (fun b o _ hb _ e n=>u.slot b o e n hb (by simp)) (fun b o _ e n=>u.free b o e n (by simp)) (fun b o _ e=>u.there b o e (by simp)) u.tups u.frzs u.tbls (fun m' hm=>by
  obtain⟨o',es',ep',ho',r'⟩:=hm
  rw[ho] at ho';cases ho'
  exact⟨_,es',ep',hL,r'⟩) hok I.bare
theorem Inv.call {g':Array GenState} {t':Nat} {d':Drawn} {ch:List Addr} (I:Inv X pins σ H s) (u:Un (D3 X.stack) ch H H' s.heap h') (hok:G9 X.prog X.w H' h') (hg:AllBare g')
  (hch:∀b∈ch,(b∈X.ex∨X.s₀.heap.objs.size≤b)∧b≠X.env.locals∧(∀x c,X.env.cells.lookup x=some c→c≠b)∧∀p∈X.pn++pins,p.1≠b) :
  Inv X pins σ H' { s with heap:=h',gens:=g',drawn:=d',toks:=t' }:=by
 obtain⟨m,⟨o,es,ep,ho,r⟩,_⟩:=id I.loc
 obtain⟨sl,hL⟩:=u.any ho I.free fun z=>(hch _ z).2.1 rfl
 exact I.step (ch:=ch) hch (fun b o hL hb hc e n=>u.keep b o e n (fun z=>(List.mem_cons.mp (I.stkSub b z)).elim hL hb) hc) (fun b o _ _ hc e n=>u.any e n hc) (fun b o hc e n=>u.free b o e n hc) (fun b o hc e=>u.there b o e hc) u.tups u.frzs u.tbls (fun m' hm=>by
  obtain⟨o',es',ep',ho',r'⟩:=hm
  rw[ho] at ho';cases ho'
  exact⟨_,es',ep',hL,r'⟩) hok hg
theorem Inv.turned {t':Nat} {it:Addr} (I:Inv X pins σ H s) (k:∀b o,b≠it→s.heap.get? b=some o→h'.get? b=some o) (hn:H it=none) (hL:it≠X.env.locals)
  (h1:it∈X.ex∨X.s₀.heap.objs.size≤it) (h2:∀x c,X.env.cells.lookup x=some c→c≠it) (h3:∀p∈X.pn++pins,p.1≠it):Inv X pins σ H { s with heap:=h',toks:=t' }:=by
 have nit:∀b u,H b=some u→b≠it:=fun b u e z=>by rw[z,hn] at e;cases e
 refine I.step (g':=s.gens) (d':=s.drawn) (ch:=[it]) (fun b hb=>?_) (fun b o _ _ hc e _=>k b o (fun z=>hc (by simp[z])) e) (fun b o _ _ hc e _=>⟨o.slots,k b o (fun z=>hc (by simp[z])) e⟩) (fun _ _ _ _ n=>n)
  (fun b o hc e=>⟨o,k b o (fun z=>hc (by simp[z])) e⟩) (fun _ _ e=>e) (fun _ _ _ e=>e) (fun b ps e=>⟨#[],by rw[e];simp⟩) (fun m hm=>?_) (fun b u e=>?_) I.bare
 ·have e:b=it:=by simpa using hb
  subst e
  exact⟨h1,hL,h2,h3⟩
 ·obtain⟨o,es,ep,ho,r⟩:=hm
  exact⟨o,es,ep,k _ o (Ne.symm hL) ho,r⟩
 ·refine(I.hok b u e).stay (fun c v hc q=>k c v ?_ q) (fun _ q=>q) fun _ _ q=>q
  rcases hc with z|z
  ·rw[z];exact nit b u e
  ·exact nit c _ z
theorem Inv.tok (I:Inv X pins σ H s)(t:Nat):Inv X pins σ H { s with toks:=t }:=I.un (h':=s.heap) (t':=t) Un.refl I.hok
theorem Inv.kept {t':Nat}(I:Inv X pins σ H s)(k:∀b u,s.heap.get? b=some u→h'.get? b=some u):Inv X pins σ H { s with heap:=h',toks:=t' }:=I.un (Un.kept k) (I.hok.kept k)
theorem Inv.laid {a:Addr}{o:HO}{t':Nat}(I:Inv X pins σ H s)(k:∀b u,s.heap.get? b=some u→h'.get? b=some u)(hp:s.heap.objs.size≤a)(new:AZ X.prog X.w (upd H a o) h' a o) :
  Inv X pins σ (upd H a o) { s with heap:=h',toks:=t' }:=I.un (Un.laid k hp (I.hok.fresh hp)) (I.hok.laid k hp new)
theorem Inv.write {x e:Addr} {o:HO} {t':Nat} (I:Inv X pins σ H s) (mu:X3 (H x)) (he:e=x∨H e=some (.own x)) (k:∀b u,b≠e→s.heap.get? b=some u→h'.get? b=some u) (heo:∃u,h'.get? e=some u)
  (new:AZ X.prog X.w (upd H x o) h' x o):Inv X pins σ (upd H x o) { s with heap:=h',toks:=t' }:=I.un (Un.write mu he k heo) (I.hok.write mu he k heo new)
theorem Inv.pins_of {pins':List (Addr×Obj)}(I:Inv X pins σ H s)(h:∀p∈pins',s.heap.get? p.1=some p.2∧H p.1=none∧p.1≠X.env.locals∧p.1∉X.fs∧∀v,p.2.data≠.cell v):Inv X pins' σ H s:=
 ⟨I.ok,I.os,I.bare,I.base,I.loc,I.cell,I.free,I.freeC,fun p hp=>(List.mem_append.mp hp).elim (fun z=>I.pin p (List.mem_append_left _ z)) (h p),I.hok,I.len⟩
theorem KP {N:List Str}(hN:N.Nodup){i j:Nat}{x:Str}(a:N[i]?=some x)(b:N[j]?=some x):i=j:=by
 obtain⟨h1,e1⟩:=List.getElem?_eq_some_iff.mp a
 obtain⟨h2,e2⟩:=List.getElem?_eq_some_iff.mp b
 exact(List.getElem_inj hN).mp (e1.trans e2.symm)
theorem RV {M:Model} {A:Around} {E:Value→Shared→Prop} {i:Nat} {x:Str} {v:V} {u:Value} {Q:Unit→Shared→Prop} (I:Inv X pins σ H s) (hN:X.N.Nodup) (hi:X.N[i]?=some x) (hx:Loc X.env.scope x) (r:RelV v u)
  (h:∀s',Inv X pins (σ.set i (some v)) H s'→(∃a,Heap.SameBut a s.heap s'.heap∧(a=X.env.locals∨X.env.cells.lookup x=some a))→Q () s') (hf:X.fn x=true∨X.env.scope.names.lookup x=some .local:=by first|exact .inl rfl|exact .inr rfl|assumption):wpAny M A (storeName X.env x u) Q E s:=by
 obtain⟨m,hn,hl⟩:=id I.loc
 have hcls:(X.env.scope.kind == .class||(X.env.scope.kind == .module&&X.env.locals != X.env.globals))=false:=by rw[I.ok.kind];rfl
 have hiσ:i<σ.length:=by rw[I.len];exact(List.getElem?_eq_some_iff.mp hi).1
 have cne:=I.cne
 have tracked:∀{a:Addr} {h':Heap},(∃o,s.heap.get? a=some o∧H a=none)→Heap.SameBut a s.heap h'→G9 X.prog X.w H h':=fun{a h'} ha hs b ob e=>by
  obtain⟨_,_,hfree⟩:=ha
  refine(I.hok b ob e).stay (fun c w' hc q=>(hs.2 c ?_).trans q) (fun _ q=>q) fun _ _ q=>q
  rintro rfl
  rcases hc with rfl|hc
  ·rw[hfree] at e;cases e
  ·rw[hfree] at hc;cases hc
 rcases hx with hk|hk
 ·refine wpAny_storeName_local hk hn (fun h' hn' hs=>?_) hcls
  obtain⟨oL,_,_,hoL,_⟩:=id hn
  refine h _ ⟨I.ok,I.os,I.bare,⟨fun b o e n hb hx=>?_,fun b o e n hb hx=>?_,I.base.free,fun b o e hx=>?_,I.base.tups,I.base.frzs,I.base.tbls⟩,⟨_,hn',fun j y v' e1 e2 e3=>?_⟩,fun y c e=>?_,I.free,I.freeC,fun p hp=>?_,tracked ⟨oL,hoL,I.free⟩ hs,by simpa using I.len⟩ ⟨_,hs,.inl rfl⟩
  ·exact(hs.2 b (Nat.ne_of_lt (Nat.lt_of_lt_of_le (Heap.lt_size e) I.ok.above))).trans (I.base.keep b o e n hb hx)
  ·obtain⟨sl,e1⟩:=I.base.slot b o e n hb hx
   exact⟨sl,(hs.2 b (Nat.ne_of_lt (Nat.lt_of_lt_of_le (Heap.lt_size e) I.ok.above))).trans e1⟩
  ·obtain⟨o',e1⟩:=I.base.there b o e hx
   exact⟨o',(hs.2 b (Nat.ne_of_lt (Nat.lt_of_lt_of_le (Heap.lt_size e) I.ok.above))).trans e1⟩
  ·by_cases hj:j=i
   ·subst hj
    rw[hi] at e1;cases e1
    rw[List.getElem?_set_self hiσ] at e2
    cases e2
    exact⟨u,r,.inl ⟨hk,by simp⟩⟩
   ·rw[List.getElem?_set_ne (Ne.symm hj)] at e2
    obtain⟨u',r',q⟩:=hl j y v' e1 e2 e3
    refine⟨u',r',?_⟩
    rcases q with⟨k,e⟩|⟨k,c,e,z⟩
    ·refine .inl ⟨k,?_⟩
     have:y≠x:=fun e=>hj (KP hN e1 (e▸hi))
     simp[this,e]
    ·exact .inr ⟨k,c,e,z.sameBut hs (cne y c e)⟩
  ·obtain⟨w',z⟩:=I.cell y c e
   exact⟨w',z.sameBut hs (cne y c e)⟩
  ·obtain⟨e,n,ne,nf,d⟩:=I.pin p hp
   exact⟨(hs.2 p.1 ne).trans e,n,ne,nf,d⟩
 ·have hfn:X.fn x=true:=by
   rcases hf with z|z
   ·exact z
   ·rw[z] at hk;cases hk
  obtain⟨c,hc⟩:=I.ok.has x (.inl hk)
  obtain⟨w',z⟩:=I.cell x c hc
  refine wpAny_storeName_cell I.ok.kind hk hc z (fun h' hc' hs=>?_)
  obtain⟨oc,hoc,hocd⟩:=id z
  refine h { s with heap:=h' } ⟨I.ok,I.os,I.bare,⟨fun b o e n hb hx=>?_,fun b o e n hb hx=>?_,I.base.free,fun b o e hx=>?_,I.base.tups,I.base.frzs,I.base.tbls⟩,⟨m,hn.sameBut hs (Ne.symm (cne x c hc)),fun j y v' e1 e2 e3=>?_⟩,fun y c' e=>?_,I.free,I.freeC,fun p hp=>?_,tracked ⟨oc,hoc,I.freeC x c hc⟩ hs,by simpa using I.len⟩ ⟨c,hs,.inr hc⟩
  ·exact(hs.2 b (Nat.ne_of_lt (Nat.lt_of_lt_of_le (Heap.lt_size e) (I.ok.cab x c hfn hc)))).trans (I.base.keep b o e n hb hx)
  ·obtain⟨sl,e1⟩:=I.base.slot b o e n hb hx
   exact⟨sl,(hs.2 b (Nat.ne_of_lt (Nat.lt_of_lt_of_le (Heap.lt_size e) (I.ok.cab x c hfn hc)))).trans e1⟩
  ·obtain⟨o',e1⟩:=I.base.there b o e hx
   exact⟨o',(hs.2 b (Nat.ne_of_lt (Nat.lt_of_lt_of_le (Heap.lt_size e) (I.ok.cab x c hfn hc)))).trans e1⟩
  ·by_cases hj:j=i
   ·subst hj
    rw[hi] at e1;cases e1
    rw[List.getElem?_set_self hiσ] at e2
    cases e2
    exact⟨u,r,.inr ⟨.inl hk,c,hc,hc'⟩⟩
   ·rw[List.getElem?_set_ne (Ne.symm hj)] at e2
    obtain⟨u',r',q⟩:=hl j y v' e1 e2 e3
    refine⟨u',r',?_⟩
    rcases q with q|⟨k,c',e,z'⟩
    ·exact .inl q
    ·refine .inr ⟨k,c',e,z'.sameBut hs ?_⟩
     rintro rfl
     exact hj (KP hN e1 (I.ok.inj _ _ _ e hc▸hi))
  ·by_cases hcc:c'=c
   ·subst hcc;exact⟨_,hc'⟩
   ·obtain⟨w2,z2⟩:=I.cell y c' e
    exact⟨w2,z2.sameBut hs hcc⟩
  ·obtain⟨e,n,ne,nf,d⟩:=I.pin p hp
   refine⟨(hs.2 p.1 ?_).trans e,n,ne,nf,d⟩
   intro q
   rw[q,hoc] at e
   have q':oc=p.2:=Option.some.inj e
   exact d w' (by rw[←q'];exact hocd)
theorem HY {M:Model} {A:Around} {E:Value→Shared→Prop} {i:Nat} {x:Str} {v:V} {u:Value} {Q:Unit→Shared→Prop} (I:Inv X pins σ H s) (hN:X.N.Nodup) (hi:X.N[i]?=some x) (hx:Loc X.env.scope x) (r:RelV v u)
  (h:∀s',Inv X pins (σ.set i (some v)) H s'→Q () s') (hf:X.fn x=true∨X.env.scope.names.lookup x=some .local:=by first|exact .inl rfl|exact .inr rfl|assumption):wpAny M A (storeName X.env x u) Q E s:=
 RV I hN hi hx r (fun s' I' _=>h s' I') hf
theorem Inv.call' {s':Shared} {ch:List Addr} (I:Inv X pins σ H s) (ho:s'.os=s.os) (u:Un (D3 X.stack) ch H H' s.heap s'.heap) (hok:G9 X.prog X.w H' s'.heap) (hg:AllBare s'.gens)
  (hch:∀b∈ch,(b∈X.ex∨X.s₀.heap.objs.size≤b)∧b≠X.env.locals∧(∀x c,X.env.cells.lookup x=some c→c≠b)∧∀p∈X.pn++pins,p.1≠b):Inv X pins σ H' s':=by
 obtain⟨h',g',d',t',o'⟩:=s'
 have e:o'=s.os:=ho
 subst e
 exact I.call (g':=g') (t':=t') (d':=d') u hok hg hch
end
abbrev XK:=Value→Option Addr→Hp→Prop
abbrev St:=List (Option V)
abbrev VK:=V→Hp→Prop
abbrev TE:=St→Hp→VK→Prop
abbrev TT:=St→Hp→(Bool→Hp→Prop)→Prop
abbrev TA:=St→Hp→(List V→Hp→Prop)→Prop
structure Ends where
 nx:St→Hp→Prop
 rt:VK
 bk:St→Hp→Prop:=fun _ _=>False
 ct:St→Hp→Prop:=fun _ _=>False
abbrev TS:=Ends→St→Hp→Prop
def EP (X:Cx)(pins:List (Addr×Obj))(σ:St)(Q:VK)(u:Value)(s':Shared):Prop:=∃v H',Inv X pins σ H' s'∧RelV v u∧Q v H'
def TP (X:Cx)(pins:List (Addr×Obj))(σ:St)(Q:Bool→Hp→Prop)(b:Bool)(s':Shared):Prop:=∃H',Inv X pins σ H' s'∧Q b H'
def AP (X:Cx)(pins:List (Addr×Obj))(σ:St)(Q:List V→Hp→Prop)(us:List Value)(s':Shared):Prop:=∃vs H',Inv X pins σ H' s'∧AC vs us∧Q vs H'
def SP (X:Cx)(pins:List (Addr×Obj))(D:Ends)(f:Flow)(s':Shared):Prop:=
 match f with
 | .next=>∃σ' H',Inv X pins σ' H' s'∧D.nx σ' H'
 | .brk=>∃σ' H',Inv X pins σ' H' s'∧D.bk σ' H'
 | .cont=>∃σ' H',Inv X pins σ' H' s'∧D.ct σ' H'
 | .ret u=>∃v σ' H',Inv X pins σ' H' s'∧RelV v u∧D.rt v H'
def PE (X:Cx)(e:Expr)(t:TE):Prop:=
 ∀(pins:List (Addr×Obj)) (s:Shared) (σ:St) (H:Hp) (Q:VK),Inv X pins σ H s→t σ H Q→wpAny (model X.prog X.w) X.A (eval e X.env) (EP X pins σ Q) X.xe s
def PT (X:Cx)(e:Expr)(t:TT):Prop:=
 ∀(pins:List (Addr×Obj)) (s:Shared) (σ:St) (H:Hp) (Q:Bool→Hp→Prop),Inv X pins σ H s→t σ H Q→wpAny (model X.prog X.w) X.A (isTrue e X.env (eval e X.env)) (TP X pins σ Q) X.xe s
def PW (X:Cx)(e:Expr)(t:TT):Prop:=
 ∀(whole:Sem Value) (pins:List (Addr×Obj)) (s:Shared) (σ:St) (H:Hp) (Q:Bool→Hp→Prop),Inv X pins σ H s→t σ H Q→wpAny (model X.prog X.w) X.A (isTrue e X.env whole) (TP X pins σ Q) X.xe s
theorem PW.pt {X:Cx}{e:Expr}{t:TT}(h:PW X e t):PT X e t:=h _
def PA (X:Cx)(es:List Expr)(t:TA):Prop:=
 ∀(pos:Pos) (pins:List (Addr×Obj)) (s:Shared) (σ:St) (H:Hp) (Q:List V→Hp→Prop),Inv X pins σ H s→t σ H Q→wpAny (model X.prog X.w) X.A (spliced (backTo pos (starEach es X.env))) (AP X pins σ Q) X.xe s
def PS (X:Cx)(st:Stmt)(t:TS):Prop:=
 ∀(pins:List (Addr×Obj)) (s:Shared) (σ:St) (H:Hp) (D:Ends),Inv X pins σ H s→t D σ H→wpAny (model X.prog X.w) X.A (exec st X.env) (SP X pins D) X.xe s
def Ml (X:Cx)(st:List Stmt)(t:TS):Prop:=
 ∀(pins:List (Addr×Obj)) (s:Shared) (σ:St) (H:Hp) (D:Ends),Inv X pins σ H s→t D σ H→wpAny (model X.prog X.w) X.A (execs st X.env) (SP X pins D) X.xe s
theorem Bd {α:Type}{t:Sem α}{Q Q':α→Shared→Prop}{M:Model}{A:Around}{E:Value→Shared→Prop}{s:Shared}(h:wpAny M A t Q E s)(hQ:∀a s,Q a s→Q' a s):wpAny M A t Q' E s:=wpAny_mono h hQ fun _ _ x=>x
end L2
namespace L2
open PySem PySem.Spec PyProof.Rows
section
variable {X:Cx}
def Xu (i:Nat):TE:=fun σ H Q=>∃v,σ[i]?=some (some v)∧Q v H
def tC (v:V):TE:=fun _ H Q=>Q v H
theorem Wc {i:Nat}{x:Str}{pos:Pos}(hN:X.N[i]?=some x)(hv:YF X.env.scope x)(hd:(x == ("__debug__":Str))=false:=by decide)(hcd:(x == ("__classdict__":Str))=false:=by decide):PE X (.Name x pos) (Xu i):=by
 intro pins s σ H Q I h
 obtain⟨v,e,h⟩:=h
 obtain⟨m,hn,hl⟩:=I.loc
 obtain⟨u,r,l⟩:=hl i x v hN e hv
 have fin:EP X pins σ Q u s:=⟨v,H,I,r,h⟩
 rcases l with⟨hk,hm⟩|⟨hk,c,hc,hcell⟩
 ·exact wpAny_Name (wpAny_loadName_local I.ok.kind hk hn hm fin) hd
 ·rcases hk with hk|hk
  ·exact wpAny_Name (wpAny_loadName_cell I.ok.kind hk hc hcell fin) hd
  ·exact wpAny_Name (wpAny_loadName_free I.ok.kind hk hc hcell fin hcd) hd
theorem Ae {i j pos}:PE X (.Constant (.int i) j pos) (tC (.int i)):=fun _ _ _ H _ I h=>wpAny_Constant_int ⟨.int i,H,I.tok _,⟨_,rfl⟩,h⟩
theorem D0 {b j pos}:PE X (.Constant (.bool b) j pos) (tC (.bl b)):=fun _ _ _ H _ I h=>Constant_bool ⟨.bl b,H,I,rfl,h⟩
theorem Dm {j pos}:PE X (.Constant .none j pos) (tC .non):=fun _ _ _ H _ I h=>Constant_none ⟨.non,H,I,rfl,h⟩
theorem IW {x j pos}:PE X (.Constant (.str x) j pos) (tC (.str x)):=fun _ _ _ H _ I h=>Calls.Constant_str ⟨.str x,H,I.tok _,⟨_,rfl⟩,h⟩
def Gl (X:Cx)(x:Str):Prop:=X.env.kindOf x=some .globalImplicit
theorem DF {E:Value→Shared→Prop} {pins:List (Addr×Obj)} {s:Shared} {σ:St} {H:Hp} {x:Str} {u:Value} {pos:Pos} {Q:Value→Shared→Prop} (I:Inv X pins σ H s) (hg:Gl X x) (hm:X.mg x=some u) (h:Q u s)
  (hd:(x == ("__debug__":Str))=false:=by decide):wpAny (model X.prog X.w) X.A (eval (.Name x pos) X.env) Q E s:=
 Calls.Name_function_global I.ok.kind hg (Calls.loadGlobal_global (by rw[I.ok.glob];exact I.mod.glob.keeps I.bk) hm h) hd
theorem IR {E:Value→Shared→Prop} {pins:List (Addr×Obj)} {s:Shared} {σ:St} {H:Hp} {x:Str} {u:Value} {pos:Pos} {Q:Value→Shared→Prop} (I:Inv X pins σ H s) (hg:Gl X x) (hm:X.mg x=none) (hv:bootBuiltins x=some u) (h:Q u s)
  (hn:x≠"__name__":=by decide) (hd:(x == ("__debug__":Str))=false:=by decide):wpAny (model X.prog X.w) X.A (eval (.Name x pos) X.env) Q E s:=by
 obtain⟨mb,h1,h2⟩:=I.mod.blt
 exact Calls.Name_function_global I.ok.kind hg (Calls.loadGlobal_builtin (by rw[I.ok.glob];exact I.mod.glob.keeps I.bk) hm (by rw[I.ok.blt];exact h1.keeps I.bk) ((h2 x hn).trans hv) h) hd
theorem QQ {x:Str}{v:V}{u:Value}{pos:Pos}(hg:Gl X x)(hm:X.mg x=some u)(r:RelV v u)(hd:(x == ("__debug__":Str))=false:=by decide):PE X (.Name x pos) (tC v):=
 fun _ _ _ H _ I h=>DF I hg hm ⟨v,H,I,r,h⟩ hd
theorem VG {x:Str}{v:V}{u:Value}{pos:Pos}(hg:Gl X x)(hm:X.mg x=none)(hv:bootBuiltins x=some u)(r:RelV v u)(hn:x≠"__name__":=by decide)(hd:(x == ("__debug__":Str))=false:=by decide):PE X (.Name x pos) (tC v):=
 fun _ _ _ H _ I h=>IR I hg hm hv ⟨v,H,I,r,h⟩ hn hd
variable {a b:Expr}{ta tb:TE}{pos:Pos}
def PC (X:Cx)(op:CmpOp)(a b:Expr)(t:TE):Prop:=
 ∀(pins:List (Addr×Obj)) (s:Shared) (σ:St) (H:Hp) (Q:VK),Inv X pins σ H s→t σ H Q→
  wpAny (model X.prog X.w) X.A (eval a X.env) (fun v s₁=>wpAny (model X.prog X.w) X.A (eval b X.env) (fun u s₂=>wpAny (model X.prog X.w) X.A (compareOp op v u) (EP X pins σ Q) X.xe s₂) X.xe s₁) X.xe s
theorem Dj (b:Expr){op:CmpOp}(h:op≠.In)(h2:op≠.NotIn):behindInMarks op b=false:=by
 have e1:(op == CmpOp.In)=false:=by cases op<;>first|rfl|exact absurd rfl h
 have e2:(op == CmpOp.NotIn)=false:=by cases op<;>first|rfl|exact absurd rfl h2
 cases b<;>simp[behindInMarks,e1,e2]
def Y7 (ta:TE):TE:=fun σ H Q=>ta σ H fun x H1=>Q (.bl (decide (x=.non))) H1
def Xo (ta:TE):TE:=fun σ H Q=>ta σ H fun x H1=>Q (.bl (!decide (x=.non))) H1
theorem RelV.none_iff {x:V}{v:Value}(r:RelV x v):(v == Value.none)=decide (x=.non):=by
 cases x with
 |non=>cases r;rfl
 |bl _=>cases r;rfl
 |int _=>obtain⟨t,rfl⟩:=r;rfl
 |str _=>obtain⟨t,rfl⟩:=r;rfl
 |byt _=>obtain⟨t,rfl⟩:=r;rfl
 |flt _=>obtain⟨t,rfl⟩:=r;rfl
 |ref _=>cases r;rfl
 |ty _=>cases r;rfl
theorem Na {j pos'}(ha:PE X a ta):PC X .Is a (.Constant .none j pos') (Y7 ta):=by
 intro pins s σ H Q I h
 refine Bd (ha pins s σ H _ I h) fun v s1 ⟨x,H1,I1,r1,q1⟩=>?_
 exact Constant_none (is_none_gen ⟨.bl _,H1,I1,by rw[r1.none_iff];rfl,q1⟩)
theorem J3 {j pos'}(ha:PE X a ta):PC X .IsNot a (.Constant .none j pos') (Xo ta):=by
 intro pins s σ H Q I h
 refine Bd (ha pins s σ H _ I h) fun v s1 ⟨x,H1,I1,r1,q1⟩=>?_
 exact Constant_none (isnot_none_gen ⟨.bl _,H1,I1,by rw[r1.none_iff];rfl,q1⟩)
def tB (t:TE):TT:=fun σ H Q=>t σ H fun x H1=>∃c,x=.bl c∧Q c H1
theorem G1 {op:CmpOp}{t:TE}(h:PC X op a b t)(h1:behindInMarks op b=false:=by first|exact Dj _ (by decide) (by decide)|rfl):PT X (.Compare a [op] [b] pos) (tB t):=by
 intro pins s σ H Q I hw
 refine wpAny_isTrue_Compare1 (Bd (h pins s σ H _ I hw) fun v s1 h1=>Bd h1 fun u s2 h2=>Bd h2 fun c s3 ⟨x,H1,I1,r1,q1⟩=>?_) h1
 obtain⟨d,rfl,q⟩:=q1
 cases r1
 exact wpAny_truthy_bool ⟨H1,I1,q⟩
theorem Bt {e:Expr}{t:TE}(h:PE X e t)(he:∀whole,isTrue e X.env whole=(do let v ←whole;standAt e.pos;holding [v] (truthy v)):=by intro _;rfl):PT X e (tB t):=by
 intro pins s σ H Q I hw
 refine isTrue_plain (Bd (h pins s σ H _ I hw) fun v s1 ⟨x,H1,I1,r1,q1⟩=>?_) (he _)
 obtain⟨d,rfl,q⟩:=q1
 cases r1
 exact wpAny_truthy_bool ⟨H1,I1,q⟩
variable {tA tB':TT}{rest:List Expr}
def YA (t u:TT):TT:=fun σ H Q=>t σ H fun c H1=>if c=true then u σ H1 Q else Q false H1
def Zf (t u:TT):TT:=fun σ H Q=>t σ H fun c H1=>if c=true then Q true H1 else u σ H1 Q
def YG (t:TT):TT:=fun σ H Q=>t σ H fun c H1=>Q (!c) H1
theorem QH (ha:PT X a tA):PW X (.BoolOp .And [a] pos) tA:=by
 intro wh pins s σ H Q I h
 refine isTrue_and (Bd (ha pins s σ H Q I h) fun c s1 e=>?_)
 cases c with
 |true=>exact isTrue_and_nil e
 |false=>exact e
theorem EY (ha:PT X a tA):PW X (.BoolOp .Or [a] pos) tA:=by
 intro wh pins s σ H Q I h
 refine isTrue_or (Bd (ha pins s σ H Q I h) fun c s1 e=>?_)
 cases c with
 |false=>exact isTrue_or_nil e
 |true=>exact e
theorem S8 (ha:PT X a tA)(hb:PW X (.BoolOp .And (b::rest) pos) tB'):PW X (.BoolOp .And (a::b::rest) pos) (YA tA tB'):=by
 intro wh pins s σ H Q I h
 refine isTrue_and (Bd (ha pins s σ H _ I h) fun c s1 ⟨H1,I1,q1⟩=>?_)
 cases c with
 |true=>exact hb wh pins s1 σ H1 Q I1 q1
 |false=>exact⟨H1,I1,q1⟩
theorem GU (ha:PT X a tA)(hb:PW X (.BoolOp .Or (b::rest) pos) tB'):PW X (.BoolOp .Or (a::b::rest) pos) (Zf tA tB'):=by
 intro wh pins s σ H Q I h
 refine isTrue_or (Bd (ha pins s σ H _ I h) fun c s1 ⟨H1,I1,q1⟩=>?_)
 cases c with
 |true=>exact⟨H1,I1,q1⟩
 |false=>exact hb wh pins s1 σ H1 Q I1 q1
theorem BA (ha:PT X a tA):PT X (.UnaryOp .Not a pos) (YG tA):=by
 intro pins s σ H Q I h
 exact isTrue_not (ha pins s σ H (fun c H1=>Q (!c) H1) I h)
def VV (ta tb:TE):TE:=fun σ H Q=>ta σ H fun x H1=>∃c,x=.bl c∧if c=true then tb σ H1 Q else Q (.bl false) H1
def Ye (ta:TE):TE:=fun σ H Q=>ta σ H fun x H1=>∃c,x=.bl c∧Q (.bl (!c)) H1
theorem Gq {op}{t:TE}(h:PE X a t):PE X (.BoolOp op [a] pos) t:=fun pins s σ H Q I hw=>BoolOp_one (h pins s σ H Q I hw)
theorem E2 (ha:PE X a ta)(hb:PE X (.BoolOp .And (b::rest) pos) tb):PE X (.BoolOp .And (a::b::rest) pos) (VV ta tb):=by
 intro pins s σ H Q I h
 refine BoolOp_and (Bd (ha pins s σ H _ I h) fun v s1 ⟨x,H1,I1,r1,q1⟩=>?_)
 obtain⟨c,rfl,q1⟩:=q1
 cases r1
 refine wpAny_truthy_bool ?_
 cases c with
 |true=>exact hb pins s1 σ H1 Q I1 q1
 |false=>exact⟨.bl false,H1,I1,rfl,q1⟩
theorem Xh (ha:PE X a ta):PE X (.UnaryOp .Not a pos) (Ye ta):=by
 intro pins s σ H Q I h
 refine UnaryOp_ (Bd (ha pins s σ H _ I h) fun v s1 ⟨x,H1,I1,r1,q1⟩=>?_)
 obtain⟨c,rfl,q1⟩:=q1
 cases r1
 exact not_of (wpAny_truthy_bool ⟨.bl (!c),H1,I1,rfl,q1⟩)
end
end L2
namespace L2
open PySem PySem.Spec PyProof.Rows
def AM (K:PySem.W.Frag)(H:Hp)(a:Addr)(xs:List V):Prop:=
 Rd H a (.lst xs)∨
  ∃(o:Obj) (its:Array Value) (n:Nat),K.lookup a=some o∧o.cls=.type "list"∧o.dict=none∧o.data=.seq its n∧its.size≤sizeLine∧AC xs its.toList
def AW (K:PySem.W.Frag)(H:Hp)(a:Addr)(xs:List V):Prop:=
 Rd H a (.tup xs)∨
  ∃(o:Obj) (its:Array Value) (n:Nat),K.lookup a=some o∧o.cls=.type "tuple"∧o.data=.seq its n∧its.size≤sizeLine∧AC xs its.toList
def YE:Value→Option V
 | .none=>some .non
 | .bool b=>some (.bl b)
 | .int i _=>some (.int i)
 | .str x _=>some (.str x)
 | .bytes b _=>some (.byt b)
 | .float b _=>some (.flt b)
 | .ref a=>some (.ref a)
 | .type n=>some (.ty n)
 |_=>none
theorem RelV.abs {x:V}{u:Value}(r:RelV x u):YE u=some x:=by
 cases x with
 |non=>cases r;rfl
 |bl _=>cases r;rfl
 |int _=>obtain⟨t,rfl⟩:=r;rfl
 |str _=>obtain⟨t,rfl⟩:=r;rfl
 |byt _=>obtain⟨t,rfl⟩:=r;rfl
 |flt _=>obtain⟨t,rfl⟩:=r;rfl
 |ref _=>cases r;rfl
 |ty _=>cases r;rfl
theorem RelV.inj {x y:V}{u:Value}(r:RelV x u)(q:RelV y u):x=y:=Option.some.inj (r.abs.symm.trans q.abs)
theorem AC.inj:∀{xs ys:List V} {us:List Value},AC xs us→AC ys us→xs=ys
 |_,_,_,.nil,.nil=>rfl
 |_,_,_,.cons r t,.cons r' t'=>by rw[r.inj r',AC.inj t t']
section
variable {X:Cx}{pins:List (Addr×Obj)}{σ:St}{H:Hp}{s:Shared}{a:Addr}{xs ys:List V}
theorem AM.of {K:PySem.W.Frag}(h:H a=some (.lst xs)):AM K H a xs:=.inl (.inl h)
theorem AW.of {K:PySem.W.Frag}(h:H a=some (.tup xs)):AW K H a xs:=.inl (.inl h)
theorem Inv.list (I:Inv X pins σ H s)(h:AM X.K H a xs):∃its:List Value,AC xs its∧PlainL s.heap a its.toArray∧xs.length≤sizeLine:=by
 rcases h with h|⟨o,its,n,hk,hc,hd,hs,hz,r⟩
 ·obtain⟨z,its,n,r,e⟩:=h.ok I.hok
  exact⟨its,r,⟨_,n,e,rfl,rfl,rfl⟩,z⟩
 ·refine⟨its.toList,r,⟨o,n,I.kIn a o hk,hc,hd,by simpa using hs⟩,?_⟩
  have e:=r.length
  simp only[Array.length_toList] at e
  omega
theorem Inv.tuple (I:Inv X pins σ H s)(h:AW X.K H a xs):∃its:List Value,AC xs its∧IsTup s.heap a its.toArray∧xs.length≤sizeLine:=by
 rcases h with h|⟨o,its,n,hk,hc,hs,hz,r⟩
 ·obtain⟨z,its,r,p⟩:=h.ok I.hok
  exact⟨its,r,p,z⟩
 ·refine⟨its.toList,r,⟨o,I.kIn a o hk,hc,n,by simpa using hs⟩,?_⟩
  have e:=r.length
  simp only[Array.length_toList] at e
  omega
theorem Inv.list_inj (I:Inv X pins σ H s)(h:AM X.K H a xs)(h':AM X.K H a ys):xs=ys:=by
 obtain⟨its,r,⟨o,n,e,_,_,d⟩,_⟩:=I.list h
 obtain⟨its',r',⟨o',n',e',_,_,d'⟩,_⟩:=I.list h'
 rw[e] at e';cases e'
 rw[d] at d'
 injection d' with d1 _
 have:its=its':=by simpa using congrArg Array.toList d1
 subst this
 exact r.inj r'
theorem Inv.tuple_inj (I:Inv X pins σ H s)(h:AW X.K H a xs)(h':AW X.K H a ys):xs=ys:=by
 obtain⟨its,r,⟨o,e,_,n,d⟩,_⟩:=I.tuple h
 obtain⟨its',r',⟨o',e',_,n',d'⟩,_⟩:=I.tuple h'
 rw[e] at e';cases e'
 rw[d] at d'
 injection d' with d1 _
 have:its=its':=by simpa using congrArg Array.toList d1
 subst this
 exact r.inj r'
end
abbrev Cx.wish (X:Cx)(E:Value→Shared→Prop):Cx:={ X with xe:=E }
abbrev Cx.nox (X:Cx):Cx:=X.wish fun _ _=>False
theorem Cx.Ok.wish {X:Cx}(ok:X.Ok)(E:Value→Shared→Prop):(X.wish E).Ok:=
 ⟨ok.mod,ok.kind,ok.glob,ok.blt,ok.above,ok.inj,ok.has,ok.cab,ok.hd,ok.frames,ok.stk,ok.exf,ok.bs,ok.bsz,ok.noex,ok.exfs,ok.funs,ok.frf⟩
theorem Cx.Ok.unwish {X:Cx}{E:Value→Shared→Prop}(ok:(X.wish E).Ok):X.Ok:=
 ⟨ok.mod,ok.kind,ok.glob,ok.blt,ok.above,ok.inj,ok.has,ok.cab,ok.hd,ok.frames,ok.stk,ok.exf,ok.bs,ok.bsz,ok.noex,ok.exfs,ok.funs,ok.frf⟩
section
variable {X:Cx}{pins:List (Addr×Obj)}{σ:St}{H:Hp}{s:Shared}{E:Value→Shared→Prop}
theorem Inv.wish (I:Inv X pins σ H s)(E:Value→Shared→Prop):Inv (X.wish E) pins σ H s:=⟨I.ok.wish E,I.os,I.bare,I.base,I.loc,I.cell,I.free,I.freeC,I.pin,I.hok,I.len⟩
theorem Inv.unwish (I:Inv (X.wish E) pins σ H s):Inv X pins σ H s:=⟨I.ok.unwish,I.os,I.bare,I.base,I.loc,I.cell,I.free,I.freeC,I.pin,I.hok,I.len⟩
theorem SP.unwish {D:Ends}{f:Flow}{s':Shared}(h:SP (X.wish E) pins D f s'):SP X pins D f s':=by
 cases f with
 |next=>obtain⟨σ',H',I,q⟩:=h;exact⟨σ',H',I.unwish,q⟩
 |brk=>obtain⟨σ',H',I,q⟩:=h;exact⟨σ',H',I.unwish,q⟩
 |cont=>obtain⟨σ',H',I,q⟩:=h;exact⟨σ',H',I.unwish,q⟩
 |ret u=>obtain⟨v,σ',H',I,r,q⟩:=h;exact⟨v,σ',H',I.unwish,r,q⟩
theorem PE.nox {e:Expr}{t:TE}(h:PE X.nox e t):PE X e t:=fun pins s σ H Q I hw=>
 wpAny_mono (h pins s σ H Q (I.wish _) hw) (fun _ _ ⟨v,H',I',r,q⟩=>⟨v,H',I'.unwish,r,q⟩) fun _ _ z=>False.elim z
theorem PT.nox {e:Expr}{t:TT}(h:PT X.nox e t):PT X e t:=fun pins s σ H Q I hw=>
 wpAny_mono (h pins s σ H Q (I.wish _) hw) (fun _ _ ⟨H',I',q⟩=>⟨H',I'.unwish,q⟩) fun _ _ z=>False.elim z
theorem Ml.nox {st:List Stmt}{t:TS}(h:Ml X.nox st t):Ml X st t:=fun pins s σ H D I hw=>
 wpAny_mono (h pins s σ H D (I.wish _) hw) (fun _ _ q=>q.unwish) fun _ _ z=>False.elim z
end
section
variable {X:Cx}{st:Stmt}{rest:List Stmt}{t u:TS}{e:Expr}{te:TE}{pos:Pos}
def SS:TS:=fun D σ H=>D.nx σ H
def We (t u:TS):TS:=fun D σ H=>t { D with nx:=u D } σ H
theorem As:Ml X [] SS:=fun _ _ σ H _ I h=>wpAny_execs_nil ⟨σ,H,I,h⟩
theorem Af (h1:PS X st t)(h2:Ml X rest u):Ml X (st::rest) (We t u):=by
 intro pins s σ H D I h
 refine wpAny_execs_cons (Bd (h1 pins s σ H { D with nx:=u D } I h) fun f s1 q=>?_)
 cases f with
 |next=>
  obtain⟨σ',H',I',q⟩:=q
  exact h2 pins s1 σ' H' D I' q
 |ret v=>exact q
 |brk=>exact q
 |cont=>exact q
theorem Aj (h1:PS X st t):Ml X [st] t:=by
 intro pins s σ H D I h
 refine wpAny_execs_cons (Bd (h1 pins s σ H D I h) fun f s1 q=>?_)
 cases f with
 |next=>exact wpAny_execs_nil q
 |ret v=>exact q
 |brk=>exact q
 |cont=>exact q
theorem Inv.quiet {pins:List (Addr×Obj)}{σ:St}{H:Hp}{s:Shared}(I:Inv X pins σ H s):interactive X.env=false:=by simp[interactive,I.ok.kind]
def XU (te:TE):TS:=fun D σ H=>te σ H fun _ H1=>D.nx σ H1
theorem Co (he:PE X e te)(hs:swapsWith e none pos.line X.env=pure false:=by rfl):PS X (.Expr e pos) (XU te):=by
 intro pins s σ H D I h
 exact wpAny_Expr_any (Bd (he pins s σ H _ I h) fun v s1 ⟨x,H1,I1,r1,q1⟩=>⟨σ,H1,I1,q1⟩) I.quiet hs
def Ya (te:TE):TS:=fun D σ H=>te σ H D.rt
theorem An (he:PE X e te):PS X (.Return (some e) pos) (Ya te):=by
 intro pins s σ H D I h
 exact wpAny_Return_some (Bd (he pins s σ H _ I h) fun v s1 ⟨x,H1,I1,r1,q1⟩=>⟨x,σ,H1,I1,r1,q1⟩)
def XE (c:TT)(t u:TS):TS:=fun D σ H=>c σ H fun b H1=>if b=true then t D σ H1 else u D σ H1
theorem AL {c:Expr}{a b:List Stmt}{tc:TT}(hc:PT X c tc)(ha:Ml X a t)(hb:Ml X b u):PS X (.If c a b pos) (XE tc t u):=by
 intro pins s σ H D I h
 refine wpAny_If (Bd (hc pins s σ H _ I h) fun d s1 ⟨H1,I1,q1⟩=>?_)
 cases d with
 |true=>exact ha pins s1 σ H1 D I1 q1
 |false=>exact hb pins s1 σ H1 D I1 q1
def WT:TS:=fun _ _ _=>False
theorem Oz:PS X st WT:=fun _ _ _ _ _ _ h=>h.elim
end
abbrev TG:=V→St→Hp→(St→Hp→Prop)→Prop
abbrev VU:=List V→St→Hp→(St→Hp→Prop)→Prop
def PG (X:Cx)(target:Expr)(t:TG):Prop:=
 ∀(pins:List (Addr×Obj)) (s:Shared) (σ:St) (H:Hp) (v:V) (u:Value) (Q:St→Hp→Prop),Inv X pins σ H s→RelV v u→t v σ H Q→
  wpAny (model X.prog X.w) X.A (assign target X.env u) (fun _ s'=>∃σ' H',Inv X pins σ' H' s'∧Q σ' H') X.xe s
def Yl (X:Cx)(ts:List Expr)(t:VU):Prop:=
 ∀(pins:List (Addr×Obj)) (s:Shared) (σ:St) (H:Hp) (vs:List V) (us:List Value) (Q:St→Hp→Prop),Inv X pins σ H s→AC vs us→t vs σ H Q→
  wpAny (model X.prog X.w) X.A (assignInOrder ((assignEach ts X.env).map (·.2)) us) (fun _ s'=>∃σ' H',Inv X pins σ' H' s'∧Q σ' H') X.xe s
abbrev W6:=V→V→V→Hp→(Hp→Prop)→Prop
def X5 (X:Cx)(t:W6):Prop:=
 ∀(pins:List (Addr×Obj)) (s:Shared) (σ:St) (H:Hp) (o i v:V) (ov iv u:Value) (Q:Hp→Prop),Inv X pins σ H s→RelV o ov→RelV i iv→RelV v u→t o i v H Q→
  wpAny (model X.prog X.w) X.A (setItem ov iv u) (fun _ s'=>∃H',Inv X pins σ H' s'∧Q H') X.xe s
section
variable {X:Cx}{pos:Pos}
def D2 (i:Nat):TG:=fun v σ H Q=>Q (σ.set i (some v)) H
theorem Az {i:Nat}{x:Str}(hN:X.N.Nodup)(hi:X.N[i]?=some x)(hx:Loc X.env.scope x)(hf:X.fn x=true∨X.env.scope.names.lookup x=some .local:=by first|exact .inl rfl|exact .inr rfl|assumption):PG X (.Name x pos) (D2 i):=by
 intro pins s σ H v u Q I r h
 exact wpAny_assign_Name (HY I hN hi hx r (fun s' I'=>⟨_,H,I',h⟩) hf)
def Wa:VU:=fun vs σ H Q=>vs=[]∧Q σ H
def LK (t:TG)(u:VU):VU:=fun vs σ H Q=>∃v r,vs=v::r∧t v σ H fun σ' H'=>u r σ' H' Q
theorem G7:Yl X [] Wa:=by
 intro pins s σ H vs us Q I r h
 obtain⟨e,h⟩:=h
 subst e
 cases r
 exact assignInOrder_nil ⟨σ,H,I,h⟩
theorem By {e:Expr} {es:List Expr} {t:TG} {u:VU} (h1:PG X e t) (h2:Yl X es u)
  (hs:(assignEach (e::es) X.env).map (·.2)=assign e X.env::(assignEach es X.env).map (·.2):=by rfl):Yl X (e::es) (LK t u):=by
 intro pins s σ H vs us Q I r h
 obtain⟨v,vr,e1,h⟩:=h
 subst e1
 cases r with
 |cons r rr=>
  rw[hs]
  refine assignInOrder_cons (Bd (h1 pins s σ H _ _ _ I r h) fun _ s1 ⟨σ1,H1,I1,q1⟩=>?_)
  exact h2 pins s1 σ1 H1 _ _ Q I1 rr q1
def Vg (K:PySem.W.Frag)(n:Nat)(t:VU):TG:=fun v σ H Q=>∃a xs,v=.ref a∧AW K H a xs∧xs.length=n∧t xs σ H Q
theorem KE {es:List Expr} {k:Nat} {t:VU} {n:Nat} (hc:X.calm=true) (h:Yl X es t)
  (hn:(assignEach es X.env).length=n:=by rfl) (hst:(assignEach es X.env).findIdx? (·.1)=none:=by rfl):PG X (.Tuple es k pos) (Vg X.K n t):=by
 intro pins s σ H v u Q I r hw
 obtain⟨a,xs,e1,hq,hl,hw⟩:=hw
 subst e1
 cases r
 obtain⟨its,rv,ht,hz⟩:=I.tuple hq
 refine assign_Tuple_tuple (I.ok.hd hc) ht (by simp[hn,←hl,rv.length]) hst fun h' hx=>?_
 have I1:Inv X pins σ H { s with heap:=h' }:=I.kept (t':=s.toks) fun b o e=>hx b o (Nat.ne_of_lt (Heap.lt_size e)) e
 exact h pins _ σ H xs _ Q I1 (by simpa using rv) hw
def YU (to ti:TE)(t:W6):TG:=fun v σ H Q=>to σ H fun o H1=>ti σ H1 fun i H2=>t o i v H2 fun H3=>Q σ H3
theorem W5 {o i:Expr} {to ti:TE} {t:W6} (ho:PE X o to) (hi:PE X i ti) (hs:X5 X t)
  (ha:∀v,assign (.Subscript o i pos) X.env v=(do
   let ov ←holding [v] (eval o X.env)
   let iv ←holding [v,ov] (eval i X.env)
   standAt pos
   holding [v,ov,iv] (setItem ov iv v)
   release [v,ov,iv] []):=by intro _;rfl):PG X (.Subscript o i pos) (YU to ti t):=by
 intro pins s σ H v u Q I r h
 rw[ha]
 refine wpAny_bind (wpAny_holding (Bd (ho pins s σ H _ I h) fun ov s1 ⟨x,H1,I1,r1,q1⟩=>?_))
 refine wpAny_bind (wpAny_holding (Bd (hi pins s1 σ H1 _ I1 q1) fun iv s2 ⟨y,H2,I2,r2,q2⟩=>?_))
 refine wpAny_bind (wpAny_standAt (wpAny_bind (wpAny_holding (Bd (hs pins s2 σ H2 x y v ov iv u _ I2 r1 r2 r q2) fun _ s3 ⟨H3,I3,q3⟩=>?_))))
 exact wpAny_release ⟨σ,H3,I3,q3⟩
def Vq (te:TE)(g:TG):TS:=fun D σ H=>te σ H fun x H1=>g x σ H1 D.nx
theorem Xb {tg e:Expr} {te:TE} {g:TG} (he:PE X e te) (hg:PG X tg g) (hs:swapsWithSole [tg] e pos.line X.env=pure false:=by rfl) (hw:swappedStores [tg] e X.env=pure none:=by rfl)
  (h1:(assignEach [tg] X.env).map (·.2)=[assign tg X.env]:=by rfl):PS X (.Assign [tg] e pos) (Vq te g):=by
 intro pins s σ H D I h
 refine wpAny_Assign_stores (Bd (he pins s σ H _ I h) fun v s1 ⟨x,H1,I1,r1,q1⟩=>?_) hs hw
 rw[h1]
 exact Bd (hg pins s1 σ H1 x v _ I1 r1 q1) fun _ s2 q=>q
theorem Ax {i:Nat}{x:Str}{e:Expr}{te:TE}{pos':Pos}(hN:X.N.Nodup)(hi:X.N[i]?=some x)(hx:Loc X.env.scope x)(he:PE X e te)(hs:swapsWith e (some (.Name x pos')) pos.line X.env=pure false:=by rfl)(hf:X.fn x=true∨X.env.scope.names.lookup x=some .local:=by first|exact .inl rfl|exact .inr rfl|assumption) :
  PS X (.Assign [.Name x pos'] e pos) (Vq te (D2 i)):=by
 intro pins s σ H D I h
 refine wpAny_Assign_Name (Bd (he pins s σ H _ I h) fun v s1 ⟨y,H1,I1,r1,q1⟩=>?_) hs
 exact HY I1 hN hi hx r1 (fun s2 I2=>⟨_,H1,I2,q1⟩) hf
end
section
variable {X:Cx}{pos:Pos}
end
structure It where
 go:Nat→Hp→Prop
 yld:Nat→Hp→V→Hp→Prop
 stop:Nat→Hp→Prop
def Gf (X:Cx)(pins:List (Addr×Obj))(H:Hp)(b:Addr):Prop:=
 H b=none∧b≠X.env.locals∧b∉X.fs∧(b∈X.ex∨X.s₀.heap.objs.size≤b)∧(∀x c,X.env.cells.lookup x=some c→c≠b)∧∀p∈X.pn++pins,p.1≠b
theorem Inv.fpOk {X:Cx}{pins:List (Addr×Obj)}{σ:St}{H H':Hp}{s:Shared}{b:Addr}(I:Inv X pins σ H s)(hb:s.heap.objs.size≤b)(hn:H' b=none):Gf X pins H' b:=by
 refine⟨hn,Nat.ne_of_gt (Nat.lt_of_lt_of_le I.lt hb),I.nofs hb,.inr (Nat.le_trans I.sz hb),fun x c e z=>?_,fun p hp z=>?_⟩
 ·obtain⟨v,q⟩:=I.cell x c e
  exact absurd (Nat.lt_of_lt_of_le q.lt (by rw[z];exact hb)) (Nat.lt_irrefl _)
 ·exact absurd (Nat.lt_of_lt_of_le (Heap.lt_size (I.pin p hp).1) (by rw[z];exact hb)) (Nat.lt_irrefl _)
structure Turn (P:Program) (w:World) (K:PySem.W.Frag) (tg:Expr) (J:It) (fp:List Addr) (it:Addr) (tn:Nat→Heap→Prop):Prop where
 mem:it∈fp
 obj:∀i h,tn i h→∀b∈fp,∃o,h.get? b=some o∧∀v,o.data≠.cell v
 keep:∀i h h',tn i h→(∀b∈fp,∀o,h.get? b=some o→h'.get? b=some o)→tn i h'
 item:∀(X:Cx),X.prog=P→X.w=w→X.K=K→X.calm=true→∀(i:Nat) (pins:List (Addr×Obj)) (s:Shared) (σ:St) (H:Hp) (E:Value→Shared→Prop),Inv X pins σ H s→(∀b∈fp,Gf X pins H b)→tn i s.heap→J.go i H→
  wpAny (model P w) X.A (pyNext (.ref it)) (fun r s1=>∃u,r=some u∧
   wpAny (model P w) X.A (letOwnedTupleGo tg (.ref it) u) (fun _ s2=>∃x H',Inv X pins σ H' s2∧RelV x u∧J.yld i H x H'∧tn (i+1) s2.heap∧∀b∈fp,H' b=none) E s1) E s
 done:∀(X:Cx),X.prog=P→X.w=w→X.K=K→X.calm=true→∀(i:Nat) (pins:List (Addr×Obj)) (s:Shared) (σ:St) (H:Hp) (E:Value→Shared→Prop),Inv X pins σ H s→(∀b∈fp,Gf X pins H b)→tn i s.heap→J.stop i H→
  wpAny (model P w) X.A (pyNext (.ref it)) (fun r s1=>r=none∧Inv X pins σ H s1) E s
 self:∀(A:Around) (i:Nat) (s:Shared) (Q:Value→Shared→Prop) (E:Value→Shared→Prop),tn i s.heap→Q (.ref it) s→wpAny (model P w) A (pyIter (.ref it)) Q E s
abbrev TI:=St→Hp→(It→Hp→Prop)→Prop
def Zg (X:Cx)(pins:List (Addr×Obj))(σ:St)(tg:Expr)(R:It→Hp→Prop)(itv:Value)(s2:Shared):Prop:=
 ∃(it:Addr) (fp:List Addr) (tn:Nat→Heap→Prop) (J:It) (H':Hp),itv=.ref it∧Inv X pins σ H' s2∧Turn X.prog X.w X.K tg J fp it tn∧tn 0 s2.heap∧(∀b∈fp,Gf X pins H' b)∧R J H'
def PI (X:Cx)(tg iter:Expr)(wi:TI):Prop:=
 ∀(pins:List (Addr×Obj)) (s:Shared) (σ:St) (H:Hp) (R:It→Hp→Prop),Inv X pins σ H s→wi σ H R→
  wpAny (model X.prog X.w) X.A (eval iter X.env) (fun v s1=>wpAny (model X.prog X.w) X.A (pyIter v) (Zg X pins σ tg R) X.xe s1) X.xe s
theorem L4 {M:Model} {A:Around} {E:Value→Shared→Prop} {s:Shared} {tg:Expr} {it:Addr} {u:Value} {o:Obj} {n:String} {vs:Array Value} {Q:Unit→Shared→Prop} (ho:s.heap.get? it=some o) (hc:o.cls=.type n) (hd:o.data=.fields vs)
  (hn:["enumerate","zip","dict_itemiterator","dict_reverseitemiterator","odict_iterator","itertools.zip_longest","itertools.pairwise"].contains n=false) (hQ:Q () s):wpAny M A (letOwnedTupleGo tg (.ref it) u) Q E s:=by
 unfold letOwnedTupleGo
 cases tg<;>first
  |exact wpAny_pure hQ
  |(cases u<;>first
    |exact wpAny_pure hQ
    |(refine wpAny_bind (wpAny_load ho ?_)
      rw[hc,hd]
      show wpAny M A (if(["enumerate","zip","dict_itemiterator","dict_reverseitemiterator","odict_iterator","itertools.zip_longest","itertools.pairwise"].contains n&&vs[0]? == some (rawInt _))=true then _ else _) Q E s
      rw[if_neg (by intro h;rw[hn,Bool.false_and] at h;cases h)]
      exact wpAny_pure hQ))
def Xk (K:PySem.W.Frag)(a:Addr):It:=
 ⟨fun i H=>∃xs x,AM K H a xs∧xs[i]?=some x,fun i H x H'=>H'=H∧∀xs,AM K H a xs→xs[i]?=some x,fun i H=>∃xs,AM K H a xs∧xs.length≤i⟩
def Xn (K:PySem.W.Frag)(a:Addr):It:=
 ⟨fun i H=>∃xs x,AW K H a xs∧xs[i]?=some x,fun i H x H'=>H'=H∧∀xs,AW K H a xs→xs[i]?=some x,fun i H=>∃xs,AW K H a xs∧xs.length≤i⟩
def Uv (lo:Int)(n:Nat):It:=⟨fun i _=>i<n,fun i H x H'=>H'=H∧x=.int (lo+i),fun i _=>n≤i⟩
theorem RK {P:Program}{w:World}{K:PySem.W.Frag}{tg:Expr}(a it:Addr):Turn P w K tg (Xk K a) [it] it (fun i h=>h.IsListIter it a i) where
 mem:=by simp
 obj:=fun i h st b hb=>by
  have e:b=it:=by simpa using hb
  subst e
  obtain⟨o,e,c,d⟩:=st
  exact⟨o,e,fun v z=>by rw[d] at z;cases z⟩
 keep:=fun i h h' st k=>st.at fun o e=>k it (by simp) o e
 item:=by
  intro X hP hw hK hc i pins s σ H E I hf st hg
  subst hP hw hK
  obtain⟨xs,x,hq,hx⟩:=hg
  obtain⟨its,rv,p,hz⟩:=I.list hq
  obtain⟨u,hu,ru⟩:=rv.get hx
  obtain⟨f0,f1,f2,f3,f4,f5⟩:=hf it (by simp)
  refine wpAny_pyNext_list_item st p.isList (x:=u) (by simpa using hu) fun h' st' sb=>?_
  have I1:Inv X pins σ H { s with heap:=h' }:=I.turned (t':=s.toks) (fun b o hb e=>(sb.2 b hb).trans e) f0 f1 f3 f4 f5
  obtain⟨o,e,c,d⟩:=id st'
  exact⟨u,rfl,L4 (s:={ s with heap:=h' }) e c d (by decide) ⟨x,H,I1,ru,⟨rfl,fun ys hy=>by rw[I.list_inj hy hq];exact hx⟩,st',fun b hb=>(hf b hb).1⟩⟩
 done:=by
  intro X hP hw hK hc i pins s σ H E I hf st hg
  subst hP hw hK
  obtain⟨xs,hq,hx⟩:=hg
  obtain⟨its,rv,p,hz⟩:=I.list hq
  obtain⟨f0,f1,f2,f3,f4,f5⟩:=hf it (by simp)
  have hl:=rv.length
  exact wpAny_pyNext_list_end (I.ok.hd hc) st p.isList (by simp;omega) fun h' eb=>⟨rfl,I.turned (t':=s.toks) (fun b o hb e=>eb b o hb e) f0 f1 f3 f4 f5⟩
 self:=fun _ _ _ _ _ st h=>wpAny_pyIter_listiter st h
theorem Pc {P:Program}{w:World}{K:PySem.W.Frag}{tg:Expr}(a it:Addr):Turn P w K tg (Xn K a) [it] it (fun i h=>h.IsTupleIter it a i) where
 mem:=by simp
 obj:=fun i h st b hb=>by
  have e:b=it:=by simpa using hb
  subst e
  obtain⟨o,e,c,d⟩:=st
  exact⟨o,e,fun v z=>by rw[d] at z;cases z⟩
 keep:=fun i h h' st k=>st.at fun o e=>k it (by simp) o e
 item:=by
  intro X hP hw hK hc i pins s σ H E I hf st hg
  subst hP hw hK
  obtain⟨xs,x,hq,hx⟩:=hg
  obtain⟨its,rv,p,hz⟩:=I.tuple hq
  obtain⟨u,hu,ru⟩:=rv.get hx
  obtain⟨f0,f1,f2,f3,f4,f5⟩:=hf it (by simp)
  refine wpAny_pyNext_tuple_item st (show s.heap.IsTuple a its.toArray from p) (x:=u) (by simpa using hu) fun h' st' sb=>?_
  have I1:Inv X pins σ H { s with heap:=h' }:=I.turned (t':=s.toks) (fun b o hb e=>(sb.2 b hb).trans e) f0 f1 f3 f4 f5
  obtain⟨o,e,c,d⟩:=id st'
  exact⟨u,rfl,L4 (s:={ s with heap:=h' }) e c d (by decide) ⟨x,H,I1,ru,⟨rfl,fun ys hy=>by rw[I.tuple_inj hy hq];exact hx⟩,st',fun b hb=>(hf b hb).1⟩⟩
 done:=by
  intro X hP hw hK hc i pins s σ H E I hf st hg
  subst hP hw hK
  obtain⟨xs,hq,hx⟩:=hg
  obtain⟨its,rv,p,hz⟩:=I.tuple hq
  obtain⟨f0,f1,f2,f3,f4,f5⟩:=hf it (by simp)
  have hl:=rv.length
  exact wpAny_pyNext_tuple_end (I.ok.hd hc) st (show s.heap.IsTuple a its.toArray from p) (by simp;omega) fun h' eb=>⟨rfl,I.turned (t':=s.toks) (fun b o hb e=>eb b o hb e) f0 f1 f3 f4 f5⟩
 self:=fun _ _ _ _ _ st h=>wpAny_pyIter_tupleiter st h
theorem P8 {P:Program}{w:World}{K:PySem.W.Frag}{tg:Expr}(it:Addr)(lo:Int)(n:Nat):Turn P w K tg (Uv lo n) [it] it (fun i h=>IsRangeIter h it (lo+(i:Nat)*1) ((n:Int)-(i:Nat)) 1) where
 mem:=by simp
 obj:=fun i h st b hb=>by
  have e:b=it:=by simpa using hb
  subst e
  exact⟨_,st,fun v z=>by
   have z':Data.fields _=Data.cell v:=z
   cases z'⟩
 keep:=fun i h h' st k=>k it (by simp) _ st
 item:=by
  intro X hP hw hK hc i pins s σ H E I hf st hg
  subst hP hw hK
  obtain⟨f0,f1,f2,f3,f4,f5⟩:=hf it (by simp)
  have W:=Walks.range (prog:=X.prog) (w:=X.w) (I.ok.hd hc) it lo 1 n
  refine W.item i s _ _ hg st fun v h' tk hv st' kk=>?_
  obtain⟨t,rfl⟩:=hv
  have I1:Inv X pins σ H { s with heap:=h',toks:=tk }:=I.turned (fun b o hb e=>kk b o (by simpa using hb) e) f0 f1 f3 f4 f5
  refine⟨_,rfl,L4 (s:={ s with heap:=h',toks:=tk }) (n:="range_iterator") st' rfl rfl (by decide) ⟨.int (lo+i),H,I1,⟨t,?_⟩,⟨rfl,rfl⟩,st',fun b hb=>(hf b hb).1⟩⟩
  rw[Int.mul_one]
 done:=by
  intro X hP hw hK hc i pins s σ H E I hf st hg
  subst hP hw hK
  obtain⟨f0,f1,f2,f3,f4,f5⟩:=hf it (by simp)
  exact wpAny_pyNext_range_end (I.ok.hd hc) st (by have:n≤i:=hg;omega) fun h' eb=>⟨rfl,I.turned (t':=s.toks) (fun b o hb e=>eb b o hb e) f0 f1 f3 f4 f5⟩
 self:=fun _ _ _ _ _ st h=>wpAny_pyIter_rangeiter st h
end L2
namespace L2
open PySem PySem.Spec PyProof.Rows
section
variable {X:Cx}{tg:Expr}
def XO (K:PySem.W.Frag)(tl:TE):TI:=fun σ H R=>tl σ H fun x H1=>∃a,x=.ref a∧(∃xs,AM K H1 a xs)∧R (Xk K a) H1
def YJ (K:PySem.W.Frag)(tl:TE):TI:=fun σ H R=>tl σ H fun x H1=>∃a,x=.ref a∧(∃xs,AW K H1 a xs)∧R (Xn K a) H1
theorem Dk {l:Expr}{tl:TE}(hl:PE X l tl):PI X tg l (XO X.K tl):=by
 intro pins s σ H R I h
 refine Bd (hl pins s σ H _ I h) fun v s1 ⟨x,H1,I1,r1,q1⟩=>?_
 obtain⟨a,e,⟨xs,hq⟩,q⟩:=q1
 subst e
 cases r1
 obtain⟨its,rv,p,hz⟩:=I1.list hq
 refine wpAny_pyIter_list p.isList ?_
 refine⟨s1.heap.objs.size,[s1.heap.objs.size],_,_,H1,rfl,I1.kept (t':=s1.toks) fun b o e=>Heap.get?_push_of_some _ e,RK a _,⟨_,Heap.get?_push_size _ rfl,rfl,rfl⟩,fun b hb=>?_,q⟩
 have e:b=s1.heap.objs.size:=by simpa using hb
 subst e
 exact I1.fpOk (Nat.le_refl _) (I1.hok.fresh (Nat.le_refl _))
theorem Ek {l:Expr}{tl:TE}(hl:PE X l tl):PI X tg l (YJ X.K tl):=by
 intro pins s σ H R I h
 refine Bd (hl pins s σ H _ I h) fun v s1 ⟨x,H1,I1,r1,q1⟩=>?_
 obtain⟨a,e,⟨xs,hq⟩,q⟩:=q1
 subst e
 cases r1
 obtain⟨its,rv,p,hz⟩:=I1.tuple hq
 refine wpAny_pyIter_tuple (show s1.heap.IsTuple a its.toArray from p) ?_
 refine⟨s1.heap.objs.size,[s1.heap.objs.size],_,_,H1,rfl,I1.kept (t':=s1.toks) fun b o e=>Heap.get?_push_of_some _ e,Pc a _,⟨_,Heap.get?_push_size _ rfl,rfl,rfl⟩,fun b hb=>?_,q⟩
 have e:b=s1.heap.objs.size:=by simpa using hb
 subst e
 exact I1.fpOk (Nat.le_refl _) (I1.hok.fresh (Nat.le_refl _))
theorem SE {pins:List (Addr×Obj)} {σ:St} {H:Hp} {s:Shared} {R:It→Hp→Prop} {E:Value→Shared→Prop} {lo hi:Int} {t u v:Tok} {tk:Nat} (I:Inv X pins σ H s) (h1:-(2^62)≤lo) (h2:lo<2^62) (h3:-(2^62)≤hi) (h4:hi<2^62)
  (q:R (Uv lo (hi-lo).toNat) H):wpAny (model X.prog X.w) X.A (pyIter (.ref s.heap.objs.size)) (Zg X pins σ tg R) E { s with heap:=s.heap.push { cls:=.type "range",data:=.fields #[.int lo t,.int hi u,.int 1 v] },toks:=tk }:=by
 refine wpAny_pyIter_range (IsRange.new ..) (small_one h1 h2 h3 h4) ?_
 have I1:Inv X pins σ H { s with heap:=s.heap.push { cls:=.type "range",data:=.fields #[.int lo t,.int hi u,.int 1 v] },toks:=tk }:=I.kept fun b o e=>Heap.get?_push_of_some _ e
 refine⟨(s.heap.push { cls:=.type "range",data:=.fields #[.int lo t,.int hi u,.int 1 v] }).objs.size,[(s.heap.push { cls:=.type "range",data:=.fields #[.int lo t,.int hi u,.int 1 v] }).objs.size],_,_,H,rfl,
  I1.kept (t':=tk) fun b o e=>Heap.get?_push_of_some _ e,P8 _ lo (hi-lo).toNat,?_,fun b hb=>?_,q⟩
 ·have e1:lo+((0:Nat):Int)*1=lo:=by simp
  have e2:(((hi-lo).toNat:Nat):Int)-((0:Nat):Int)=Builtin.Range.rangeSize lo hi 1:=by rw[rangeSize_one];split<;>omega
  show IsRangeIter _ _ (lo+((0:Nat):Int)*1) ((((hi-lo).toNat:Nat):Int)-((0:Nat):Int)) 1
  rw[e1,e2]
  exact Heap.get?_push_size _ rfl
 ·have e:b=(s.heap.push { cls:=.type "range",data:=.fields #[.int lo t,.int hi u,.int 1 v] }).objs.size:=by simpa using hb
  subst e
  exact I1.fpOk (Nat.le_refl _) (I1.hok.fresh (Nat.le_refl _))
def XM (ta:TA):TI:=fun σ H R=>ta σ H fun vs H1=>∃j:Int,vs=[.int j]∧-(2^62)≤j∧j<2^62∧R (Uv 0 j.toNat) H1
theorem Ec {a:Expr}{ta:TA}{p pos:Pos}(hg:Gl X "range")(hm:X.mg "range"=none)(ha:PA X [a] ta)(hs:starEach [a] X.env=[(false,eval a X.env)]:=by rfl):PI X tg (.Call (.Name "range" p) [a] [] pos) (XM ta):=by
 intro pins s σ H R I h
 refine Call_ (IR I hg hm boot_range (PyProof.Rows.callWith_type1 (Bd (ha pos pins s σ H _ I h) fun us s1 ⟨vs,H1,I1,r1,q1⟩=>?_) hs rfl))
 obtain⟨j,e,q1,q2,q⟩:=q1
 subst e
 cases r1 with
 |cons r rr=>
  cases rr
  obtain⟨t,rfl⟩:=r
  exact call_range_1 (SE I1 (by omega) (by omega) q1 q2 (by simpa using q))
def Yg (wi:TI)(g:TG)(tb:TS):TS:=fun D σ H=>wi σ H fun J H1=>∃W:Nat→Nat→St→Hp→Prop,(∃m,W 0 m σ H1)∧∀i m σ H,W i m σ H→
 (J.stop i H∧D.nx σ H)∨(J.go i H∧∃N:St→Hp→Prop,(∀σ' H',N σ' H'→∃m',m'<m∧W (i+1) m' σ' H')∧∀x H',J.yld i H x H'→g x σ H' fun σ2 H2=>tb { D with nx:=N,ct:=N,bk:=D.nx } σ2 H2)
def Jg (fp:List Addr)(h:Heap):List (Addr×Obj):=fp.filterMap fun b=>(h.get? b).map fun o=>(b,o)
theorem Dx {fp:List Addr}{h:Heap}{b:Addr}{o:Obj}(hb:b∈fp)(e:h.get? b=some o):(b,o)∈Jg fp h:=List.mem_filterMap.mpr ⟨b,hb,by rw[e];rfl⟩
theorem QX {fp:List Addr}{h:Heap}{p:Addr×Obj}(hp:p∈Jg fp h):p.1∈fp∧h.get? p.1=some p.2:=by
 obtain⟨b,hb,e⟩:=List.mem_filterMap.mp hp
 cases q:h.get? b with
 |none=>rw[q] at e;cases e
 |some o=>
  rw[q] at e
  have e':(b,o)=p:=Option.some.inj e
  subst e'
  exact⟨hb,q⟩
theorem Inv.pinned {pins:List (Addr×Obj)}{σ:St}{H:Hp}{s:Shared}{fp:List Addr}(I:Inv X pins σ H s)(hf:∀b∈fp,Gf X pins H b)(ho:∀b∈fp,∃o,s.heap.get? b=some o∧∀v,o.data≠.cell v):Inv X (pins++Jg fp s.heap) σ H s:=
 I.pins_of fun p hp=>(List.mem_append.mp hp).elim (fun z=>I.pin p (List.mem_append_right _ z)) fun z=>by
  obtain⟨hb,e⟩:=QX z
  obtain⟨f0,f1,f2,_⟩:=hf p.1 hb
  obtain⟨o,e',d⟩:=ho p.1 hb
  rw[e] at e';cases e'
  exact⟨e,f0,f1,f2,d⟩
theorem Inv.unpinned {pins pl:List (Addr×Obj)}{σ:St}{H:Hp}{s:Shared}(I:Inv X (pins++pl) σ H s):Inv X pins σ H s:=I.pins_of fun p hp=>I.pin p (List.mem_append_right _ (List.mem_append_left _ hp))
theorem CJ {iter:Expr} {body:List Stmt} {wi:TI} {g:TG} {tb:TS} {pos:Pos} (hp:PassesOwn (model X.prog X.w) X.A X.env X.xe) (hc:X.calm=true) (hi:PI X tg iter wi) (hg:PG X tg g) (hb:Ml X body tb)
  (hs:∀x,foldedSetIterable iter X.env x=pure x:=by intro _;rfl):PS X (.For tg iter body [] pos) (Yg wi g tb):=by
 intro pins s σ H D I h
 refine wpAny_For (Bd (hi pins s σ H _ I h) fun v s1 h1=>Bd h1 fun itv s2 h2=>?_) hs
 obtain⟨it,fp,tn,J,H2,e,I2,T,st2,f2,W,⟨m0,w0⟩,turn⟩:=h2
 subst e
 have stat:∀{H':Hp},(∀b∈fp,H' b=none)→∀b∈fp,Gf X pins H' b:=fun hn b hb=>⟨hn b hb,(f2 b hb).2⟩
 refine codeAny_forLoop_any (fun n s'=>∃i σ' H',Inv X pins σ' H' s'∧tn i s'.heap∧(∀b∈fp,H' b=none)∧W i n σ' H') ?_ m0 ⟨0,σ,H2,I2,st2,fun b hb=>(f2 b hb).1,w0⟩
 rintro n s3 ⟨i,σ3,H3,I3,st3,fr3,w3⟩
 rcases turn i n σ3 H3 w3 with⟨stop,qn⟩|⟨go,N,hN,step⟩
 ·refine wpAny_passesOwn hp (Bd (T.done X rfl rfl rfl hc i pins s3 σ3 H3 X.xe I3 (stat fr3) st3 stop) fun r s4 ⟨hr,I4⟩=>?_)
  subst hr
  exact wpAny_execs_nil ⟨σ3,H3,I4,qn⟩
 ·refine wpAny_passesOwn hp (Bd (T.item X rfl rfl rfl hc i pins s3 σ3 H3 X.xe I3 (stat fr3) st3 go) fun r s4 ⟨u,hr,h4⟩=>?_)
  subst hr
  refine wpAny_passesOwn hp (Bd h4 fun _ s5 ⟨x,H5,I5,r5,y5,st5,fr5⟩=>?_)
  have I5':=I5.pinned (stat fr5) (T.obj _ _ st5)
  refine wpAny_passesOwn hp (Bd (hg _ s5 σ3 H5 x u _ I5' r5 (step x H5 y5)) fun _ s6 ⟨σ6,H6,I6,q6⟩=>?_)
  refine wpAny_passesOwn hp (Bd (hb _ s6 σ6 H6 _ I6 q6) fun f s7 q7=>?_)
  have again:∀{σ7:St} {H7:Hp},Inv X (pins++Jg fp s5.heap) σ7 H7 s7→N σ7 H7→∃m,m<n∧∃i σ' H',Inv X pins σ' H' s7∧tn i s7.heap∧(∀b∈fp,H' b=none)∧W i m σ' H':=fun{σ7 H7} I7 n7=>by
   obtain⟨m',hm,w7⟩:=hN σ7 H7 n7
   refine⟨m',hm,i+1,σ7,H7,I7.unpinned,T.keep _ _ _ st5 fun b hb o e=>(I7.pin (b,o) (List.mem_append_right _ (List.mem_append_right _ (Dx hb e)))).1,fun b hb=>?_,w7⟩
   obtain⟨o,e,d⟩:=T.obj _ _ st5 b hb
   exact(I7.pin (b,o) (List.mem_append_right _ (List.mem_append_right _ (Dx hb e)))).2.1
  cases f with
  |next=>obtain⟨σ7,H7,I7,n7⟩:=q7;exact again I7 n7
  |cont=>obtain⟨σ7,H7,I7,n7⟩:=q7;exact again I7 n7
  |brk=>obtain⟨σ7,H7,I7,q7⟩:=q7;exact⟨σ7,H7,I7.unpinned,q7⟩
  |ret v=>obtain⟨x7,σ7,H7,I7,r7,q7⟩:=q7;exact⟨x7,σ7,H7,I7.unpinned,r7,q7⟩
end
theorem Fk {K:PySem.W.Frag} {a:Addr} {xs:List V} {g:TG} {tb:TS} {D:Ends} {σ:St} {H:Hp} (Pv:Nat→St→Hp→Prop) (h0:Pv 0 σ H) (hl:∀i σ H,i≤xs.length→Pv i σ H→AM K H a xs)
  (hs:∀i x σ H,xs[i]?=some x→Pv i σ H→g x σ H fun σ2 H2=>tb { D with nx:=Pv (i+1),ct:=Pv (i+1),bk:=D.nx } σ2 H2) (hd:∀σ H,Pv xs.length σ H→D.nx σ H) :
  ∃W:Nat→Nat→St→Hp→Prop,(∃m,W 0 m σ H)∧∀i m σ H,W i m σ H→
   ((Xk K a).stop i H∧D.nx σ H)∨((Xk K a).go i H∧∃N:St→Hp→Prop,(∀σ' H',N σ' H'→∃m',m'<m∧W (i+1) m' σ' H')∧∀x H',(Xk K a).yld i H x H'→g x σ H' fun σ2 H2=>tb { D with nx:=N,ct:=N,bk:=D.nx } σ2 H2):=by
 refine⟨fun i m σ H=>m=xs.length-i∧i≤xs.length∧Pv i σ H,⟨xs.length,by simp,Nat.zero_le _,h0⟩,?_⟩
 rintro i m σ H ⟨rfl,hi,p⟩
 have q:=hl i σ H hi p
 by_cases hlt:i<xs.length
 ·refine .inr ⟨⟨xs,xs[i],q,by simp[hlt]⟩,Pv (i+1),fun σ' H' p'=>⟨xs.length-(i+1),by omega,rfl,hlt,p'⟩,fun x H' y=>?_⟩
  obtain⟨e,y⟩:=y
  subst e
  exact hs i x σ _ (y xs q) p
 ·have e:i=xs.length:=by omega
  subst e
  exact .inl ⟨⟨xs,q,Nat.le_refl _⟩,hd σ H p⟩
theorem Iw {K:PySem.W.Frag} {a:Addr} {xs:List V} {g:TG} {tb:TS} {D:Ends} {σ:St} {H:Hp} (Pv:Nat→St→Hp→Prop) (h0:Pv 0 σ H) (hl:∀i σ H,i≤xs.length→Pv i σ H→AW K H a xs)
  (hs:∀i x σ H,xs[i]?=some x→Pv i σ H→g x σ H fun σ2 H2=>tb { D with nx:=Pv (i+1),ct:=Pv (i+1),bk:=D.nx } σ2 H2) (hd:∀σ H,Pv xs.length σ H→D.nx σ H) :
  ∃W:Nat→Nat→St→Hp→Prop,(∃m,W 0 m σ H)∧∀i m σ H,W i m σ H→
   ((Xn K a).stop i H∧D.nx σ H)∨((Xn K a).go i H∧∃N:St→Hp→Prop,(∀σ' H',N σ' H'→∃m',m'<m∧W (i+1) m' σ' H')∧∀x H',(Xn K a).yld i H x H'→g x σ H' fun σ2 H2=>tb { D with nx:=N,ct:=N,bk:=D.nx } σ2 H2):=by
 refine⟨fun i m σ H=>m=xs.length-i∧i≤xs.length∧Pv i σ H,⟨xs.length,by simp,Nat.zero_le _,h0⟩,?_⟩
 rintro i m σ H ⟨rfl,hi,p⟩
 have q:=hl i σ H hi p
 by_cases hlt:i<xs.length
 ·refine .inr ⟨⟨xs,xs[i],q,by simp[hlt]⟩,Pv (i+1),fun σ' H' p'=>⟨xs.length-(i+1),by omega,rfl,hlt,p'⟩,fun x H' y=>?_⟩
  obtain⟨e,y⟩:=y
  subst e
  exact hs i x σ _ (y xs q) p
 ·have e:i=xs.length:=by omega
  subst e
  exact .inl ⟨⟨xs,q,Nat.le_refl _⟩,hd σ H p⟩
theorem LJ {lo:Int} {n:Nat} {g:TG} {tb:TS} {D:Ends} {σ:St} {H:Hp} (Pv:Nat→St→Hp→Prop) (h0:Pv 0 σ H)
  (hs:∀i σ H,i<n→Pv i σ H→g (.int (lo+i)) σ H fun σ2 H2=>tb { D with nx:=Pv (i+1),ct:=Pv (i+1),bk:=D.nx } σ2 H2) (hd:∀σ H,Pv n σ H→D.nx σ H) :
  ∃W:Nat→Nat→St→Hp→Prop,(∃m,W 0 m σ H)∧∀i m σ H,W i m σ H→
   ((Uv lo n).stop i H∧D.nx σ H)∨((Uv lo n).go i H∧∃N:St→Hp→Prop,(∀σ' H',N σ' H'→∃m',m'<m∧W (i+1) m' σ' H')∧∀x H',(Uv lo n).yld i H x H'→g x σ H' fun σ2 H2=>tb { D with nx:=N,ct:=N,bk:=D.nx } σ2 H2):=by
 refine⟨fun i m σ H=>m=n-i∧i≤n∧Pv i σ H,⟨n,by simp,Nat.zero_le _,h0⟩,?_⟩
 rintro i m σ H ⟨rfl,hi,p⟩
 by_cases hlt:i<n
 ·refine .inr ⟨hlt,Pv (i+1),fun σ' H' p'=>⟨n-(i+1),by omega,rfl,hlt,p'⟩,fun x H' y=>?_⟩
  obtain⟨e,y⟩:=y
  subst e y
  exact hs i σ _ hlt p
 ·have e:i=n:=by omega
  subst e
  exact .inl ⟨Nat.le_refl _,hd σ H p⟩
end L2
namespace L2
open PySem PySem.Spec PyProof.Rows
abbrev R2:=V→V→Hp→VK→Prop
def Gd (X:Cx)(f:Value→Value→Sem Value)(r:R2):Prop:=
 ∀(pins:List (Addr×Obj)) (s:Shared) (σ:St) (H:Hp) (x y:V) (v u:Value) (Q:VK),Inv X pins σ H s→RelV x v→RelV y u→r x y H Q→
  wpAny (model X.prog X.w) X.A (f v u) (EP X pins σ Q) X.xe s
def YS (X:Cx)(f:Value→Sem Value)(r:V→Hp→VK→Prop):Prop:=
 ∀(pins:List (Addr×Obj)) (s:Shared) (σ:St) (H:Hp) (x:V) (v:Value) (Q:VK),Inv X pins σ H s→RelV x v→r x H Q→
  wpAny (model X.prog X.w) X.A (f v) (EP X pins σ Q) X.xe s
def DN (X:Cx)(f:Value)(r:List V→Hp→VK→Prop):Prop:=
 ∀(pins:List (Addr×Obj)) (s:Shared) (σ:St) (H:Hp) (xs:List V) (us:List Value) (Q:VK),Inv X pins σ H s→AC xs us→r xs H Q→
  wpAny (model X.prog X.w) X.A (call f us) (EP X pins σ Q) X.xe s
def Yp (r:R2)(ta tb:TE):TE:=fun σ H Q=>ta σ H fun x H1=>tb σ H1 fun y H2=>r x y H2 Q
def Zn (r:V→Hp→VK→Prop)(ta:TE):TE:=fun σ H Q=>ta σ H fun x H1=>r x H1 Q
def rI (C:Int→Int→Prop)(g:Int→Int→V):R2:=fun x y H Q=>∃i j,x=.int i∧y=.int j∧C i j∧Q (g i j) H
def Uu (g:Int→Int→V):R2:=fun x y H Q=>∃i j,x=.int i∧y=.int j∧Q (g i j) H
def rU (g:Int→V):V→Hp→VK→Prop:=fun x H Q=>∃i,x=.int i∧Q (g i) H
section
variable {X:Cx}{a b c:Expr}{ta tb tc:TE}{pos:Pos}
theorem WD (ha:PE X a ta) (hb:PE X b tb) {pins:List (Addr×Obj)} {s:Shared} {σ:St} {H:Hp} {R:V→V→Hp→Prop} (I:Inv X pins σ H s)
  (h:ta σ H fun x H1=>tb σ H1 fun y H2=>R x y H2) {Q:Value→Shared→Prop} {f:Value→Value→Sem Value}
  (hf:∀v u s2 x y H2,Inv X pins σ H2 s2→RelV x v→RelV y u→R x y H2→wpAny (model X.prog X.w) X.A (f v u) Q X.xe s2) :
  wpAny (model X.prog X.w) X.A (eval a X.env) (fun v s₁=>wpAny (model X.prog X.w) X.A (eval b X.env) (fun u s₂=>wpAny (model X.prog X.w) X.A (f v u) Q X.xe s₂) X.xe s₁) X.xe s:=by
 refine Bd (ha pins s σ H _ I h) fun v s1 ⟨x,H1,I1,r1,q1⟩=>?_
 refine Bd (hb pins s1 σ H1 _ I1 q1) fun u s2 ⟨y,H2,I2,r2,q2⟩=>?_
 exact hf v u s2 x y H2 I2 r1 r2 q2
theorem Am {op:Operator}{r:R2}(ho:Gd X (binaryOp op) r)(ha:PE X a ta)(hb:PE X b tb):PE X (.BinOp a op b pos) (Yp r ta tb):=by
 intro pins s σ H Q I h
 exact wpAny_BinOp (WD ha hb I h fun v u s2 x y H2 I2 rx ry q=>ho pins s2 σ H2 x y v u Q I2 rx ry q)
theorem T8 {op:UnaryOp}{r:V→Hp→VK→Prop}(ho:YS X (unaryOp op) r)(ha:PE X a ta):PE X (.UnaryOp op a pos) (Zn r ta):=by
 intro pins s σ H Q I h
 exact UnaryOp_ (Bd (ha pins s σ H _ I h) fun v s1 ⟨x,H1,I1,r1,q1⟩=>ho pins s1 σ H1 x v Q I1 r1 q1)
theorem Yu {f:Value→Value→Sem Value} {C:Int→Int→Prop} {g:Int→Int→Int}
  (rule:∀(i j:Int) (t u:Tok) (s:Shared) (Q:Value→Shared→Prop) (E:Value→Shared→Prop),C i j→Q (.int (g i j) s.toks) { s with toks:=s.toks+1 }→wpAny (model X.prog X.w) X.A (f (.int i t) (.int j u)) Q E s) :
  Gd X f (rI C fun i j=>.int (g i j)):=by
 intro pins s σ H x y v u Q I rx ry h
 obtain⟨i,j,rfl,rfl,hc,q⟩:=h
 obtain⟨t,rfl⟩:=rx
 obtain⟨t',rfl⟩:=ry
 exact rule i j t t' s _ _ hc ⟨.int (g i j),H,I.tok _,⟨_,rfl⟩,q⟩
theorem UZ {f:Value→Value→Sem Value} {g:Int→Int→Int}
  (rule:∀(i j:Int) (t u:Tok) (s:Shared) (Q:Value→Shared→Prop) (E:Value→Shared→Prop),Q (.int (g i j) s.toks) { s with toks:=s.toks+1 }→wpAny (model X.prog X.w) X.A (f (.int i t) (.int j u)) Q E s) :
  Gd X f (Uu fun i j=>.int (g i j)):=by
 intro pins s σ H x y v u Q I rx ry h
 obtain⟨i,j,rfl,rfl,q⟩:=h
 obtain⟨t,rfl⟩:=rx
 obtain⟨t',rfl⟩:=ry
 exact rule i j t t' s _ _ ⟨.int (g i j),H,I.tok _,⟨_,rfl⟩,q⟩
theorem VE {f:Value→Value→Sem Value} {g:Int→Int→Bool}
  (rule:∀(i j:Int) (t u:Tok) (s:Shared) (Q:Value→Shared→Prop) (E:Value→Shared→Prop),Q (.bool (g i j)) s→wpAny (model X.prog X.w) X.A (f (.int i t) (.int j u)) Q E s) :
  Gd X f (Uu fun i j=>.bl (g i j)):=by
 intro pins s σ H x y v u Q I rx ry h
 obtain⟨i,j,rfl,rfl,q⟩:=h
 obtain⟨t,rfl⟩:=rx
 obtain⟨t',rfl⟩:=ry
 exact rule i j t t' s _ _ ⟨.bl (g i j),H,I,rfl,q⟩
def YK (i j:Int):Prop:=0<j∧j<1073741824
def YQ (i j:Int):Prop:=0≤j∧j≤1000000∧i.natAbs<2^64
def Wu (i j:Int):Prop:=(-(2^64)<i∧i<2^64)∨(-(2^64)<j∧j<2^64)
theorem Wu.ok {i j:Int}(h:Wu i j):IntMulOk i j:=by
 rcases h with⟨h1,h2⟩|⟨h1,h2⟩
 ·exact .of_left (intBits_le_64 h1 h2)
 ·exact .of_right (intBits_le_64 h1 h2)
theorem Be:Gd X (binaryOp .Add) (Uu fun i j=>.int (i+j)):=UZ fun _ _ _ _ _ _ _ q=>add_int q
theorem HP:Gd X (binaryOp .Sub) (Uu fun i j=>.int (i-j)):=UZ fun _ _ _ _ _ _ _ q=>sub_int q
theorem EM:Gd X (binaryOp .Mult) (rI Wu fun i j=>.int (i*j)):=Yu fun _ _ _ _ _ _ _ hc q=>mul_int q hc.ok
theorem Dc:Gd X (binaryOp .FloorDiv) (rI YK fun i j=>.int (i/j)):=Yu fun i j _ _ _ _ _ hc q=>by
 have h1:(0:Int)<j:=hc.1
 have h2:j<1073741824:=hc.2
 exact floordiv_int (by omega) (by rw[Int.fdiv_eq_ediv_of_nonneg i (by omega)];exact q) (.inl (PyProof.noPylong_small (by omega)))
theorem AG:Gd X (binaryOp .Mod) (rI (fun _ j=>0<j) fun i j=>.int (i%j)):=Yu fun i j _ _ _ _ _ hc q=>by
 have h1:(0:Int)<j:=hc
 exact mod_int' (by omega) (by rw[Int.fmod_eq_emod_of_nonneg i (by omega)];exact q)
theorem Pj:Gd X (binaryOp .Pow) (rI YQ fun i j=>.int (i^j.toNat)):=Yu fun _ _ _ _ _ _ _ hc q=>pow_int_small hc.1 hc.2.1 hc.2.2 q
theorem Qz:Gd X (inplaceOp .Add) (Uu fun i j=>.int (i+j)):=UZ fun _ _ _ _ _ _ _ q=>iadd_int q
theorem U2:Gd X (inplaceOp .Sub) (Uu fun i j=>.int (i-j)):=UZ fun _ _ _ _ _ _ _ q=>isub_int q
theorem Zl {f:Value→Sem Value} {g:Int→Int}
  (rule:∀(i:Int) (t:Tok) (s:Shared) (Q:Value→Shared→Prop) (E:Value→Shared→Prop),Q (.int (g i) s.toks) { s with toks:=s.toks+1 }→wpAny (model X.prog X.w) X.A (f (.int i t)) Q E s) :
  YS X f (rU fun i=>.int (g i)):=by
 intro pins s σ H x v Q I rx h
 obtain⟨i,rfl,q⟩:=h
 obtain⟨t,rfl⟩:=rx
 exact rule i t s _ _ ⟨.int (g i),H,I.tok _,⟨_,rfl⟩,q⟩
theorem OY:YS X (unaryOp .USub) (rU fun i=>.int (-i)):=Zl fun _ _ _ _ _ q=>neg_int q
end
def Pn:V→V→Bool
 | .non,.non=>true | .non,.int _=>true | .int _,.non=>true | .non,.bl _=>true | .bl _,.non=>true | .non,.str _=>true | .str _,.non=>true
 | .int _,.int _=>true | .bl _,.bl _=>true | .str _,.str _=>true | .byt _,.byt _=>true
 | .int _,.str _=>true | .str _,.int _=>true | .bl _,.str _=>true | .str _,.bl _=>true
 |_,_=>false
def Zi:R2:=fun x y H Q=>Pn x y=true∧Q (.bl (decide (x=y))) H
def Zh:R2:=fun x y H Q=>Pn x y=true∧Q (.bl (!decide (x=y))) H
theorem G8 {i j:Int}:decide (V.int i=V.int j)=(i == j):=by
 rw[Bool.eq_iff_iff]
 simp
theorem R8 {i j:Bool}:decide (V.bl i=V.bl j)=(i == j):=by
 rw[Bool.eq_iff_iff]
 simp
theorem Mq {i j:Str}:decide (V.str i=V.str j)=(i == j):=by
 rw[Bool.eq_iff_iff]
 simp
theorem Qe {i j:Array UInt8}:decide (V.byt i=V.byt j)=(i.toList == j.toList):=by
 rw[Bool.eq_iff_iff]
 cases i
 cases j
 simp
section
variable {X:Cx}{a b c:Expr}{ta tb tc:TE}{pos:Pos}
theorem A6 {pins:List (Addr×Obj)}{σ:St}{H:Hp}{s:Shared}{Q:VK}{k k':Bool}(I:Inv X pins σ H s)(q:Q (.bl k) H)(e:k=k'):EP X pins σ Q (.bool k') s:=by
 subst e
 exact⟨.bl k,H,I,rfl,q⟩
theorem B3:Gd X (compareOp .Eq) Zi:=by
 intro pins s σ H x y v u Q I rx ry h
 obtain⟨hs,q⟩:=h
 cases x with
 |non=>
  cases rx
  cases y with
  |non=>cases ry;exact PySem.EqNone.eq_none_none (A6 I q (by simp))
  |bl j=>cases ry;exact PySem.EqNone.eq_none_bool (A6 I q (by simp))
  |int j=>obtain⟨t',rfl⟩:=ry;exact PySem.EqNone.eq_none_int (A6 I q (by simp))
  |str j=>obtain⟨t',rfl⟩:=ry;exact PySem.EqNone.eq_none_str (A6 I q (by simp))
  |_=>exact absurd (show false=true from hs) Bool.false_ne_true
 |bl i=>
  cases rx
  cases y with
  |non=>cases ry;exact PySem.EqNone.eq_bool_none (A6 I q (by simp))
  |bl j=>cases ry;exact eq_bool (A6 I q R8)
  |str j=>obtain⟨t',rfl⟩:=ry;exact PySem.EqMixed.eq_bool_str (A6 I q (by simp))
  |_=>exact absurd (show false=true from hs) Bool.false_ne_true
 |int i=>
  obtain⟨t,rfl⟩:=rx
  cases y with
  |non=>cases ry;exact PySem.EqNone.eq_int_none (A6 I q (by simp))
  |int j=>obtain⟨t',rfl⟩:=ry;exact eq_int (A6 I q G8)
  |str j=>obtain⟨t',rfl⟩:=ry;exact PySem.EqMixed.eq_int_str (A6 I q (by simp))
  |_=>exact absurd (show false=true from hs) Bool.false_ne_true
 |str i=>
  obtain⟨t,rfl⟩:=rx
  cases y with
  |non=>cases ry;exact PySem.EqNone.eq_str_none (A6 I q (by simp))
  |bl j=>cases ry;exact PySem.EqMixed.eq_str_bool (A6 I q (by simp))
  |int j=>obtain⟨t',rfl⟩:=ry;exact PySem.EqMixed.eq_str_int (A6 I q (by simp))
  |str j=>obtain⟨t',rfl⟩:=ry;exact eq_str (A6 I q Mq)
  |_=>exact absurd (show false=true from hs) Bool.false_ne_true
 |byt i=>
  obtain⟨t,rfl⟩:=rx
  cases y with
  |byt j=>obtain⟨t',rfl⟩:=ry;exact PySem.W.eq_bytes (A6 I q Qe)
  |_=>exact absurd (show false=true from hs) Bool.false_ne_true
 |_=>cases y<;>exact absurd (show false=true from hs) Bool.false_ne_true
theorem QV:Gd X (compareOp .NotEq) Zh:=by
 intro pins s σ H x y v u Q I rx ry h
 obtain⟨hs,q⟩:=h
 cases x with
 |non=>
  cases rx
  cases y with
  |non=>cases ry;exact PySem.EqNone.ne_none_none (A6 I q (by simp))
  |bl j=>cases ry;exact PySem.EqNone.ne_none_bool (A6 I q (by simp))
  |int j=>obtain⟨t',rfl⟩:=ry;exact PySem.EqNone.ne_none_int (A6 I q (by simp))
  |str j=>obtain⟨t',rfl⟩:=ry;exact PySem.EqNone.ne_none_str (A6 I q (by simp))
  |_=>exact absurd (show false=true from hs) Bool.false_ne_true
 |bl i=>
  cases rx
  cases y with
  |non=>cases ry;exact PySem.EqNone.ne_bool_none (A6 I q (by simp))
  |bl j=>cases ry;exact ne_bool (A6 I q (congrArg not R8))
  |str j=>obtain⟨t',rfl⟩:=ry;exact PySem.EqMixed.ne_bool_str (A6 I q (by simp))
  |_=>exact absurd (show false=true from hs) Bool.false_ne_true
 |int i=>
  obtain⟨t,rfl⟩:=rx
  cases y with
  |non=>cases ry;exact PySem.EqNone.ne_int_none (A6 I q (by simp))
  |int j=>obtain⟨t',rfl⟩:=ry;exact ne_int (A6 I q (congrArg not G8))
  |str j=>obtain⟨t',rfl⟩:=ry;exact PySem.EqMixed.ne_int_str (A6 I q (by simp))
  |_=>exact absurd (show false=true from hs) Bool.false_ne_true
 |str i=>
  obtain⟨t,rfl⟩:=rx
  cases y with
  |non=>cases ry;exact PySem.EqNone.ne_str_none (A6 I q (by simp))
  |bl j=>cases ry;exact PySem.EqMixed.ne_str_bool (A6 I q (by simp))
  |int j=>obtain⟨t',rfl⟩:=ry;exact PySem.EqMixed.ne_str_int (A6 I q (by simp))
  |str j=>obtain⟨t',rfl⟩:=ry;exact ne_str (A6 I q (congrArg not Mq))
  |_=>exact absurd (show false=true from hs) Bool.false_ne_true
 |byt i=>
  obtain⟨t,rfl⟩:=rx
  cases y with
  |byt j=>obtain⟨t',rfl⟩:=ry;exact PySem.W.ne_bytes (A6 I q (congrArg not Qe))
  |_=>exact absurd (show false=true from hs) Bool.false_ne_true
 |_=>cases y<;>exact absurd (show false=true from hs) Bool.false_ne_true
theorem V1:Gd X (compareOp .Lt) (Uu fun i j=>.bl (decide (i<j))):=VE fun _ _ _ _ _ _ _ q=>lt_int q
theorem QF:Gd X (compareOp .LtE) (Uu fun i j=>.bl (decide (i≤j))):=VE fun _ _ _ _ _ _ _ q=>le_int q
theorem Oi:Gd X (compareOp .Gt) (Uu fun i j=>.bl (decide (j<i))):=VE fun _ _ _ _ _ _ _ q=>gt_int q
theorem Ym:Gd X (compareOp .GtE) (Uu fun i j=>.bl (decide (j≤i))):=VE fun _ _ _ _ _ _ _ q=>ge_int q
theorem LY:Gd X (compareOp .In) (fun x y H Q=>∃i j,x=.str i∧y=.str j∧Q (.bl (!(Builtin.Str.occurrences j i 0 j.length 1).isEmpty)) H):=by
 intro pins s σ H x y v u Q I rx ry h
 obtain⟨i,j,rfl,rfl,q⟩:=h
 obtain⟨t,rfl⟩:=rx
 obtain⟨t',rfl⟩:=ry
 exact in_str (A6 I q rfl)
theorem AJ (b:Expr){op:CmpOp}(h:op≠.In:=by decide)(h2:op≠.NotIn:=by decide):behindInMarks op b=false:=by
 have e1:(op == CmpOp.In)=false:=by cases op<;>first|rfl|exact absurd rfl h
 have e2:(op == CmpOp.NotIn)=false:=by cases op<;>first|rfl|exact absurd rfl h2
 cases b<;>simp[behindInMarks,e1,e2]
theorem C7 {op:CmpOp}{r:R2}(ho:Gd X (compareOp op) r)(ha:PE X a ta)(hb:PE X b tb)(hm:behindInMarks op b=false):PE X (.Compare a [op] [b] pos) (Yp r ta tb):=by
 intro pins s σ H Q I h
 exact wpAny_Compare1 (WD ha hb I h fun v u s2 x y H2 I2 rx ry q=>ho pins s2 σ H2 x y v u Q I2 rx ry q) hm
def V0 (t:TE):TT:=fun σ H Q=>t σ H fun x H'=>∃k,x=.bl k∧Q k H'
theorem AI {op:CmpOp}{r:R2}(ho:Gd X (compareOp op) r)(ha:PE X a ta)(hb:PE X b tb)(hm:behindInMarks op b=false):PT X (.Compare a [op] [b] pos) (V0 (Yp r ta tb)):=by
 intro pins s σ H Q I h
 refine wpAny_isTrue_Compare1 (Bd (ha pins s σ H _ I h) fun v s1 ⟨x,H1,I1,r1,q1⟩=>Bd (hb pins s1 σ H1 _ I1 q1) fun u s2 ⟨y,H2,I2,r2,q2⟩=>
  Bd (ho pins s2 σ H2 x y v u _ I2 r1 r2 q2) fun c s3 ⟨z,H3,I3,r3,k,e,q3⟩=>?_) hm
 subst e
 cases r3
 exact wpAny_truthy_bool ⟨H3,I3,q3⟩
def R7 (r r':R2)(ta tb tc:TE):TE:=fun σ H Q=>ta σ H fun x H1=>tb σ H1 fun y H2=>r x y H2 fun z H3=>∃k,z=.bl k∧
 (if k=true then tc σ H3 fun w' H4=>r' y w' H4 Q else Q (.bl false) H3)
theorem Tu {op op':CmpOp} {r r':R2} (ho:Gd X (compareOp op) r) (ho':Gd X (compareOp op') r') (ha:PE X a ta) (hb:PE X b tb) (hc:PE X c tc)
  (hm:lastMarks [op,op'] [b,c]=false:=by with_unfolding_all rfl):PE X (.Compare a [op,op'] [b,c] pos) (R7 r r' ta tb tc):=by
 intro pins s σ H Q I h
 refine Compare_chain (Bd (ha pins s σ H _ I h) fun v s1 ⟨x,H1,I1,r1,q1⟩=>chain_link (Bd (hb pins s1 σ H1 _ I1 q1) fun u s2 ⟨y,H2,I2,r2,q2⟩=>
  Bd (ho pins s2 σ H2 x y v u _ I2 r1 r2 q2) fun d s3 ⟨z,H3,I3,r3,k,e,q3⟩=>?_)) hm
 subst e
 cases r3
 refine wpAny_truthy_bool ?_
 cases k with
 |false=>exact ite_ff ⟨.bl false,H3,I3,rfl,q3⟩
 |true=>exact ite_tt (chain_last (Bd (hc pins s3 σ H3 _ I3 q3) fun w' s4 ⟨z',H4,I4,r4,q4⟩=>ho' pins s4 σ H4 y z' u w' Q I4 r2 r4 q4))
theorem Sh {op op':CmpOp} {r r':R2} (ho:Gd X (compareOp op) r) (ho':Gd X (compareOp op') r') (ha:PE X a ta) (hb:PE X b tb) (hc:PE X c tc)
  (hm:lastMarks [op,op'] [b,c]=false:=by with_unfolding_all rfl):PT X (.Compare a [op,op'] [b,c] pos) (V0 (R7 r r' ta tb tc)):=by
 intro pins s σ H Q I h
 refine isTrue_chain (Bd (ha pins s σ H _ I h) fun v s1 ⟨x,H1,I1,r1,q1⟩=>test_link (Bd (hb pins s1 σ H1 _ I1 q1) fun u s2 ⟨y,H2,I2,r2,q2⟩=>
  Bd (ho pins s2 σ H2 x y v u _ I2 r1 r2 q2) fun d s3 ⟨z,H3,I3,r3,k,e,q3⟩=>?_)) hm
 subst e
 cases r3
 refine wpAny_truthy_bool ?_
 cases k with
 |false=>
  obtain⟨k',e',q'⟩:=q3
  cases e'
  exact ite_ff ⟨H3,I3,q'⟩
 |true=>
  refine ite_tt (test_last (Bd (hc pins s3 σ H3 _ I3 q3) fun w' s4 ⟨z',H4,I4,r4,q4⟩=>Bd (ho' pins s4 σ H4 y z' u w' _ I4 r2 r4 q4) fun d' s5 ⟨z2,H5,I5,r5,k2,e2,q5⟩=>?_))
  subst e2
  cases r5
  exact wpAny_truthy_bool ⟨H5,I5,q5⟩
theorem Ji:(sizeLine:Nat)<2^63:=by rw[sizeLine_eq];decide
theorem P0:Gd X (binaryOp .Add) (fun x y H Q=>∃i j,x=.str i∧y=.str j∧i.length+j.length≤sizeLine∧Q (.str (i++j)) H):=by
 intro pins s σ H x y v u Q I rx ry h
 obtain⟨i,j,rfl,rfl,hz,q⟩:=h
 obtain⟨t,rfl⟩:=rx
 obtain⟨t',rfl⟩:=ry
 exact add_str (fun t' tk=>⟨.str (i++j),H,I.tok _,⟨_,rfl⟩,q⟩) hz
theorem vals1 {x:V}{us:List Value}(r:AC [x] us):∃u,us=[u]∧RelV x u:=by
 cases r with
 |cons r1 r2=>cases r2;exact⟨_,rfl,r1⟩
theorem vals2 {x y:V}{us:List Value}(r:AC [x,y] us):∃u w',us=[u,w']∧RelV x u∧RelV y w':=by
 cases r with
 |cons r1 r2=>
  cases r2 with
  |cons r3 r4=>cases r4;exact⟨_,_,rfl,r1,r3⟩
theorem Rf (hc:X.calm=true):DN X (.builtin "max") (fun xs H Q=>∃i j,xs=[.int i,.int j]∧Q (.int (if j>i then j else i)) H):=by
 intro pins s σ H xs us Q I r h
 obtain⟨i,j,rfl,q⟩:=h
 obtain⟨u,w',rfl,⟨t,rfl⟩,⟨t',rfl⟩⟩:=vals2 r
 refine max_two_ints (I.ok.hd hc) fun h' tk k=>⟨_,H,I.kept k,?_,q⟩
 by_cases hj:j>i
 ·rw[if_pos hj,if_pos hj];exact⟨_,rfl⟩
 ·rw[if_neg hj,if_neg hj];exact⟨_,rfl⟩
theorem Rz:DN X (.type "int") (fun xs H Q=>(∃i,xs=[.int i]∧Q (.int i) H)∨∃k,xs=[.bl k]∧Q (.int (if k then 1 else 0)) H):=by
 intro pins s σ H xs us Q I r h
 rcases h with⟨i,rfl,q⟩|⟨k,rfl,q⟩
 ·obtain⟨u,rfl,t,rfl⟩:=vals1 r
  exact call_int_int ⟨.int i,H,I,⟨_,rfl⟩,q⟩
 ·obtain⟨u,rfl,r1⟩:=vals1 r
  cases r1
  exact call_int_bool ⟨.int (if k then 1 else 0),H,I.tok _,⟨_,rfl⟩,q⟩
end
end L2
namespace L2
open PySem PySem.Spec PyProof.Rows
structure ObjM (h:Heap) (x dx C:Addr) (mA:Str→Option Value):Prop where
 obj:h.get? x=some (PySem.W.instObj C dx)
 ns:h.Ns1 dx mA
 ne:dx≠x
theorem Mb {h:Heap}{dx:Addr}{mA:Str→Option Value}(n:h.Ns1 dx mA):∃od,h.get? dx=some od∧∀name,PySem.W.lookIn name od=some (mA name):=by
 obtain⟨o,es,ep,ho,hd,hk,_,hm⟩:=n
 refine⟨o,ho,fun name=>?_⟩
 have e:=hm name
 unfold nsFind findBy at e
 rw[←Array.find?_toList] at e
 unfold PySem.W.lookIn
 rw[hd]
 dsimp only
 split
 ·rename_i y q
  rw[q] at e
  exact congrArg some e
 ·rename_i q
  rw[q] at e
  have a:es.toList.any (·.refKey)=false:=by
   rw[List.any_eq_false]
   intro y hy
   obtain⟨z,t,hkey⟩:=hk y (Array.mem_toList_iff.mp hy)
   simp[DictEntry.refKey,hkey]
  have a':¬es.toList.any (·.refKey)=true:=by rw[a];exact Bool.false_ne_true
  rw[if_neg a']
  exact congrArg some e
theorem ObjM.look {h:Heap}{x dx C:Addr}{mA:Str→Option Value}(I:ObjM h x dx C mA):∃od,PySem.W.InstAt h x (PySem.W.instObj C dx) C (some od)∧∀name,PySem.W.lookIn name od=some (mA name):=
 let⟨od,ho,hl⟩:=Mb I.ns
 ⟨od,⟨I.obj,rfl,rfl,ho⟩,hl⟩
section
variable {prog:Program}{w:World}{A:Around}{E:Value→Shared→Prop}{s:Shared}{K:PySem.W.Frag}{x dx C f:Addr}{mA:Str→Option Value}{name:Str}{v:Value}
theorem get_map {expr:Bool} {Q:Value→Shared→Prop} (X:K.In s.heap) (I:ObjM s.heap x dx C mA) (hg:PySem.W.plainGet K C name=true) (hh:PySem.W.hasDictIn K C=true)
  (ha:PySem.W.findIn K (.ref C) name=some none) (hv:mA name=some v) (hv':PySem.W.handedIn v=true) (h:Q v { s with toks:=s.toks+1 }) :
  wpAny (model prog w) A (getAttr (.ref x) name expr) Q E s:=by
 obtain⟨od,J,hl⟩:=I.look
 exact PySem.W.get_value X J (PySem.W.plainGet_of hg).1 (PySem.W.findObj_own hh ha rfl (by rw[hl,hv])) hv' h
theorem S0 {pl:Sem Bool} {Q:Value×List Value→Shared→Prop} (X:K.In s.heap) (I:ObjM s.heap x dx C mA) (hg:PySem.W.plainGet K C name=true)
  (hf:PySem.W.findIn K (.ref C) name=some (some (.ref f))) (ht:PySem.W.isFn K (.ref f)=true) (hv:mA name=none) (h:Q (.ref f,[.ref x]) s) :
  wpAny (model prog w) A (getMethod (.ref x) name pl) Q E s:=by
 obtain⟨od,J,hl⟩:=I.look
 exact PySem.W.method_fn X J (PySem.W.plainGet_of hg).1 (PySem.W.plainGet_of hg).2 hf (beq_iff_eq.mp ht) (by show(PySem.W.lookIn name od).map (·.isSome)=some false;rw[hl,hv];rfl) h
theorem U1 {ns:List Str} {Q:Unit→Shared→Prop} (X:K.In s.heap) (I:ObjM s.heap x dx C mA)
  (hs:PySem.W.findIn K (.ref C) "__setattr__"=some (some (.builtin "object.__setattr__"))) (hp:PySem.W.plainOver K C=true) (ht:PySem.W.takerIn K C name=some none) (hh:PySem.W.hasDictIn K C=true)
  (hw:PySem.Within mA ns) (hsz:ns.length≤sizeLine)
  (h:∀h',ObjM h' x dx C (fun y=>if y=name then some v else mA y)→Heap.SameBut dx s.heap h'→Q () { s with heap:=h',toks:=s.toks+2 }) :
  wpAny (model prog w) A (setAttr (.ref x) name v) Q E s:=by
 obtain⟨od,J,hl⟩:=I.look
 refine PySem.W.set_plain X J hs (PySem.W.osa_open (s:={ s with toks:=s.toks+1 }) (r:=none) X J hp ht fun b=>?_)
 obtain⟨cd,hc,hd'⟩:=PySem.W.any_some hh
 have hx:s.heap.get? x=some ⟨.ref C,some dx,.plain,#[]⟩:=I.obj
 refine wpAny_bind (wpAny_pure (wpAny_bind (wpAny_bind (wpAny_loadPart hx (wpAny_bind (PySem.W.Looks.here (s:={ s with toks:=s.toks+1 }) (PySem.W.looks_clsIn X hc) ?_))))))
 rw[hd']
 refine wpAny_pure (a:=some dx) (wpAny_bind (wpAny_pure (wpAny_bind ?_)))
 refine wpAny_nsSet1 (s:={ s with toks:=s.toks+1 }) I.ns fun h' hn2 hs2=>?_
 obtain⟨oD,esD,epD,hoD,hdD,hcD⟩:=hn2.count (PySem.Within.cons name v hw)
 refine wpAny_bind (wpAny_lookBehind hoD (by rw[hdD];exact pastItsLine_dict (Nat.le_trans hcD (by rw[List.length_cons];omega))) ?_)
 exact wpAny_pure (h _ ⟨(hs2.2 _ (Ne.symm I.ne)).trans I.obj,hn2,I.ne⟩ hs2)
theorem Th {R:Result→Shared→Prop} {vs:List Value} {kw:List (Str×Value)} (X:K.In s.heap) (hm:PySem.W.makesIn K C=true)
  (hi:PySem.W.findIn K (.ref C) "__init__"=some (some (.ref f))) (hf:PySem.W.typeIn K (.ref f)=some (.type "function"))
  (h:codeAny (model prog w) (A.under (.builtin "type.__call__" ⟨.ref C::vs,kw⟩)) (.call (.ref f) ⟨.ref (s.heap.objs.size+1)::vs,kw⟩) (PySem.W.InitBack (s.heap.objs.size+1) R)
   { s with heap:=(s.heap.push PySem.W.emptyDict).push (PySem.W.instObj C s.heap.objs.size) }) :
  codeAny (model prog w) A (.call (.ref C) ⟨vs,kw⟩) R s:=by
 obtain⟨hh,g,d,t,os⟩:=s
 exact PySem.W.make_core (PySem.W.makes_of X hm) (PySem.W.looks_findIn X hi) (fun self=>PySem.W.bind_fn X self hf) (.inl rfl) h
end
def DT (f:Str)(v:V):List (Str×V)→List (Str×V)
 |[]=>[(f,v)]
 |(g,x)::r=>if g=f then(g,v)::r else(g,x)::DT f v r
theorem Jv (f g:Str)(v:V):∀fs:List (Str×V),(DT f v fs).lookup g=if g=f then some v else fs.lookup g
 |[]=>by
  show List.lookup g [(f,v)]=_
  by_cases h:g=f
  ·have hb:(g == f)=true:=beq_iff_eq.mpr h
   simp only[List.lookup,hb,if_pos h]
  ·have hb:(g == f)=false:=beq_eq_false_iff_ne.mpr h
   simp only[List.lookup,hb,if_neg h]
 |(k,x)::r=>by
  have ih:=Jv f g v r
  rw[show DT f v ((k,x)::r)=(if k=f then(k,v)::r else(k,x)::DT f v r) from rfl]
  by_cases hk:k=f
  ·rw[if_pos hk]
   by_cases h:g=k
   ·have hb:(g == k)=true:=beq_iff_eq.mpr h
    simp only[List.lookup,hb,if_pos (h.trans hk)]
   ·have hb:(g == k)=false:=beq_eq_false_iff_ne.mpr h
    simp only[List.lookup,hb,if_neg (fun e:g=f=>h (e.trans hk.symm))]
  ·rw[if_neg hk]
   by_cases h:g=k
   ·have hb:(g == k)=true:=beq_iff_eq.mpr h
    simp only[List.lookup,hb,if_neg (fun e:g=f=>hk (h.symm.trans e))]
   ·have hb:(g == k)=false:=beq_eq_false_iff_ne.mpr h
    simp only[List.lookup,hb]
    exact ih
theorem Jh (f:Str)(v:V):∀fs:List (Str×V),f∈(DT f v fs).map (·.1)∧∀g,g∈fs.map (·.1)→g∈(DT f v fs).map (·.1)
 |[]=>⟨by simp[DT],fun g h=>by simp at h⟩
 |(k,x)::r=>by
  obtain⟨i1,i2⟩:=Jh f v r
  rw[show DT f v ((k,x)::r)=(if k=f then(k,v)::r else(k,x)::DT f v r) from rfl]
  by_cases hk:k=f
  ·rw[if_pos hk]
   subst hk
   exact⟨by simp,fun g h=>by simpa using h⟩
  ·rw[if_neg hk]
   refine⟨?_,fun g h=>?_⟩
   ·rw[List.map_cons]
    exact List.mem_cons_of_mem _ i1
   ·rw[List.map_cons] at h ⊢
    rcases List.mem_cons.mp h with e|e
    ·exact List.mem_cons.mpr (.inl e)
    ·exact List.mem_cons_of_mem _ (i2 g e)
theorem JJ (f:Str)(v:V):∀fs:List (Str×V),(DT f v fs).length≤fs.length+1
 |[]=>by simp[DT]
 |(k,x)::r=>by
  have ih:=JJ f v r
  rw[show DT f v ((k,x)::r)=(if k=f then(k,v)::r else(k,x)::DT f v r) from rfl]
  by_cases hk:k=f
  ·rw[if_pos hk,List.length_cons,List.length_cons];omega
  ·rw[if_neg hk,List.length_cons,List.length_cons];omega
theorem E5.some_of {v:V}{o:Option Value}(r:E5 (some v) o):∃u,o=some u∧RelV v u:=by
 cases o with
 |none=>exact(show False from r).elim
 |some u=>exact⟨u,rfl,r⟩
theorem E5.none_of {o:Option Value}(r:E5 none o):o=none:=by
 cases o with
 |none=>rfl
 |some u=>exact(show False from r).elim
theorem LV {v:V}{u:Value}(r:RelV v u):PySem.W.handedIn u=true:=by
 cases v with
 |non=>cases(show u=Value.none from r);rfl
 |bl b=>cases(show u=Value.bool b from r);rfl
 |int i=>obtain⟨t,e⟩:=(show ∃t,u=Value.int i t from r);cases e;rfl
 |str x=>obtain⟨t,e⟩:=(show ∃t,u=Value.str x t from r);cases e;rfl
 |byt b=>obtain⟨t,e⟩:=(show ∃t,u=Value.bytes b t from r);cases e;rfl
 |flt b=>obtain⟨t,e⟩:=(show ∃t,u=Value.float b t from r);cases e;rfl
 |ref a=>cases(show u=Value.ref a from r);rfl
 |ty n=>cases(show u=Value.type n from r);rfl
section
variable {P:Program}{w:World}{H H':Hp}{h h':Heap}{a C dx:Addr}{fs fs':List (Str×V)}
theorem Kc (hok:G9 P w H h)(e:H a=some (.ins C dx fs)):∃mA,ObjM h a dx C mA∧(∀f,E5 (fs.lookup f) (mA f))∧PySem.Within mA (fs.map (·.1))∧fs.length≤1000∧H dx=some (.own a):=by
 obtain⟨d,z,ne,ob,mA,n,r,q⟩:=(show AZ P w H h a (.ins C dx fs) from hok a _ e)
 exact⟨mA,⟨ob,n,ne⟩,r,q,z,d⟩
end
structure Cls (K:PySem.W.Frag) (C:Addr):Prop where
 pg:PySem.W.plainGet K C Str.empty=true
 hd:PySem.W.hasDictIn K C=true
 po:PySem.W.plainOver K C=true
 sa:PySem.W.findIn K (.ref C) "__setattr__"=some (some (.builtin "object.__setattr__"))
theorem Cls.get {K:PySem.W.Frag}{C:Addr}(c:Cls K C)(f:Str):PySem.W.plainGet K C f=true:=c.pg
def DR (K:PySem.W.Frag)(C:Addr)(f:Str):Prop:=PySem.W.findIn K (.ref C) f=some none
theorem DR.taker {K:PySem.W.Frag}{C:Addr}{f:Str}(n:DR K C f):PySem.W.takerIn K C f=some none:=by
 unfold PySem.W.takerIn
 rw[show PySem.W.findIn K (.ref C) f=some none from n]
 rfl
structure Con (K:PySem.W.Frag) (C:Addr) (f:Str) (v:V) (u:Value):Prop where
 at_:PySem.W.findIn K (.ref C) f=some (some u)
 rel:RelV v u
 get:PySem.W.specialIn K u "__get__"=some none
 cp:PySem.W.copiedNames.contains f=false
structure Meth (K:PySem.W.Frag) (C:Addr) (m:Str) (f:Addr):Prop where
 at_:PySem.W.findIn K (.ref C) m=some (some (.ref f))
 fn:PySem.W.isFn K (.ref f)=true
 kp:PySem.W.keepIn K (.ref f)=true
section
variable {X:Cx}{pins:List (Addr×Obj)}{σ:St}{H:Hp}{s:Shared}{a C dx:Addr}{fs:List (Str×V)}{f:Str}{v:V}{A:Around}{E:Value→Shared→Prop}
theorem Le {b:Bool} {Q:Value→Shared→Prop} (I:Inv X pins σ H s) (e:H a=some (.ins C dx fs)) (c:Cls X.K C) (n:DR X.K C f) (l:fs.lookup f=some v)
  (h:∀u s',Inv X pins σ H s'→RelV v u→Q u s'):wpAny (model X.prog X.w) A (getAttr (.ref a) f b) Q E s:=by
 obtain⟨mA,O,r,_,_,_⟩:=Kc I.hok e
 obtain⟨u,hu,ru⟩:=E5.some_of (v:=v) (o:=mA f) (by rw[←l];exact r f)
 exact get_map I.kIn O (c.get f) c.hd n hu (LV ru) (h u _ (I.tok _) ru)
theorem Kj {m:Str} {g:Addr} {pl:Sem Bool} {Q:Value×List Value→Shared→Prop} (I:Inv X pins σ H s) (e:H a=some (.ins C dx fs)) (c:Cls X.K C) (k:Meth X.K C m g) (l:fs.lookup m=none)
  (h:Q (.ref g,[.ref a]) s):wpAny (model X.prog X.w) A (getMethod (.ref a) m pl) Q E s:=by
 obtain⟨mA,O,r,_,_,_⟩:=Kc I.hok e
 have hn:mA m=none:=E5.none_of (by rw[←l];exact r m)
 exact S0 I.kIn O (c.get m) k.at_ k.fn hn h
theorem Kv {y:V} {u:Value} {Q:Unit→Shared→Prop} (I:Inv X pins σ H s) (e:H a=some (.ins C dx fs)) (c:Cls X.K C) (n:DR X.K C f) (hl:fs.length<1000) (ry:RelV y u)
  (h:∀s',Inv X pins σ (upd H a (.ins C dx (DT f y fs))) s'→Q () s'):wpAny (model X.prog X.w) A (setAttr (.ref a) f u) Q E s:=by
 obtain⟨mA,O,r,wi,_,ho⟩:=Kc I.hok e
 have hz:(fs.map (·.1)).length≤sizeLine:=by rw[List.length_map,sizeLine_eq];omega
 refine U1 I.kIn O c.sa c.po n.taker c.hd wi hz fun h' O' sb=>h _ ?_
 have hd:∃o,h'.get? dx=some o:=let⟨o,_,_,e',_⟩:=O'.ns;⟨o,e'⟩
 refine I.write (x:=a) (e:=dx) (by rw[e];exact True.intro) (.inr ho) (fun b q hb z=>(sb.2 b hb).trans z) hd ?_
 refine⟨by rw[Ai O.ne];exact ho,?_,O.ne,O'.obj,_,O'.ns,fun g=>?_,fun g hg=>?_⟩
 ·have:=JJ f y fs;omega
 ·show E5 ((DT f y fs).lookup g) (if g=f then some u else mA g)
  rw[Jv]
  by_cases q:g=f
  ·rw[if_pos q,if_pos q];exact ry
  ·rw[if_neg q,if_neg q];exact r g
 ·by_cases q:g=f
  ·rw[q];exact(Jh f y fs).1
  ·refine(Jh f y fs).2 g (wi g fun z=>hg ?_)
   show(if g=f then some u else mA g)=none
   rw[if_neg q];exact z
theorem Inv.made (I:Inv X pins σ H s):Inv X pins σ (upd (upd H s.heap.objs.size (.own (s.heap.objs.size+1))) (s.heap.objs.size+1) (.ins C s.heap.objs.size []))
  { s with heap:=(s.heap.push PySem.W.emptyDict).push (PySem.W.instObj C s.heap.objs.size) }:=by
 have e1:(s.heap.push PySem.W.emptyDict).get? s.heap.objs.size=some PySem.W.emptyDict:=Heap.get?_push_size s.heap rfl
 have e2:((s.heap.push PySem.W.emptyDict).push (PySem.W.instObj C s.heap.objs.size)).get? (s.heap.objs.size+1)=some (PySem.W.instObj C s.heap.objs.size):=by
  have:=Heap.get?_push_size (s.heap.push PySem.W.emptyDict) (o:=PySem.W.instObj C s.heap.objs.size) rfl
  rwa [Heap.size_push] at this
 have e3:(s.heap.push PySem.W.emptyDict).Ns s.heap.objs.size (fun _=>none):=⟨PySem.W.emptyDict,#[],_,e1,rfl,(fun e he=>absurd he (by simp)),fun _=>rfl⟩
 have I1:=I.laid (a:=s.heap.objs.size) (o:=.own (s.heap.objs.size+1)) (h':=s.heap.push PySem.W.emptyDict) (t':=s.toks) (fun b u q=>Heap.get?_push_of_some _ q) (Nat.le_refl _) ⟨_,e1⟩
 refine I1.laid (a:=s.heap.objs.size+1) (o:=.ins C s.heap.objs.size []) (t':=s.toks) (fun b u q=>Heap.get?_push_of_some _ q) (Nat.le_of_eq (Heap.size_push _ _)) ?_
 have ne:s.heap.objs.size≠s.heap.objs.size+1:=Nat.ne_of_lt (Nat.lt_succ_self _)
 refine⟨by rw[Ai ne,Ad],Nat.zero_le _,ne,e2,fun _=>none,(Heap.Ns1.of_empty e3).at fun o q=>Heap.get?_push_of_some _ q,fun _=>True.intro,fun y hy=>absurd rfl hy⟩
theorem QM {prog:Program} {w:World} {env:Env} {e:Expr} {f:Str} {pos:Pos} {s:Shared} {Q:Value→Shared→Prop} (hb:attributeBase e f env (eval e env)=eval e env)
  (h:wpAny (model prog w) A (eval e env) (fun o s₁=>wpAny (model prog w) A (getAttr o f true) Q E s₁) E s):wpAny (model prog w) A (eval (.Attribute e f pos) env) Q E s:=
 Attribute_any_ h (by rw[arm_eval_Attribute,hb])
end
def YH (K:PySem.W.Frag)(ta:TE)(f:Str):TE:=fun σ H Q=>ta σ H fun x H1=>∃a C dx fs v,x=.ref a∧H1 a=some (.ins C dx fs)∧Cls K C∧DR K C f∧fs.lookup f=some v∧Q v H1
def Y4 (K:PySem.W.Frag)(ta tv:TE)(f:Str):TS:=fun D σ H=>tv σ H fun y H1=>ta σ H1 fun x H2=>∃a C dx fs,x=.ref a∧H2 a=some (.ins C dx fs)∧Cls K C∧DR K C f∧fs.length<1000∧
 D.nx σ (upd H2 a (.ins C dx (DT f y fs)))
def Yz (X:Cx)(op:Operator)(rd:V→V→Hp→VK→Prop):Prop:=
 ∀(pins:List (Addr×Obj)) (s:Shared) (σ:St) (H:Hp) (x y:V) (u v:Value) (Q:VK),Inv X pins σ H s→RelV x u→RelV y v→rd x y H Q→wpAny (model X.prog X.w) X.A (inplaceOp op u v) (EP X pins σ Q) X.xe s
def Vk (K:PySem.W.Frag)(ta tv:TE)(rd:V→V→Hp→VK→Prop)(f:Str):TS:=fun D σ H=>ta σ H fun x H1=>∃a C dx fs v,x=.ref a∧H1 a=some (.ins C dx fs)∧Cls K C∧DR K C f∧fs.lookup f=some v∧
 tv σ H1 fun y H2=>rd v y H2 fun z H3=>∃dx' fs',H3 a=some (.ins C dx' fs')∧fs'.length<1000∧D.nx σ (upd H3 a (.ins C dx' (DT f z fs')))
section
variable {X:Cx}{o e value:Expr}{f:Str}{pos pos' tpos:Pos}{ta tv:TE}
theorem Fb (he:PE X e ta)(hb:attributeBase e f X.env (eval e X.env)=eval e X.env):PE X (.Attribute e f pos) (YH X.K ta f):=by
 intro pins s σ H Q I h
 refine QM hb (Bd (he pins s σ H _ I h) fun u s1 ⟨x,H1,I1,rx,a,C,dx,fs,v,ex,ea,c,n,l,q⟩=>?_)
 subst ex
 obtain rfl:u=Value.ref a:=rx
 exact Le I1 ea c n l fun u' s2 I2 ru=>⟨v,H1,I2,ru,q⟩
theorem KC (ha:PE X o ta)(hv:PE X value tv)(hs:swapsWith value (some (.Attribute o f pos')) pos.line X.env=pure false):PS X (.Assign [.Attribute o f pos'] value pos) (Y4 X.K ta tv f):=by
 intro pins s σ H D I h
 refine plainObj_wpAny_Assign_Attribute (Bd (hv pins s σ H _ I h) fun u s1 ⟨y,H1,I1,ry,q⟩=>Bd (ha pins s1 σ H1 _ I1 q) fun ov s2 ⟨x,H2,I2,rx,a,C,dx,fs,ex,ea,c,n,l,q2⟩=>?_) hs
 subst ex
 obtain rfl:ov=Value.ref a:=rx
 exact Kv I2 ea c n l ry fun s3 I3=>⟨σ,_,I3,q2⟩
theorem Jb {op:Operator}{rd:V→V→Hp→VK→Prop}(ha:PE X o ta)(hv:PE X value tv)(hop:Yz X op rd):PS X (.AugAssign (.Attribute o f tpos) op value pos) (Vk X.K ta tv rd f):=by
 intro pins s σ H D I h
 refine wpAny_AugAssign_AttributeAny (Bd (ha pins s σ H _ I h) fun ov s1 ⟨x,H1,I1,rx,a,C,dx,fs,v,ex,ea,c,n,l,q⟩=>?_)
 subst ex
 obtain rfl:ov=Value.ref a:=rx
 refine Le I1 ea c n l fun u s2 I2 ru=>Bd (hv pins s2 σ H1 _ I2 q) fun w3 s3 ⟨y,H2,I3,ry,q3⟩=>Bd (hop pins s3 σ H2 v y u w3 _ I3 ru ry q3) fun w4 s4 ⟨z,H3,I4,rz,dx',fs',ea',l',q4⟩=>?_
 exact Kv I4 ea' c n l' rz fun s5 I5=>⟨σ,_,I5,q4⟩
end
section
variable {X:Cx}{pins:List (Addr×Obj)}{σ:St}{H:Hp}{s:Shared}{A:Around}{E:Value→Shared→Prop}{Q:Value→Shared→Prop}{c:Value}{b:Bool}
inductive TyOf (K:PySem.W.Frag) (H:Hp):V→Value→Prop where
 |non:TyOf K H .non (.type "NoneType")
 |bl (x:Bool):TyOf K H (.bl x) (.type "bool")
 |int (i:Int):TyOf K H (.int i) (.type "int")
 |str (x:Str):TyOf K H (.str x) (.type "str")
 |flt (x:UInt64):TyOf K H (.flt x) (.type "float")
 |lst {a:Addr} {xs:List V} (e:H a=some (.lst xs)):TyOf K H (.ref a) (.type "list")
 |frz {a:Addr} {o:Obj} {xs:List V} (e:H a=some (.frz o (.lst xs))):TyOf K H (.ref a) (.type "list")
 |tup {a:Addr} {xs:List V} (e:H a=some (.tup xs)):TyOf K H (.ref a) (.type "tuple")
 |dK {a:Addr} {kvs:List (Key×V)} (e:H a=some (.dK kvs)):TyOf K H (.ref a) (.type "dict")
 |dT {a:Addr} {kvs:List (List Key×V)} (e:H a=some (.dT kvs)):TyOf K H (.ref a) (.type "dict")
 |ins {a C dx:Addr} {fs:List (Str×V)} (e:H a=some (.ins C dx fs)) (cl:Cls K C) (ha:PySem.W.findIn K (.ref C) "__class__"=some (some (.builtin "object.__class__")))
   (hn:PySem.W.specialIn K (.builtin "object.__class__") "__get__"=some (some (.builtin "getset_descriptor.__get__"))) (htk:PySem.W.takesIn K (.builtin "object.__class__")=some true)
   (hm:PySem.W.mroIn K C (.type "object")=some true):TyOf K H (.ref a) (.ref C)
theorem Q2 {x:V}{u t:Value}(I:Inv X pins σ H s)(rx:RelV x u)(ty:TyOf X.K H x t)(e:PySem.W.kitOne X.K t c=some b)(h:∀tk,Q (.bool b) { s with toks:=tk }) :
  wpAny (model X.prog X.w) A (call (.builtin "isinstance") [u,c]) Q E s:=by
 cases ty with
 |non=>cases(show u=Value.none from rx);exact PySem.W.kia_one PySem.W.kitx_none I.kIn True.intro e (fun z=>nomatch z) h
 |bl y=>cases(show u=Value.bool y from rx);exact PySem.W.kia_one PySem.W.kitx_bool I.kIn True.intro e (fun z=>nomatch z) h
 |int i=>obtain⟨t,q⟩:=(show ∃t,u=Value.int i t from rx);cases q;exact PySem.W.kia_one PySem.W.kitx_int I.kIn True.intro e (fun z=>nomatch z) h
 |str y=>obtain⟨t,q⟩:=(show ∃t,u=Value.str y t from rx);cases q;exact PySem.W.kia_one PySem.W.kitx_str I.kIn True.intro e (fun z=>nomatch z) h
 |flt y=>obtain⟨t,q⟩:=(show ∃t,u=Value.float y t from rx);cases q;exact PySem.W.kia_one PySem.W.kitx_float I.kIn True.intro e (fun z=>nomatch z) h
 |@lst a xs ea=>
  cases(show u=Value.ref a from rx)
  obtain⟨_,_,n,_,h1⟩:=(show AZ X.prog X.w H s.heap a (.lst xs) from I.hok a _ ea)
  exact PySem.W.kia_one PySem.W.kitx_list I.kIn ⟨_,h1,rfl⟩ e (fun z=>nomatch z) h
 |@frz a ob xs ea=>
  cases(show u=Value.ref a from rx)
  obtain⟨_,_,_,n,_,h1⟩:=(show AZ X.prog X.w H s.heap a (.frz ob (.lst xs)) from I.hok a _ ea)
  exact PySem.W.kia_one PySem.W.kitx_list I.kIn ⟨_,h1,rfl⟩ e (fun z=>nomatch z) h
 |@tup a xs ea=>
  cases(show u=Value.ref a from rx)
  obtain⟨_,_,_,p⟩:=(show AZ X.prog X.w H s.heap a (.tup xs) from I.hok a _ ea)
  obtain⟨o,h1,h2,_⟩:=p
  exact PySem.W.kia_one PySem.W.kitx_tuple I.kIn ⟨o,h1,h2⟩ e (fun z=>nomatch z) h
 |@dK a kvs ea=>
  cases(show u=Value.ref a from rx)
  obtain⟨_,_,vs,_,p⟩:=(show AZ X.prog X.w H s.heap a (.dK kvs) from I.hok a _ ea)
  obtain⟨o,es,ep,h1,h2,_⟩:=p
  exact PySem.W.kia_one PySem.W.kitx_dict I.kIn ⟨o,h1,h2.1⟩ e (fun z=>nomatch z) h
 |@dT a kvs ea=>
  cases(show u=Value.ref a from rx)
  obtain⟨_,_,xs,_,o,es,ep,h1,h2,_⟩:=(show AZ X.prog X.w H s.heap a (.dT kvs) from I.hok a _ ea)
  exact PySem.W.kia_one PySem.W.kitx_dict I.kIn ⟨o,h1,h2.1⟩ e (fun z=>nomatch z) h
 |@ins a C dx fs ea cl ha hn htk hm=>
  cases(show u=Value.ref a from rx)
  obtain⟨mA,O,_⟩:=Kc I.hok ea
  obtain⟨od,J,_⟩:=O.look
  exact PySem.W.kia_one (PySem.W.kitx_own (cl.get _) cl.hd ha hn htk hm) I.kIn J e (fun z=>nomatch z) h
end
end L2
namespace L2
open PySem PySem.Spec PyProof.Rows
structure Room (k:Nat) (A:Around):Prop where
 hd:A.handled=none
 dp:A.depth+3*k+5<recursionLimit
 un:A.units+16*k+200<cLine
theorem Room.mono {j k:Nat}{A:Around}(r:Room k A)(h:j≤k):Room j A:=⟨r.hd,by have:=r.dp;omega,by have:=r.un;omega⟩
theorem Room.deeper {k:Nat}{A:Around}(r:Room (k+1) A)(env:Env):Room k (A.deeper env):=
 ⟨r.hd,by have:=r.dp;show A.depth+1+3*k+5<_;omega,by have:=r.un;show A.units+3+16*k+200<_;omega⟩
theorem Room.in1 {k:Nat}{A:Around}(r:Room (k+1) A):Room k A.in1:=
 ⟨r.hd,by have:=r.dp;show A.depth+3*k+5<_;omega,by have:=r.un;show A.units+1+16*k+200<_;omega⟩
theorem PU {A:Around}{C:Addr}{us:List Value}{kw:List (Str×Value)}:(A.under (.builtin "type.__call__" ⟨.ref C::us,kw⟩)).depth=A.depth+1:=by
 first|rfl|simp[Around.under,Code.weight,Code.isCreation,Code.isGuard,Code.isCaller,Code.frames,Code.isFrame,guardIds]
theorem P5 {A:Around}{C:Addr}{us:List Value}{kw:List (Str×Value)}:(A.under (.builtin "type.__call__" ⟨.ref C::us,kw⟩)).units=A.units+1:=by
 first|rfl|simp[Around.under,Code.cUnits,Code.frames,Code.isFrame]
theorem Room.make {k:Nat}{A:Around}(r:Room (k+1) A)(C:Addr)(us:List Value)(kw:List (Str×Value)):Room k (A.under (.builtin "type.__call__" ⟨.ref C::us,kw⟩)):=
 ⟨r.hd,by have:=r.dp;rw[PU];omega,by have:=r.un;rw[P5];omega⟩
theorem Room.depth {k:Nat}{A:Around}(r:Room k A):A.depth<recursionLimit:=by have:=r.dp;omega
theorem Room.units {k:Nat}{A:Around}(r:Room k A):A.units+64<cLine:=by have:=r.un;omega
def Gj:TA:=fun _ H Q=>Q [] H
def Us (ta:TE)(tr:TA):TA:=fun σ H Q=>ta σ H fun x H1=>tr σ H1 fun xs H2=>Q (x::xs) H2
section
variable {X:Cx}{e:Expr}{es:List Expr}{te:TE}{t:TA}{pos:Pos}
theorem Ag:PA X [] Gj:=fun _ _ _ _ H Q I h=>Calls.spliced_nil ⟨[],H,I,.nil,h⟩
theorem Ab (ha:PE X e te)(hr:PA X es t)(hs:starEach (e::es) X.env=(false,eval e X.env)::starEach es X.env:=by rfl):PA X (e::es) (Us te t):=by
 intro pos pins s σ H Q I h
 rw[hs]
 show wpAny _ _ (spliced ((false,eval e X.env)::backTo pos (starEach es X.env))) _ _ s
 refine Calls.spliced_cons (Bd (ha pins s σ H _ I h) fun u s1 ⟨x,H1,I1,r1,q1⟩=>?_)
 exact Bd (hr pos pins s1 σ H1 _ I1 q1) fun us s2 ⟨xs,H2,I2,r2,q2⟩=>⟨x::xs,H2,I2,.cons r1 r2,q2⟩
def YW (t:TA):TE:=fun σ H Q=>t σ H fun xs H1=>xs.length≤sizeLine∧∀p,H1 p=none→Q (.ref p) (upd H1 p (.tup xs))
def YI (t:TA):TE:=fun σ H Q=>t σ H fun xs H1=>xs.length≤sizeLine∧∀p,H1 p=none→Q (.ref p) (upd H1 p (.lst xs))
theorem El {x1}(h:PA X es t):PE X (.Tuple es x1 pos) (YW t):=by
 intro pins s σ H Q I hq
 refine wpAny_Tuple_spliced (Bd (h pos pins s σ H _ I hq) fun us s1 ⟨xs,H1,I1,r,z,q⟩=>⟨by rw[←r.length];exact z,?_⟩)
 have hf:H1 s1.heap.objs.size=none:=I1.hok.fresh (Nat.le_refl _)
 refine⟨.ref s1.heap.objs.size,upd H1 s1.heap.objs.size (.tup xs),I1.laid (t':=s1.toks) (fun b u e=>Heap.get?_push_of_some _ e) (Nat.le_refl _) ?_,rfl,q _ hf⟩
 exact⟨z,us,r,⟨_,Heap.get?_push_size _ rfl,rfl,_,rfl⟩⟩
theorem BS (h:PA X es t):PE X (.List es pos) (YI t):=by
 intro pins s σ H Q I hq
 refine wpAny_List_spliced (Bd (h pos pins s σ H _ I hq) fun us s1 ⟨xs,H1,I1,r,z,q⟩=>⟨by rw[←r.length];exact z,?_⟩)
 have hf:H1 s1.heap.objs.size=none:=I1.hok.fresh (Nat.le_refl _)
 refine⟨.ref s1.heap.objs.size,upd H1 s1.heap.objs.size (.lst xs),I1.laid (t':=s1.toks) (fun b u e=>Heap.get?_push_of_some _ e) (Nat.le_refl _) ?_,rfl,q _ hf⟩
 exact⟨z,us,0,r,Heap.get?_push_size _ rfl⟩
end
abbrev Sp:=List V→Hp→VK→XK→Prop
abbrev OQ:=List Env→Hp→Shared→XK→Value→Shared→Prop
structure Env0 (P:Program) (w:World) (K:PySem.W.Frag) (mg:Str→Option Value) (base:Heap) (A:Around) (outer:List Env) (s:Shared) (H:Hp):Prop where
 frames:A.frames=some outer
 mod:Mod K mg base
 bs:∀b o,base.get? b=some o→s.heap.get? b=some o∧H b=none
 bsz:base.objs.size≤s.heap.objs.size
 funs:s.heap.FunFrames base outer
 frf:∀b∈D3 outer,H b=none
 hok:G9 P w H s.heap
 bare:AllBare s.gens
def CE (outer:List Env)(P:Program)(w:World)(H:Hp)(s:Shared)(Q:VK)(u:Value)(s':Shared):Prop:=
 ∃v H',s'.os=s.os∧AllBare s'.gens∧Un (D3 outer) [] H H' s.heap s'.heap∧G9 P w H' s'.heap∧RelV v u∧Q v H'
def CR (CX:OQ)(outer:List Env)(P:Program)(w:World)(H:Hp)(s:Shared)(Q:VK)(E:XK)(r:Result)(s':Shared):Prop:=
 match r with
 | .ok (.ret u)=>CE outer P w H s Q u s'
 | .ok _=>False
 | .error e=>CX outer H s E e s'
structure FnOk (P:Program) (w:World) (K:PySem.W.Frag) (mg:Str→Option Value) (base:Heap) (CX:OQ) (k:Nat) (f:Addr) (fd:FuncData) (ps:List Str) (sp:Sp):Prop where
 len:∀vs H Q E,sp vs H Q E→vs.length=ps.length
 run:∀(A:Around) (outer:List Env) (s:Shared) (H:Hp) (args:Args) (us:List Value) (vs:List V) (Q:VK) (E:XK),Room k A→Env0 P w K mg base A outer s H→BindsTo s fd args (ps.zip us)→AC vs us→sp vs H Q E→
  codeAny (model P w) A (.call (.ref f) args) (CR CX outer P w H s Q E) s
theorem FnOk.mono {P:Program}{w:World}{K:PySem.W.Frag}{mg:Str→Option Value}{base:Heap}{CX:OQ}{j k:Nat}{f:Addr}{fd:FuncData}{ps:List Str}{sp:Sp}(F:FnOk P w K mg base CX j f fd ps sp)(h:j≤k) :
  FnOk P w K mg base CX k f fd ps sp:=⟨F.len,fun A outer s H args us vs Q E hr=>F.run A outer s H args us vs Q E (hr.mono h)⟩
theorem Env0.make {P:Program}{w:World}{K:PySem.W.Frag}{mg:Str→Option Value}{base:Heap}{A:Around}{outer:List Env}{s:Shared}{H:Hp}(e:Env0 P w K mg base A outer s H)(C:Addr)(us:List Value)(kw:List (Str×Value)) :
  Env0 P w K mg base (A.under (.builtin "type.__call__" ⟨.ref C::us,kw⟩)) outer s H:=⟨by first|exact e.frames|(simpa [Around.under,Code.envs,Code.isFrame,pushEnvs] using e.frames),e.mod,e.bs,e.bsz,e.funs,e.frf,e.hok,e.bare⟩
theorem Env0.in1 {P:Program}{w:World}{K:PySem.W.Frag}{mg:Str→Option Value}{base:Heap}{A:Around}{outer:List Env}{s:Shared}{H:Hp}(e:Env0 P w K mg base A outer s H) :
  Env0 P w K mg base A.in1 outer s H:=⟨e.frames,e.mod,e.bs,e.bsz,e.funs,e.frf,e.hok,e.bare⟩
section
variable {X:Cx}{pins:List (Addr×Obj)}{σ:St}{H:Hp}{s s':Shared}
theorem Inv.env0 (I:Inv X pins σ H s):Env0 X.prog X.w X.K X.mg X.base X.A X.stack s H:=
 ⟨I.ok.frames,I.ok.mod,I.bs,Nat.le_trans I.ok.bsz I.sz,I.stack,I.stkFree,I.hok,I.bare⟩
theorem Inv.after {Q:VK}{u:Value}(I:Inv X pins σ H s)(h:CE X.stack X.prog X.w H s Q u s'):EP X pins σ Q u s':=by
 obtain⟨v,H',os,bare,un,hok,r,q⟩:=h
 obtain⟨hh,g,d,t,os'⟩:=s'
 obtain rfl:os'=s.os:=os
 exact⟨v,H',I.call (h':=hh) (g':=g) (d':=d) (t':=t) (ch:=[]) un hok bare (fun b z=>absurd z (by simp)),r,q⟩
end
def Jt (sp:Sp)(dvs:List V)(E:XK)(t:TA):TE:=fun σ H Q=>t σ H fun vs H1=>sp (vs++dvs) H1 Q E
def OF (C:Addr)(m:Str)(sp:Sp)(dvs:List V)(E:XK)(ta:TE)(t:TA):TE:=fun σ H Q=>ta σ H fun x H1=>∃a dx fs,x=.ref a∧H1 a=some (.ins C dx fs)∧fs.lookup m=none∧
 t σ H1 fun vs H2=>sp (x::(vs++dvs)) H2 Q E
def V2 (C:Addr)(sp:Sp)(dvs:List V)(E:XK)(t:TA):TE:=fun σ H Q=>t σ H fun vs H1=>∀x dx,H1 x=none→H1 dx=none→dx≠x→
 sp (.ref x::(vs++dvs)) (upd (upd H1 dx (.own x)) x (.ins C dx [])) (fun v H2=>v=.non∧Q (.ref x) H2) E
def Binds (K:PySem.W.Frag)(fd:FuncData)(ps:List Str)(ds:List Value):Prop:=
 ∀(s:Shared) (us:List Value),K.In s.heap→(us++ds).length=ps.length→BindsTo s fd ⟨us,[]⟩ (ps.zip (us++ds))
theorem Binds.all {K:PySem.W.Frag}{fd:FuncData}{ps:List Str}(h:∀us:List Value,us.length=ps.length→bindArgs fd ⟨us,[]⟩=pure (ps.zip us)):Binds K fd ps []:=fun s us _ hl=>by
 rw[List.append_nil] at hl ⊢
 exact .of_eq (h us hl)
def CI (CX:OQ)(X:Cx)(E:XK):Prop:=∀(pins:List (Addr×Obj)) (σ:St) (H:Hp) (s:Shared) (e:Value) (s':Shared),Inv X pins σ H s→CX X.stack H s E e s'→X.xe e s'
section
variable {X:Cx}{CX:OQ}{k:Nat}{f C:Addr}{fd:FuncData}{ps:List Str}{sp:Sp}{dvs:List V}{ds:List Value}{E:XK}{x m:Str}{p pos apos:Pos}{e o:Expr}{es:List Expr}{ta:TE}{t:TA}
theorem Nd {pins:List (Addr×Obj)} {σ:St} {H:Hp} {s:Shared} {Q:VK} {us:List Value} {vs:List V} (F:FnOk X.prog X.w X.K X.mg X.base CX k f fd ps sp) (hr:Room k X.A) (hb:Binds X.K fd ps ds) (hd:AC dvs ds) (hx:CI CX X E)
  (I:Inv X pins σ H s) (r:AC vs us) (h:sp (vs++dvs) H Q E):wpAny (model X.prog X.w) X.A (call (.ref f) us) (EP X pins σ Q) X.xe s:=by
 have r2:AC (vs++dvs) (us++ds):=r.append hd
 have hl:(us++ds).length=ps.length:=by rw[←r2.length];exact F.len _ _ _ _ h
 refine wpAny_call (codeAny_mono (F.run X.A X.stack s H ⟨us,[]⟩ (us++ds) (vs++dvs) Q E hr I.env0 (hb s us I.kIn hl) r2 h) fun r s' hq=>?_)
 cases r with
 |error e=>exact hx pins σ H s e s' I hq
 |ok fl=>
  cases fl with
  |ret u=>exact I.after hq
  |next=>exact False.elim hq
  |brk=>exact False.elim hq
  |cont=>exact False.elim hq
theorem MX (F:FnOk X.prog X.w X.K X.mg X.base CX k f fd ps sp) (hr:Room k X.A) (hg:Gl X x) (hm:X.mg x=some (.ref f)) (hk:PySem.W.keepIn X.K (.ref f)=true) (hb:Binds X.K fd ps ds) (hd:AC dvs ds) (hx:CI CX X E)
  (ha:PA X (e::es) t) (hdb:(x == ("__debug__":Str))=false:=by decide) (he:starEach (e::es) X.env=(false,eval e X.env)::starEach es X.env:=by rfl) (hpl:(backTo pos (starEach es X.env)).any (·.1)=false:=by rfl) :
  PE X (.Call (.Name x p) (e::es) [] pos) (Jt sp dvs E t):=by
 intro pins s σ H Q I h
 refine wpAny_Call_Name_kw (DF I hg hm ?_ hdb)
 refine PySem.W.callWith_K (h₀:=X.base) I.ok.mod.kin hk (Bd (ha pos pins s σ H _ I h) fun us s1 ⟨vs,H1,I1,r,q⟩=>⟨I1.kIn,?_⟩) he hpl
 exact Nd F hr hb hd hx I1 r q
theorem TH (F:FnOk X.prog X.w X.K X.mg X.base CX k f fd ps sp) (hr:Room k X.A) (hg:Gl X x) (hm:X.mg x=some (.ref f)) (hk:PySem.W.keepIn X.K (.ref f)=true) (hb:Binds X.K fd ps ds) (hd:AC dvs ds) (hx:CI CX X E)
  (hdb:(x == ("__debug__":Str))=false:=by decide):PE X (.Call (.Name x p) [] [] pos) (Jt sp dvs E Gj):=by
 intro pins s σ H Q I h
 refine wpAny_Call_Name_kw (DF I hg hm ?_ hdb)
 exact PySem.W.callWith_K0 I.kIn hk (Nd (us:=[]) F hr hb hd hx I .nil h)
theorem QT {pl:Sem Bool} (he:PE X o ta) (c:Cls X.K C) (hm:Meth X.K C m f) (F:FnOk X.prog X.w X.K X.mg X.base CX k f fd ps sp) (hr:Room k X.A) (hb:Binds X.K fd ps ds) (hd:AC dvs ds) (hx:CI CX X E) (ha:PA X (e::es) t)
  (hst:starEach (e::es) X.env=(false,eval e X.env)::starEach es X.env:=by rfl) (hpl:(backTo pos (starEach es X.env)).any (·.1)=false:=by rfl)
  (ht:eval (.Call (.Attribute o m apos) (e::es) [] pos) X.env=(do
   let ov ←eval o X.env
   standAt apos.atName
   let(f,first) ←holding [ov] (getMethod ov m pl)
   callWith pos f first (backTo pos (starEach (e::es) X.env)) (backToKw pos (keywordEach [] X.env))):=by rfl) :
  PE X (.Call (.Attribute o m apos) (e::es) [] pos) (OF C m sp dvs E ta t):=by
 intro pins s σ H Q I h
 refine PySem.W.methodCall_KW (pl:=pl) (Bd (he pins s σ H _ I h) fun u s1 ⟨x,H1,I1,rx,a,dx,fs,ex,ea,l,q⟩=>?_) ht
 subst ex
 obtain rfl:u=Value.ref a:=rx
 refine Kj I1 ea c hm l ?_
 refine PySem.W.callWith_K (first:=[.ref a]) (h₀:=X.base) I.ok.mod.kin hm.kp (Bd (ha pos pins s1 σ H1 _ I1 q) fun us s2 ⟨vs,H2,I2,r,q2⟩=>⟨I2.kIn,?_⟩) hst hpl
 exact Nd (us:=.ref a::us) (vs:=.ref a::vs) F hr hb hd hx I2 (.cons rfl r) q2
theorem Ug {pl:Sem Bool} (he:PE X o ta) (c:Cls X.K C) (hm:Meth X.K C m f) (F:FnOk X.prog X.w X.K X.mg X.base CX k f fd ps sp) (hr:Room k X.A) (hb:Binds X.K fd ps ds) (hd:AC dvs ds) (hx:CI CX X E)
  (ht:eval (.Call (.Attribute o m apos) [] [] pos) X.env=(do
   let ov ←eval o X.env
   standAt apos.atName
   let(f,first) ←holding [ov] (getMethod ov m pl)
   callWith pos f first (backTo pos (starEach [] X.env)) (backToKw pos (keywordEach [] X.env))):=by rfl) :
  PE X (.Call (.Attribute o m apos) [] [] pos) (OF C m sp dvs E ta Gj):=by
 intro pins s σ H Q I h
 refine PySem.W.methodCall_KW (pl:=pl) (Bd (he pins s σ H _ I h) fun u s1 ⟨x,H1,I1,rx,a,dx,fs,ex,ea,l,q⟩=>?_) ht
 subst ex
 obtain rfl:u=Value.ref a:=rx
 refine Kj I1 ea c hm l ?_
 exact PySem.W.callWith_K0 (first:=[.ref a]) I1.kIn hm.kp (Nd (us:=[.ref a]) (vs:=[.ref a]) F hr hb hd hx I1 (.cons rfl .nil) q)
structure Mk (K:PySem.W.Frag) (C f:Addr):Prop where
 makes:PySem.W.makesIn K C=true
 init:PySem.W.findIn K (.ref C) "__init__"=some (some (.ref f))
 fn:PySem.W.isFn K (.ref f)=true
 kp:PySem.W.keepIn K (.ref C)=true
theorem SR {pins:List (Addr×Obj)} {σ:St} {H:Hp} {s:Shared} {Q:VK} {us:List Value} {vs:List V} (M:Mk X.K C f) (F:FnOk X.prog X.w X.K X.mg X.base CX k f fd ps sp) (hr:Room (k+1) X.A) (hb:Binds X.K fd ps ds) (hd:AC dvs ds)
  (hx:CI CX X E) (I:Inv X pins σ H s) (r:AC vs us)
  (h:∀x dx,H x=none→H dx=none→dx≠x→sp (.ref x::(vs++dvs)) (upd (upd H dx (.own x)) x (.ins C dx [])) (fun v H2=>v=.non∧Q (.ref x) H2) E) :
  wpAny (model X.prog X.w) X.A (call (.ref C) us) (EP X pins σ Q) X.xe s:=by
 have hq:=h (s.heap.objs.size+1) s.heap.objs.size (I.hok.fresh (Nat.le_succ _)) (I.hok.fresh (Nat.le_refl _)) (Nat.ne_of_lt (Nat.lt_succ_self _))
 have I2:=Inv.made (C:=C) I
 have r2:AC (V.ref (s.heap.objs.size+1)::(vs++dvs)) (Value.ref (s.heap.objs.size+1)::(us++ds)):=.cons rfl (r.append hd)
 have hl:(Value.ref (s.heap.objs.size+1)::us++ds).length=ps.length:=by
  have e:=r2.length
  rw[F.len _ _ _ _ hq] at e
  exact e.symm
 refine wpAny_call (Th (f:=f) I.kIn M.makes M.init (beq_iff_eq.mp M.fn) (codeAny_mono (F.run _ X.stack _ _ ⟨Value.ref (s.heap.objs.size+1)::us,[]⟩ (Value.ref (s.heap.objs.size+1)::(us++ds)) _ _ E (hr.make C us [])
  (I2.env0.make C us []) (hb _ (Value.ref (s.heap.objs.size+1)::us) I2.kIn hl) r2 hq) fun r s' hq'=>?_))
 cases r with
 |error e=>exact hx pins σ _ _ e s' I2 hq'
 |ok fl=>
  cases fl with
  |ret u=>
   obtain⟨v,H',I3,rv,ev,q3⟩:=I2.after hq'
   subst ev
   exact⟨rv,⟨V.ref (s.heap.objs.size+1),H',I3,rfl,q3⟩⟩
  |next=>exact False.elim hq'
  |brk=>exact False.elim hq'
  |cont=>exact False.elim hq'
theorem UK (M:Mk X.K C f) (F:FnOk X.prog X.w X.K X.mg X.base CX k f fd ps sp) (hr:Room (k+1) X.A) (hg:Gl X x) (hm:X.mg x=some (.ref C)) (hb:Binds X.K fd ps ds) (hd:AC dvs ds) (hx:CI CX X E)
  (ha:PA X (e::es) t) (hdb:(x == ("__debug__":Str))=false:=by decide) (he:starEach (e::es) X.env=(false,eval e X.env)::starEach es X.env:=by rfl) (hpl:(backTo pos (starEach es X.env)).any (·.1)=false:=by rfl) :
  PE X (.Call (.Name x p) (e::es) [] pos) (V2 C sp dvs E t):=by
 intro pins s σ H Q I h
 refine wpAny_Call_Name_kw (DF I hg hm ?_ hdb)
 refine PySem.W.callWith_K (h₀:=X.base) I.ok.mod.kin M.kp (Bd (ha pos pins s σ H _ I h) fun us s1 ⟨vs,H1,I1,r,q⟩=>⟨I1.kIn,?_⟩) he hpl
 exact SR M F hr hb hd hx I1 r q
end
section
variable {X:Cx}{CX:OQ}{k:Nat}{f C:Addr}{fd:FuncData}{ps ks:List Str}{sp:Sp}{E:XK}{x m:Str}{p pos apos kpos:Pos}{e o:Expr}{es:List Expr}{kws:List Keyword}{te ta:TE}{t tk:TA}{nm:Option Str}
structure KBinds (K:PySem.W.Frag) (fd:FuncData) (ps ks:List Str) (g:List Value→List Value→List Value) (gV:List V→List V→List V):Prop where
 to:∀(s:Shared) (us ws:List Value),K.In s.heap→(g us ws).length=ps.length→BindsTo s fd ⟨us,ks.zip ws⟩ (ps.zip (g us ws))
 rel:∀{vs:List V} {us:List Value} {zs:List V} {ws:List Value},AC vs us→AC zs ws→AC (gV vs zs) (g us ws)
variable {g:List Value→List Value→List Value}{gV:List V→List V→List V}
end
structure FnScope (N P:List Str) (sc:Scope):Prop where
 kind:sc.kind=.function
 co:sc.isCoroutine=false
 gen:sc.isGenerator=false
 nd:N.Nodup
 pre:N.take P.length=P
 par:∀x∈P,sc.names.lookup x=some .local∨sc.names.lookup x=some .cell
 nofree:∀y∈sc.names,y.2≠.free
theorem LD {kindOf:Str→Option NameKind}{x:Str}:∀{binds:List (Str×Value)} {m:Str→Option Value},(∀v,(x,v)∉binds)→bindL kindOf binds m x=m x
 |[],_,_=>rfl
 |(n,v)::r,m,h=>by
  unfold bindL
  rw[LD fun w hw=>h w (List.mem_cons_of_mem _ hw)]
  split
  ·have:x≠n:=by rintro rfl;exact h v List.mem_cons_self
   simp[this]
  ·rfl
theorem LO {kindOf:Str→Option NameKind}{x:Str}:∀{binds:List (Str×Value)} {m:Str→Option Value},(∀v,(x,v)∉binds)→bindC kindOf binds m x=m x
 |[],_,_=>rfl
 |(n,v)::r,m,h=>by
  unfold bindC
  rw[LO fun w hw=>h w (List.mem_cons_of_mem _ hw)]
  split
  ·rfl
  ·have:x≠n:=by rintro rfl;exact h v List.mem_cons_self
   simp[this]
theorem Ls {kindOf:Str→Option NameKind}{x:Str}{v:Value}:∀{P:List Str} {vs:List Value} {i:Nat} {m:Str→Option Value},P.Nodup→P[i]?=some x→vs[i]?=some v→kindOf x=some .local→
  bindL kindOf (P.zip vs) m x=some v
 |[],_,_,_,_,h,_,_=>by simp at h
 |_::_,[],_,_,_,_,h,_=>by simp at h
 |p::P,w::vs,0,m,nd,h1,h2,hk=>by
  simp at h1 h2;subst h1;subst h2
  show bindL kindOf ((p,w)::P.zip vs) m p=_
  unfold bindL
  rw[LD fun v hv=>(List.nodup_cons.mp nd).1 (List.of_mem_zip hv).1,if_pos hk]
  simp
 |p::P,w::vs,i+1,m,nd,h1,h2,hk=>by
  show bindL kindOf ((p,w)::P.zip vs) m x=_
  unfold bindL
  exact Ls (i:=i) (List.nodup_cons.mp nd).2 (by simpa using h1) (by simpa using h2) hk
theorem LZ {kindOf:Str→Option NameKind}{x:Str}{v:Value}:∀{P:List Str} {vs:List Value} {i:Nat} {m:Str→Option Value},P.Nodup→P[i]?=some x→vs[i]?=some v→kindOf x≠some .local→
  bindC kindOf (P.zip vs) m x=some v
 |[],_,_,_,_,h,_,_=>by simp at h
 |_::_,[],_,_,_,_,h,_=>by simp at h
 |p::P,w::vs,0,m,nd,h1,h2,hk=>by
  simp at h1 h2;subst h1;subst h2
  show bindC kindOf ((p,w)::P.zip vs) m p=_
  unfold bindC
  rw[LO fun v hv=>(List.nodup_cons.mp nd).1 (List.of_mem_zip hv).1,if_neg hk]
  simp
 |p::P,w::vs,i+1,m,nd,h1,h2,hk=>by
  show bindC kindOf ((p,w)::P.zip vs) m x=_
  unfold bindC
  exact LZ (i:=i) (List.nodup_cons.mp nd).2 (by simpa using h1) (by simpa using h2) hk
def start (N:List Str)(vs:List V):St:=vs.map some++List.replicate (N.length-vs.length) none
def B9 (CX:OQ)(P:Program)(w:World)(K:PySem.W.Frag)(mg:Str→Option Value)(base:Heap)(N:List Str)(qual:Str)(scope:Scope)(f:Addr)(cd:Value)(A:Around)(outer:List Env)(s:Shared)(H:Hp)(E:XK):Cx where
 prog:=P
 w:=w
 K:=K
 mg:=mg
 base:=base
 A:=A.deeper (envOfC qual scope s.heap.objs.size f cd)
 N:=N
 s₀:=s
 H₀:=H
 env:=envOfC qual scope s.heap.objs.size f cd
 outer:=outer
 stack:=envOfC qual scope s.heap.objs.size f cd::outer
 ex:=[]
 calm:=true
 fn:=fun _=>true
 pn:=[]
 xe:=fun e s'=>wpAny (model P w) (A.deeper (envOfC qual scope s.heap.objs.size f cd)) (leaving (envOfC qual scope s.heap.objs.size f cd) e) (fun _ s''=>CX outer H s E e s'') (fun e' s''=>CX outer H s E e' s'') s'
theorem OJ {sc:Scope}{n:Nat}{x:Str}(h:sc.names.lookup x=some .cell):∃c,(cellsFrom n sc.names []).lookup x=some c:=by
 have q:=PySem.W.cellsFrom_some sc.names n [] (.inl h)
 exact Option.isSome_iff_exists.mp q
theorem R1 {CX:OQ} {P:Program} {w:World} {K:PySem.W.Frag} {mg:Str→Option Value} {base:Heap} {N ps:List Str} {qual:Str} {scope:Scope} {f:Addr} {cd:Value} {A:Around} {outer:List Env} {s s1:Shared} {H:Hp} {E:XK} {us:List Value} {vs:List V}
  (S:FnScope N ps scope) (hd:A.handled=none) (e0:Env0 P w K mg base A outer s H) (hl:vs.length=ps.length) (r:AC vs us)
  (x:InCallC s s.heap.objs.size (bindL (envOfC qual scope s.heap.objs.size f cd).kindOf (ps.zip us) fun _=>none) (cellsFrom (s.heap.objs.size+1) scope.names []) (bindC (envOfC qual scope s.heap.objs.size f cd).kindOf (ps.zip us) fun _=>none) s1) :
  Inv (B9 CX P w K mg base N qual scope f cd A outer s H E) [] (start N vs) H s1:=by
 have hpl:ps.length≤N.length:=by have:=congrArg List.length S.pre;rw[List.length_take] at this;omega
 obtain⟨h1,tk,rfl,hk⟩:=x.done
 have noA:∀b:Addr,b∉(B9 CX P w K mg base N qual scope f cd A outer s H E).ex:=fun b z=>absurd (show b∈([]:List Addr) from z) (by simp)
 refine⟨⟨e0.mod,S.kind,rfl,rfl,Nat.le_refl _,fun y z c h1 h2=>?_,fun y hy=>?_,fun y c _ h=>?_,fun _=>hd,Around.frames_deeper e0.frames,.inr ⟨rfl,rfl⟩,fun b z=>absurd z (noA b),e0.bs,e0.bsz,fun b _ _=>noA b,fun b z=>absurd z (noA b),e0.funs,e0.frf⟩,
  rfl,e0.bare,Un.kept hk,⟨_,x.toInCall.ns,fun i y v h1 h2 h3=>?_⟩,fun y c h=>⟨_,x.cell y c h⟩,e0.hok.fresh (Nat.le_refl _),fun y c h=>?_,fun p hp=>absurd (show p∈([]:List (Addr×Obj)) from hp) (by simp),e0.hok.kept hk,?_⟩
 ·exact name_of_addr x.apart (PySem.mem_of_lookup h1) (PySem.mem_of_lookup h2)
 ·have hy:scope.names.lookup y=some .cell∨scope.names.lookup y=some .free:=hy
  rcases hy with hy|hy
  ·exact OJ hy
  ·exact absurd rfl (S.nofree _ (PySem.mem_of_lookup hy))
 ·exact Nat.le_of_lt (x.above y c (PySem.mem_of_lookup h))
 ·have hi:i<vs.length:=by
   unfold start at h2
   by_cases hi:i<vs.length
   ·exact hi
   ·rw[List.getElem?_append_right (by simpa using hi)] at h2
    rw[List.getElem?_replicate] at h2
    split at h2<;>cases h2
  have ha:vs[i]?=some v:=by
   unfold start at h2
   rw[List.getElem?_append_left (by simpa using hi),List.getElem?_map] at h2
   cases e:vs[i]? with
   |none=>rw[e] at h2;cases h2
   |some a=>rw[e] at h2;cases h2;rfl
  obtain⟨u,hu,rv⟩:=r.get ha
  have hp:ps[i]?=some y:=by
   rw[←S.pre,List.getElem?_take_of_lt (by omega)];exact h1
  have ndP:ps.Nodup:=by rw[←S.pre];exact S.nd.sublist (List.take_sublist _ _)
  refine⟨u,rv,?_⟩
  rcases S.par y (List.mem_of_getElem? hp) with k|k
  ·exact .inl ⟨k,Ls ndP hp hu k⟩
  ·obtain⟨c,e⟩:=OJ (n:=s.heap.objs.size+1) k
   refine .inr ⟨.inl k,c,e,?_⟩
   have q:=x.cell y c e
   rw[LZ ndP hp hu (by show scope.names.lookup y≠_;rw[k];decide)] at q
   exact q
 ·exact e0.hok.fresh (Nat.le_of_lt (x.above y c (PySem.mem_of_lookup h)))
 ·unfold start
  show _=N.length
  rw[List.length_append,List.length_map,List.length_replicate]
  omega
theorem Ua {CX:OQ} {P:Program} {w:World} {K:PySem.W.Frag} {mg:Str→Option Value} {base:Heap} {k:Nat} {f:Addr} {name qual:Str} {params:Arguments} {body:List Stmt} {scope:Scope} {dV kV doc pm cdv ct oc:Value} {an od:Option Addr}
  {osl:Array (Option Value)} {N ps:List Str} {sp:Sp} (lk:K.lookup f=some ⟨oc,od,.func (PySem.W.fnOf name qual params body scope dV kV doc pm an cdv ct),osl⟩) (hcd:PySem.W.codeIn K cdv qual=true) (S:FnScope N ps scope)
  (len:∀vs H Q E,sp vs H Q E→vs.length=ps.length)
  (hbody:∀(A:Around) (outer:List Env) (s:Shared) (H:Hp) (vs:List V) (Q:VK) (E:XK),Room k (A.deeper (envOfC qual scope s.heap.objs.size f cdv))→sp vs H Q E→
   ∃t,Ml (B9 CX P w K mg base N qual scope f cdv A outer s H E) body t∧t { nx:=fun _ H'=>Q .non H',rt:=Q } (start N vs) H) :
  FnOk P w K mg base CX (k+1) f (PySem.W.fnOf name qual params body scope dV kV doc pm an cdv ct) ps sp:=by
 refine⟨len,fun A outer s H args us vs Q E hr e0 hb r hsp=>?_⟩
 have hl:=len _ _ _ _ hsp
 have KX:K.In s.heap:=e0.mod.kin.keeps fun b o e=>(e0.bs b o e).1
 have lim:s.heap.NoLimit:=e0.mod.nolimit.keeps fun b o e=>(e0.bs b o e).1
 have hkind:∀y∈ps.zip us,scope.names.lookup y.1=some .local∨(scope.names.lookup y.1=some .cell∧((cellsFrom (s.heap.objs.size+1) scope.names []).lookup y.1).isSome=true):=fun⟨n,v⟩ hy=>by
  rcases S.par n (List.of_mem_zip hy).1 with q|q
  ·exact .inl q
  ·exact .inr ⟨q,PySem.W.cellsFrom_some _ _ _ (.inl q)⟩
 refine codeAny_call_function hr.depth (KX _ _ lk) rfl S.co S.gen rfl (PySem.W.codeRec_of KX hcd) (hb _ _ _ _ ?_)
 refine wpAny_newFunctionEnv_cells S.kind hkind fun env he s1 x=>?_
 subst he
 refine⟨lim.keeps x.toInCall.keep,codeAny_func ?_⟩
 obtain⟨t,ht,hq⟩:=hbody A outer s H vs Q E (hr.deeper _) hsp
 have I:Inv (B9 CX P w K mg base N qual scope f cdv A outer s H E) [] (start N vs) H s1:=R1 S hr.hd e0 hl r x
 refine wpAny_mono (ht [] s1 (start N vs) H _ I hq) (fun fl s' hs=>?_) fun e s' hs=>hs
 have fin:∀{σ':St} {H':Hp} {v:V} {u:Value},Inv (B9 CX P w K mg base N qual scope f cdv A outer s H E) [] σ' H' s'→RelV v u→Q v H'→CE outer P w H s Q u s':=
  fun{σ' H' v u} J rv q=>⟨v,H',J.os,J.bare,J.base,J.hok,rv,q⟩
 cases fl with
 |ret u=>
  obtain⟨v,σ',H',J,rv,q⟩:=hs
  exact fin J rv q
 |next=>
  obtain⟨σ',H',J,q⟩:=hs
  exact fin (v:=V.non) (u:=Value.none) J rfl q
 |brk=>
  obtain⟨_,_,_,q⟩:=hs
  exact False.elim q
 |cont=>
  obtain⟨_,_,_,q⟩:=hs
  exact False.elim q
end L2
namespace L2
open PySem PySem.Spec PyProof.Rows
section
variable {X:Cx}{x:Str}{p pos:Pos}{e:Expr}{es:List Expr}{t:TA}{id T:String}{r:List V→Hp→VK→Prop}
def Ze (r:List V→Hp→VK→Prop)(t:TA):TE:=fun σ H Q=>t σ H fun vs H1=>r vs H1 Q
theorem AB (hc:DN X (.builtin id) r) (hg:Gl X x) (hm:X.mg x=none) (hv:bootBuiltins x=some (.builtin id)) (ha:PA X (e::es) t) (hn:x≠"__name__":=by decide) (hdb:(x == ("__debug__":Str))=false:=by decide)
  (he:starEach (e::es) X.env=(false,eval e X.env)::starEach es X.env:=by rfl) (hpl:(backTo pos (starEach es X.env)).any (·.1)=false:=by rfl):PE X (.Call (.Name x p) (e::es) [] pos) (Ze r t):=by
 intro pins s σ H Q I h
 refine wpAny_Call_Name_kw (IR I hg hm hv ?_ hn hdb)
 exact PyProof.Rows.callWith_builtin1 (Bd (ha pos pins s σ H _ I h) fun us s1 ⟨vs,H1,I1,r1,q1⟩=>hc pins s1 σ H1 vs us Q I1 r1 q1) he hpl
theorem BG (hc:DN X (.type T) r) (hg:Gl X x) (hm:X.mg x=none) (hv:bootBuiltins x=some (.type T)) (ha:PA X (e::es) t) (hn:x≠"__name__":=by decide) (hdb:(x == ("__debug__":Str))=false:=by decide)
  (he:starEach (e::es) X.env=(false,eval e X.env)::starEach es X.env:=by rfl) (hpl:(backTo pos (starEach es X.env)).any (·.1)=false:=by rfl):PE X (.Call (.Name x p) (e::es) [] pos) (Ze r t):=by
 intro pins s σ H Q I h
 refine wpAny_Call_Name_kw (IR I hg hm hv ?_ hn hdb)
 exact PyProof.Rows.callWith_type1 (Bd (ha pos pins s σ H _ I h) fun us s1 ⟨vs,H1,I1,r1,q1⟩=>hc pins s1 σ H1 vs us Q I1 r1 q1) he hpl
end
end L2
namespace HT
open PySem PyProof.Rows
section
open PySem.SeqAt
open PySem.AutoSeq1 (wpAny_loadPart')
open PySem.MeetsSeq PySem.MeetsSeq2 PySem.MeetsSeq3
end
section
variable {prog:Program}{w:World}{A:Around}{E:Value→Shared→Prop}{s:Shared}
theorem US {t b:Addr} {vs ws:List Value} {Q:Value→Shared→Prop} (ht:IsTup s.heap t vs.toArray) (hb:IsTup s.heap b ws.toArray) (hv:vs≠[])
  (h1:ws=[]→Q (.ref t) s) (h2:ws≠[]→Q (.ref s.heap.objs.size) { s with heap:=s.heap.push { cls:=.type "tuple",data:=.seq (vs++ws).toArray } })
  (hsz:vs.length+ws.length≤sizeLine):wpAny (model prog w) A (binaryOp .Add (.ref t) (.ref b)) Q E s:=by
 obtain⟨⟨cls,dd,data,sl⟩,ho,hc,n,hd⟩:=id ht
 obtain⟨⟨cls2,dd2,data2,sl2⟩,ho2,hc2,n2,hd2⟩:=id hb
 simp only at hc hd hc2 hd2
 subst hc hd hc2 hd2
 have e:vs.toArray++ws.toArray=(vs++ws).toArray:=by simp
 by_cases hw:ws=[]
 ·exact concat_meets ⟨_,ho,rfl⟩ ⟨_,ho2,rfl⟩ noFill_tuple_add seq_tuple_add PySem.F.slot_tuple_add PySem.F.entry_tuple_add (PySem.F.args_tuple_add_2 _ _)
   (tuple_addW1 t b vs.toArray ws.toArray n n2 dd dd2 sl sl2 (by simpa using hv) (by simp[hw])) ⟨ho,ho2,h1 hw⟩
 ·refine concat_meets ⟨_,ho,rfl⟩ ⟨_,ho2,rfl⟩ noFill_tuple_add seq_tuple_add PySem.F.slot_tuple_add PySem.F.entry_tuple_add (PySem.F.args_tuple_add_2 _ _)
   (tuple_addW2 t b vs.toArray ws.toArray n n2 dd dd2 sl sl2 (by simpa using hv) (by simpa using hw) (by rw[List.size_toArray,List.size_toArray];exact hsz)) ⟨ho,ho2,?_⟩
  rw[e]
  exact h2 hw
def C5 (n d:Nat):Option Int→Nat
 |none=>d
 |some v=>if v<0 then(v+(n:Int)).toNat else min v.toNat n
theorem SC (n d:Nat):C5 n d none=d:=rfl
theorem My (n d k:Nat):C5 n d (some (k:Int))=min k n:=by
 show(if(k:Int)<0 then((k:Int)+(n:Int)).toNat else min (k:Int).toNat n)=min k n
 rw[if_neg (by omega),Int.toNat_natCast]
theorem Wi (n d:Nat)(hd:d≤n)(o:Option Int):C5 n d o≤n:=by
 cases o with
 |none=>exact hd
 |some v=>
  show(if v<0 then(v+(n:Int)).toNat else min v.toNat n)≤n
  by_cases hv:v<0
  ·rw[if_pos hv];omega
  ·rw[if_neg hv];exact Nat.min_le_right _ _
theorem QI (v:Int)(n d:Nat):(if v<0 then max (v+(n:Int)) 0 else min v (n:Int))=((C5 n d (some v):Nat):Int):=by
 show(if v<0 then max (v+(n:Int)) 0 else min v (n:Int))=(((if v<0 then(v+(n:Int)).toNat else min v.toNat n):Nat):Int)
 by_cases hv:v<0
 ·simp only[if_pos hv];omega
 ·simp only[if_neg hv];omega
theorem O8 (lo hi:Option Int)(n:Nat):Builtin.Slice.sliceAdjust lo hi 1 (n:Int)=(((C5 n 0 lo:Nat):Int),((C5 n n hi:Nat):Int)):=by
 have h1:¬((1:Int)<0):=by omega
 unfold Builtin.Slice.sliceAdjust
 simp only[h1,if_false]
 refine Prod.ext ?_ ?_
 ·cases lo with
  |none=>rfl
  |some v=>exact QI v n 0
 ·cases hi with
  |none=>rfl
  |some v=>exact QI v n n
theorem P4 (i j:Nat):Builtin.Slice.slicePlaces (i:Int) (j:Int) 1=j-i:=by
 unfold Builtin.Slice.slicePlaces
 have h1:(1:Int)>0:=by omega
 simp only[h1,if_true,Int.ediv_one]
 split<;>omega
theorem Ko {v:Value}{o:Option Int}{Q:Option Int→Shared→Prop}(p:IsPart v o)(h:Q o s):wpAny (model prog w) A (Builtin.Slice.slicePartIndex v) Q E s:=by
 cases p with
 |none=>exact slicePart_none h
 |int i t=>exact slicePart_int h
theorem Jq {sl:Addr} {vl vu:Value} {lo hi:Option Int} {n:Nat} {Q:Int×Int×Nat→Shared→Prop} (hs:s.heap.IsSliceOf sl vl vu .none) (pl:IsPart vl lo) (pu:IsPart vu hi)
  (h:Q (((C5 n 0 lo:Nat):Int),1,C5 n n hi-C5 n 0 lo) s):wpAny (model prog w) A (Builtin.Slice.sliceApplied (.ref sl) (pure (n:Int))) Q E s:=by
 obtain⟨os,hos,hcs,hds⟩:=id hs
 unfold Builtin.Slice.sliceApplied Builtin.Slice.sliceFields
 refine wpAny_bind (wpAny_bind (wpAny_field hos hds (x:=vl) rfl (wpAny_bind (wpAny_field hos hds (x:=vu) rfl (wpAny_bind (wpAny_field hos hds (x:=.none) rfl (wpAny_pure ?_)))))))
 refine wpAny_bind (slicePart_none ?_)
 show wpAny _ _ (if((1:Int) == 0)=true then _ else _) _ _ s
 rw[if_neg (by decide)]
 refine wpAny_bind (Ko pl (wpAny_bind (Ko pu (wpAny_bind (wpAny_pure ?_)))))
 show wpAny _ _ (match Builtin.Slice.sliceAdjust lo hi 1 (n:Int) with|(lo,hi)=>pure (lo,(1:Int),Builtin.Slice.slicePlaces lo hi 1)) _ _ s
 rw[O8 lo hi n]
 show wpAny _ _ (pure (((C5 n 0 lo:Nat):Int),(1:Int),Builtin.Slice.slicePlaces ((C5 n 0 lo:Nat):Int) ((C5 n n hi:Nat):Int) 1)) _ _ s
 rw[P4]
 exact wpAny_pure h
theorem To (xs:Array Value)(i k:Nat):((List.range k).filterMap fun(m:Nat)=>xs[((i:Int)+(m:Int)*1).toNat]?).toArray=((xs.toList.drop i).take k).toArray:=by
 have e:(fun(m:Nat)=>xs[((i:Int)+(m:Int)*1).toNat]?)=fun m=>xs[i+m]?:=by
  funext m
  have:((i:Int)+(m:Int)*1).toNat=i+m:=by omega
  rw[this]
 rw[e]
 have:=pick_run xs i k
 rw[List.filterMap_map] at this
 have e2:((fun x=>xs[x]?)∘fun x=>i+x)=fun m=>xs[i+m]?:=rfl
 rw[e2] at this
 rw[this]
theorem ID {t sl:Addr} {items:Array Value} {vl vu:Value} {lo hi:Option Int} {Q:Value→Shared→Prop} (ht:IsTup s.heap t items) (hs:s.heap.IsSliceOf sl vl vu .none) (pl:IsPart vl lo) (pu:IsPart vu hi)
  (hw:¬(C5 items.size 0 lo=0∧C5 items.size items.size hi=items.size))
  (h:Q (.ref s.heap.objs.size) { s with heap:=s.heap.push { cls:=.type "tuple",data:=.seq ((items.toList.drop (C5 items.size 0 lo)).take (C5 items.size items.size hi-C5 items.size 0 lo)).toArray } })
  (hsz:items.size≤sizeLine):wpAny (model prog w) A (getItem (.ref t) (.ref sl)) Q E s:=by
 have htake:sizeOk (.seq ((items.toList.drop (C5 items.size 0 lo)).take (C5 items.size items.size hi-C5 items.size 0 lo)).toArray):=by
  show((items.toList.drop (C5 items.size 0 lo)).take (C5 items.size items.size hi-C5 items.size 0 lo)).toArray.size≤sizeLine
  rw[List.size_toArray,List.length_take,List.length_drop,Array.length_toList]
  omega
 have hj:C5 items.size items.size hi≤items.size:=Wi _ _ (Nat.le_refl _) hi
 obtain⟨os,hos,hcs,hds⟩:=id hs
 have hTs:s.TypeIs (.ref sl) "slice":=⟨os,hos,hcs⟩
 unfold getItem
 try with_reducible refine wpAny_holding ?_
 first|refine wpAny_bind (wpAny_pure ?_)|skip
 refine wpAny_bind (wpAny_sequenceKey ht.typeIs (by decide) ?_)
 refine wpAny_bind (wpAny_callSpecial?_slot (name:=Str.ofString "__getitem__") ht.typeIs PyProof.Rows.slot_tuple_getitem
  (wpAny_call_entry PyProof.Rows.slot_tuple_getitem ht.typeIs entry_tuple_getitem ?_ (args_tuple_getitem _ _)))
 show wpAny _ _ (Builtin.Tuple.tupleItemsOf (.ref t) >>= _) _ _ s
 refine wpAny_bind (tupleItemsOf_ ht ?_)
 refine wpAny_bind (wpAny_typeOf hTs ?_)
 rw[if_pos (by decide)]
 refine wpAny_bind (Jq hs pl pu ?_)
 have hno:¬((((C5 items.size 0 lo:Nat):Int) == 0&&(1:Int) == 1&&(C5 items.size items.size hi-C5 items.size 0 lo) == items.size)=true):=by
  intro q
  rw[Bool.and_eq_true,Bool.and_eq_true] at q
  have q1:((C5 items.size 0 lo:Nat):Int)=0:=eq_of_beq q.1.1
  have q2:C5 items.size items.size hi-C5 items.size 0 lo=items.size:=eq_of_beq q.2
  exact hw ⟨by omega,by omega⟩
 show wpAny _ _ (if(((C5 items.size 0 lo:Nat):Int) == 0&&(1:Int) == 1&&(C5 items.size items.size hi-C5 items.size 0 lo) == items.size)=true then _ else _) _ _ s
 rw[if_neg hno,To]
 first
  |exact wpAny_bind (m:=Builtin.Tuple.tupleExact _) (wpAny_newObj_type (wpAny_pure ⟨_,rfl,wpAny_pure h⟩) htake)
  |exact wpAny_bind (m:=Builtin.Tuple.tupleExact _) (wpAny_newObj_type (wpAny_bind (wpAny_pure (wpAny_pure ⟨_,rfl,wpAny_pure h⟩))) htake)
  |exact wpAny_bind (wpAny_bind (m:=Builtin.Tuple.tupleExact _) (wpAny_newObj_type (wpAny_pure (wpAny_pure ⟨_,rfl,wpAny_pure h⟩)) htake))
  |exact wpAny_bind (wpAny_bind (m:=Builtin.Tuple.tupleExact _) (wpAny_newObj_type (wpAny_pure ⟨_,rfl,wpAny_pure h⟩) htake))
end
end HT
namespace L2
open PySem PySem.Spec PyProof.Rows
abbrev TO:=St→Hp→(Option Int→Hp→Prop)→Prop
def PO (X:Cx)(e:Option Expr)(t:TO):Prop:=
 ∀(pins:List (Addr×Obj)) (s:Shared) (σ:St) (H:Hp) (Q:Option Int→Hp→Prop),Inv X pins σ H s→t σ H Q→
  wpAny (model X.prog X.w) X.A (evalPart e X.env) (fun u s'=>∃o H',Inv X pins σ H' s'∧IsPart u o∧Q o H') X.xe s
def U8:TO:=fun _ H Q=>Q none H
def Yd (t:TE):TO:=fun σ H Q=>t σ H fun x H1=>∃i,x=.int i∧Q (some i) H1
theorem intsAre_of {ns:List Int}:∀{us:List Value},AC (ns.map V.int) us→IntsAre us ns:=by
 induction ns with
 |nil=>intro us r;rw[List.map_nil] at r;cases r;exact .nil
 |cons n ns ih=>
  intro us r
  rw[List.map_cons] at r
  cases r with
  |cons r1 r2=>
   obtain⟨t,e⟩:=r1
   subst e
   exact .cons n t (ih r2)
section
variable {X:Cx}{e:Expr}{te:TE}{lo hi:Option Expr}{tl th:TO}{pos p2:Pos}
theorem II:PO X none U8:=by
 intro pins s σ H Q I h
 rw[evalPart_none]
 exact wpAny_pure ⟨none,H,I,.none,h⟩
theorem CD (h:PE X e te):PO X (some e) (Yd te):=by
 intro pins s σ H Q I hw
 rw[evalPart_some]
 refine Bd (h pins s σ H _ I hw) fun u s1 ⟨x,H1,I1,r1,q1⟩=>?_
 obtain⟨i,rfl,q⟩:=q1
 obtain⟨t,rfl⟩:=r1
 exact⟨some i,H1,I1,.int i t,q⟩
def YY (X:Cx)(r:V→Option Int→Option Int→Hp→VK→Prop):Prop:=
 ∀(pins:List (Addr×Obj)) (s:Shared) (σ:St) (H:Hp) (x:V) (v vl vu:Value) (lo hi:Option Int) (sl:Addr) (Q:VK),Inv X pins σ H s→RelV x v→s.heap.IsSliceOf sl vl vu .none→IsPart vl lo→IsPart vu hi→r x lo hi H Q→
  ∃T id,typeLookup (.type T) "__getitem__"=pure (some (.builtin id))∧s.TypeIs v T∧wpAny (model X.prog X.w) X.A (getItem v (.ref sl)) (EP X pins σ Q) X.xe s
def Zk (r:V→Option Int→Option Int→Hp→VK→Prop)(te:TE)(tl th:TO):TE:=fun σ H Q=>te σ H fun x H1=>tl σ H1 fun l H2=>th σ H2 fun u H3=>r x l u H3 Q
theorem Dg {r:V→Option Int→Option Int→Hp→VK→Prop}(hr:YY X r)(he:PE X e te)(hl:PO X lo tl)(hu:PO X hi th):PE X (.Subscript e (.Slice lo hi none p2) pos) (Zk r te tl th):=by
 intro pins s σ H Q I h
 refine Subscript_ (Bd (he pins s σ H _ I h) fun v s1 ⟨x,H1,I1,r1,q1⟩=>?_)
 refine wpAny_Slice (Bd (hl pins s1 σ H1 _ I1 q1) fun vl s2 ⟨l,H2,I2,pl,q2⟩=>Bd (hu pins s2 σ H2 _ I2 q2) fun vu s3 ⟨u,H3,I3,pu,q3⟩=>?_)
 rw[evalPart_none]
 refine wpAny_pure ?_
 have I4:Inv X pins σ H3 { s3 with heap:=s3.heap.push { cls:=.type "slice",data:=.fields #[vl,vu,.none] } }:=I3.kept (t':=s3.toks) fun b ob q=>Heap.get?_push_of_some _ q
 obtain⟨T,id,hT,ht,hg⟩:=hr pins { s3 with heap:=s3.heap.push { cls:=.type "slice",data:=.fields #[vl,vu,.none] } } σ H3 x v vl vu l u s3.heap.objs.size Q I4 r1 (Heap.IsSliceOf.new ..) pl pu q3
 show wpAny (model X.prog X.w) X.A (subscriptTail e (.Slice lo hi none p2) v (.ref s3.heap.objs.size)) (EP X pins σ Q) X.xe { s3 with heap:=s3.heap.push { cls:=.type "slice",data:=.fields #[vl,vu,.none] } }
 exact tail_any (ops:=[.ref s3.heap.objs.size,v]) ht hT hg (by with_unfolding_all rfl)
def GI (xs:List V)(lo hi:Option Int):List V:=(xs.drop (HT.C5 xs.length 0 lo)).take (HT.C5 xs.length xs.length hi-HT.C5 xs.length 0 lo)
theorem Jw (xs:List V)(lo hi:Option Int):(GI xs lo hi).length≤xs.length:=by
 unfold GI
 rw[List.length_take,List.length_drop]
 omega
def Y0 (K:PySem.W.Frag):V→Option Int→Option Int→Hp→VK→Prop:=fun x lo hi H Q=>∃a xs,x=.ref a∧AW K H a xs∧
 ¬(HT.C5 xs.length 0 lo=0∧HT.C5 xs.length xs.length hi=xs.length)∧∀p,H p=none→Q (.ref p) (upd H p (.tup (GI xs lo hi)))
theorem Ul:YY X (Y0 X.K):=by
 intro pins s σ H x v vl vu lo hi sl Q I rx hs pl pu h
 obtain⟨a,xs,rfl,hx,hw,q⟩:=h
 cases rx
 obtain⟨its,r,ht,hz⟩:=I.tuple hx
 have hlen:its.toArray.size=xs.length:=by rw[List.size_toArray];exact r.length.symm
 refine⟨"tuple",_,PyProof.Rows.slot_tuple_getitem.lookup,ht.typeIs,?_⟩
 refine HT.ID ht hs pl pu (by rw[hlen];exact hw) ?_ (by rw[hlen];exact hz)
 rw[hlen]
 refine⟨.ref s.heap.objs.size,_,I.laid (t':=s.toks) (o:=.tup (GI xs lo hi)) (fun b ob q=>Heap.get?_push_of_some _ q) (Nat.le_refl _) ?_,rfl,q _ (I.hok.fresh (Nat.le_refl _))⟩
 exact⟨Nat.le_trans (Jw xs lo hi) hz,_,(r.drop (HT.C5 xs.length 0 lo)).take (HT.C5 xs.length xs.length hi-HT.C5 xs.length 0 lo),IsTup.new _ _⟩
def Yj (K:PySem.W.Frag):R2:=fun x y H Q=>∃a b xs ys,x=.ref a∧y=.ref b∧AW K H a xs∧AW K H b ys∧xs≠[]∧xs.length+ys.length≤sizeLine∧
 (ys=[]→Q (.ref a) H)∧(ys≠[]→∀p,H p=none→Q (.ref p) (upd H p (.tup (xs++ys))))
theorem AC.nil_iff {xs:List V}{us:List Value}(r:AC xs us):us=[]↔xs=[]:=by
 cases r with
 |nil=>simp
 |cons _ _=>simp
theorem Vo:Gd X (binaryOp .Add) (Yj X.K):=by
 intro pins s σ H x y v u Q I rx ry h
 obtain⟨a,b,xs,ys,rfl,rfl,ha,hb,hx,hz,q1,q2⟩:=h
 cases rx
 cases ry
 obtain⟨its,r1,p1,_⟩:=I.tuple ha
 obtain⟨its2,r2,p2,_⟩:=I.tuple hb
 refine HT.US p1 p2 (fun z=>hx (r1.nil_iff.mp z)) (fun z=>⟨.ref a,H,I,rfl,q1 (r2.nil_iff.mp z)⟩) (fun z=>?_) (by rw[←r1.length,←r2.length];exact hz)
 refine⟨.ref s.heap.objs.size,_,I.laid (t':=s.toks) (o:=.tup (xs++ys)) (fun b ob q=>Heap.get?_push_of_some _ q) (Nat.le_refl _) ?_,rfl,q2 (fun w=>z (r2.nil_iff.mpr w)) _ (I.hok.fresh (Nat.le_refl _))⟩
 exact⟨by rw[List.length_append];exact hz,_,r1.append r2,IsTup.new _ _⟩
end
end L2
namespace L2
open PySem PySem.Spec PyProof.Rows
def R4 (n:Nat)(i:Int):Option Nat:=if 0≤i then(if i<n then some i.toNat else none) else if -(n:Int)≤i then some (i+n).toNat else none
def He {α:Type}(xs:List α)(i:Int):Option α:=(R4 xs.length i).bind fun j=>xs[j]?
theorem QR {n:Nat}{i:Int}{j:Nat}(h:R4 n i=some j):seqIndex? i n=some j∧j<n∧-(n:Int)≤i∧i<n:=by
 unfold R4 at h
 by_cases h0:0≤i
 ·rw[if_pos h0] at h
  by_cases h1:i<n
  ·rw[if_pos h1] at h
   have e:i.toNat=j:=Option.some.inj h
   exact⟨by rw[seqIndex_of h0 h1,e],by omega,by omega,h1⟩
  ·rw[if_neg h1] at h;cases h
 ·rw[if_neg h0] at h
  by_cases h1:-(n:Int)≤i
  ·rw[if_pos h1] at h
   have e:(i+n).toNat=j:=Option.some.inj h
   exact⟨by rw[seqIndex_neg (by omega) h1,e],by omega,h1,by omega⟩
  ·rw[if_neg h1] at h;cases h
theorem MY {α:Type}{xs:List α}{i:Int}{v:α}(h:He xs i=some v):∃j,seqIndex? i xs.length=some j∧xs[j]?=some v∧j<xs.length∧-(xs.length:Int)≤i∧i<xs.length:=by
 unfold He at h
 cases e:R4 xs.length i with
 |none=>rw[e] at h;cases h
 |some j=>
  rw[e] at h
  obtain⟨h1,h2,h3,h4⟩:=QR e
  exact⟨j,h1,h,h2,h3,h4⟩
theorem CP {α:Type}{xs:List α}{j:Nat}{v:α}(h:xs[j]?=some v):He xs (j:Int)=some v:=by
 have hj:j<xs.length:=(List.getElem?_eq_some_iff.mp h).1
 have e:R4 xs.length (j:Int)=some j:=by
  unfold R4
  rw[if_pos (by omega),if_pos (by omega)];simp
 unfold He;rw[e];exact h
theorem Tn {α:Type}(xs:List α)(v:α):He (xs++[v]) (-1)=some v:=by
 have hl:(xs++[v]).length=xs.length+1:=by simp
 have e:R4 (xs++[v]).length (-1)=some xs.length:=by
  unfold R4
  rw[hl,if_neg (by decide),if_pos (by omega)]
  congr 1
  omega
 unfold He
 rw[e]
 show(xs++[v])[xs.length]?=some v
 simp
def Vi (b:Expr):Prop:=∀o i,subscripted b false o i=operate [o,i] (getItem o i)
def Yi (X:Cx)(r:R2):Prop:=
 ∀(value slice:Expr) (pins:List (Addr×Obj)) (s:Shared) (σ:St) (H:Hp) (x y:V) (v u:Value) (Q:VK),Inv X pins σ H s→RelV x v→RelV y u→r x y H Q→
  subscripted slice false v u=operate [v,u] (getItem v u)→wpAny (model X.prog X.w) X.A (subscriptTail value slice v u) (EP X pins σ Q) X.xe s
def Yt (X:Cx)(id:String)(r:V→List V→Hp→VK→Prop):Prop:=
 ∀(pins:List (Addr×Obj)) (s:Shared) (σ:St) (H:Hp) (x:V) (xs:List V) (v:Value) (us:List Value) (Q:VK),Inv X pins σ H s→RelV x v→AC xs us→r x xs H Q→
  wpAny (model X.prog X.w) X.A (call (.builtin id) (v::us)) (EP X pins σ Q) X.xe s
section
variable {X:Cx}{a b:Expr}{ta tb:TE}{pos:Pos}
theorem Ay {r:R2}(hr:Yi X r)(ha:PE X a ta)(hb:PE X b tb)(hs:Vi b):PE X (.Subscript a b pos) (Yp r ta tb):=by
 intro pins s σ H Q I h
 exact Subscript_ (WD ha hb I h fun v u s2 x y H2 I2 rx ry q=>hr a b pins s2 σ H2 x y v u Q I2 rx ry q (hs _ _))
def Y5 (K:PySem.W.Frag):R2:=fun x y H Q=>∃p xs i v,x=.ref p∧y=.int i∧AM K H p xs∧He xs i=some v∧Q v H
def Xy (K:PySem.W.Frag):R2:=fun x y H Q=>∃p xs i v,x=.ref p∧y=.int i∧AW K H p xs∧He xs i=some v∧Q v H
def YC:R2:=fun x y H Q=>∃z i c,x=.str z∧y=.int i∧z.length≤sizeLine∧He z.cps.toList i=some c∧Q (.str ⟨#[c]⟩) H
theorem AY:Yi X (Y5 X.K):=by
 intro value slice pins s σ H x y v u Q I rx ry h hs
 obtain⟨p,xs,i,z,rfl,rfl,hq,he,q⟩:=h
 cases rx
 obtain⟨t,rfl⟩:=ry
 obtain⟨its,r,pl,hz⟩:=I.list hq
 obtain⟨j,h1,h2,h3,h4,h5⟩:=MY he
 obtain⟨w,ew,rw'⟩:=r.get h2
 have hl:=r.length
 have hn:=Ji
 have fin:EP X pins σ Q w s:=⟨z,H,I,rw',q⟩
 by_cases h0:0≤i
 ·have hj:i.toNat=j:=by
   rw[seqIndex_of h0 h5] at h1
   exact Option.some.inj h1
  exact item_listR pl.isList h0 (by omega) (by rw[hj];simpa using ew) fin hs
 ·have hj:(i+(its.toArray.size:Int)).toNat=j:=by
   rw[seqIndex_neg (by omega) h4] at h1
   rw[List.size_toArray,←hl]
   exact Option.some.inj h1
  exact subscriptTail_builtinR (x:=w) pl.isList.typeIs slot_list_getitem.lookup
   (wpAny_getItem_list_neg (Q:=fun r s'=>r=w∧EP X pins σ Q r s') pl.isList (by omega) (by rw[List.size_toArray]<;>omega) (by omega) (by rw[hj];simpa using ew) ⟨rfl,fin⟩) hs
theorem AF:Yi X (Xy X.K):=by
 intro value slice pins s σ H x y v u Q I rx ry h hs
 obtain⟨p,xs,i,z,rfl,rfl,hq,he,q⟩:=h
 cases rx
 obtain⟨t,rfl⟩:=ry
 obtain⟨its,r,pl,hz⟩:=I.tuple hq
 obtain⟨j,h1,h2,h3,h4,h5⟩:=MY he
 obtain⟨w,ew,rw'⟩:=r.get h2
 have hl:=r.length
 have hn:=Ji
 have fin:EP X pins σ Q w s:=⟨z,H,I,rw',q⟩
 exact subscriptTail_builtinR (x:=w) pl.typeIs slot_tuple_getitem.lookup
  (getItem_tuple (j:=j) (Q:=fun r s'=>r=w∧EP X pins σ Q r s') pl (by omega) (by omega) (by rw[List.size_toArray,←hl];exact h1) (by simpa using ew) ⟨rfl,fin⟩) hs
theorem Qa:Yi X YC:=by
 intro value slice pins s σ H x y v u Q I rx ry h hs
 obtain⟨z,i,c,rfl,rfl,hz,he,q⟩:=h
 obtain⟨t,rfl⟩:=rx
 obtain⟨t',rfl⟩:=ry
 obtain⟨j,h1,h2,h3,h4,h5⟩:=MY he
 have hl:z.cps.toList.length=z.length:=by simp[Str.length]
 rw[hl] at h1 h4 h5
 have hn:=Ji
 exact tail_any (typeIs_str s z t) slot_str_getitem.lookup (getItem_str (c:=c) (by
  have e1:decide (i < -(2^63:Int))=false:=decide_eq_false (by omega)
  have e2:decide (i≥2^63)=false:=decide_eq_false (by omega)
  rw[e1,e2,Bool.or_false]) (by rw[h1];simpa using h2) ⟨.str ⟨#[c]⟩,H,I.tok _,⟨_,rfl⟩,q⟩) hs
theorem OX (its:List Value)(n j:Nat)(u:Value):Obj.mapSeq (·.setIfInBounds j u) { cls:=.type "list",data:=.seq its.toArray n }={ cls:=.type "list",data:=.seq (its.set j u).toArray n }:=by
 simp[Obj.mapSeq]
theorem Inv.lst {pins:List (Addr×Obj)}{σ:St}{H:Hp}{s:Shared}{p:Addr}{xs:List V}(I:Inv X pins σ H s)(h:H p=some (.lst xs)) :
  ∃(its:List Value) (n:Nat),AC xs its∧s.heap.get? p=some { cls:=.type "list",data:=.seq its.toArray n }∧xs.length≤sizeLine:=by
 obtain⟨z,its,n,r,e⟩:=I.hok p _ h
 exact⟨its,n,r,e,z⟩
theorem Inv.lstUpd {pins:List (Addr×Obj)} {σ:St} {H:Hp} {s:Shared} {p:Addr} {xs ys:List V} {its its':List Value} {n n':Nat} {f:Obj→Obj} (I:Inv X pins σ H s) (h:H p=some (.lst xs))
  (ho:s.heap.get? p=some { cls:=.type "list",data:=.seq its.toArray n }) (hf:f { cls:=.type "list",data:=.seq its.toArray n }={ cls:=.type "list",data:=.seq its'.toArray n' }) (r:AC ys its') (hz:ys.length≤sizeLine) (t:Nat) :
  Inv X pins σ (upd H p (.lst ys)) { s with heap:=s.heap.update p f,toks:=t }:=by
 have e:(s.heap.update p f).get? p=some { cls:=.type "list",data:=.seq its'.toArray n' }:=by
  rw[Heap.get?_update_self f ho (by rw[hf]<;>rfl),hf]
 refine I.write (x:=p) (e:=p) (by rw[h];trivial) (.inl rfl) (fun b u hb q=>(Heap.get?_update_other _ _ (Ne.symm hb)).trans q) ⟨_,e⟩ ?_
 exact⟨hz,its',n',r,e⟩
def X2:V→V→V→Hp→(Hp→Prop)→Prop:=fun o i v H Q=>∃p xs k j,o=.ref p∧i=.int k∧H p=some (.lst xs)∧R4 xs.length k=some j∧Q (upd H p (.lst (xs.set j v)))
theorem set_list:X5 X X2:=by
 intro pins s σ H o i v ov iv u Q I ro ri rv h
 obtain⟨p,xs,k,j,rfl,rfl,hp,hj,q⟩:=h
 cases ro
 obtain⟨t,rfl⟩:=ri
 obtain⟨its,n,r,ho,hz⟩:=I.lst hp
 obtain⟨h1,h2,h3,h4⟩:=QR hj
 have hl:=r.length
 have hn:=Ji
 have I':Inv X pins σ (upd H p (.lst (xs.set j v))) { s with heap:=s.heap.update p (Obj.mapSeq (·.setIfInBounds j u)) }:=
  I.lstUpd hp ho (OX its n j u) (r.set rv j) (by rw[List.length_set];exact hz) s.toks
 by_cases h0:0≤k
 ·have hk:k.toNat=j:=by
   rw[seqIndex_of h0 h4] at h1
   exact Option.some.inj h1
  exact PySem.W.ki_setAt ho h0 (by omega) (by rw[List.size_toArray,←hl];exact h4) (by rw[hk];exact⟨_,I',q⟩)
 ·have hk:(k+(its.toArray.size:Int)).toNat=j:=by
   rw[seqIndex_neg (by omega) h3] at h1
   rw[List.size_toArray,←hl]
   exact Option.some.inj h1
  exact PySem.W.ki_setBack ho (by omega) (by rw[List.size_toArray,←hl];exact h3) (by omega) (by rw[hk];exact⟨_,I',q⟩)
theorem Mz (lo hi:Option Int)(n:Nat):(sliceBounds lo hi none n).1=((HT.C5 n 0 lo:Nat):Int)∧(sliceBounds lo hi none n).2.1=((HT.C5 n n hi:Nat):Int)∧(sliceBounds lo hi none n).2.2=1:=by
 refine⟨?_,?_,rfl⟩
 ·cases lo with
  |none=>simp[sliceBounds,HT.C5]
  |some i=>
   simp only[sliceBounds,HT.C5,Option.getD_none,show(1:Int)>0 by decide,if_true]
   by_cases h:i<0
   ·simp only[h,if_true]<;>omega
   ·simp only[h,if_false]<;>omega
 ·cases hi with
  |none=>simp[sliceBounds,HT.C5]
  |some i=>
   simp only[sliceBounds,HT.C5,Option.getD_none,show(1:Int)>0 by decide,if_true]
   by_cases h:i<0
   ·simp only[h,if_true]<;>omega
   ·simp only[h,if_false]<;>omega
theorem Ll (its:List Value)(lo hi:Option Int):slicePick its.toArray lo hi none=((its.drop (HT.C5 its.length 0 lo)).take (HT.C5 its.length its.length hi-HT.C5 its.length 0 lo)).toArray:=by
 obtain⟨h1,h2,h3⟩:=Mz lo hi its.toArray.size
 unfold slicePick
 rw[h1,h2,h3]
 simp only[sliceRange_one,pick_run,List.size_toArray]<;>rfl
def YD (K:PySem.W.Frag):V→Option Int→Option Int→Hp→VK→Prop:=fun x lo hi H Q=>∃a xs,x=.ref a∧AM K H a xs∧∀p,H p=none→Q (.ref p) (upd H p (.lst (GI xs lo hi)))
theorem FN:YY X (YD X.K):=by
 intro pins s σ H x v vl vu lo hi sl Q I rx hs pl pu h
 obtain⟨a,xs,rfl,hx,q⟩:=h
 cases rx
 obtain⟨its,r,ht,hz⟩:=I.list hx
 have hlen:=r.length
 refine⟨"list",_,slot_list_getitem.lookup,ht.isList.typeIs,?_⟩
 refine wpAny_getItem_list_slice ht.isList hs pl pu .none (by simp) ?_ (by rw[List.size_toArray]<;>omega)
 rw[Ll,←hlen]
 refine⟨.ref s.heap.objs.size,_,I.laid (t':=s.toks) (o:=.lst (GI xs lo hi)) (fun b ob q=>Heap.get?_push_of_some _ q) (Nat.le_refl _) ?_,rfl,q _ (I.hok.fresh (Nat.le_refl _))⟩
 exact⟨Nat.le_trans (Jw xs lo hi) hz,_,0,(r.drop (HT.C5 xs.length 0 lo)).take (HT.C5 xs.length xs.length hi-HT.C5 xs.length 0 lo),Heap.get?_push_size _ rfl⟩
def GG:V→Bool
 | .non=>true
 | .bl _=>true
 | .int _=>true
 | .str _=>true
 |_=>false
def Lq:V→V→Bool
 | .non,.non=>true
 | .bl a,.bl b=>a == b
 | .bl a,.int b=>(if a then 1 else 0) == b
 | .int a,.bl b=>a == (if b then 1 else 0)
 | .int a,.int b=>a == b
 | .str a,.str b=>a == b
 |_,_=>false
theorem KU {A:Around}{s:Shared}{y x:V}{u v:Value}(ry:RelV y u)(rx:RelV x v)(fy:GG y=true)(fx:GG x=true):SeqAt.EqAt A s u v (Lq y x):=by
 cases y with
 |non=>
  cases ry
  cases x with
  |non=>cases rx;exact SeqAt.EqAt.same _
  |bl b=>cases rx;exact SeqAt.EqAt.none_bool b
  |int b=>obtain⟨t,rfl⟩:=rx;exact SeqAt.EqAt.none_int b t
  |str b=>obtain⟨t,rfl⟩:=rx;exact SeqAt.EqAt.none_str b t
  |_=>exact absurd (show false=true from fx) Bool.false_ne_true
 |bl a=>
  cases ry
  cases x with
  |non=>cases rx;exact SeqAt.EqAt.bool_none a
  |bl b=>cases rx;exact SeqAt.EqAt.bool_bool a b
  |int b=>obtain⟨t,rfl⟩:=rx;exact SeqAt.EqAt.bool_int a b t
  |str b=>obtain⟨t,rfl⟩:=rx;exact SeqAt.EqAt.bool_str a b t
  |_=>exact absurd (show false=true from fx) Bool.false_ne_true
 |int a=>
  obtain⟨t',rfl⟩:=ry
  cases x with
  |non=>cases rx;exact SeqAt.EqAt.int_none a t'
  |bl b=>cases rx;exact SeqAt.EqAt.int_bool a t' b
  |int b=>obtain⟨t,rfl⟩:=rx;exact SeqAt.EqAt.int_int a t' b t
  |str b=>obtain⟨t,rfl⟩:=rx;exact SeqAt.EqAt.int_str a t' b t
  |_=>exact absurd (show false=true from fx) Bool.false_ne_true
 |str a=>
  obtain⟨t',rfl⟩:=ry
  cases x with
  |non=>cases rx;exact SeqAt.EqAt.str_none a t'
  |bl b=>cases rx;exact SeqAt.EqAt.str_bool a t' b
  |int b=>obtain⟨t,rfl⟩:=rx;exact SeqAt.EqAt.str_int a t' b t
  |str b=>obtain⟨t,rfl⟩:=rx;exact SeqAt.EqAt.str_str a t' b t
  |_=>exact absurd (show false=true from fx) Bool.false_ne_true
 |_=>exact absurd (show false=true from fy) Bool.false_ne_true
def Vz (x:V)(u:Value):Bool:=match u with
 | .none=>Lq .non x
 | .bool b=>Lq (.bl b) x
 | .int i _=>Lq (.int i) x
 | .str z _=>Lq (.str z) x
 |_=>false
theorem TM {x y:V}{u:Value}(r:RelV y u)(f:GG y=true):Vz x u=Lq y x:=by
 cases y with
 |non=>cases r;rfl
 |bl b=>cases r;rfl
 |int i=>obtain⟨t,rfl⟩:=r;rfl
 |str z=>obtain⟨t,rfl⟩:=r;rfl
 |_=>exact absurd (show false=true from f) Bool.false_ne_true
theorem Nk {x:V}:∀{xs:List V} {us:List Value},AC xs us→xs.all GG=true→us.any (Vz x)=xs.any fun y=>Lq y x
 |_,_,.nil,_=>rfl
 |y::xs,u::us,.cons r t,f=>by
  rw[List.all_cons,Bool.and_eq_true] at f
  rw[List.any_cons,List.any_cons,TM r f.1,Nk t f.2]
theorem KI {A:Around}{s:Shared}{x:V}{v:Value}(rx:RelV x v)(fx:GG x=true):∀{xs:List V} {us:List Value},AC xs us→xs.all GG=true→∀u∈us,SeqAt.EqAt A s u v (Vz x u)
 |_,_,.nil,_=>fun u hu=>by cases hu
 |y::xs,u::us,.cons r t,f=>fun u' hu=>by
  rw[List.all_cons,Bool.and_eq_true] at f
  rcases List.mem_cons.mp hu with rfl|hu
  ·rw[TM r f.1];exact KU r rx f.1 fx
  ·exact KI rx fx t f.2 u' hu
def W4 (x:V)(xs:List V):Bool:=xs.any fun y=>Lq y x
def Zm (K:PySem.W.Frag)(neg:Bool):R2:=fun x y H Q=>∃p xs,y=.ref p∧(AM K H p xs∨AW K H p xs)∧GG x=true∧xs.all GG=true∧Q (.bl (if neg then !W4 x xs else W4 x xs)) H
theorem MN:Gd X (compareOp .NotIn) (Zm X.K true):=by
 intro pins s σ H x y v u Q I rx ry h
 obtain⟨p,xs,rfl,hq,fx,fs,q⟩:=h
 cases ry
 rcases hq with hq|hq
 ·obtain⟨its,r,pl,hz⟩:=I.list hq
  refine SeqAt.notIn_listAt (Vz x) pl.isList (fun w hw=>KI rx fx r fs w (by simpa using hw)) ⟨.bl _,H,I,rfl,?_⟩
  rw[show its.toArray.any (Vz x)=its.any (Vz x) by simp,Nk r fs]
  exact q
 ·obtain⟨its,r,pl,hz⟩:=I.tuple hq
  refine SeqAt.notIn_tupleAt (Vz x) pl (fun w hw=>KI rx fx r fs w (by simpa using hw)) ⟨.bl _,H,I,rfl,?_⟩
  rw[show its.toArray.any (Vz x)=its.any (Vz x) by simp,Nk r fs]
  exact q
theorem AN:DN X (.builtin "len") (fun xs H Q=>∃p ys,xs=[.ref p]∧(AM X.K H p ys∨AW X.K H p ys)∧Q (.int ys.length) H):=by
 intro pins s σ H xs us Q I r h
 obtain⟨p,ys,rfl,hq,q⟩:=h
 obtain⟨u,rfl,rx⟩:=vals1 r
 cases rx
 have hn:=Ji
 rcases hq with hq|hq
 ·obtain⟨its,r',pl,hz⟩:=I.list hq
  have hlen:=r'.length
  exact Calls.call_len_list pl.isList (by simp only[List.size_toArray]<;>omega) ⟨.int ys.length,H,I.tok _,⟨s.toks+1,by rw[List.size_toArray,hlen]⟩,q⟩
 ·obtain⟨its,r',pl,hz⟩:=I.tuple hq
  have hlen:=r'.length
  exact len_tuple pl (by simp only[List.size_toArray]<;>omega) ⟨.int ys.length,H,I.tok _,⟨s.toks+1,by rw[List.size_toArray,hlen]⟩,q⟩
theorem FE:DN X (.builtin "len") (fun xs H Q=>∃z,xs=[.str z]∧z.length≤sizeLine∧Q (.int z.length) H):=by
 intro pins s σ H xs us Q I r h
 obtain⟨z,rfl,hz,q⟩:=h
 obtain⟨u,rfl,t,rfl⟩:=vals1 r
 have hn:=Ji
 exact len_str (by omega) ⟨.int z.length,H,I.tok _,⟨_,rfl⟩,q⟩
theorem Dd:DN X (.type "list") (fun xs H Q=>∃p ys,xs=[.ref p]∧(AM X.K H p ys∨AW X.K H p ys)∧∀l,H l=none→Q (.ref l) (upd H l (.lst ys))):=by
 intro pins s σ H xs us Q I r h
 obtain⟨p,ys,rfl,hq,q⟩:=h
 obtain⟨u,rfl,rx⟩:=vals1 r
 cases rx
 have fin:∀(its:List Value),AC ys its→ys.length≤sizeLine→∀(h':Heap) (c':Nat),(∀b o',s.heap.get? b=some o'→h'.get? b=some o')→
   h'.get? s.heap.objs.size=some { cls:=.type "list",dict:=none,data:=.seq its.toArray c',slots:=#[] }→EP X pins σ Q (.ref s.heap.objs.size) { s with heap:=h' }:=fun its r' hz h' c' kp e=>
  ⟨.ref s.heap.objs.size,_,I.laid (t':=s.toks) kp (Nat.le_refl _) (show AZ X.prog X.w _ h' _ (.lst ys) from⟨hz,its,c',r',e⟩),rfl,q _ (I.hok.fresh (Nat.le_refl _))⟩
 rcases hq with hq|hq
 ·obtain⟨its,r',pl,hz⟩:=I.list hq
  have hlen:=r'.length
  obtain⟨o,ho,hc,n,hd⟩:=pl.isList
  exact call_list_seq p (.inl rfl) ho hc hd (fun h' c' kp e=>fin its r' hz h' c' kp e) (by simp only[List.size_toArray]<;>omega)
 ·obtain⟨its,r',pl,hz⟩:=I.tuple hq
  have hlen:=r'.length
  obtain⟨o,ho,hc,n,hd⟩:=pl
  exact call_list_seq p (.inr rfl) ho hc hd (fun h' c' kp e=>fin its r' hz h' c' kp e) (by simp only[List.size_toArray]<;>omega)
theorem E8:DN X (.type "tuple") (fun xs H Q=>∃p ys,xs=[.ref p]∧((AM X.K H p ys∧∀l,H l=none→Q (.ref l) (upd H l (.tup ys)))∨(AW X.K H p ys∧Q (.ref p) H))):=by
 intro pins s σ H xs us Q I r h
 obtain⟨p,ys,rfl,h⟩:=h
 obtain⟨u,rfl,rx⟩:=vals1 r
 cases rx
 rcases h with⟨hq,q⟩|⟨hq,q⟩
 ·obtain⟨its,r',pl,hz⟩:=I.list hq
  have hlen:=r'.length
  refine call_tuple_list pl.isList (fun h' kp=>?_) (by simp only[List.size_toArray]<;>omega)
  have I1:Inv X pins σ H { s with heap:=h' }:=I.kept (t':=s.toks) kp
  have I2:Inv X pins σ (upd H h'.objs.size (.tup ys)) { s with heap:=h'.push { cls:=.type "tuple",data:=.seq its.toArray } }:=
   I1.laid (t':=s.toks) (fun b o e=>Heap.get?_push_of_some _ e) (Nat.le_refl _) (show AZ X.prog X.w _ _ _ (.tup ys) from⟨hz,its,r',IsTup.new _ _⟩)
  exact⟨.ref h'.objs.size,_,I2,rfl,q _ (I1.hok.fresh (Nat.le_refl _))⟩
 ·obtain⟨its,r',pl,hz⟩:=I.tuple hq
  exact call_tuple_same pl ⟨.ref p,H,I,rfl,q⟩
def Y9 (K:PySem.W.Frag)(T:String)(x:V)(H:Hp):Prop:=match x with
 | .str _=>T="str"
 | .int _=>T="int"
 | .ref p=>(T="list"∧∃xs,AM K H p xs)∨(T="tuple"∧∃o,K.lookup p=some o∧o.cls=.type "tuple"∧o.dict=none)∨
   (T="dict"∧((∃kvs,H p=some (.dK kvs))∨∃kvs,H p=some (.dT kvs)))∨(T="set"∧∃S n,H p=some (.set S n))
 |_=>False
theorem V9 {pins:List (Addr×Obj)}{σ:St}{H:Hp}{s:Shared}{T:String}{x:V}{v:Value}(I:Inv X pins σ H s)(r:RelV x v)(ty:Y9 X.K T x H) :
  s.TypeIs v T∧∀a,v=.ref a→∃ob,s.heap.get? a=some ob∧ob.dict=none:=by
 cases x with
 |str z=>
  obtain⟨t,rfl⟩:=r
  cases(show T="str" from ty)
  exact⟨typeIs_str s z t,fun _ e=>nomatch e⟩
 |int i=>
  obtain⟨t,rfl⟩:=r
  cases(show T="int" from ty)
  exact⟨typeIs_int s i t,fun _ e=>nomatch e⟩
 |ref p=>
  cases r
  rcases ty with⟨rfl,xs,hq⟩|⟨rfl,o,hk,hc,hd⟩|⟨rfl,hk⟩|⟨rfl,S,n,hk⟩
  ·obtain⟨its,_,pl,_⟩:=I.list hq
   refine⟨pl.isList.typeIs,fun a e=>?_⟩
   cases e
   obtain⟨o,n,e,c,hd,_⟩:=pl
   exact⟨o,e,hd⟩
  ·refine⟨⟨o,I.kIn p o hk,hc⟩,fun a e=>?_⟩
   cases e
   exact⟨o,I.kIn _ o hk,hd⟩
  ·have z:∃o,s.heap.get? p=some o∧o.ExactDict:=by
    rcases hk with⟨kvs,hk⟩|⟨kvs,hk⟩
    ·obtain⟨_,_,_,_,o,_,_,e,ex,_⟩:=I.hok p _ hk
     exact⟨o,e,ex⟩
    ·obtain⟨_,_,_,_,o,_,_,e,ex,_⟩:=I.hok p _ hk
     exact⟨o,e,ex⟩
   obtain⟨o,e,ex⟩:=z
   refine⟨⟨o,e,ex.1⟩,fun a e2=>?_⟩
   cases e2
   exact⟨o,e,ex.2.1⟩
  ·obtain⟨o,_,_,_,e,ex,_⟩:=I.hok p _ hk
   refine⟨⟨o,e,ex.1⟩,fun a e2=>?_⟩
   cases e2
   exact⟨o,e,ex.2.1⟩
 |_=>exact False.elim ty
def Zd (K:PySem.W.Frag)(T:String)(r:V→List V→Hp→VK→Prop)(to:TE)(t:TA):TE:=fun σ H Q=>to σ H fun x H1=>Y9 K T x H1∧t σ H1 fun xs H2=>r x xs H2 Q
variable {o e:Expr}{es:List Expr}{to:TE}{t:TA}{name:Str}{apos cpos:Pos}{T id:String}{r:V→List V→Hp→VK→Prop}
theorem Gk (pa:PlainAttrs T) (slot:Slot T name id) (hty:typeOf (.builtin id)=pure (.type "method_descriptor")) (hm:Yt X id r) (ho:PE X o to) (ha:PA X (e::es) t)
  (hbase:attributeBase o name X.env (eval o X.env)=eval o X.env:=by rfl)
  (hfew:((backTo cpos (starEach (e::es) X.env)).all (fun x=>!x.1)&&(backToKw cpos (keywordEach [] X.env)).all (fun x=>x.1.isSome)
   && decide ((e::es).length+([]:List Keyword).length+(if([]:List Keyword).isEmpty then 0 else 1)<30))=true:=by rfl)
  (hline:(apos.endLine == cpos.line)=true:=by rfl) (hs:starEach (e::es) X.env=(false,eval e X.env)::starEach es X.env:=by rfl) (hplain:(backTo cpos (starEach es X.env)).any (·.1)=false:=by rfl) :
  PE X (.Call (.Attribute o name apos) (e::es) [] cpos) (Zd X.K T r to t):=by
 intro pins s σ H Q I h
 refine wpAny_Call_method_late hbase hfew hline rfl (Bd (ho pins s σ H _ I h) fun v s1 ⟨x,H1,I1,r1,ty,q1⟩=>?_)
 obtain⟨h1,h2⟩:=V9 I1 r1 ty
 refine⟨T,id,pa,slot,hty,h1,h2,?_⟩
 have hA:=ha cpos pins s1 σ H1 _ I1 q1
 rw[hs] at hA ⊢
 refine Calls.callWith_builtin (by show(false||(backTo cpos (starEach es X.env)).any (·.1))=false;rw[hplain]<;>rfl) (Calls.evalArgs_plain ?_)
 exact Bd hA fun us s2 ⟨vs,H2,I2,r2,q2⟩=>hm pins s2 σ H2 x vs v us Q I2 r1 r2 q2
end
end L2
namespace L2
open PySem PySem.Spec PyProof.Rows
def YL (X:Cx)(id:String)(r:V→List V→Hp→VK→Prop):Prop:=
 ∀(pins:List (Addr×Obj)) (s:Shared) (σ:St) (H:Hp) (x:V) (xs:List V) (v:Value) (us:List Value) (Q:VK),Inv X pins σ H s→RelV x v→AC xs us→r x xs H Q→
  wpAny (model X.prog X.w) X.A (call (.builtin id) (v::us)) (EP X pins σ Q) X.xe s
theorem AC.one:∀{x:V} {us:List Value},AC [x] us→∃u,us=[u]∧RelV x u
 |_,_,.cons r .nil=>⟨_,rfl,r⟩
theorem AC.zero:∀{us:List Value},AC [] us→us=[]
 |_,.nil=>rfl
theorem AC.dropLast {xs:List V}{us:List Value}(h:AC xs us):AC xs.dropLast us.dropLast:=by
 induction h with
 |nil=>exact .nil
 |cons r t ih=>
  cases t with
  |nil=>exact .nil
  |cons q t'=>exact .cons r ih
theorem AC.eraseIdx:∀{xs:List V} {us:List Value} (i:Nat),AC xs us→AC (xs.eraseIdx i) (us.eraseIdx i)
 |_,_,_,.nil=>.nil
 |_,_,0,.cons _ t=>t
 |_,_,i+1,.cons r t=>.cons r (AC.eraseIdx i t)
theorem AC.reverse {xs:List V}{us:List Value}(h:AC xs us):AC xs.reverse us.reverse:=by
 induction h with
 |nil=>exact .nil
 |cons r t ih=>rw[List.reverse_cons,List.reverse_cons];exact AC.append ih (.cons r .nil)
theorem AC.rep {xs:List V}{us:List Value}(h:AC xs us):∀k:Nat,AC (List.replicate k xs).flatten (List.replicate k us).flatten
 |0=>.nil
 |k+1=>by
  rw[List.replicate_succ,List.replicate_succ,List.flatten_cons,List.flatten_cons]
  exact AC.append h (AC.rep h k)
theorem Ma {α:Type}:∀(l:List α) (i:Nat),(l.eraseIdx i).length≤l.length
 |[],_=>Nat.le_refl _
 |_::_,0=>Nat.le_succ _
 |_::r,i+1=>Nat.succ_le_succ (Ma r i)
section
variable {X:Cx}{pins:List (Addr×Obj)}{σ:St}{H:Hp}{s:Shared}{l b:Addr}{xs ys zs:List V}
theorem Inv.lset {its its':List Value} {n:Nat} {f:Array Value→Array Value} {t':Nat} (I:Inv X pins σ H s) (hH:H l=some (.lst xs))
  (e:s.heap.get? l=some { cls:=.type "list",data:=.seq its.toArray n }) (hf:f its.toArray=its'.toArray) (hv:AC ys its') (hz:ys.length≤sizeLine) :
  Inv X pins σ (upd H l (.lst ys)) { s with heap:=s.heap.update l (Obj.mapSeq f),toks:=t' }:=by
 have q:=PySem.IsL.update e f
 rw[hf] at q
 refine I.write (x:=l) (e:=l) (by rw[hH];exact trivial) (.inl rfl) (fun b' u hb hu=>(Heap.get?_update_other s.heap (Obj.mapSeq f) (Ne.symm hb)).trans hu) ⟨_,q⟩ ?_
 exact⟨hz,its',_,hv,q⟩
theorem Inv.lnew {its:List Value}{t':Nat}(I:Inv X pins σ H s)(hv:AC ys its)(hz:ys.length≤sizeLine) :
  Inv X pins σ (upd H s.heap.objs.size (.lst ys)) { s with heap:=s.heap.push { cls:=.type "list",data:=.seq its.toArray },toks:=t' }:=
 I.laid (fun _ _ q=>Heap.get?_push_of_some _ q) (Nat.le_refl _) ⟨hz,its,0,hv,Heap.get?_push_size _ rfl⟩
theorem Inv.fresh (I:Inv X pins σ H s):H s.heap.objs.size=none:=I.hok.fresh (Nat.le_refl _)
theorem Inv.lstM (I:Inv X pins σ H s)(hH:H l=some (.lst xs)):xs.length≤sizeLine∧∃(its:List Value) (n:Nat),AC xs its∧xs.length=its.length∧s.heap.get? l=some { cls:=.type "list",data:=.seq its.toArray n }:=by
 obtain⟨z,its,n,r,e⟩:=I.hok l _ hH
 exact⟨z,its,n,r,r.length,e⟩
theorem Sr {n:Nat}(h:n≤sizeLine):Builtin.List.listTooLong n=false:=by
 unfold Builtin.List.listTooLong
 exact decide_eq_false (by omega)
end
section
variable {X:Cx}
def VQ:V→List V→Hp→VK→Prop:=fun x vs H Q=>∃l xs y,x=.ref l∧vs=[y]∧H l=some (.lst xs)∧xs.length<sizeLine∧Q .non (upd H l (.lst (xs++[y])))
theorem G5:YL X "list.append" VQ:=by
 intro pins s σ H x vs v us Q I rx rv h
 obtain⟨l,xs,y,rfl,rfl,hH,hz,q⟩:=h
 cases rx
 obtain⟨u,rfl,ru⟩:=rv.one
 obtain⟨z,its,n,r,hl,e⟩:=I.lstM hH
 refine call_meets F.slot_list_append ⟨_,e,rfl⟩ F.entry_list_append (F.args_list_append_2 _ _) (PySem.list_append l its.toArray n u (by rw[List.size_toArray];omega)) ⟨e,?_⟩
 refine⟨.non,_,I.lset (its':=its++[u]) hH e (by simp) (r.append (.cons ru .nil)) ?_,rfl,q⟩
 rw[List.length_append,List.length_singleton]
 omega
def UX:V→List V→Hp→VK→Prop:=fun x vs H Q=>∃l b xs zs,x=.ref l∧vs=[.ref b]∧H l=some (.lst xs)∧H b=some (.lst zs)∧xs.length+zs.length≤sizeLine∧Q .non (upd H l (.lst (xs++zs)))
theorem I0:YL X "list.extend" UX:=by
 intro pins s σ H x vs v us Q I rx rv h
 obtain⟨l,b,xs,zs,rfl,rfl,hH,hB,hz,q⟩:=h
 cases rx
 obtain⟨u,rfl,ru⟩:=rv.one
 cases ru
 obtain⟨z,its,n,r,hl,e⟩:=I.lstM hH
 obtain⟨z2,its2,n2,r2,hl2,e2⟩:=I.lstM hB
 have hsz:its.toArray.size+its2.toArray.size≤sizeLine:=by rw[List.size_toArray,List.size_toArray];omega
 have hlong:¬(!its.toArray.isEmpty&&Builtin.List.listTooLong (its.toArray.size+its2.toArray.size))=true:=by
  rw[Sr hsz,Bool.and_false]
  exact Bool.false_ne_true
 refine call_meets F.slot_list_extend ⟨_,e,rfl⟩ F.entry_list_extend (F.args_list_extend_2 _ _)
  (AutoSeq1.list_extend_list_list_0 l its.toArray n b its2.toArray n2 hlong (by rw[List.size_toArray];omega) (by omega)) ⟨e,e2,?_⟩
 refine⟨.non,_,I.lset (its':=its++its2) hH e (by simp) (r.append r2) ?_,rfl,q⟩
 rw[List.length_append]
 omega
def Wl:V→List V→Hp→VK→Prop:=fun x vs H Q=>∃l xs i k y,x=.ref l∧vs=[.int i]∧H l=some (.lst xs)∧-(2^63)≤i∧i<2^63∧seqIndex? i xs.length=some k∧xs[k]?=some y∧Q y (upd H l (.lst (xs.eraseIdx k)))
theorem Sq:YL X "list.pop" Wl:=by
 intro pins s σ H x vs v us Q I rx rv h
 obtain⟨l,xs,i,k,y,rfl,rfl,hH,h1,h2,hk,hy,q⟩:=h
 cases rx
 obtain⟨u,rfl,ru⟩:=rv.one
 obtain⟨t,rfl⟩:=ru
 obtain⟨z,its,n,r,hl,e⟩:=I.lstM hH
 obtain⟨w,hw,rw'⟩:=r.get hy
 refine call_meets F.slot_list_pop ⟨_,e,rfl⟩ F.entry_list_pop (F.args_list_pop_2 _ _)
  (MeetsSeq.list_pop_at l its.toArray n i t k w (fitsIndex_both h1 h2) (by rw[List.size_toArray,←hl];exact hk) (by rw[←Array.getElem?_toList];exact hw) (by rw[List.size_toArray];omega)) ⟨e,?_⟩
 refine⟨y,_,I.lset (its':=its.eraseIdx k) hH e ?_ (r.eraseIdx k) ?_,rw',q⟩
 ·show its.toArray.eraseIdxIfInBounds k=(its.eraseIdx k).toArray
  rw[List.eraseIdxIfInBounds_toArray]
 ·have:=Ma xs k
  omega
end
section
variable {prog:Program}{w:World}{A:Around}{E:Value→Shared→Prop}{s:Shared}
end
section
variable {X:Cx}
end
end L2
namespace Att
open PySem PySem.W PySem.Calls PyProof.Rows
theorem JN {P:Params}{h:Heap}:∀(ns:List Int) (vs:List Value),WellAll P h vs (ns.map WData.int)→IntsAre vs ns:=by
 intro ns
 induction ns with
 |nil=>
  intro vs w
  rw[List.map_nil] at w
  cases w
  exact .nil
 |cons n ns ih=>
  intro vs w
  rw[List.map_cons] at w
  cases w with
  |cons a b=>
   cases a
   exact .cons _ _ (ih _ b)
theorem Q9 {l:OpenLaw} {n:Nat} (hn:l.most=some n) {P:Params} {h:Heap} {args:List WData} {vals:List Value}
  (hpre:l.row.toRowW.claim.pre args=true) (hwl:WellAll P h vals args) :
  ∃a vs ns,vals=[Value.ref a]∧args=[WData.list (ns.map WData.int)]∧h.get? a=some { cls:=.type "list",data:=.seq vs.toArray }∧IntsAre vs ns∧ns.length≤n:=by
 have hsh:WShape.hasAll [] args [.list .int]=true:=(pre_splitW hpre).1
 have hc:l.pre.holds [] { args:=args }=true:=(pre_splitW hpre).2
 obtain⟨d,r,rfl,h1,h2⟩:=hasAllW_cons hsh
 obtain rfl:=hasAllW_nil h2
 obtain⟨xs,rfl,h3⟩:=hasW_list h1
 obtain⟨ns,rfl⟩:=items_int h3
 have hlen:ns.length≤n:=by
  unfold OpenLaw.pre at hc
  have h4:(WTm.not (.lt (.lit (.int (n:Int))) (.len (.arg 0)))).holds [] { args:=[.list (ns.map .int)] }=true:=by
   have h4:=(holds_andW hc).1
   rw[hn] at h4
   exact h4
  have h5:=condW_of h4 (w_not (w_lt w_lit (w_len_list (w_arg rfl))))
  rw[List.length_map] at h5
  refine Nat.le_of_not_lt fun q=>?_
  have q':(n:Int)<((ns.length:Nat):Int):=by omega
  first
   |(rw[decide_eq_true q'] at h5;exact absurd h5 (by decide))
   |(simp at h5;omega)
 cases hwl with
 |cons w1 w2=>
  cases w2
  cases w1 with
  |list ho hall=>exact⟨_,_,ns,rfl,rfl,ho,JN ns _ hall,hlen⟩
theorem RP (l:OpenLaw)(args:List WData):l.row.toRowW.claim.post args (.bool true) args=true:=
 postW_of (r:=l.row.toRowW) (X:=(true == true))
  (show WShape.has [] (.bool true) .bool=true by first|rfl|decide|simp[WShape.has,WShape.arms,WShape.armsAll])
  (show(WTm.eq .res (.lit (.bool true))).value [] { args:=args,res:=some (.bool true),after:=args }=some (.bool (true == true)) from w_eq_bool (w_res rfl) w_lit) rfl
theorem OE {l:OpenLaw} {n:Nat} {q:Program} {loose:List Str} {XP:(Str→Option Value)→Heap→Prop} {YP:World→Heap→Prop} {d:DefRec}
  (hn:l.most=some n) (hdf:d.params.defaults=[])
  (call:∀(w:World) (s₀ s₁:Shared) (mg mb:Str→Option Value) (fa:Addr) (o:Obj) (pm cd doc:Value) (a:Addr) (vs:List Value) (ns:List Int),
   Ground q loose [] XP w s₀ mg mb s₁.heap→YP w s₁.heap→
   s₁.heap.get? fa=some o→o.data=.func (docDef d.name d.params d.body d.scope pm cd doc)→s₁.heap.CodeRec cd d.name→mg d.name=some (.ref fa)→
   s₁.heap.get? a=some { cls:=.type "list",data:=.seq vs.toArray }→IntsAre vs ns→ns.length≤n→s₁.gens = #[]→
   codeAny (model l.prog w) callerA (.call (.ref fa) ⟨[.ref a],[]⟩) (fun r s'=>r=.ok (.ret (.bool true))∧OldK s₁.heap s'.heap∧s'.os=s₁.os∧AllBare s'.gens) s₁) :
  WalkO q loose XP YP l.row.toRowW d [] (fun f vs=>PySem.call f vs):=by
 intro w s₀ s₁ mg mb G Y fa o pm cd doc dV kV ho hd hcd hD hmg hg args vals as hpre hlay hrd hwl hlo
 obtain rfl:dV=.none:=Dflts.none hD hdf
 obtain rfl:kV=.none:=Dflts.noKw hD
 obtain⟨a,vs,ns,rfl,rfl,hobj,hints,hlen⟩:=Q9 hn hpre hwl
 refine enter_call (codeAny_mono (call w s₀ s₁ mg mb fa o pm cd doc a vs ns G Y ho (fd_plain hd) hcd hmg hobj hints hlen hg) fun r s' hq=>?_)
 obtain⟨rfl,h2,h3,h4⟩:=hq
 exact⟨.inl ⟨.bool true,.bool true,[],rfl,fun _=>rfl,.bool true,RP l _,fun _=>⟨List.Pairwise.nil,fun _ hm=>(nomatch hm)⟩⟩,h2,h3,h4⟩
section
variable {prog:Program}{w:World}{A:Around}{E:Value→Shared→Prop}{s:Shared}{K:Frag}
def K7 (h:Heap):Heap:={ h with objs:=#[] }
theorem Hz (h:Heap)(b:Addr):(K7 h).get? b=none:=by
 cases e:(K7 h).get? b with
 |none=>rfl
 |some o=>exact absurd (Heap.lt_size e) (Nat.not_lt_zero _)
def ledger (h:Heap)(L d:Addr):List (Addr×Obj):=(List.range h.objs.size).filterMap fun a=>if a=L∨a=d then none else(h.get? a).map fun o=>(a,o)
theorem HD {h:Heap}{L d a:Addr}{o:Obj}:(a,o)∈ledger h L d↔a≠L∧a≠d∧h.get? a=some o:=by
 unfold ledger
 rw[List.mem_filterMap]
 constructor
 ·rintro⟨b,_,e⟩
  split at e
  ·cases e
  ·rename_i hb
   obtain⟨o',ho,e'⟩:=Option.map_eq_some_iff.mp e
   cases e'
   exact⟨fun q=>hb (.inl q),fun q=>hb (.inr q),ho⟩
 ·rintro⟨n1,n2,ho⟩
  refine⟨a,List.mem_range.mpr (Heap.lt_size ho),?_⟩
  rw[if_neg (show ¬(a=L∨a=d) from fun q=>q.elim n1 n2),ho]<;>rfl
theorem Np {h:Heap}{L d:Addr}{od:Obj}(hne:d≠L)(ho:h.get? d=some od):News (K7 h) L h ([]++(d,od)::ledger h L d):=by
 rintro⟨a,o⟩ hp
 rcases List.mem_cons.mp hp with e|hp
 ·cases e
  exact⟨ho,hne,Hz _ _⟩
 ·obtain⟨n1,n2,e⟩:=HD.mp hp
  exact⟨e,n1,Hz _ _⟩
theorem W1 {h:Heap}{L:Addr}{m:Str→Option Value}(n:h.Ns L m):Fr (K7 h) L h m:=
 ⟨n,fun b o e=>(by rw[Hz] at e;cases e),Nat.zero_le _⟩
theorem DC {x C dx L:Addr} {ox:Obj} {m:Str→Option Value} {es es':List DictEntry} {n n':Nat} {name:Str} {v:Value} {Q:Unit→Shared→Prop}
  (X:K.In s.heap) (I:PySem.W.InstAt s.heap x ox C (some (dictOf es n))) (hd:ox.dict=some dx) (hL:s.heap.Ns L m) (hne:dx≠L)
  (hs:findIn K (.ref C) "__setattr__"=some (some (.builtin "object.__setattr__"))) (hp:plainOver K C=true) (ht:takerIn K C name=some none) (hh:hasDictIn K C=true) (hl:(getL name es).isSome=true)
  (e:(putL name (PyData.keyHash w.params name) (.str name (s.toks+1)) v es,putN name es n)=(es',n')) (hz:es'.length≤1000)
  (h:∀h':Heap,h'.Ns L m→h'.get? dx=some (dictOf es' n')→(∀b o,b≠dx→b≠L→s.heap.get? b=some o→h'.get? b=some o)→Q () { s with heap:=h',toks:=s.toks+2 }) :
  wpAny (model prog w) A (setAttr (.ref x) name v) Q E s:=by
 obtain⟨e1,e2⟩:=Prod.mk.inj e
 have hdx:s.heap.get? dx=some (dictOf es n):=by
  have:=I.dict
  rw[hd] at this
  exact this
 refine set_plain X I hs (osa_dict (s:={ s with toks:=s.toks+1 }) (h₀:=K7 s.heap) (L:=L) (m:=m) (od:=dictOf es n) (od':=dictOf es' n') (es:=es') (n:=n') (pre:=[]) (post:=ledger s.heap L dx)
  (W1 hL) (Np hne hdx) X I hd hp ht hh hl (fun _ q=>nomatch q) (fun⟨_,_⟩ q=>(HD.mp q).2.1) (by rw[putName_dict,e1,e2]) rfl hz fun h' F' N'=>?_)
 exact h h' F'.ns (N'.get (List.Mem.head _)) fun b o n1 n2 ho=>N'.get (List.Mem.tail _ (HD.mpr ⟨n2,n1,ho⟩))
end
end Att
namespace L2
open PySem PySem.Spec PyProof.Rows
theorem Lv:∀{vs:List Value} {ns:List Int},IntsAre vs ns→AC (ns.map V.int) vs
 |_,_,.nil=>.nil
 |_,_,.cons n t h=>.cons ⟨t,rfl⟩ (Lv h)
def Xf (H:Hp):Prop:=∀b,H b=none∨∃o xs,H b=some (.frz o (.lst xs))
theorem Ur {P:Program} {w:World} {K:PySem.W.Frag} {mg mb:Str→Option Value} {CX:OQ} {k:Nat} {fa a:Addr} {fd:FuncData} {x:Str} {sp:Sp} {s₁:Shared} {vs:List Value} {ns:List Int}
  (KX:K.In s₁.heap) (hns:s₁.heap.Ns mainGlobals mg) (hb:s₁.heap.Ns builtinsNs mb) (hbb:∀x:Str,x≠"__name__"→mb x=bootBuiltins x) (hlim:s₁.heap.NoLimit) (hg:s₁.gens = #[])
  (ha:s₁.heap.get? a=some { cls:=.type "list",data:=.seq vs.toArray }) (hi:IntsAre vs ns) (hl:ns.length≤sizeLine) (hr:Room k callerA)
  (F:∀base:Heap,K.In base→base.Ns mainGlobals mg→FnOk P w K mg base CX k fa fd [x] sp) (hbind:∀(s:Shared) (u:Value),BindsTo s fd ⟨[u],[]⟩ [(x,u)])
  (hsp:∀H:Hp,Xf H→AM K H a (ns.map V.int)→sp [.ref a] H (fun v _=>v=.bl true) fun _ _ _=>False)
  (hCX:∀H e s',CX [] H s₁ (fun _ _ _=>False) e s'→False) :
  codeAny (model P w) callerA (.call (.ref fa) ⟨[.ref a],[]⟩) (fun r s'=>r=.ok (.ret (.bool true))∧OldK s₁.heap s'.heap∧s'.os=s₁.os∧AllBare s'.gens) s₁:=by
 have rv:=Lv hi
 have lenV:=hi.length
 have core:∀H:Hp,Xf H→AM K H a (ns.map V.int)→G9 P w H s₁.heap→(∀b,H b≠none→b=a)→(H a≠none→K.lookup a=none)→
   codeAny (model P w) callerA (.call (.ref fa) ⟨[.ref a],[]⟩) (fun r s'=>r=.ok (.ret (.bool true))∧OldK s₁.heap s'.heap∧s'.os=s₁.os∧AllBare s'.gens) s₁:=by
  intro H hO hS hok hA hK
  have base_of:∀{b:Addr} {o:Obj},s₁.heap.get? b=some o→H b=none→(M7 s₁.heap H).get? b=some o:=fun e n=>Up e n
  have noA:∀{b:Addr} {o:Obj} {es:Array DictEntry} {ep:Nat},s₁.heap.get? b=some o→o.data=.dict es ep→H b=none:=fun{b o es ep} e d=>by
   cases q:H b with
   |none=>rfl
   |some u=>
    have e':b=a:=hA b (by rw[q];simp)
    subst e'
    rw[ha] at e;cases e
    have d':Data.seq vs.toArray _=Data.dict es ep:=d
    cases d'
  have nsK:∀{b:Addr} {m:Str→Option Value},s₁.heap.Ns b m→(M7 s₁.heap H).Ns b m:=fun{b m} ⟨o,es,ep,e,d,r⟩=>⟨o,es,ep,base_of e (noA e d),d,r⟩
  have hKb:K.In (M7 s₁.heap H):=fun b o e=>base_of (KX b o e) (by
   cases q:H b with
   |none=>rfl
   |some u=>
    have e':b=a:=hA b (by rw[q];simp)
    subst e'
    rw[hK (by rw[q];simp)] at e;cases e)
  have hM:Mod K mg (M7 s₁.heap H):=⟨hKb,nsK hns,⟨mb,nsK hb,hbb⟩,let⟨mc,h1,h2⟩:=hlim;⟨mc,nsK h1,h2⟩⟩
  have e0:Env0 P w K mg (M7 s₁.heap H) callerA [] s₁ H:=⟨rfl,hM,fun b o e=>U4 e,Nat.le_of_eq (Rx _ _),trivial,fun b hb=>absurd (show b∈([]:List Addr) from hb) (by simp),hok,.of_eq hg⟩
  refine codeAny_mono ((F _ hKb (nsK hns)).run callerA [] s₁ H ⟨[.ref a],[]⟩ [.ref a] [.ref a] _ _ hr e0 (hbind s₁ (.ref a)) (.cons rfl .nil) (hsp H hO hS)) fun r s' h=>?_
  cases r with
  |error e=>exact(hCX H e s' h).elim
  |ok fl=>
   cases fl with
   |next=>exact False.elim h
   |brk=>exact False.elim h
   |cont=>exact False.elim h
   |ret u=>
    obtain⟨v,H',os,bare,un,hok',r',q⟩:=h
    have q':v=.bl true:=q
    subst q'
    obtain rfl:u=Value.bool true:=r'
    refine⟨rfl,OldK.of_keep fun b o e=>?_,os,bare⟩
    cases q:H b with
    |none=>exact un.keep b o e q (by intro z;exact absurd (show b∈([]:List Addr) from z) (by simp)) (by simp)
    |some u=>
     rcases hO b with z|⟨ob,xs,z⟩
     ·rw[q] at z;cases z
     ·have z2:=un.frzs b ob _ z
      obtain⟨e1,_⟩:=hok b _ z
      obtain⟨e2,_⟩:=hok' b _ z2
      rw[e] at e1;cases e1
      exact e2
 cases hk:K.lookup a with
 |some o=>
  have e:=KX a o hk
  rw[ha] at e
  cases e
  refine core (fun _=>none) (fun _=>.inl rfl) (.inr ⟨_,vs.toArray,_,hk,rfl,rfl,rfl,by rw[List.size_toArray,lenV];exact hl,by simpa using rv⟩) (fun b u z=>by have z':(none:Option HO)=some u:=z;cases z') (fun b z=>absurd rfl z) fun z=>absurd rfl z
 |none=>
  refine core (fun b=>if b=a then some (.frz { cls:=.type "list",data:=.seq vs.toArray } (.lst (ns.map V.int))) else none) (fun b=>?_) (.inl (.inr ⟨{ cls:=.type "list",data:=.seq vs.toArray },if_pos rfl⟩)) (fun b u z=>?_) (fun b z=>?_) fun _=>hk
  ·by_cases hb:b=a
   ·exact .inr ⟨_,_,if_pos hb⟩
   ·exact .inl (if_neg hb)
  ·by_cases hb:b=a
   ·have z':=(if_pos hb).symm.trans z
    cases z'
    subst hb
    exact⟨ha,by rw[List.length_map];exact hl,vs,_,rv,ha⟩
   ·have z':=(if_neg hb).symm.trans z
    cases z'
  ·by_cases hb:b=a
   ·exact hb
   ·exact absurd (if_neg hb) z
end L2
namespace L2
open PySem PySem.Spec PyProof.Rows
theorem U3 {l:PySem.W.OpenLaw} {n k:Nat} {q:Program} {loose:List Str} {XP:(Str→Option Value)→Heap→Prop} {YP:World→Heap→Prop} {d:DefRec} {K:Params→PySem.W.Frag} {CX:World→OQ} {sp:World→Sp} {x:Str}
  (hn:l.most=some n) (hn2:n≤sizeLine) (hdf:d.params.defaults=[]) (hr:Room k callerA)
  (hY:∀(w:World) (h:Heap),YP w h→(K w.params).In h)
  (F:∀(w:World) (mg:Str→Option Value) (fa:Addr) (h:Heap),(K w.params).In h→h.Ns mainGlobals mg→mg d.name=some (.ref fa)→
   ∃fd:FuncData,(∀(s:Shared) (u:Value),BindsTo s fd ⟨[u],[]⟩ [(x,u)])∧
    ∀base:Heap,(K w.params).In base→base.Ns mainGlobals mg→FnOk l.prog w (K w.params) mg base (CX w) k fa fd [x] (sp w))
  (hsp:∀(w:World) (H:Hp) (a:Addr) (ns:List Int),ns.length≤n→Xf H→AM (K w.params) H a (ns.map V.int)→sp w [.ref a] H (fun v _=>v=.bl true) fun _ _ _=>False)
  (hCX:∀(w:World) (H:Hp) (s:Shared) (e:Value) (s':Shared),CX w [] H s (fun _ _ _=>False) e s'→False) :
  PySem.W.WalkO q loose XP YP l.row.toRowW d [] (fun f vs=>PySem.call f vs):=by
 refine Att.OE hn hdf fun w s₀ s₁ mg mb fa o pm cd doc a vs ns G Y ho hd hcd hmg hobj hints hlen hg=>?_
 have KX:=hY w _ Y
 obtain⟨fd,hb,hF⟩:=F w mg fa _ KX G.T.g hmg
 exact Ur KX G.T.g G.T.b G.T.builtins G.T.nolimit hg hobj hints (Nat.le_trans hlen hn2) hr hF hb (fun H hO hS=>hsp w H a ns hlen hO hS) fun H e s'=>hCX w H s₁ e s'
end L2
namespace L2
open PySem PySem.Spec PyProof.Rows
def inClass (s:Stmt)(j:Nat):Stmt:=match s with
 | .ClassDef _ _ _ body _ _ _ _ _ _ _=>body.getD j (.Pass ⟨0,0,0,0⟩)
 |_=>.Pass ⟨0,0,0,0⟩
def Aq (s:Stmt):Arguments:=match s with
 | .FunctionDef _ a _ _ _ _ _ _ _ _=>a
 |_=>{ posonlyargs:=[],args:=[],vararg:=none,kwonlyargs:=[],kw_defaults:=[],kwarg:=none,defaults:=[] }
def Ao (s:Stmt):List Stmt:=match s with
 | .FunctionDef _ _ b _ _ _ _ _ _ _=>b
 |_=>[]
def Ah (s:Stmt):Scope:=match s with
 | .FunctionDef _ _ _ _ _ _ sc _ _ _=>sc
 |_=>{ kind:=.function,names:=[],isGenerator:=false,isCoroutine:=false }
abbrev Dp:OQ:=fun _ _ _ _ _ _=>False
abbrev E0:XK:=fun _ _ _=>False
theorem LG {X:Cx}:CI Dp X E0:=fun _ _ _ _ _ _ _ h=>h.elim
structure Fun (K:PySem.W.Frag) (x qual:Str) (st:Stmt) (f:Addr) (fd:FuncData):Prop where
 ex:∃(oc:Value) (od:Option Addr) (kV doc pm:Value) (an:Option Addr) (cdv ct:Value) (osl:Array (Option Value)),
  fd=PySem.W.fnOf x qual (Aq st) (Ao st) (Ah st) .none kV doc pm an cdv ct∧K.lookup f=some ⟨oc,od,.func fd,osl⟩∧PySem.W.codeIn K cdv qual=true
 kp:PySem.W.keepIn K (.ref f)=true
section
variable {P:Program}{w:World}{K:PySem.W.Frag}{mg:Str→Option Value}{base:Heap}
theorem Fun.ok {x qual:Str} {st:Stmt} {f:Addr} {fd:FuncData} {N ps:List Str} {k:Nat} {sp:Sp} (F:Fun K x qual st f fd) (S:FnScope N ps (Ah st)) (len:∀vs H Q E,sp vs H Q E→vs.length=ps.length)
  (hbody:∀(cdv:Value) (A:Around) (outer:List Env) (s:Shared) (H:Hp) (vs:List V) (Q:VK) (E:XK),Room k (A.deeper (envOfC qual (Ah st) s.heap.objs.size f cdv))→sp vs H Q E→
   ∃t,Ml (B9 Dp P w K mg base N qual (Ah st) f cdv A outer s H E).nox (Ao st) t∧t { nx:=fun _ H'=>Q .non H',rt:=Q } (start N vs) H):FnOk P w K mg base Dp (k+1) f fd ps sp:=by
 obtain⟨oc,od,kV,doc,pm,an,cdv,ct,osl,rfl,lk,hcd⟩:=F.ex
 refine Ua lk hcd S len fun A outer s H vs Q E hr hsp=>?_
 obtain⟨t,h,q⟩:=hbody cdv A outer s H vs Q E hr hsp
 exact⟨t,h.nox,q⟩
theorem Fun.binds {x qual:Str} {st:Stmt} {f:Addr} {fd:FuncData} {ps:List Str} (F:Fun K x qual st f fd)
  (h:∀(kV doc pm:Value) (an:Option Addr) (cdv ct:Value) (us:List Value),us.length=ps.length→bindArgs (PySem.W.fnOf x qual (Aq st) (Ao st) (Ah st) .none kV doc pm an cdv ct) ⟨us,[]⟩=pure (ps.zip us)):Binds K fd ps []:=by
 obtain⟨oc,od,kV,doc,pm,an,cdv,ct,osl,rfl,lk,hcd⟩:=F.ex
 exact .all (h kV doc pm an cdv ct)
theorem AE {x qual:Str} {st:Stmt} {f:Addr} {oc:Value} {od an:Option Addr} {osl:Array (Option Value)} {kV doc pm cdv ct:Value} (l:K.lookup f=some ⟨oc,od,.func (PySem.W.fnOf x qual (Aq st) (Ao st) (Ah st) .none kV doc pm an cdv ct),osl⟩)
  (c:PySem.W.codeIn K cdv qual=true) (k:PySem.W.keepIn K (.ref f)=true):Fun K x qual st f (PySem.W.fnOf x qual (Aq st) (Ao st) (Ah st) .none kV doc pm an cdv ct):=⟨⟨oc,od,kV,doc,pm,an,cdv,ct,osl,rfl,l,c⟩,k⟩
end
theorem IA {A:Around}{k:Nat}(hr:Room k A):A.units+1<cLine:=Nat.lt_of_le_of_lt (Nat.add_le_add_left (by decide:1≤64) _) hr.units
theorem L1 {n:Nat}(h:n≤1000):n<sizeLine:=Nat.lt_of_le_of_lt h (by decide)
section
variable {X:Cx}
theorem pv (i:Nat) {x:Str} {pos:Pos} (hN:X.N[i]?=some x:=by rfl) (hv:YF X.env.scope x:=by first|exact Or.inl rfl|exact Or.inr (Or.inl rfl)|exact Or.inr (Or.inr rfl)) (hd:(x == ("__debug__":Str))=false:=by decide)
  (hcd:(x == ("__classdict__":Str))=false:=by decide):PE X (.Name x pos) (Xu i):=Wc hN hv hd hcd
end
theorem YO {A B:Prop}(h:A):if true=true then A else B:=by
 rw[if_pos rfl]
 exact h
theorem Cs {c A B:Prop}[Decidable c](h1:c→A)(h2:¬c→B):if c then A else B:=by
 by_cases h:c
 ·rw[if_pos h]
  exact h1 h
 ·rw[if_neg h]
  exact h2 h
def Al (H H':Hp):Prop:=∀b o,H b=some o→H' b=some o
theorem Al.refl (H:Hp):Al H H:=fun _ _ h=>h
theorem Al.trans {H H1 H2:Hp}(a:Al H H1)(b:Al H1 H2):Al H H2:=fun c o h=>b c o (a c o h)
theorem Al.free {H H':Hp}(e:Al H H'){l:Addr}(h:H' l=Option.none):H l=Option.none:=by
 cases q:H l with
 |none=>rfl
 |some o=>
  rw[e l o q] at h
  cases h
theorem Al.seq {K:PySem.W.Frag}{H H':Hp}{a:Addr}{xs:List V}(e:Al H H')(h:AM K H a xs):AM K H' a xs:=by
 rcases h with(h|⟨o,h⟩)|h
 ·exact .inl (.inl (e _ _ h))
 ·exact .inl (.inr ⟨o,e _ _ h⟩)
 ·exact .inr h
end L2
set_option maxHeartbeats 1000000
namespace L2
open PySem PySem.Spec PyProof.Rows
section
variable {prog:Program}{w:World}{A:Around}{env:Env}{elt target iter:Expr}{ifs:List Expr}{scope:Scope}{pos:Pos}{it acc:Value}
abbrev UT (env:Env)(ifs:List Expr):Sem Bool:=forIn ifs true fun c r=>(if r=true then(do let ok ←isTrue c env (eval c env);pure (ForInStep.yield ok)) else pure (ForInStep.yield r))
abbrev Qw (prog:Program)(w:World)(A:Around)(env:Env)(elt target:Expr)(ifs:List Expr)(it acc:Value)(Ee:Value→Shared→Prop)(over on:Shared→Prop):Shared→Prop:=
 wpAny (model prog w) A (pyNext it) (fun|none,s1=>over s1|some v,s1=>wpAny (model prog w) A (letOwnedTupleGo target it v) (fun _ s2=>wpAny (model prog w) A (assign target env v) (fun _ s3=>wpAny (model prog w) A (UT env ifs) (fun ok s4=>
  if ok=true then wpAny (model prog w) A (eval elt env) (fun x s5=>wpAny (model prog w) A (call (.builtin "list.append") [acc,x]) (fun _=>on) (fun _ _=>False) s5) Ee s4 else on s4) Ee s3) Ee s2) (fun _ _=>False) s1) (fun _ _=>False)
theorem JC {R:Result→Shared→Prop} {Ee:Value→Shared→Prop} (I:Nat→Shared→Prop) (hE:∀x s,Ee x s→notedBy (model prog w) A env (fun x s=>R (.error x) s) x s)
  (turn:∀n s,I n s→Qw prog w A env elt target ifs it acc Ee (R (.ok .next)) (fun s'=>∃m,m<n∧I m s') s) (n:Nat) {s:Shared} (h:I n s) :
  codeAny (model prog w) A (.compLoop (.ListComp elt [⟨target,iter,ifs,0⟩] scope pos) 0 it acc env) R s:=by
 have none':∀{Z:Value→Shared→Prop} (x:Value) (s:Shared),False→Z x s:=fun _ _ z=>z.elim
 refine codeAny_loop rfl I (fun k s1 h1=>?_) n h
 change wpAny _ A ((compTurn (.ListComp elt [⟨target,iter,ifs,0⟩] scope pos) 0 it acc env).onRaise (fun x=>do noteFrame x env;theTreesLotGoes x)) _ _ s1
 refine wpAny_noted ?_
 rw[compTurn_list]
 refine wpAny_bind (wpAny_standAt (wpAny_bind (wpAny_mono (turn k s1 h1) (fun r s2 h2=>?_) none')))
 match r,h2 with
 |none,h2=>exact wpAny_pure h2
 |some v,h2=>
  refine wpAny_bind (wpAny_mono h2 (fun _ s3 h3=>wpAny_bind (wpAny_mono h3 (fun _ s4 h4=>wpAny_bind (wpAny_mono h4 (fun ok s5 h5=>?_) hE)) hE)) none')
  match ok,h5 with
  |false,h5=>exact wpAny_pure ⟨rfl,h5⟩
  |true,h5=>exact wpAny_bind (wpAny_bind (wpAny_mono h5 (fun x s6 h6=>wpAny_bind (wpAny_mono h6 (fun _ s7 h7=>wpAny_pure (wpAny_pure ⟨rfl,h7⟩)) none')) hE))
theorem Pg {R:Result→Shared→Prop}(I:Nat→Shared→Prop)(turn:∀n s,I n s→Qw prog w A env elt target ifs it acc (fun _ _=>False) (R (.ok .next)) (fun s'=>∃m,m<n∧I m s') s)(n:Nat){s:Shared}(h:I n s) :
  codeAny (model prog w) A (.compLoop (.ListComp elt [⟨target,iter,ifs,0⟩] scope pos) 0 it acc env) R s:=JC I (fun _ _ z=>z.elim) turn n h
end
def Mu (X:Cx)(ifs:List Expr)(t:TT):Prop:=
 ∀(pins:List (Addr×Obj)) (s:Shared) (σ:St) (H:Hp) (Q:Bool→Hp→Prop),Inv X pins σ H s→t σ H Q→
  wpAny (model X.prog X.w) X.A (forIn ifs true fun c r=>if r=true then do let ok ←isTrue c X.env (eval c X.env);pure (ForInStep.yield ok) else pure (ForInStep.yield r)) (TP X pins σ Q) X.xe s
def Oq:TT:=fun _ H Q=>Q true H
theorem A5 {X:Cx}:Mu X [] Oq:=fun _ _ _ H _ I h=>wpAny_tests_nil ⟨H,I,h⟩
theorem NX {X:Cx}{c:Expr}{t:TT}(h:PT X c t):Mu X [c] t:=fun pins s σ H Q I q=>wpAny_tests_one (h pins s σ H Q I q)
def AR (X:Cx)(scope:Scope)(cl:List (Str×Addr))(N:List Str)(C:Addr)(s:Shared)(H:Hp)(fp:List Addr):Cx:=
 { prog:=X.prog,w:=X.w,K:=X.K,mg:=X.mg,base:=X.base,A:=X.A,N:=N,s₀:=s,H₀:=H,env:=compEnvC scope cl C X.env,outer:=X.stack,stack:=X.stack,ex:=fp,fn:=fun _=>false,calm:=X.calm,pn:=[],xe:=fun _ _=>False }
def stC (fr:List (Option Nat))(σ:St):St:=fr.map fun o=>o.bind fun i=>(σ[i]?).bind id
def E6 (fr:List (Option Nat))(g:TG)(tt:TT)(te:TE)(σ:St)(Q:VK)(J:It)(H1:Hp):Prop:=∀l,H1 l=none→∃W:Nat→Nat→St→Hp→Prop,(∃m,W 0 m (stC fr σ) (upd H1 l (.lst [])))∧∀i m σ H,W i m σ H→
 (J.stop i H∧Q (.ref l) H)∨(J.go i H∧∀x H',J.yld i H x H'→g x σ H' fun σ2 H2=>tt σ2 H2 fun b H3=>if b=true then te σ2 H3 fun v H4=>∃xs,H4 l=some (.lst xs)∧xs.length<sizeLine∧∃m',m'<m∧W (i+1) m' σ2 (upd H4 l (.lst (xs++[v])))
  else ∃m',m'<m∧W (i+1) m' σ2 H3)
def JB (fr:List (Option Nat))(wi:TI)(g:TG)(tt:TT)(te:TE):TE:=fun σ H Q=>wi σ H (E6 fr g tt te σ Q)
def D4 (XN:List Str)(xs sc:Scope)(N:List Str)(fr:List (Option Nat)):Bool:=
 decide (sc.kind=.function)&&decide (fr.length=N.length)&&(sc.names.all fun y=>!decide (y.2=.cell))&&(sc.names.all fun y=>!decide (y.2=.local)||decide (sc.names.lookup y.1=some .local)) &&
 (sc.names.all fun y=>!decide (y.2=.free)||(decide (xs.names.lookup y.1=some .cell)||decide (xs.names.lookup y.1=some .free))) &&
 ((N.zip fr).all fun p=>match p.2 with|none=>true|some i=>decide (XN[i]?=some p.1)&&decide (sc.names.lookup p.1=some .free))
def MF (cells:List (Str×Addr)):List (Str×Addr)→Prop
 |[]=>True
 |p::r=>cells.lookup p.1=some p.2∧MF cells r
theorem MF.get {cells:List (Str×Addr)}:∀{cl:List (Str×Addr)},MF cells cl→∀{x:Str} {c:Addr},cl.lookup x=some c→cells.lookup x=some c
 |[],_,_,_,h=>by cases h
 |(y,d)::r,k,x,c,h=>by
  rw[List.lookup_cons] at h
  cases e:x == y with
  |true=>
   rw[e] at h
   cases h
   rw[eq_of_beq e]
   exact k.1
  |false=>
   rw[e] at h
   exact MF.get k.2 h
def GJ (cl:List (Str×Addr)):List (Str×NameKind)→Prop
 |[]=>True
 |p::r=>(p.2=.free→∃c,cl.lookup p.1=some c)∧GJ cl r
theorem GJ.get {cl:List (Str×Addr)}:∀{ns:List (Str×NameKind)},GJ cl ns→∀y∈ns,y.2=.free→∃c,cl.lookup y.1=some c
 |[],_,_,h=>by cases h
 |p::r,k,y,h=>by
  rcases List.mem_cons.mp h with rfl|h
  ·exact k.1
  ·exact GJ.get k.2 y h
theorem C8 {env:Env}:∀{names:List (Str×NameKind)} {x:Str} {k:NameKind},(names.map fun(n,k)=>if(k == NameKind.free&&env.scope.kind == .function&&env.kindOf n == some .cell) then(n,NameKind.cell) else(n,k)).lookup x=some k→
  names.lookup x=some k∨(k=.cell∧names.lookup x=some .free)
 |[],_,_,h=>by cases h
 |(n,k0)::r,x,k,h=>by
  have ih:=@C8 env r x k
  by_cases hc:(k0 == NameKind.free&&env.scope.kind == .function&&env.kindOf n == some .cell)=true
  ·simp only[List.map_cons,if_pos hc,List.lookup_cons] at h
   rw[List.lookup_cons]
   cases e:x == n with
   |true=>
    rw[e] at h
    cases h
    simp only[Bool.and_eq_true] at hc
    have:k0=.free:=by simpa using hc.1.1
    exact .inr ⟨rfl,by rw[this]⟩
   |false=>rw[e] at h;exact ih h
  ·simp only[List.map_cons,if_neg hc,List.lookup_cons] at h
   rw[List.lookup_cons]
   cases e:x == n with
   |true=>rw[e] at h;exact .inl h
   |false=>rw[e] at h;exact ih h
theorem FK {env:Env}:∀{names:List (Str×NameKind)} {x:Str},names.lookup x=some .free→
  (names.map fun(n,k)=>if(k == NameKind.free&&env.scope.kind == .function&&env.kindOf n == some .cell) then(n,NameKind.cell) else(n,k)).lookup x=some .cell∨
  (names.map fun(n,k)=>if(k == NameKind.free&&env.scope.kind == .function&&env.kindOf n == some .cell) then(n,NameKind.cell) else(n,k)).lookup x=some .free
 |[],_,h=>by cases h
 |(n,k0)::r,x,h=>by
  have ih:=@FK env r x
  rw[List.lookup_cons] at h
  by_cases hc:(k0 == NameKind.free&&env.scope.kind == .function&&env.kindOf n == some .cell)=true
  ·simp only[List.map_cons,if_pos hc,List.lookup_cons]
   cases e:x == n with
   |true=>exact .inl rfl
   |false=>rw[e] at h;exact ih h
  ·simp only[List.map_cons,if_neg hc,List.lookup_cons]
   cases e:x == n with
   |true=>rw[e] at h;exact .inr h
   |false=>rw[e] at h;exact ih h
section
variable {X:Cx}
theorem LU (N:List Str) (fr:List (Option Nat)) {elt tg iter:Expr} {ifs:List Expr} {scope:Scope} {pos fpos:Pos} {wi:TI} {g:TG} {tt:TT} {te:TE} {cl:List (Str×Addr)}
  (hc:X.calm=true) (hi:PI X tg iter wi) (hchk:D4 X.N X.env.scope scope N fr=true) (hclos:closureFor scope X.env=pure cl) (hcl:MF X.env.cells cl) (hall:GJ cl scope.names)
  (hb:∀(C:Addr) (s:Shared) (H:Hp) (fp:List Addr),PG (AR X scope cl N C s H fp) tg g∧Mu (AR X scope cl N C s H fp) ifs tt∧PE (AR X scope cl N C s H fp) elt te)
  (hs:∀x,foldedSetIterable iter X.env x=pure x) {pins:List (Addr×Obj)} {s:Shared} {σ:St} {H:Hp} {Q:VK} {use:Option (Value→Sem Unit)} {Qc:Value→Shared→Prop} (I:Inv X pins σ H s) (h:JB fr wi g tt te σ H Q)
  (hfin:∀(l:Addr) (H':Hp) (s':Shared) (C:Addr),Inv X pins σ H' s'→Gf X pins H' C→(∃m,s'.heap.Ns C m)→Q (.ref l) H'→compPost (model X.prog X.w) X.A X.xe use Qc (.ref l) C (.ok .next) s') :
  wpAny (model X.prog X.w) X.A (comprehension (.ListComp elt [⟨tg,iter,ifs,0⟩] scope pos) scope X.env fpos (newList []) (firstAsync [⟨tg,iter,ifs,0⟩]) (firstIter [⟨tg,iter,ifs,0⟩] X.env) use) Qc X.xe s:=by
 simp only[D4,Bool.and_eq_true,decide_eq_true_eq,List.all_eq_true,Bool.or_eq_true,Bool.not_eq_true',decide_eq_false_iff_not] at hchk
 obtain⟨⟨⟨⟨⟨hkind,hlen⟩,hcell⟩,hnames⟩,hfree⟩,hfr⟩:=hchk
 have hnames':∀x∈scope.names,x.2=.local→scope.names.lookup x.1=some .local:=fun y hy e=>(hnames y hy).resolve_left fun z=>z e
 have hcell':∀x∈scope.names,x.2≠.cell:=fun y hy=>hcell y hy
 refine wpAny_comprehension_free (use:=use) rfl hs hclos hkind hnames' (Bd (hi pins s σ H _ I h) fun v s1 h1=>Bd h1 fun itv s2 h2=>?_)
 obtain⟨it,fp,tn,J,H2,e,I2,T,st2,f2,hQ⟩:=h2
 subst e
 refine wpAny_newObj_type (hd:=by size_fits) (wpAny_newFunctionEnv hcell' (by intro y hy;simp at hy) (fun h₁ hns hsb=>?_) hkind)
 dsimp only at hns hsb ⊢
 obtain⟨W,⟨m0,w0⟩,turn⟩:=hQ s2.heap.objs.size I2.fresh
 have I3:Inv X pins σ (upd H2 s2.heap.objs.size (.lst [])) { s2 with heap:=s2.heap.push { cls:=.type "list",data:=.seq ([]:List Value).toArray },toks:=s2.toks }:=I2.lnew (its:=[]) .nil (Nat.zero_le _)
 generalize hh3:s2.heap.push { cls:=.type "list",dict:=none,data:=.seq ([]:List Value).toArray }=h3 at hns hsb ⊢
 rw[show s2.heap.push { cls:=.type "list",data:=.seq ([]:List Value).toArray }=h3 from hh3] at I3
 generalize hH3:upd H2 s2.heap.objs.size (.lst [])=H3 at I3 w0
 generalize hl:s2.heap.objs.size=l at turn hH3 ⊢
 have hl3:l<h3.objs.size:=by rw[←hh3,←hl,Heap.size_push];exact Nat.lt_succ_self _
 generalize hs3:({ s2 with heap:=h3,toks:=s2.toks }:Shared)=s3 at I3
 have es3:s3.heap=h3:=by rw[←hs3]
 have eos:s3.os=s2.os:=by rw[←hs3]
 have egens:s3.gens=s2.gens:=by rw[←hs3]
 generalize hC:h3.objs.size=C at hns hsb ⊢
 have old:∀b o,h3.get? b=some o→h₁.get? b=some o:=fun b o e=>
  hsb.extBut b o (by rw[←hC];exact Nat.ne_of_lt (Heap.lt_size e)) (Heap.get?_push_of_some _ e)
 have f3:∀b∈fp,Gf X pins H3 b:=fun b hb=>by
  obtain⟨g0,g1⟩:=f2 b hb
  refine⟨?_,g1⟩
  rw[←hH3]
  have:b≠l:=by
   obtain⟨o,e,_⟩:=T.obj _ _ st2 b hb
   rw[←hl];exact Nat.ne_of_lt (Heap.lt_size e)
  rw[Ai this];exact g0
 have st3:tn 0 h₁:=T.keep _ _ _ st2 fun b hb o e=>old b o (by rw[←hh3];exact Heap.get?_push_of_some _ e)
 have ok:(AR X scope cl N C s3 H3 fp).Ok:=by
  refine⟨I3.ok.mod,?_,I3.ok.glob,I3.ok.blt,?_,fun x y c e1 e2=>I3.ok.inj x y c (hcl.get e1) (hcl.get e2),fun x hx=>?_,fun x c hx=>(by cases hx),I3.ok.hd,I3.ok.frames,.inl rfl,fun b hb=>?_,fun b o e=>?_,?_,fun b o e hb=>?_,fun b hb hb2=>?_,?_,fun b hb=>?_⟩
  ·exact hkind
  ·show s3.heap.objs.size≤C
   rw[es3,hC];exact Nat.le_refl _
  ·have hx':(relabel scope X.env).names.lookup x=some .cell∨(relabel scope X.env).names.lookup x=some .free:=hx
   have:scope.names.lookup x=some .free:=by
    rcases hx' with z|z
    ·rcases C8 z with q|⟨_,q⟩
     ·exact absurd rfl (hcell' _ (PySem.mem_of_lookup q))
     ·exact q
    ·rcases C8 z with q|⟨q,_⟩
     ·exact q
     ·cases q
   exact hall.get _ (PySem.mem_of_lookup this) rfl
  ·obtain⟨g0,g1,g2,g3,g4,g5⟩:=f3 b hb
   obtain⟨o,e,_⟩:=T.obj _ _ st2 b hb
   refine⟨?_,fun x c e=>g4 x c (hcl.get e)⟩
   show b≠C
   rw[←hC]
   exact Nat.ne_of_lt (Heap.lt_size (by rw[←hh3];exact Heap.get?_push_of_some _ e))
  ·have q:=I3.bs b o e
   exact q
  ·show X.base.objs.size≤s3.heap.objs.size
   exact Nat.le_trans I3.ok.bsz I3.sz
  ·obtain⟨g0,g1,g2,g3,g4,g5⟩:=f3 b hb
   rcases g3 with z|z
   ·exact I3.ok.noex b o e z
   ·exact absurd (Nat.lt_of_lt_of_le (Heap.lt_size e) (Nat.le_trans I3.ok.bsz z)) (Nat.lt_irrefl _)
  ·obtain⟨g0,g1,g2,g3,g4,g5⟩:=f3 b hb
   rcases List.mem_cons.mp (I3.stkSub b hb2) with z|z
   ·exact g1 z
   ·exact g2 z
  ·show s3.heap.FunFrames X.base X.stack
   exact I3.stack
  ·exact I3.stkFree b hb
 have I4:Inv (AR X scope cl N C s3 H3 fp) [] (stC fr σ) H3 { s2 with heap:=h₁,toks:=s2.toks+([]:List (Str×Value)).length }:=by
  have hk3:∀b o,s3.heap.get? b=some o→h₁.get? b=some o:=fun b o e=>old b o (by rw[←es3];exact e)
  refine⟨ok,eos.symm▸rfl,egens▸I3.bare,Un.kept hk3,⟨_,hns,fun i x v e1 e2 e3=>?_⟩,fun x c e=>?_,?_,fun x c e=>I3.freeC x c (hcl.get e),fun p hp=>(by cases hp),I3.hok.kept hk3,?_⟩
  ·
   have e1':N[i]?=some x:=e1
   have e2':(fr[i]?).map (fun o=>o.bind fun i=>(σ[i]?).bind id)=some (some v):=by
    have:(stC fr σ)[i]?=some (some v):=e2
    rw[stC,List.getElem?_map] at this
    exact this
   cases q:fr[i]? with
   |none=>rw[q] at e2';cases e2'
   |some o=>
    rw[q] at e2'
    cases o with
    |none=>cases e2'
    |some j=>
     have e2'':(σ[j]?).bind id=some v:=Option.some.inj e2'
     obtain⟨p1,p2⟩:X.N[j]?=some x∧scope.names.lookup x=some .free:=by
      have hz:(x,some j)∈N.zip fr:=by
       have:(N.zip fr)[i]?=some (x,some j):=by
        rw[List.getElem?_zip_eq_some];exact⟨e1',q⟩
       exact List.mem_of_getElem? this
      have:=hfr _ hz
      simpa using this
     have hv:X.env.scope.names.lookup x=some .cell∨X.env.scope.names.lookup x=some .free:=by
      rcases hfree _ (PySem.mem_of_lookup p2) with z|z
      ·exact absurd rfl z
      ·simpa using z
     have e3':σ[j]?=some (some v):=by
      cases q3:σ[j]? with
      |none=>rw[q3] at e2'';cases e2''
      |some w'=>rw[q3] at e2'';have:w'=some v:=e2'';rw[this]
     obtain⟨m,hn,hl'⟩:=I3.loc
     obtain⟨u,ru,lk⟩:=hl' j x v p1 e3' (.inr hv)
     refine⟨u,ru,.inr ⟨FK p2,?_⟩⟩
     rcases lk with⟨lk,_⟩|⟨_,c,ec,cc⟩
     ·have lk':X.env.scope.names.lookup x=some .local:=lk
      rcases hv with z|z<;>(rw[z] at lk';cases lk')
     ·obtain⟨c',ec'⟩:=hall.get _ (PySem.mem_of_lookup p2) rfl
      have:=hcl.get ec'
      rw[ec] at this;cases this
      obtain⟨o,ho,hd⟩:=cc
      exact⟨c,ec',o,hk3 _ _ ho,hd⟩
  ·obtain⟨v,o,ho,hd⟩:=I3.cell x c (hcl.get e)
   exact⟨v,o,hk3 _ _ ho,hd⟩
  ·show H3 C=none
   exact I3.hok.fresh (by rw[es3,hC];exact Nat.le_refl _)
  ·show(stC fr σ).length=N.length
   rw[stC,List.length_map];exact hlen
 obtain⟨hg,ht,he⟩:=hb C s3 H3 fp
 have fpc:∀{H':Hp},(∀b∈fp,H' b=none)→∀b∈fp,Gf (AR X scope cl N C s3 H3 fp) [] H' b:=fun hn b hb=>by
  obtain⟨q1,q2⟩:=ok.exf b hb
  exact⟨hn b hb,q1,ok.exfs b hb,.inl hb,q2,fun p hp=>by cases hp⟩
 have fin:∀(σ':St) (H':Hp) (s':Shared),Inv (AR X scope cl N C s3 H3 fp) [] σ' H' s'→Q (.ref l) H'→compPost (model X.prog X.w) X.A X.xe use Qc (.ref l) C (.ok .next) s':=fun σ' H' s' I' q=>by
  obtain⟨m,hn,_⟩:=I'.loc
  have nC:∀b o,s3.heap.get? b=some o→b≠C:=fun b o e=>by
   rw[←hC,←es3];exact Nat.ne_of_lt (Heap.lt_size e)
  have fC:H' C=none:=I'.free
  have u:=I'.base
  refine hfin l H' s' C ?_ (I3.fpOk (by rw[es3,hC];exact Nat.le_refl _) fC) ⟨m,hn⟩ q
  refine I3.call' (s':=s') (ch:=fp) I'.os ⟨fun b o e n hb hx=>u.keep b o e n hb hx,fun b o e n hb hx=>u.slot b o e n hb hx,u.free,fun b o e hx=>u.there b o e hx,u.tups,u.frzs,u.tbls⟩ (fun b o e=>I'.hok b o e) I'.bare fun b hb=>?_
  obtain⟨g0,g1,g2,g3,g4,g5⟩:=f3 b hb
  exact⟨g3,g1,g4,g5⟩
 have loop:codeAny (model X.prog X.w) X.A (.compLoop (.ListComp elt [⟨tg,iter,ifs,0⟩] scope pos) 0 (.ref it) (.ref l) (compEnvC scope cl C X.env)) (compPost (model X.prog X.w) X.A X.xe use Qc (.ref l) C)
   { s2 with heap:=h₁,toks:=s2.toks+([]:List (Str×Value)).length }:=by
  refine Pg (fun n s'=>∃i σ' H',Inv (AR X scope cl N C s3 H3 fp) [] σ' H' s'∧tn i s'.heap∧(∀b∈fp,H' b=none)∧W i n σ' H') ?_ m0 ⟨0,_,H3,I4,st3,fun b hb=>(f3 b hb).1,w0⟩
  rintro n s5 ⟨i,σ5,H5,I5,st5,fr5,w5⟩
  rcases turn i n σ5 H5 w5 with⟨stop,qn⟩|⟨go,step⟩
  ·refine Bd (T.done (AR X scope cl N C s3 H3 fp) rfl rfl rfl hc i [] s5 σ5 H5 (fun _ _=>False) I5 (fpc fr5) st5 stop) fun r s6 ⟨hr,I6⟩=>?_
   subst hr
   exact fin σ5 H5 s6 I6 qn
  ·refine Bd (T.item (AR X scope cl N C s3 H3 fp) rfl rfl rfl hc i [] s5 σ5 H5 (fun _ _=>False) I5 (fpc fr5) st5 go) fun r s6 ⟨u,hr,h6⟩=>?_
   subst hr
   refine Bd h6 fun _ s7 ⟨x,H7,I7,r7,y7,st7,fr7⟩=>?_
   have I7':=I7.pinned (fpc fr7) (T.obj _ _ st7)
   refine Bd (hg _ s7 σ5 H7 x u _ I7' r7 (step x H7 y7)) fun _ s8 ⟨σ8,H8,I8,q8⟩=>?_
   have again:∀{σ9:St} {H9:Hp} {s9:Shared},Inv (AR X scope cl N C s3 H3 fp) ([]++Jg fp s7.heap) σ9 H9 s9→(∃m',m'<n∧W (i+1) m' σ9 H9)→∃m,m<n∧∃i σ' H',Inv (AR X scope cl N C s3 H3 fp) [] σ' H' s9∧tn i s9.heap∧(∀b∈fp,H' b=none)∧W i m σ' H':=fun{σ9 H9 s9} I9 n9=>by
    obtain⟨m',hm,w9⟩:=n9
    refine⟨m',hm,i+1,σ9,H9,I9.unpinned,T.keep _ _ _ st7 fun b hb o e=>(I9.pin (b,o) (List.mem_append_right _ (List.mem_append_right _ (Dx hb e)))).1,fun b hb=>?_,w9⟩
    obtain⟨o,e,d⟩:=T.obj _ _ st7 b hb
    exact(I9.pin (b,o) (List.mem_append_right _ (List.mem_append_right _ (Dx hb e)))).2.1
   refine Bd (ht _ s8 σ8 H8 _ I8 q8) fun ok s9 ⟨H9,I9,q9⟩=>?_
   cases ok with
   |false=>
    rw[if_neg Bool.false_ne_true] at q9 ⊢
    exact again I9 q9
   |true=>
    rw[if_pos rfl] at q9 ⊢
    refine Bd (he _ s9 σ8 H9 _ I9 q9) fun y sa ⟨vy,Ha,Ia,ry,qa⟩=>?_
    obtain⟨xs,hla,hsz,n9⟩:=qa
    refine Bd (G5 _ sa σ8 Ha (.ref l) [vy] (.ref l) [y] (fun _ Hb=>∃m',m'<n∧W (i+1) m' σ8 Hb) Ia rfl (.cons ry .nil) ⟨l,xs,vy,rfl,rfl,hla,hsz,n9⟩) fun _ sb ⟨_,Hb,Ib,_,qb⟩=>?_
    exact again Ib qb
 show codeAny (model X.prog X.w) X.A (.compStart (.ListComp elt [⟨tg,iter,ifs,0⟩] scope pos) 0 (.ref it) (.ref l) (compEnvC scope cl C X.env)) (compPost (model X.prog X.w) X.A X.xe use Qc (.ref l) C) { s2 with heap:=h₁,toks:=s2.toks+([]:List (Str×Value)).length }
 exact codeAny_compStart_list loop (T.self _ 0 _ _ _ st3 loop)
theorem IF (N:List Str) (fr:List (Option Nat)) {elt tg iter:Expr} {ifs:List Expr} {scope:Scope} {pos:Pos} {wi:TI} {g:TG} {tt:TT} {te:TE} {cl:List (Str×Addr)}
  (hc:X.calm=true) (hi:PI X tg iter wi) (hchk:D4 X.N X.env.scope scope N fr=true) (hclos:closureFor scope X.env=pure cl) (hcl:MF X.env.cells cl) (hall:GJ cl scope.names)
  (hb:∀(C:Addr) (s:Shared) (H:Hp) (fp:List Addr),PG (AR X scope cl N C s H fp) tg g∧Mu (AR X scope cl N C s H fp) ifs tt∧PE (AR X scope cl N C s H fp) elt te)
  (hs:∀x,foldedSetIterable iter X.env x=pure x:=by intro _;rfl) :
  PE X (.ListComp elt [⟨tg,iter,ifs,0⟩] scope pos) (JB fr wi g tt te):=by
 intro pins s σ H Q I h
 rw[eval_ListComp]
 refine LU N fr hc hi hchk hclos hcl hall hb hs I h fun l H' s' C I' fC ⟨m,hn⟩ q=>?_
 refine⟨m,hn,fun h'' hs''=>⟨.ref l,H',?_,rfl,q⟩⟩
 obtain⟨f0,f1,f2,f3,f4,f5⟩:=fC
 exact I'.turned (t':=s'.toks) (fun b o hb e=>(hs''.2 b hb).trans e) f0 f1 f3 f4 f5
theorem UA (N:List Str) (fr:List (Option Nat)) {i:Nat} {x:Str} {elt tg iter:Expr} {ifs:List Expr} {scope:Scope} {cpos pos pos':Pos} {wi:TI} {g:TG} {tt:TT} {te:TE} {cl:List (Str×Addr)}
  (hN:X.N.Nodup) (hi':X.N[i]?=some x) (hx:Loc X.env.scope x)
  (hc:X.calm=true) (hi:PI X tg iter wi) (hchk:D4 X.N X.env.scope scope N fr=true) (hclos:closureFor scope X.env=pure cl) (hcl:MF X.env.cells cl) (hall:GJ cl scope.names)
  (hb:∀(C:Addr) (s:Shared) (H:Hp) (fp:List Addr),PG (AR X scope cl N C s H fp) tg g∧Mu (AR X scope cl N C s H fp) ifs tt∧PE (AR X scope cl N C s H fp) elt te)
  (hs:∀x,foldedSetIterable iter X.env x=pure x:=by intro _;rfl)
  (hsw:swapsWith (.ListComp elt [⟨tg,iter,ifs,0⟩] scope cpos) (some (.Name x pos')) pos.line X.env=pure true:=by rfl)
  (hf:X.fn x=true∨X.env.scope.names.lookup x=some .local:=by first|exact .inl rfl|exact .inr rfl|assumption) :
  PS X (.Assign [.Name x pos'] (.ListComp elt [⟨tg,iter,ifs,0⟩] scope cpos) pos) (Vq (JB fr wi g tt te) (D2 i)):=by
 intro pins s σ H D I h
 rw[exec_Assign_arm]
 refine wpAny_bind (wpAny_standAt ?_)
 rw[show swapsWithSole [.Name x pos'] (.ListComp elt [⟨tg,iter,ifs,0⟩] scope cpos) pos.line X.env=pure true from hsw]
 refine wpAny_bind (wpAny_pure ?_)
 rw[if_pos rfl,arm_evalThenUse_ListComp]
 refine wpAny_bind (wpAny_bind ?_)
 have h1:JB fr wi g tt te σ H fun v H1=>D.nx (σ.set i (some v)) H1:=h
 refine LU (use:=some _) N fr hc hi hchk hclos hcl hall hb hs I h1 fun l H' s' C I' fC ⟨m,hn⟩ q=>?_
 obtain⟨f0,f1,f2,f3,f4,f5⟩:=fC
 obtain⟨o,es,ep,ho,hd,hk,hm⟩:=hn
 have Ip:Inv X (pins++[(C,o)]) σ H' s':=I'.pins_of fun p hp=>(List.mem_append.mp hp).elim (fun z=>I'.pin p (List.mem_append_right _ z)) fun z=>by
  rw[List.mem_singleton.mp z]
  exact⟨ho,f0,f1,f2,fun v e=>by rw[hd] at e;cases e⟩
 show wpAny _ _ (assignAll (.ref l) [assign (.Name x pos') X.env]) _ _ _
 rw[assignAll.eq_2]
 refine wpAny_assign_Name (HY Ip hN hi' hx (v:=.ref l) rfl (fun s2 I2=>?_) hf)
 have ho2:=(I2.pin (C,o) (List.mem_append_right _ (List.mem_append_right _ (List.mem_singleton_self _)))).1
 refine⟨m,⟨o,es,ep,ho2,hd,hk,hm⟩,fun h' hs'=>wpAny_pure (wpAny_pure ⟨_,H',?_,q⟩)⟩
 exact I2.unpinned.turned (t':=s2.toks) (fun b o hb e=>(hs'.2 b hb).trans e) f0 f1 f3 f4 f5
def Iu (sc:Scope):Bool:=
 decide (sc.kind=.function)&&(sc.names.all fun y=>!decide (y.2=.cell))&&(sc.names.all fun y=>!decide (y.2=.local)||decide (sc.names.lookup y.1=some .local))&&(sc.names.all fun y=>!decide (y.2=.free))
theorem Bq (N:List Str) {elt tg iter:Expr} {ifs:List Expr} {scope:Scope} {pos:Pos} {wi:TI} {g:TG} {tt:TT} {te:TE}
  (hc:X.calm=true) (hi:PI X tg iter wi) (hchk:Iu scope=true)
  (hb:∀(C:Addr) (s:Shared) (H:Hp) (fp:List Addr),PG (AR X scope [] N C s H fp) tg g∧Mu (AR X scope [] N C s H fp) ifs tt∧PE (AR X scope [] N C s H fp) elt te)
  (hs:∀x,foldedSetIterable iter X.env x=pure x:=by intro _;rfl) :
  PE X (.ListComp elt [⟨tg,iter,ifs,0⟩] scope pos) (JB (N.map fun _=>none) wi g tt te):=by
 simp only[Iu,Bool.and_eq_true,decide_eq_true_eq,List.all_eq_true,Bool.or_eq_true,Bool.not_eq_true',decide_eq_false_iff_not] at hchk
 obtain⟨⟨⟨hkind,hcell⟩,hnames⟩,hfree⟩:=hchk
 refine IF (cl:=[]) N (N.map fun _=>none) hc hi ?_ (closureFor_none fun x hx=>hfree x hx) trivial ?_ hb hs
 ·simp only[D4,Bool.and_eq_true,decide_eq_true_eq,List.all_eq_true,Bool.or_eq_true,Bool.not_eq_true',decide_eq_false_iff_not]
  refine⟨⟨⟨⟨⟨hkind,by simp⟩,hcell⟩,hnames⟩,fun y hy=>.inl (hfree y hy)⟩,fun p hp=>?_⟩
  have:p.2∈N.map fun _=>(none:Option Nat):=(List.of_mem_zip hp).2
  obtain⟨_,_,e⟩:=List.mem_map.mp this
  rw[←e]
 ·have:∀ns:List (Str×NameKind),(∀y∈ns,y.2≠.free)→GJ [] ns:=by
   intro ns
   induction ns with
   |nil=>intro _;exact trivial
   |cons p r ih=>intro h;exact⟨fun e=>absurd e (h p List.mem_cons_self),ih fun y hy=>h y (List.mem_cons_of_mem _ hy)⟩
  exact this _ fun y hy=>hfree y hy
theorem SA (N:List Str) {i:Nat} {x:Str} {elt tg iter:Expr} {ifs:List Expr} {scope:Scope} {cpos pos pos':Pos} {wi:TI} {g:TG} {tt:TT} {te:TE}
  (hN:X.N.Nodup) (hi':X.N[i]?=some x) (hx:Loc X.env.scope x)
  (hc:X.calm=true) (hi:PI X tg iter wi) (hchk:Iu scope=true)
  (hb:∀(C:Addr) (s:Shared) (H:Hp) (fp:List Addr),PG (AR X scope [] N C s H fp) tg g∧Mu (AR X scope [] N C s H fp) ifs tt∧PE (AR X scope [] N C s H fp) elt te)
  (hs:∀x,foldedSetIterable iter X.env x=pure x:=by intro _;rfl)
  (hsw:swapsWith (.ListComp elt [⟨tg,iter,ifs,0⟩] scope cpos) (some (.Name x pos')) pos.line X.env=pure true:=by rfl)
  (hf:X.fn x=true∨X.env.scope.names.lookup x=some .local:=by first|exact .inl rfl|exact .inr rfl|assumption) :
  PS X (.Assign [.Name x pos'] (.ListComp elt [⟨tg,iter,ifs,0⟩] scope cpos) pos) (Vq (JB (N.map fun _=>none) wi g tt te) (D2 i)):=by
 simp only[Iu,Bool.and_eq_true,decide_eq_true_eq,List.all_eq_true,Bool.or_eq_true,Bool.not_eq_true',decide_eq_false_iff_not] at hchk
 obtain⟨⟨⟨hkind,hcell⟩,hnames⟩,hfree⟩:=hchk
 refine UA (cl:=[]) N (N.map fun _=>none) hN hi' hx hc hi ?_ (closureFor_none fun x hx=>hfree x hx) trivial ?_ hb hs hsw hf
 ·simp only[D4,Bool.and_eq_true,decide_eq_true_eq,List.all_eq_true,Bool.or_eq_true,Bool.not_eq_true',decide_eq_false_iff_not]
  refine⟨⟨⟨⟨⟨hkind,by simp⟩,hcell⟩,hnames⟩,fun y hy=>.inl (hfree y hy)⟩,fun p hp=>?_⟩
  have:p.2∈N.map fun _=>(none:Option Nat):=(List.of_mem_zip hp).2
  obtain⟨_,_,e⟩:=List.mem_map.mp this
  rw[←e]
 ·have:∀ns:List (Str×NameKind),(∀y∈ns,y.2≠.free)→GJ [] ns:=by
   intro ns
   induction ns with
   |nil=>intro _;exact trivial
   |cons p r ih=>intro h;exact⟨fun e=>absurd e (h p List.mem_cons_self),ih fun y hy=>h y (List.mem_cons_of_mem _ hy)⟩
  exact this _ fun y hy=>hfree y hy
end
end L2
namespace L2
open PySem PySem.Spec PyProof.Rows
def Def (P:Program)(w:World)(K:PySem.W.Frag)(mg:Str→Option Value)(base:Heap)(k:Nat)(x:Str)(ps:List Str)(sp:Sp):Prop:=
 ∃(f:Addr) (fd:FuncData),FnOk P w K mg base Dp k f fd ps sp∧mg x=some (.ref f)∧PySem.W.keepIn K (.ref f)=true∧Binds K fd ps []
section
variable {X:Cx}{k:Nat}{x:Str}{ps:List Str}{sp:Sp}{e:Expr}{es:List Expr}{t:TA}{p pos:Pos}
theorem AK (D:Def X.prog X.w X.K X.mg X.base k x ps sp) (hr:Room k X.A) (hg:Gl X x) (ha:PA X (e::es) t)
  (hdb:(x == ("__debug__":Str))=false:=by decide) (he:starEach (e::es) X.env=(false,eval e X.env)::starEach es X.env:=by rfl) (hpl:(backTo pos (starEach es X.env)).any (·.1)=false:=by rfl) :
  PE X (.Call (.Name x p) (e::es) [] pos) (Jt sp [] E0 t):=by
 obtain⟨f,fd,F,hm,hk,hb⟩:=D
 exact MX F hr hg hm hk hb .nil LG ha hdb he hpl
theorem O5 (D:Def X.prog X.w X.K X.mg X.base k x ps sp) (hr:Room k X.A) (hg:Gl X x)
  (hdb:(x == ("__debug__":Str))=false:=by decide) :
  PE X (.Call (.Name x p) [] [] pos) (Jt sp [] E0 Gj):=by
 obtain⟨f,fd,F,hm,hk,hb⟩:=D
 exact TH F hr hg hm hk hb .nil LG hdb
end
section
variable {X:Cx}
theorem AH {x:Str}{i:Int}{pos:Pos}(hg:Gl X x)(hm:∃t,X.mg x=some (.int i t))(hd:(x == ("__debug__":Str))=false:=by decide):PE X (.Name x pos) (tC (.int i)):=by
 obtain⟨t,hm⟩:=hm
 exact QQ hg hm ⟨_,rfl⟩ hd
theorem JH {x:Str}{T:String}{pos:Pos}(hg:Gl X x)(hm:X.mg x=none)(hv:bootBuiltins x=some (.type T))(hn:x≠"__name__":=by decide)(hd:(x == ("__debug__":Str))=false:=by decide):PE X (.Name x pos) (tC (.ty T)):=VG hg hm hv rfl hn hd
theorem GE {x z:Str}{pos:Pos}(hg:Gl X x)(hm:∃t,X.mg x=some (.str z t))(hd:(x == ("__debug__":Str))=false:=by decide):PE X (.Name x pos) (tC (.str z)):=by
 obtain⟨t,hm⟩:=hm
 exact QQ hg hm ⟨_,rfl⟩ hd
end
theorem Bv:bootBuiltins "isinstance"=some (.builtin "isinstance"):=by decide +kernel
theorem KD:bootBuiltins "all"=some (.builtin "all"):=by decide +kernel
theorem W0:bootBuiltins "sum"=some (.builtin "sum"):=by decide +kernel
theorem Hd:bootBuiltins "sorted"=some (.builtin "sorted"):=by decide +kernel
theorem B5:bootBuiltins "len"=some (.builtin "len"):=by decide +kernel
theorem Xd:bootBuiltins "max"=some (.builtin "max"):=by decide +kernel
theorem Uo:bootBuiltins "int"=some (.type "int"):=by decide +kernel
theorem UI:bootBuiltins "bool"=some (.type "bool"):=by decide +kernel
theorem Sw:bootBuiltins "str"=some (.type "str"):=by decide +kernel
theorem FW:bootBuiltins "list"=some (.type "list"):=by decide +kernel
theorem Er:bootBuiltins "tuple"=some (.type "tuple"):=by decide +kernel
theorem Wg:bootBuiltins "set"=some (.type "set"):=by decide +kernel
theorem HX:bootBuiltins "enumerate"=some (.type "enumerate"):=by decide +kernel
theorem Wq {t c:String}{b:Bool}(h:(if(Value.type t == Value.type c)=true then some true else if PySem.W.kitMeta c=true then(fastBuiltinMro t).map (·.contains (.type c)) else none)=some b)(K:PySem.W.Frag) :
  PySem.W.kitOne K (.type t) (.type c)=some b:=h
section
variable {X:Cx}
def YT (K:PySem.W.Frag):List V→Hp→VK→Prop:=fun xs H Q=>∃x c t b,xs=[x,.ty c]∧TyOf K H x t∧PySem.W.kitOne K t (.type c)=some b∧Q (.bl b) H
theorem B2:DN X (.builtin "isinstance") (YT X.K):=by
 intro pins s σ H xs us Q I r h
 obtain⟨x,c,t,b,rfl,ty,e,q⟩:=h
 obtain⟨u,v,rfl,ru,rv⟩:=vals2 r
 have ev:v=Value.type c:=rv
 subst ev
 exact Q2 I ru ty e fun tk=>⟨.bl b,H,I.tok _,rfl,q⟩
end
def CY:V→Bool
 | .non=>true
 | .int _=>true
 | .str _=>true
 |_=>false
theorem Hk {x:V}(h:CY x=true):GG x=true:=by
 cases x<;>first|rfl|exact h
theorem pure_eq {x y:V}(hx:CY x=true)(hy:CY y=true):Lq x y=decide (x=y):=by
 cases x<;>first|exact absurd (show false=true from hx) Bool.false_ne_true|skip
 all_goals (cases y<;>first|exact absurd (show false=true from hy) Bool.false_ne_true|skip)
 ·rfl
 ·rfl
 ·rfl
 ·rfl
 ·exact G8.symm
 ·rfl
 ·rfl
 ·rfl
 ·exact Mq.symm
theorem Hs:∀(xs ys:List V),xs.length=ys.length→xs.all CY=true→ys.all CY=true→
  ((List.range xs.length).all fun i=>Lq (xs.getD i .non) (ys.getD i .non))=decide (xs=ys):=by
 intro xs
 induction xs with
 |nil=>
  intro ys hl _ _
  cases ys with
  |nil=>rfl
  |cons _ _=>simp at hl
 |cons x xs ih=>
  intro ys hl hx hy
  cases ys with
  |nil=>simp at hl
  |cons y ys=>
   rw[List.all_cons,Bool.and_eq_true] at hx hy
   have q:=ih ys (by simpa using hl) hx.2 hy.2
   rw[List.length_cons,List.range_succ_eq_map,List.all_cons,List.all_map]
   have e0:((fun i=>Lq ((x::xs).getD i .non) ((y::ys).getD i .non))∘Nat.succ)=fun i=>Lq (xs.getD i .non) (ys.getD i .non):=by
    funext i;simp
   rw[e0,q]
   show(Lq x y&&decide (xs=ys))=_
   rw[pure_eq hx.1 hy.1]
   by_cases h1:x=y
   ·by_cases h2:xs=ys<;>simp[h1,h2]
   ·simp[h1]
theorem J2 {xs:List V}{us:List Value}(r:AC xs us){j:Nat}(hj:j<us.length):∃x,xs[j]?=some x∧RelV x us[j]:=by
 have hl:=r.length
 obtain⟨u,e1,e2⟩:=r.get (i:=j) (x:=xs[j]'(by omega)) (by simp[show j<xs.length by omega])
 refine⟨xs[j]'(by omega),by simp[show j<xs.length by omega],?_⟩
 rw[List.getElem?_eq_getElem hj] at e1
 cases e1
 exact e2
section
variable {X:Cx}
theorem Se {A:Around} {s:Shared} {a b:Addr} {xs ys:List V} {its its2:List Value} (hu:A.units<cLine) (r1:AC xs its) (r2:AC ys its2) (h1:s.heap.IsList a its.toArray) (h2:s.heap.IsList b its2.toArray)
  (f1:xs.all CY=true) (f2:ys.all CY=true):SeqAt.RcAt A s (.ref a) (.ref b) (decide (xs=ys)):=by
 have l1:=r1.length
 have l2:=r2.length
 by_cases hl:xs.length=ys.length
 ·have q:=SeqAt.RcAt.lists (A:=A) (s:=s) (e:=fun i=>Lq (xs.getD i .non) (ys.getD i .non)) h1 h2 (by simp;omega) hu (fun j g1 g2=>by
   have g1':j<its.length:=by simpa using g1
   have g2':j<its2.length:=by simpa using g2
   obtain⟨x,e1,rx⟩:=J2 r1 g1'
   obtain⟨y,e2,ry⟩:=J2 r2 g2'
   have p1:CY x=true:=List.all_eq_true.mp f1 x (List.mem_of_getElem? e1)
   have p2:CY y=true:=List.all_eq_true.mp f2 y (List.mem_of_getElem? e2)
   have:=KU (A:=A.in1) (s:=s) rx ry (Hk p1) (Hk p2)
   simpa [List.getD,e1,e2] using this)
  have e:(its.toArray.size)=xs.length:=by simp;omega
  rw[e,Hs xs ys hl f1 f2] at q
  exact q
 ·have e:decide (xs=ys)=false:=decide_eq_false fun z=>hl (by rw[z])
  rw[e]
  exact SeqAt.RcAt.lists_lengths h1 h2 (by simp;omega) hu
def Yh (K:PySem.W.Frag)(neg:Bool):R2:=fun x y H Q=>∃a b xs ys,x=.ref a∧y=.ref b∧AM K H a xs∧AM K H b ys∧xs.all CY=true∧ys.all CY=true∧Q (.bl (if neg then !decide (xs=ys) else decide (xs=ys))) H
theorem WU (hu:X.A.units+1<cLine):Gd X (compareOp .Eq) (Yh X.K false):=by
 intro pins s σ H x y v u Q I rx ry h
 obtain⟨a,b,xs,ys,rfl,rfl,h1,h2,f1,f2,q⟩:=h
 cases rx
 cases ry
 obtain⟨its,r1,p1,_⟩:=I.list h1
 obtain⟨its2,r2,p2,_⟩:=I.list h2
 exact Se (by omega) r1 r2 p1.isList p2.isList f1 f2 _ _ _ _ ⟨.bl _,H,I,rfl,q⟩
theorem PY {A:Around} {s:Shared} {a b:Addr} {xs ys:List V} {its its2:List Value} (hu:A.units<cLine) (r1:AC xs its) (r2:AC ys its2) (h1:s.heap.IsList a its.toArray) (h2:s.heap.IsList b its2.toArray)
  (f1:xs.all CY=true) (f2:ys.all CY=true):SeqAt.RcNeAt A s (.ref a) (.ref b) (!decide (xs=ys)):=by
 have l1:=r1.length
 have l2:=r2.length
 by_cases hl:xs.length=ys.length
 ·have q:=SeqAt.RcNeAt.lists (A:=A) (s:=s) (e:=fun i=>Lq (xs.getD i .non) (ys.getD i .non)) h1 h2 (by simp;omega) hu (fun j g1 g2=>by
   have g1':j<its.length:=by simpa using g1
   have g2':j<its2.length:=by simpa using g2
   obtain⟨x,e1,rx⟩:=J2 r1 g1'
   obtain⟨y,e2,ry⟩:=J2 r2 g2'
   have p1:CY x=true:=List.all_eq_true.mp f1 x (List.mem_of_getElem? e1)
   have p2:CY y=true:=List.all_eq_true.mp f2 y (List.mem_of_getElem? e2)
   have:=KU (A:=A.in1) (s:=s) rx ry (Hk p1) (Hk p2)
   simpa [List.getD,e1,e2] using this)
  have e:(its.toArray.size)=xs.length:=by simp;omega
  rw[e,Hs xs ys hl f1 f2] at q
  exact q
 ·have e:decide (xs=ys)=false:=decide_eq_false fun z=>hl (by rw[z])
  rw[e]
  exact SeqAt.RcNeAt.lists_lengths h1 h2 (by simp;omega) hu
theorem WL (hu:X.A.units+1<cLine):Gd X (compareOp .NotEq) (Yh X.K true):=by
 intro pins s σ H x y v u Q I rx ry h
 obtain⟨a,b,xs,ys,rfl,rfl,h1,h2,f1,f2,q⟩:=h
 cases rx
 cases ry
 obtain⟨its,r1,p1,_⟩:=I.list h1
 obtain⟨its2,r2,p2,_⟩:=I.list h2
 exact PY (by omega) r1 r2 p1.isList p2.isList f1 f2 _ _ _ _ ⟨.bl _,H,I,rfl,q⟩
theorem Io (ns:List Int):(ns.map V.int).all CY=true:=by simp[List.all_map,Function.comp_def,CY]
theorem Ik (ns:List Str):(ns.map V.str).all CY=true:=by simp[List.all_map,Function.comp_def,CY]
end
theorem JA:∀{bs:List Bool} {us:List Value},AC (bs.map V.bl) us→LSm.BoolsAre us bs
 |[],_,.nil=>.nil
 |b::bs,_,.cons r t=>by
  have e:_=Value.bool b:=r
  subst e
  exact .cons b (JA t)
section
variable {prog:Program}{w:World}{A:Around}{E:Value→Shared→Prop}{s:Shared}{l:Addr}{vs:List Value}
theorem Uk {bs:List Bool} {Q:Value→Shared→Prop} (hh:A.handled=none) (hl:s.heap.IsList l vs.toArray) (hb:LSm.BoolsAre vs bs)
  (h:∀h' tk,(∀b o,s.heap.get? b=some o→h'.get? b=some o)→Q (.bool (bs.all id)) { s with heap:=h',toks:=tk }):wpAny (model prog w) A (call (.builtin "all") [.ref l]) Q E s:=by
 have below:l<s.heap.objs.size:=(fun⟨_,e,_⟩=>Heap.lt_size e:s.heap.IsList l vs.toArray→_) hl
 have whole:((List.range vs.toArray.size).all fun i=>(bs[i]?).getD true)=bs.all id:=by rw[List.size_toArray,hb.length,LSm.range_all]
 exact call_all_walk (wpAny_pyIter_list hl ⟨s.heap.objs.size,[s.heap.objs.size,l],[s.heap.objs.size],vs.toArray.size,_,_,fun i=>(bs[i]?).getD true,rfl,Walks.list (A:=A.in1) hh _ l (Nat.ne_of_lt below) vs.toArray,⟨⟨_,Heap.get?_push_size _ rfl,rfl,rfl⟩,hl.push _⟩,
  (fun i v s' Q' E' hP hQ=>by
   obtain⟨b,hg,hv⟩:=hb.get i v (by simpa using hP)
   have hQ':Q' b s':=by simpa [hg] using hQ
   subst hv
   exact wpAny_truthy_bool hQ'),
  fun h' tk hk=>whole▸h h' tk (LSm.kept_iter hk)⟩)
end
section
variable {X:Cx}
theorem GH (hc:X.calm=true):DN X (.builtin "all") (fun xs H Q=>∃(a:Addr) (bs:List Bool),xs=[.ref a]∧AM X.K H a (bs.map V.bl)∧Q (.bl (bs.all id)) H):=by
 intro pins s σ H xs us Q I r h
 obtain⟨a,bs,rfl,h1,q⟩:=h
 obtain⟨u,rfl,ru⟩:=vals1 r
 cases ru
 obtain⟨its,r1,p1,_⟩:=I.list h1
 exact Uk (I.ok.hd hc) p1.isList (JA r1) fun h' tk hk=>⟨.bl _,H,I.kept hk,rfl,q⟩
theorem Uc (hc:X.calm=true):DN X (.builtin "sum") (fun xs H Q=>∃(a:Addr) (ns:List Int),xs=[.ref a]∧AM X.K H a (ns.map V.int)∧Q (.int ns.sum) H):=by
 intro pins s σ H xs us Q I r h
 obtain⟨a,ns,rfl,h1,q⟩:=h
 obtain⟨u,rfl,ru⟩:=vals1 r
 cases ru
 obtain⟨its,r1,p1,_⟩:=I.list h1
 have hi:=intsAre_of r1
 obtain⟨zs,hz⟩:=hi.allInts.items
 have due:preSum (numAt zs) zs.size=ns.sum:=by
  have:zs.toList.map (·.1)=ns:=by rw[←nums_intItems,←hz];exact hi.numsOf
  rw[←this,preSum_eq,List.take_of_length_le (by simp)]
 exact sum_intListG (I.ok.hd hc) (hz▸p1.isList) fun h' tk t' hk=>⟨.int ns.sum,H,I.kept hk,⟨_,by rw[due]⟩,q⟩
def X7 (K:PySem.W.Frag):R2:=fun x y H Q=>∃l b xs zs,x=.ref l∧y=.ref b∧AM K H l xs∧AM K H b zs∧xs.length+zs.length≤sizeLine∧∀p,H p=none→Q (.ref p) (upd H p (.lst (xs++zs)))
theorem FT:Gd X (binaryOp .Add) (X7 X.K):=by
 intro pins s σ H x y v u Q I rx ry h
 obtain⟨l,b,xs,zs,rfl,rfl,h1,h2,hz,q⟩:=h
 cases rx
 cases ry
 obtain⟨its,r,p1,_⟩:=I.list h1
 obtain⟨its2,r2,p2,_⟩:=I.list h2
 have l1:=r.length
 have l2:=r2.length
 obtain⟨⟨cls,dd,data,sl⟩,ho,hc,n,hd⟩:=id p1.isList
 obtain⟨⟨cls2,dd2,data2,sl2⟩,ho2,hc2,n2,hd2⟩:=id p2.isList
 simp only at hc hd hc2 hd2
 subst hc hd hc2 hd2
 have e:its.toArray++its2.toArray=(its++its2).toArray:=by simp
 refine concat_meets ⟨_,ho,rfl⟩ ⟨_,ho2,rfl⟩ noFill_list_add seq_list_add PySem.F.slot_list_add PySem.F.entry_list_add (PySem.F.args_list_add_2 _ _) (list_addW l b its.toArray its2.toArray n n2 dd dd2 sl sl2 (by rw[List.size_toArray,List.size_toArray];omega)) ⟨ho,ho2,?_⟩
 rw[e]
 exact⟨.ref _,_,I.lnew (t':=s.toks) (r.append r2) (by rw[List.length_append];omega),rfl,q _ I.fresh⟩
end
theorem Ak {H:Hp}{p:Addr}(h:H p=none)(o:HO):Al H (upd H p o):=fun b u q=>by rw[Ai (Ar q h)];exact q
theorem Br {H H':Hp}{p:Addr}(s:Al H H')(h:H p=none)(o:HO):Al H (upd H' p o):=fun b u q=>by rw[Ai (Ar q h)];exact s b u q
theorem Al.get {H H':Hp}{a:Addr}{o:HO}(s:Al H H')(h:H a=some o):H' a=some o:=s a o h
theorem IG:1000000≤sizeLine:=by decide
theorem small {n:Nat}(h:n≤1000000):n≤sizeLine:=Nat.le_trans h IG
theorem BL {n:Nat}(h:n<1000000):n<sizeLine:=Nat.lt_of_lt_of_le h IG
theorem UY {ns:List Int}{i:Nat}{y:V}(h:(ns.map V.int)[i]?=some y):∃z,y=V.int z∧ns[i]?=some z:=by
 rw[List.getElem?_map] at h
 cases e:ns[i]? with
 |none=>rw[e] at h;cases h
 |some z=>rw[e] at h;exact⟨z,(Option.some.inj h).symm,rfl⟩
theorem M9 {ns:List Int}{i:Int}(h0:0≤i)(h1:i<ns.length):He (ns.map V.int) i=some (.int (ns.getD i.toNat 0)):=by
 have hk:i.toNat<ns.length:=by omega
 have ek:i=((i.toNat:Nat):Int):=by omega
 have q:He (ns.map V.int) ((i.toNat:Nat):Int)=some (.int (ns.getD i.toNat 0)):=CP (by rw[List.getElem?_map,List.getElem?_eq_getElem hk];simp[List.getD,List.getElem?_eq_getElem hk])
 rw[←ek] at q
 exact q
theorem Su {xs:List V}{i:Int}(h:0≤i):GI xs (some i) none=xs.drop i.toNat:=by
 unfold GI
 rw[show i=((i.toNat:Nat):Int) by omega,HT.My,HT.SC,Int.toNat_natCast]
 by_cases hl:i.toNat≤xs.length
 ·rw[Nat.min_eq_left hl,List.take_of_length_le (by rw[List.length_drop];exact Nat.le_refl _)]
 ·rw[Nat.min_eq_right (by omega),List.drop_eq_nil_of_le (Nat.le_refl _),List.drop_eq_nil_of_le (by omega),List.take_nil]
theorem Og {xs:List V}{i j:Int}(hi:0≤i)(hj:0≤j):GI xs (some i) (some j)=(xs.drop i.toNat).take (j.toNat-i.toNat):=by
 unfold GI
 rw[show i=((i.toNat:Nat):Int) by omega,show j=((j.toNat:Nat):Int) by omega,HT.My,HT.My,Int.toNat_natCast,Int.toNat_natCast]
 generalize i.toNat=a
 generalize j.toNat=b
 apply List.ext_getElem?
 intro k
 rw[List.getElem?_take,List.getElem?_take,List.getElem?_drop,List.getElem?_drop]
 by_cases ha:a≤xs.length
 ·rw[Nat.min_eq_left ha]
  by_cases hb:b≤xs.length
  ·rw[Nat.min_eq_left hb]
  ·rw[Nat.min_eq_right (by omega)]
   by_cases h1:k<xs.length-a
   ·rw[if_pos h1,if_pos (by omega)]
   ·rw[if_neg h1]
    split
    ·rw[List.getElem?_eq_none (by omega)]
    ·rfl
 ·rw[Nat.min_eq_right (show xs.length≤a by omega)]
  rw[List.getElem?_eq_none (by omega),List.getElem?_eq_none (by omega)]
  split<;>split<;>rfl
theorem TV (ns:List Int)(lo hi:Option Int):∃ms:List Int,GI (ns.map V.int) lo hi=ms.map V.int∧ms.length≤ns.length∧∀x∈ms,x∈ns:=by
 refine⟨(ns.drop (HT.C5 (ns.map V.int).length 0 lo)).take (HT.C5 (ns.map V.int).length (ns.map V.int).length hi-HT.C5 (ns.map V.int).length 0 lo),?_,?_,fun x hx=>List.mem_of_mem_drop (List.mem_of_mem_take hx)⟩
 ·unfold GI;rw[List.map_take,List.map_drop]
 ·rw[List.length_take,List.length_drop];omega
theorem AS {c:Bool}{A B:Prop}(h:c=false)(b:B):if c=true then A else B:=by
 subst h
 rw[if_neg Bool.false_ne_true]
 exact b
theorem AQ {c:Bool}{A B:Prop}(h:c=true)(b:A):if c=true then A else B:=by
 subst h
 rw[if_pos rfl]
 exact b
theorem dec_true {c:Prop}[Decidable c](h:decide c=true):c:=of_decide_eq_true h
theorem dec_false {c:Prop}[Decidable c](h:¬decide c=true):¬c:=fun z=>h (decide_eq_true z)
theorem Tj {t u:TT}{σ:St}{H:Hp}{Q:Bool→Hp→Prop}(c d:Bool)(ht:∀R:Bool→Hp→Prop,R c H→t σ H R)(hu:c=false→∀R:Bool→Hp→Prop,R d H→u σ H R)(q:Q (c||d) H):Zf t u σ H Q:=by
 refine ht _ ?_
 cases c with
 |true=>rw[if_pos rfl];exact q
 |false=>rw[if_neg Bool.false_ne_true];exact hu rfl _ q
def Kz (J:It)(H:Hp)(xs:List V):Prop:=∀H',Al H H'→∀i:Nat,(i<xs.length→J.go i H')∧(∀x H'',J.yld i H' x H''→H''=H'∧(i<xs.length→xs[i]?=some x))∧(xs.length≤i→J.stop i H')
theorem Fh {K:PySem.W.Frag}{a:Addr}{H:Hp}{xs:List V}(h:AM K H a xs):Kz (Xk K a) H xs:=fun H' s i=>
 ⟨fun hi=>⟨xs,xs[i],s.seq h,by simp[hi]⟩,fun x H'' y=>⟨y.1,fun _=>y.2 xs (s.seq h)⟩,fun hi=>⟨xs,s.seq h,hi⟩⟩
theorem Pi {lo:Int}{n:Nat}{H:Hp}:Kz (Uv lo n) H ((List.range n).map fun(i:Nat)=>V.int (lo+(i:Int))):=fun H' s i=>
 ⟨fun hi=>(by simpa using hi:i<n),fun x H'' y=>⟨y.1,fun hi=>by
  have hi':i<n:=by simpa using hi
  rw[List.getElem?_map,List.getElem?_range hi',y.2];rfl⟩,fun hi=>(by simpa using hi:n≤i)⟩
theorem comp_map {J:It} {xs:List V} {fr:List (Option Nat)} {k:Nat} {te:TE} {Q:VK} {σ:St} {H:Hp} (f:V→V) (hJ:Kz J H xs) (hn:xs.length≤1000000)
  (helt:∀(x:V) (H':Hp) (R:VK),x∈xs→Al H H'→(∀H'',Al H' H''→R (f x) H'')→te ((stC fr σ).set k (some x)) H' R)
  (hQ:∀l H',H l=none→Al H H'→H' l=some (.lst (xs.map f))→Q (.ref l) H') :
  E6 fr (D2 k) Oq te σ Q J H:=by
 intro l hl
 refine⟨fun i m σ' H'=>m=xs.length-i∧i≤xs.length∧(∀y,σ'.set k y=(stC fr σ).set k y)∧Al H H'∧H' l=some (.lst ((xs.take i).map f)),⟨xs.length,by simp,Nat.zero_le _,fun _=>rfl,Ak hl _,by rw[Ad,List.take_zero,List.map_nil]⟩,?_⟩
 rintro i m σ' H' ⟨rfl,hi,hσ,hs,hl'⟩
 obtain⟨h1,h2,h3⟩:=hJ H' hs i
 by_cases hlt:i<xs.length
 ·refine .inr ⟨h1 hlt,fun x H'' y=>?_⟩
  obtain⟨rfl,hx⟩:=h2 x H'' y
  have hx:=hx hlt
  show te (σ'.set k (some x)) H'' _
  rw[hσ]
  refine helt x H'' _ (List.mem_of_getElem? hx) hs fun H4 s4=>?_
  refine⟨_,s4.get hl',BL (by rw[List.length_map,List.length_take];omega),xs.length-(i+1),by omega,rfl,hlt,fun y=>by rw[List.set_set],Br (hs.trans s4) hl _,?_⟩
  rw[Ad,List.take_add_one,hx]
  simp
 ·have e:i=xs.length:=by omega
  subst e
  exact .inl ⟨h3 (Nat.le_refl _),hQ l H' hl hs (by rw[hl',List.take_of_length_le (Nat.le_refl _)])⟩
section
variable {X:Cx}{K:PySem.W.Frag}
theorem QL (h:X.K=K):Yi X (Xy K):=by subst h;exact AF
end
theorem Ow {J:It} {xs:List V} {fr:List (Option Nat)} {k:Nat} {tt:TT} {te:TE} {Q:VK} {σ:St} {H:Hp} (p:V→Bool) (f:V→V) (hJ:Kz J H xs) (hn:xs.length≤1000000)
  (htest:∀(x:V) (H':Hp) (R:Bool→Hp→Prop),x∈xs→Al H H'→R (p x) H'→tt ((stC fr σ).set k (some x)) H' R)
  (helt:∀(x:V) (H':Hp) (R:VK),x∈xs→p x=true→Al H H'→(∀H'',Al H' H''→R (f x) H'')→te ((stC fr σ).set k (some x)) H' R)
  (hQ:∀l H',H l=none→Al H H'→H' l=some (.lst ((xs.filter p).map f))→Q (.ref l) H'):E6 fr (D2 k) tt te σ Q J H:=by
 intro l hl
 refine⟨fun i m σ' H'=>m=xs.length-i∧i≤xs.length∧(∀y,σ'.set k y=(stC fr σ).set k y)∧Al H H'∧H' l=some (.lst (((xs.take i).filter p).map f)),⟨xs.length,by simp,Nat.zero_le _,fun _=>rfl,Ak hl _,by rw[Ad];rfl⟩,?_⟩
 rintro i m σ' H' ⟨rfl,hi,hσ,hs,hl'⟩
 obtain⟨h1,h2,h3⟩:=hJ H' hs i
 by_cases hlt:i<xs.length
 ·refine .inr ⟨h1 hlt,fun x H'' y=>?_⟩
  obtain⟨rfl,hx⟩:=h2 x H'' y
  have hx:=hx hlt
  have hm:=List.mem_of_getElem? hx
  have et:(xs.take (i+1)).filter p=(xs.take i).filter p++(if p x=true then[x] else[]):=by
   rw[List.take_add_one,hx,List.filter_append]
   cases q:p x<;>simp[q]
  show tt (σ'.set k (some x)) H'' _
  rw[hσ]
  refine htest x H'' _ hm hs ?_
  refine Cs (fun c=>?_) (fun c=>?_)
  ·refine helt x H'' _ hm c hs fun H4 s4=>?_
   refine⟨_,s4.get hl',BL ?_,xs.length-(i+1),by omega,rfl,hlt,fun y=>by rw[List.set_set],Br (hs.trans s4) hl _,?_⟩
   ·rw[List.length_map]
    have a:=List.length_filter_le p (xs.take i)
    rw[List.length_take] at a
    omega
   ·rw[Ad,et,if_pos c,List.map_append];rfl
  ·exact⟨xs.length-(i+1),by omega,rfl,hlt,fun y=>by rw[List.set_set],hs,by rw[hl',et,if_neg c,List.append_nil]⟩
 ·have e:i=xs.length:=by omega
  subst e
  exact .inl ⟨h3 (Nat.le_refl _),hQ l H' hl hs (by rw[hl',List.take_of_length_le (Nat.le_refl _)])⟩
def Ok (H:Hp):V→Prop
 | .non=>True
 | .bl _=>True
 | .int _=>True
 | .str z=>z.length≤1000
 | .ref a=>(∃xs,H a=some (.lst xs))∨∃xs,H a=some (.tup xs)
 |_=>False
theorem Ok.same {H H':Hp}{v:V}(h:Ok H v)(s:Al H H'):Ok H' v:=by
 cases v<;>first|exact h|skip
 rcases h with⟨xs,e⟩|⟨xs,e⟩
 ·exact .inl ⟨xs,s.get e⟩
 ·exact .inr ⟨xs,s.get e⟩
def Hl (H:Hp):V→String
 | .non=>"NoneType"
 | .bl _=>"bool"
 | .int _=>"int"
 | .str _=>"str"
 | .ref a=>match H a with
  |some (.lst _)=>"list"
  |some (.tup _)=>"tuple"
  |_=>"?"
 |_=>"?"
theorem Ok.ty {H:Hp}{v:V}(h:Ok H v)(K:PySem.W.Frag):TyOf K H v (.type (Hl H v)):=by
 cases v with
 |non=>exact .non
 |bl b=>exact .bl b
 |int i=>exact .int i
 |str z=>exact .str z
 |ref a=>
  rcases h with⟨xs,e⟩|⟨xs,e⟩
  ·have q:Hl H (.ref a)="list":=by simp only[Hl,e]
   rw[q];exact .lst e
  ·have q:Hl H (.ref a)="tuple":=by simp only[Hl,e]
   rw[q];exact .tup e
 |_=>exact h.elim
def isA (t c:String):Bool:=t == c||(t == "bool"&&c == "int")
theorem Vn {t c:String}(K:PySem.W.Frag)(ht:t∈["NoneType","bool","int","str","list","tuple"])(hc:c∈["bool","int","str","list","tuple"]):PySem.W.kitOne K (.type t) (.type c)=some (isA t c):=by
 have all:∀t∈["NoneType","bool","int","str","list","tuple"],∀c∈["bool","int","str","list","tuple"],(if(Value.type t == Value.type c)=true then some true else if PySem.W.kitMeta c=true then(fastBuiltinMro t).map (·.contains (.type c)) else none)=some (isA t c):=by decide +kernel
 exact Wq (all t ht c hc) K
theorem Ok.tyMem {H:Hp}{v:V}(h:Ok H v):Hl H v∈["NoneType","bool","int","str","list","tuple"]:=by
 cases v with
 |ref a=>
  rcases h with⟨xs,e⟩|⟨xs,e⟩
  ·simp only[Hl,e];decide
  ·simp only[Hl,e];decide
 |byt _=>exact h.elim
 |flt _=>exact h.elim
 |ty _=>exact h.elim
 |_=>simp only[Hl];decide
theorem Ok.kit {H:Hp}{v:V}(h:Ok H v)(K:PySem.W.Frag){c:String}(hc:c∈["bool","int","str","list","tuple"]:=by decide):PySem.W.kitOne K (.type (Hl H v)) (.type c)=some (isA (Hl H v) c):=Vn K h.tyMem hc
theorem Ke {t u:TE}{σ:St}{H:Hp}{Q:VK}(c d:Bool)(ht:∀R:VK,R (.bl c) H→t σ H R)(hu:c=true→∀R:VK,R (.bl d) H→u σ H R)(q:Q (.bl (c&&d)) H):VV t u σ H Q:=by
 refine ht _ ⟨c,rfl,?_⟩
 cases c with
 |false=>rw[if_neg Bool.false_ne_true];exact q
 |true=>rw[if_pos rfl];exact hu rfl _ q
theorem Vv {H:Hp}{a:Addr}{xs:List V}(e:H a=some (.lst xs)):Hl H (.ref a)="list":=by simp only[Hl,e]
theorem VM {H:Hp}{a:Addr}{xs:List V}(e:H a=some (.tup xs)):Hl H (.ref a)="tuple":=by simp only[Hl,e]
theorem Ok.elim {H:Hp} {v:V} (ok:Ok H v) {C:Prop} (c1:v=.non→Hl H v="NoneType"→C) (c2:∀b,v=.bl b→Hl H v="bool"→C) (c3:∀i,v=.int i→Hl H v="int"→C) (c4:∀z,v=.str z→z.length≤1000→Hl H v="str"→C)
  (c5:∀a xs,v=.ref a→H a=some (.lst xs)→Hl H v="list"→C) (c6:∀a xs,v=.ref a→H a=some (.tup xs)→Hl H v="tuple"→C):C:=by
 cases v with
 |non=>exact c1 rfl rfl
 |bl b=>exact c2 b rfl rfl
 |int i=>exact c3 i rfl rfl
 |str z=>exact c4 z rfl ok rfl
 |ref a=>
  rcases ok with⟨xs,e⟩|⟨xs,e⟩
  ·exact c5 a xs rfl e (Vv e)
  ·exact c6 a xs rfl e (VM e)
 |_=>exact(show False from ok).elim
def ER (H:Hp)(v:V):Bool:=isA (Hl H v) "int" && !isA (Hl H v) "bool"
theorem Q4 (H:Hp)(i:Int):ER H (.int i)=true:=by
 show(isA "int" "int" && !isA "int" "bool")=true
 decide
theorem SD {H:Hp}{v:V}(ok:Ok H v)(h:ER H v=true):∃i,v=.int i:=by
 unfold ER at h
 refine ok.elim (fun _ e=>?_) (fun _ _ e=>?_) (fun i e _=>⟨i,e⟩) (fun _ _ _ e=>?_) (fun _ _ _ _ e=>?_) (fun _ _ _ _ e=>?_)
 all_goals (rw[e] at h;exact absurd h (by decide))
def Cn (a b:Int):V→Bool
 | .int i=>decide (a≤i)&&decide (i≤b)
 |_=>false
theorem U0 {H:Hp}{v:V}{a b:Int}(h:ER H v=false):Cn a b v=false:=by
 cases v with
 |int i=>rw[Q4] at h;cases h
 |_=>rfl
theorem Sg {H:Hp}{v:V}(ok:Ok H v)(h:isA (Hl H v) "tuple"=true):∃a xs,v=.ref a∧H a=some (.tup xs):=by
 refine ok.elim (fun _ e=>?_) (fun _ _ e=>?_) (fun _ _ e=>?_) (fun _ _ _ e=>?_) (fun _ _ _ _ e=>?_) (fun a xs e1 e2 _=>⟨a,xs,e1,e2⟩)
 all_goals (rw[e] at h;exact absurd h (by decide))
theorem WO {H:Hp}{v:V}(ok:Ok H v)(h:isA (Hl H v) "str"=true):∃z,v=.str z∧z.length≤1000:=by
 refine ok.elim (fun _ e=>?_) (fun _ _ e=>?_) (fun _ _ e=>?_) (fun z e1 e2 _=>⟨z,e1,e2⟩) (fun _ _ _ _ e=>?_) (fun _ _ _ _ e=>?_)
 all_goals (rw[e] at h;exact absurd h (by decide))
end L2
namespace L2
open PySem PySem.Spec PyProof.Rows
def Yr (x:Str):It:=⟨fun i _=>i<x.cps.size,fun i H v H'=>H'=H∧∃c,x.cps[i]?=some c∧v=.str ⟨#[c]⟩,fun i _=>x.cps.size≤i⟩
theorem PJ {P:Program}{w:World}{K:PySem.W.Frag}{tg:Expr}(it:Addr)(x:Str)(t:Tok):Turn P w K tg (Yr x) [it] it (fun i h=>h.IsStrIter it "str_ascii_iterator" x t i) where
 mem:=by simp
 obj:=fun i h st b hb=>by
  have e:b=it:=by simpa using hb
  subst e
  obtain⟨o,e,c,d⟩:=st
  exact⟨o,e,fun v z=>by rw[d] at z;cases z⟩
 keep:=fun i h h' st k=>by
  obtain⟨o,e,c,d⟩:=st
  exact⟨o,k it (by simp) o e,c,d⟩
 item:=by
  intro X hP hw hK hc i pins s σ H E I hf st hg
  subst hP hw hK
  have hg':i<x.cps.size:=hg
  obtain⟨f0,f1,f2,f3,f4,f5⟩:=hf it (by simp)
  refine wpAny_pyNext_ascii_item st (c:=x.cps[i]) (by simp[hg']) fun h' st' sb=>?_
  have I1:Inv X pins σ H { s with heap:=h',toks:=s.toks+1 }:=I.turned (fun b o hb e=>(sb.2 b hb).trans e) f0 f1 f3 f4 f5
  obtain⟨o,e,c,d⟩:=id st'
  exact⟨_,rfl,L4 (s:={ s with heap:=h',toks:=s.toks+1 }) e c d (by decide) ⟨.str ⟨#[x.cps[i]]⟩,H,I1,⟨_,rfl⟩,⟨rfl,_,by simp[hg'],rfl⟩,st',fun b hb=>(hf b hb).1⟩⟩
 done:=by
  intro X hP hw hK hc i pins s σ H E I hf st hg
  subst hP hw hK
  have hg':x.cps.size≤i:=hg
  obtain⟨f0,f1,f2,f3,f4,f5⟩:=hf it (by simp)
  exact wpAny_pyNext_ascii_end (I.ok.hd hc) st (by simp[hg']) fun h' eb=>⟨rfl,I.turned (t':=s.toks) (fun b o hb e=>eb b o hb e) f0 f1 f3 f4 f5⟩
 self:=fun _ _ _ _ _ st h=>wpAny_pyIter_striter_ascii st h
theorem RO {P:Program}{w:World}{K:PySem.W.Frag}{tg:Expr}(it:Addr)(x:Str)(t:Tok):Turn P w K tg (Yr x) [it] it (fun i h=>h.IsStrIter it "str_iterator" x t i) where
 mem:=by simp
 obj:=fun i h st b hb=>by
  have e:b=it:=by simpa using hb
  subst e
  obtain⟨o,e,c,d⟩:=st
  exact⟨o,e,fun v z=>by rw[d] at z;cases z⟩
 keep:=fun i h h' st k=>by
  obtain⟨o,e,c,d⟩:=st
  exact⟨o,k it (by simp) o e,c,d⟩
 item:=by
  intro X hP hw hK hc i pins s σ H E I hf st hg
  subst hP hw hK
  have hg':i<x.cps.size:=hg
  obtain⟨f0,f1,f2,f3,f4,f5⟩:=hf it (by simp)
  refine wpAny_pyNext_wide_item st (c:=x.cps[i]) (by simp[hg']) fun h' st' sb=>?_
  have I1:Inv X pins σ H { s with heap:=h',toks:=s.toks+1 }:=I.turned (fun b o hb e=>(sb.2 b hb).trans e) f0 f1 f3 f4 f5
  obtain⟨o,e,c,d⟩:=id st'
  exact⟨_,rfl,L4 (s:={ s with heap:=h',toks:=s.toks+1 }) e c d (by decide) ⟨.str ⟨#[x.cps[i]]⟩,H,I1,⟨_,rfl⟩,⟨rfl,_,by simp[hg'],rfl⟩,st',fun b hb=>(hf b hb).1⟩⟩
 done:=by
  intro X hP hw hK hc i pins s σ H E I hf st hg
  subst hP hw hK
  have hg':x.cps.size≤i:=hg
  obtain⟨f0,f1,f2,f3,f4,f5⟩:=hf it (by simp)
  exact wpAny_pyNext_wide_end (I.ok.hd hc) st (by simp[hg']) fun h' eb=>⟨rfl,I.turned (t':=s.toks) (fun b o hb e=>eb b o hb e) f0 f1 f3 f4 f5⟩
 self:=fun _ _ _ _ _ st h=>wpAny_pyIter_striter_wide st h
section
variable {X:Cx}{tg:Expr}
def YN (tl:TE):TI:=fun σ H R=>tl σ H fun x H1=>∃z,x=.str z∧R (Yr z) H1
theorem HR {l:Expr}{tl:TE}(hl:PE X l tl):PI X tg l (YN tl):=by
 intro pins s σ H R I h
 refine Bd (hl pins s σ H _ I h) fun v s1 ⟨x,H1,I1,r1,q1⟩=>?_
 obtain⟨z,e,q⟩:=q1
 subst e
 obtain⟨t,rfl⟩:=r1
 have fp:∀b∈[s1.heap.objs.size],Gf X pins H1 b:=fun b hb=>by
  have e:b=s1.heap.objs.size:=by simpa using hb
  subst e
  exact I1.fpOk (Nat.le_refl _) (I1.hok.fresh (Nat.le_refl _))
 cases ha:z.cps.all (· < 128)
 ·exact wpAny_pyIter_wide ha ⟨s1.heap.objs.size,[s1.heap.objs.size],_,_,H1,rfl,I1.kept (t':=s1.toks) (fun b o e=>Heap.get?_push_of_some _ e),RO _ z t,⟨_,Heap.get?_push_size _ rfl,rfl,rfl⟩,fp,q⟩
 ·exact wpAny_pyIter_ascii ha ⟨s1.heap.objs.size,[s1.heap.objs.size],_,_,H1,rfl,I1.kept (t':=s1.toks) (fun b o e=>Heap.get?_push_of_some _ e),PJ _ z t,⟨_,Heap.get?_push_size _ rfl,rfl,rfl⟩,fp,q⟩
end
theorem EE {x:Str}{H:Hp}:Kz (Yr x) H (x.cps.toList.map fun c=>V.str ⟨#[c]⟩):=fun H' s i=>
 ⟨fun hi=>(by simpa using hi:i<x.cps.size),fun v H'' y=>⟨y.1,fun hi=>by
  obtain⟨_,c,hc,e⟩:=y
  rw[List.getElem?_map,Array.getElem?_toList,hc,e];rfl⟩,fun hi=>(by simpa using hi:x.cps.size≤i)⟩
section
variable {X:Cx}
def Wz:V→List V→Hp→VK→Prop:=fun x vs H Q=>∃t u,x=.str t∧vs=[.str u]∧0≤Txt.find t u∧Q (.int (Txt.find t u)) H
theorem KS (hc:X.calm=true):Yt X "str.index" Wz:=by
 intro pins s σ H x vs v us Q I rx rv h
 obtain⟨t,u,rfl,rfl,h0,q⟩:=h
 obtain⟨tk,rfl⟩:=rx
 obtain⟨y,rfl,ry⟩:=rv.one
 obtain⟨tk2,rfl⟩:=ry
 refine index_or (I.ok.hd hc) (fun e=>absurd e (by omega)) fun _ _=>⟨.int (Txt.find t u),H,I.tok _,⟨_,rfl⟩,q⟩
end
end L2
namespace L2
open PySem PySem.Spec PyProof.Rows
section
variable {X:Cx}
end
end L2
namespace L2
open PySem PySem.Spec PyProof.Rows
section
variable {X:Cx}
theorem Pl {ys:List Str}:∀{us:List Value},AC (ys.map V.str) us→StrsAre us ys:=by
 induction ys with
 |nil=>intro us r;rw[List.map_nil] at r;cases r;exact .nil
 |cons n ns ih=>
  intro us r
  rw[List.map_cons] at r
  cases r with
  |cons r1 r2=>
   obtain⟨t,e⟩:=r1
   subst e
   exact .cons n t (ih r2)
def rJoin (K:PySem.W.Frag):V→List V→Hp→VK→Prop:=fun x vs H Q=>∃(a:Addr) (z:Str) (ys:List Str),x=.str z∧vs=[.ref a]∧AM K H a (ys.map V.str)∧(ys.map (·.length)).sum+ys.length*z.length≤16777216∧Q (.str (PySem.Txt.join z ys)) H
theorem Mh (_:X.calm=true):Yt X "str.join" (rJoin X.K):=by
 intro pins s σ H x vs v us Q I rx rv h
 obtain⟨a,z,ys,rfl,rfl,hq,hz,q⟩:=h
 obtain⟨tk,rfl⟩:=rx
 obtain⟨y,rfl,ry⟩:=rv.one
 cases ry
 obtain⟨its,r1,p1,_⟩:=I.list hq
 exact join_list p1.isList (Pl (by simpa using r1)) hz fun t' k=>⟨.str _,H,I.tok k,⟨_,rfl⟩,q⟩
end
end L2
namespace L2
open PySem PySem.Spec PyProof.Rows PySem.Builtin.Str
abbrev Do (z:Str):List Nat:=z.cps.toList
theorem BJ (z:Str):(Do z).length=z.length:=by simp[Str.length]
theorem QJ {x y:Str}(h:Do x=Do y):x=y:=by
 obtain⟨a⟩:=x
 obtain⟨b⟩:=y
 have:a=b:=Array.toList_inj.mp h
 rw[this]
end L2
namespace L2
open PySem PySem.Spec PyProof.Rows
section
variable {X:Cx}
end
theorem Iv {J:It} {xs:List V} {fr:List (Option Nat)} {k:Nat} {te:TE} {Q:VK} {σ:St} {H:Hp} (P:V→V→Hp→Prop) (hP:∀x y H1 H2,P x y H1→Al H1 H2→P x y H2)
  (hU:∀x y H1 l us us',P x y H1→H1 l=some (.lst us)→y≠.ref l→P x y (upd H1 l (.lst us'))) (hJ:Kz J H xs) (hn:xs.length≤1000000)
  (helt:∀(x:V) (H':Hp) (R:VK),x∈xs→Al H H'→(∀y H'',Al H' H''→(∀a,y=.ref a→H' a=none)→P x y H''→R y H'')→te ((stC fr σ).set k (some x)) H' R)
  (hQ:∀l H' (ys:List V),H l=none→Al H H'→H' l=some (.lst ys)→ys.length=xs.length→(∀(i:Nat) x y,xs[i]?=some x→ys[i]?=some y→P x y H'∧y≠.ref l)→Q (.ref l) H') :
  E6 fr (D2 k) Oq te σ Q J H:=by
 intro l hl
 refine⟨fun i m σ' H'=>m=xs.length-i∧i≤xs.length∧(∀y,σ'.set k y=(stC fr σ).set k y)∧Al H H'∧∃ys:List V,H' l=some (.lst ys)∧ys.length=i∧(∀(i:Nat) x y,xs[i]?=some x→ys[i]?=some y→P x y H'∧y≠.ref l),
  ⟨xs.length,by simp,Nat.zero_le _,fun _=>rfl,Ak hl _,[],Ad,rfl,fun i x y _ h=>by simp at h⟩,?_⟩
 rintro i m σ' H' ⟨rfl,hi,hσ,hs,ys,hl',hlen,hp⟩
 obtain⟨h1,h2,h3⟩:=hJ H' hs i
 by_cases hlt:i<xs.length
 ·refine .inr ⟨h1 hlt,fun x H'' y=>?_⟩
  obtain⟨rfl,hx⟩:=h2 x H'' y
  have hx:=hx hlt
  show te (σ'.set k (some x)) H'' _
  rw[hσ]
  refine helt x H'' _ (List.mem_of_getElem? hx) hs fun y H4 s4 fy py=>?_
  have yl:y≠.ref l:=fun z=>by rw[fy l z] at hl';cases hl'
  refine⟨_,s4.get hl',BL (by omega),xs.length-(i+1),by omega,rfl,hlt,fun y=>by rw[List.set_set],Br (hs.trans s4) hl _,ys++[y],Ad,by rw[List.length_append,hlen];rfl,fun j x' y' hx' hy'=>?_⟩
  by_cases hj:j<ys.length
  ·rw[List.getElem?_append_left hj] at hy'
   obtain⟨q1,q2⟩:=hp j x' y' hx' hy'
   exact⟨hU _ _ _ _ _ _ (hP _ _ _ _ q1 s4) (s4.get hl') q2,q2⟩
  ·rw[List.getElem?_append_right (by omega)] at hy'
   by_cases hj2:j=ys.length
   ·subst hj2
    rw[Nat.sub_self] at hy'
    cases(Option.some.inj hy':y=y')
    rw[hlen] at hx'
    cases(Option.some.inj (hx.symm.trans hx'):x=x')
    exact⟨hU _ _ _ _ _ _ py (s4.get hl') yl,yl⟩
   ·rw[List.getElem?_eq_none (by simp;omega)] at hy'
    cases hy'
 ·have e:i=xs.length:=by omega
  subst e
  exact .inl ⟨h3 (Nat.le_refl _),hQ l H' ys hl hs hl' hlen hp⟩
end L2
namespace L2
open PySem PySem.Spec PyProof.Rows
theorem Uw (a v:Value):checkTypeCall "enumerate" ⟨[a],[("start",v)]⟩=pure ():=by kernel_rfl
theorem VR (a v:Value):checkBuiltinCall "enumerate.__new__" ⟨[.type "enumerate",a],[("start",v)]⟩=pure ():=by kernel_rfl
theorem UO (obj a v:Value):argsOk "object.__init__" ⟨[obj,a],[("start",v)]⟩:=by kernel_rfl
theorem Vf (l:Addr)(items:Array Value)(m:Nat)(sl:Array (Option Value))(t:Tok):Meets (Builtin.«enumerate.__new__» ⟨[.type "enumerate",.ref l],[("start",.int 1 t)]⟩) fun _ R s=>
  s.heap.get? l=some { cls:=.type "list",dict:=none,data:=.seq items m,slots:=sl }∧R (.ok (.ret (.ref (s.heap.objs.size+1))))
   { s with heap:=(s.heap.push { cls:=.type "list_iterator",data:=.fields #[.ref l,.int 0 0] }).push { cls:=.type "enumerate",data:=.fields #[.none,.bool false,.ref s.heap.objs.size,rawInt 1,.none,.none] } }:=by
 refine .of_wp fun prog w A R s h=>?_
 obtain⟨hl,h⟩:=h
 have hsub:=sub_enumerate
 have hL:s.heap.IsList l items:=⟨_,hl,rfl,m,rfl⟩
 obtain⟨hp,g,d,tk,os⟩:=s
 wp_walk using PySem.AutoSeq1.wpAny_loadPart' hl
 refine wpAny_stack_any fun st=>wpAny_pure ?_
 split
 ·rename_i c _ _ _ _ _
  cases hcc:(c == Value.type "enumerate")<;>wp_walk using PySem.AutoSeq1.wpAny_loadPart' hl,wpAny_pyIter_list hL
  all_goals (refine⟨_,rfl,?_⟩;rw[Heap.size_push];exact h)
 ·wp_walk using PySem.AutoSeq1.wpAny_loadPart' hl,wpAny_pyIter_list hL
  refine⟨_,rfl,?_⟩;rw[Heap.size_push];exact h
theorem VO {self a v:Value}:Meets (Builtin.«object.__init__» ⟨[self,a],[("start",v)]⟩) fun _ R s=>s.TypeIs self "enumerate"∧R (.ok (.ret .none)) s:=by
 have hl:=F.called_enumerate.init.lookup
 have hm:=F.called_enumerate.made
 have hne:(some "enumerate.__new__" != some "object.__new__")=true:=by decide
 refine .of_wp fun prog w A R s h=>?_
 obtain⟨hT,hq⟩:=h
 repeat (any_goals (first|wp_step|assumption))
 all_goals exact⟨_,rfl,hq⟩
section
variable {prog:Program}{w:World}{A:Around}{E:Value→Shared→Prop}{s:Shared}
theorem Rh {l:Addr} {items:Array Value} {m:Nat} {sl:Array (Option Value)} {t:Tok} {Q:Value→Shared→Prop} (hl:s.heap.get? l=some { cls:=.type "list",dict:=none,data:=.seq items m,slots:=sl })
  (h:Q (.ref (s.heap.objs.size+1)) { s with heap:=(s.heap.push { cls:=.type "list_iterator",data:=.fields #[.ref l,.int 0 0] }).push { cls:=.type "enumerate",data:=.fields #[.none,.bool false,.ref s.heap.objs.size,rawInt 1,.none,.none] } }) :
  wpAny (model prog w) A (call (.type "enumerate") [.ref l] [("start",.int 1 t)]) Q E s:=by
 have ft:=F.called_enumerate
 obtain⟨c,tl,hmro⟩:=ft.mro
 have hmade:=ft.made
 have hsub:=ft.sub
 have hct:=Uw (.ref l) (.int 1 t)
 refine wpAny_call (codeAny_of_tree (wpAny_pure (?_:_∧_)))
 refine⟨Code.quiet_builtin _ (by decide +kernel),codeAny_builtin F.entry_type_call ?_⟩
 rw[Around.under_plain (weight_type_call_type "enumerate" _ _) (units_type_call_type "enumerate" _ _)]
 have h1:=ft.notType
 have h2:=ft.canCreate
 repeat (any_goals (first|wp_step|assumption))
 let s':Shared:={ s with heap:=(s.heap.push { cls:=.type "list_iterator",data:=.fields #[.ref l,.int 0 0] }).push { cls:=.type "enumerate",data:=.fields #[.none,.bool false,.ref s.heap.objs.size,rawInt 1,.none,.none] } }
 have key:codeAny (model prog w) A.in1 (.call (.builtin "enumerate.__new__") ⟨[.type "enumerate",.ref l],[("start",.int 1 t)]⟩) (fun r s1=>r=.ok (.ret (.ref (s.heap.objs.size+1)))∧s1=s') s:=
  codeAny_call_builtin ft.plain F.entry_enumerate_new (wpAny_of_eq (VR _ _) (Vf l items m sl t prog w A.in1 (fun r s1=>r=.ok (.ret (.ref (s.heap.objs.size+1)))∧s1=s') s ⟨hl,rfl,rfl⟩))
 refine codeAny_mono key fun r s₁ hr=>?_
 obtain⟨rfl,rfl⟩:=hr
 have hz:(s.heap.push { cls:=.type "list_iterator",data:=.fields #[.ref l,.int 0 0] }).objs.size=s.heap.objs.size+1:=Heap.size_push ..
 have hT:s'.TypeIs (.ref (s.heap.objs.size+1)) "enumerate":=⟨_,by rw[←hz];exact Heap.get?_push_size _ rfl,rfl⟩
 have hq:Q (.ref (s.heap.objs.size+1)) s':=h
 clear_value s'
 have hli:=ft.init.lookup
 have hbi:=ft.init.bind (.ref (s.heap.objs.size+1))
 show wpAny _ _ _ _ _ _
 repeat (any_goals (first|wp_step|assumption))
 have key2:codeAny (model prog w) A.in1 (.call (.builtin "object.__init__") ⟨[.ref (s.heap.objs.size+1),.ref l],[("start",.int 1 t)]⟩) (fun r s1=>r=.ok (.ret .none)∧s1=s') s':=
  codeAny_call_builtin ft.init.plain F.entry_object_init (ft.init.check _ _ _ _ _ _ _ _ hT (UO _ _ _) (VO prog w A.in1 (fun r s1=>r=.ok (.ret .none)∧s1=s') s' ⟨hT,rfl,rfl⟩))
 refine codeAny_mono key2 fun r s₂ hr=>?_
 obtain⟨rfl,rfl⟩:=hr
 show wpAny _ _ _ _ _ _
 repeat (any_goals (first|wp_step|assumption))
theorem Jy (hh:A.handled=none)(it l:Addr)(hne:l≠it)(items:Array Value) :
  Draws prog w A it [it,l] (items.size+1) (fun j v=>∃i,j=i+1∧items[i]?=some v) (fun j h=>∃i,j=i+1∧h.IsListIter it l i∧h.IsList l items):=by
 have D:=Draws.list (prog:=prog) (w:=w) (A:=A) hh it l hne items
 refine⟨fun j h ⟨i,_,st⟩=>D.live i h st,fun j h h' ⟨i,e,st⟩ hk=>⟨i,e,D.frame i h h' st hk⟩,fun j s Q E hj ⟨i,e,st⟩ hQ=>?_,fun s Q E ⟨i,e,st⟩ hE=>?_⟩
 ·subst e
  exact D.item i s Q E (by omega) st fun x h' tk hx st' hs=>hQ x h' tk ⟨i,rfl,hx⟩ ⟨i+1,rfl,st'⟩ hs
 ·have e':i=items.size:=by omega
  subst e'
  exact D.done s Q E st hE
end
section
variable {X:Cx}{pins:List (Addr×Obj)}{σ:St}{H:Hp}{s:Shared}{h':Heap}
theorem Inv.turned2 {t':Nat} {e it T:Addr} {xs:List V} {us:List Value} (I:Inv X pins σ H s) (fe:Gf X pins H e) (fi:Gf X pins H it) (k:∀b o,b≠e→b≠it→s.heap.get? b=some o→h'.get? b=some o)
  (hT:s.heap.objs.size≤T) (r:AC xs us) (hz:xs.length≤sizeLine) (ht:IsTup h' T us.toArray):Inv X pins σ (upd H T (.tup xs)) { s with heap:=h',toks:=t' }:=by
 obtain⟨e0,e1,e2,e3,e4,e5⟩:=fe
 obtain⟨i0,i1,i2,i3,i4,i5⟩:=fi
 have hn:H T=none:=I.hok.fresh hT
 have nT:∀b o,s.heap.get? b=some o→b≠T:=fun b o q=>Nat.ne_of_lt (Nat.lt_of_lt_of_le (Heap.lt_size q) hT)
 have kc:∀b o,b∉[e,it]→s.heap.get? b=some o→h'.get? b=some o:=fun b o hb q=>k b o (fun z=>hb (by simp[z])) (fun z=>hb (by simp[z])) q
 have up:∀b u,H b=some u→upd H T (.tup xs) b=some u:=fun b u q=>by rw[Ai (Ar q hn)];exact q
 refine I.step (g':=s.gens) (d':=s.drawn) (ch:=[e,it]) (fun b hb=>?_) (fun b o _ _ hc q _=>kc b o hc q) (fun b o _ _ hc q _=>⟨o.slots,kc b o hc q⟩) (fun b o _ q n=>by rw[Ai (nT b o q)];exact n)
  (fun b o hc q=>⟨o,kc b o hc q⟩) (fun b ys q=>up b _ q) (fun b o u q=>up b _ q) (fun b ps q=>⟨#[],by rw[up b _ q];simp⟩) (fun m hm=>?_) (fun b u q=>?_) I.bare
 ·rcases List.mem_cons.mp hb with rfl|hb
  ·exact⟨e3,e1,e4,e5⟩
  ·rw[List.mem_singleton.mp hb];exact⟨i3,i1,i4,i5⟩
 ·obtain⟨o,es,ep,ho,hr⟩:=hm
  exact⟨o,es,ep,k _ o (Ne.symm e1) (Ne.symm i1) ho,hr⟩
 ·by_cases hb:b=T
  ·subst hb;rw[Ad] at q;cases q;exact⟨hz,us,r,ht⟩
  ·rw[Ai hb] at q
   have nn:∀c v,H c=some v→c≠e∧c≠it:=fun c v z=>⟨fun y=>(by rw[y,e0] at z;cases z),fun y=>(by rw[y,i0] at z;cases z)⟩
   refine(I.hok b u q).stay (fun c v hc z=>?_) (fun c z=>up c _ z) fun c ys z=>up c _ z
   rcases hc with y|y
   ·subst y;exact k c v (nn c u q).1 (nn c u q).2 z
   ·exact k c v (nn c _ y).1 (nn c _ y).2 z
theorem Inv.turned2n {t':Nat}{e it:Addr}(I:Inv X pins σ H s)(fe:Gf X pins H e)(fi:Gf X pins H it)(k:∀b o,b≠e→b≠it→s.heap.get? b=some o→h'.get? b=some o):Inv X pins σ H { s with heap:=h',toks:=t' }:=by
 obtain⟨e0,e1,e2,e3,e4,e5⟩:=fe
 obtain⟨i0,i1,i2,i3,i4,i5⟩:=fi
 have kc:∀b o,b∉[e,it]→s.heap.get? b=some o→h'.get? b=some o:=fun b o hb q=>k b o (fun z=>hb (by simp[z])) (fun z=>hb (by simp[z])) q
 refine I.step (g':=s.gens) (d':=s.drawn) (ch:=[e,it]) (fun b hb=>?_) (fun b o _ _ hc q _=>kc b o hc q) (fun b o _ _ hc q _=>⟨o.slots,kc b o hc q⟩) (fun b o _ q n=>n)
  (fun b o hc q=>⟨o,kc b o hc q⟩) (fun b ys q=>q) (fun b o u q=>q) (fun b ps q=>⟨#[],by rw[q];simp⟩) (fun m hm=>?_) (fun b u q=>?_) I.bare
 ·rcases List.mem_cons.mp hb with rfl|hb
  ·exact⟨e3,e1,e4,e5⟩
  ·rw[List.mem_singleton.mp hb];exact⟨i3,i1,i4,i5⟩
 ·obtain⟨o,es,ep,ho,hr⟩:=hm
  exact⟨o,es,ep,k _ o (Ne.symm e1) (Ne.symm i1) ho,hr⟩
 ·have nn:∀c v,H c=some v→c≠e∧c≠it:=fun c v z=>⟨fun y=>(by rw[y,e0] at z;cases z),fun y=>(by rw[y,i0] at z;cases z)⟩
  refine(I.hok b u q).stay (fun c v hc z=>?_) (fun c z=>z) fun c ys z=>z
  rcases hc with y|y
  ·subst y;exact k c v (nn c u q).1 (nn c u q).2 z
  ·exact k c v (nn c _ y).1 (nn c _ y).2 z
end
def Yv (K:PySem.W.Frag)(a:Addr):It:=
 ⟨fun i H=>∃xs x,AM K H a xs∧xs[i]?=some x,fun i H v H'=>∃T x,H T=none∧v=.ref T∧(∀xs,AM K H a xs→xs[i]?=some x)∧H'=upd H T (.tup [.int ((i:Int)+1),x]),fun i H=>∃xs,AM K H a xs∧xs.length=i⟩
theorem Q0 {P:Program}{w:World}{K:PySem.W.Frag}{els:List Expr}{kk:Nat}{pp:Pos}(a e it:Addr)(hei:e≠it):Turn P w K (.Tuple els kk pp) (Yv K a) [e,it] e (fun i h=>(∃old,IsEnum h e it ((i:Int)+1) old)∧h.IsListIter it a i) where
 mem:=by simp
 obj:=fun i h st b hb=>by
  obtain⟨⟨old,he⟩,o,ho,_,hd⟩:=st
  rcases List.mem_cons.mp hb with rfl|hb
  ·exact⟨_,he,fun v z=>by cases z⟩
  ·rw[List.mem_singleton.mp hb];exact⟨o,ho,fun v z=>by rw[hd] at z;cases z⟩
 keep:=fun i h h' st hk=>by
  obtain⟨⟨old,he⟩,o,ho,r⟩:=st
  exact⟨⟨old,hk e (by simp) _ he⟩,o,hk it (by simp) o ho,r⟩
 item:=fun X hP hw hK hc i pins s σ H E I hf st hg=>by
  subst hP hw hK
  obtain⟨xs,x,hq,hx⟩:=hg
  obtain⟨its,rv,p,hz⟩:=I.list hq
  obtain⟨⟨old,he⟩,hit⟩:=st
  have fe:=hf e (by simp)
  have fi:=hf it (by simp)
  obtain⟨u,hu,ru⟩:=rv.get hx
  have il:=p.isList
  have nae:a≠e:=fun z=>by
   obtain⟨o,ho,c1,_⟩:=il
   rw[z,he] at ho;cases ho;injection c1 with y;exact absurd y (by decide)
  have nai:a≠it:=fun z=>by
   obtain⟨o,ho,c1,_⟩:=il
   obtain⟨o2,ho2,c2,_⟩:=hit
   rw[z,ho2] at ho;cases ho;rw[c2] at c1;injection c1 with y;exact absurd y (by decide)
  have W:=WalksT.enumerateD (prog:=X.prog) (w:=X.w) (A:=X.A) (Jy (prog:=X.prog) (w:=X.w) (A:=X.A.in1) (I.ok.hd hc) it a nai its.toArray) e hei (by simp[hei,Ne.symm nae]) (by simp)
  refine W.item (i+1) s _ E (by have:=(List.getElem?_eq_some_iff.mp hu).1;simp;omega) ⟨⟨old,by simpa using he⟩,i,rfl,hit,il⟩ fun T vals h1 tk ⟨t,y,⟨i',ei,hy⟩,ev⟩ hT htu hm hk=>?_
  refine⟨.ref T,rfl,W.go els kk pp (i+1) T _ _ E hm fun h2 st2 hk2=>?_⟩
  obtain⟨⟨old2,he2⟩,i2,e2,hit2,_⟩:=st2
  have e3:i'=i:=by omega
  have e4:i2=i+1:=by omega
  subst e3 e4 ev
  have ey:y=u:=by
   have q1:its.toArray[i']?=some u:=by simpa using hu
   exact Option.some.inj (hy.symm.trans q1)
  subst ey
  have hTw:T∉[e,it]:=W.apart _ _ _ hm
  have ht2:IsTup h2 T #[.int ((i':Int)+1) t,y]:=by
   obtain⟨o,ho,c⟩:=htu
   exact⟨o,hk2 T o hTw ho,c⟩
  refine⟨.ref T,upd H T (.tup [.int ((i':Int)+1),x]),?_,rfl,⟨T,x,I.hok.fresh hT,rfl,fun zs hzs=>(by rw[I.list_inj hzs hq];exact hx),rfl⟩,⟨⟨old2,by simpa using he2⟩,hit2⟩,fun b hb=>?_⟩
  ·have I2:=I.turned2 (h':=h2) (t':=tk) (xs:=[.int ((i':Int)+1),x]) (us:=[.int ((i':Int)+1) t,y]) fe fi (fun b o b1 b2 q=>hk2 b o (by simp[b1,b2]) (hk b o (by simp[b1,b2]) q)) hT (.cons ⟨_,rfl⟩ (.cons ru .nil)) (by show 2≤sizeLine;decide) ht2
   exact I2
  ·have nb:b≠T:=fun z=>hTw (z▸hb)
   rw[Ai nb];exact(hf b hb).1
 done:=fun X hP hw hK hc i pins s σ H E I hf st hg=>by
  subst hP hw hK
  obtain⟨xs,hq,hx⟩:=hg
  obtain⟨its,rv,p,hz⟩:=I.list hq
  obtain⟨⟨old,he⟩,hit⟩:=st
  have fe:=hf e (by simp)
  have fi:=hf it (by simp)
  have il:=p.isList
  have nae:a≠e:=fun z=>by
   obtain⟨o,ho,c1,_⟩:=il
   rw[z,he] at ho;cases ho;injection c1 with y;exact absurd y (by decide)
  have nai:a≠it:=fun z=>by
   obtain⟨o,ho,c1,_⟩:=il
   obtain⟨o2,ho2,c2,_⟩:=hit
   rw[z,ho2] at ho;cases ho;rw[c2] at c1;injection c1 with y;exact absurd y (by decide)
  have W:=WalksT.enumerateD (prog:=X.prog) (w:=X.w) (A:=X.A) (Jy (prog:=X.prog) (w:=X.w) (A:=X.A.in1) (I.ok.hd hc) it a nai its.toArray) e hei (by simp[hei,Ne.symm nae]) (by simp)
  have el:its.toArray.size+1=i+1:=by rw[List.size_toArray,←rv.length,hx]
  refine W.done s _ E (by rw[el];exact⟨⟨old,by simpa using he⟩,i,rfl,hit,il⟩) fun h' tk hk=>⟨rfl,?_⟩
  exact I.turned2n (h':=h') (t':=tk) fe fi fun b o b1 b2 q=>hk b o (by simp[b1,b2]) q
 self:=fun A i s Q E st h=>by
  obtain⟨⟨old,he⟩,_⟩:=st
  exact wpAny_pyIter_enum he h
theorem O0 {M:Model} {A:Around} {E:Value→Shared→Prop} {s:Shared} {pos:Pos} {T:String} {args:List (Bool×Sem Value)} {kws:List (Option Str×Sem Value)} {Q:Value→Shared→Prop} (hp:args.any (·.1)=false) (hk:kws.any (·.1.isNone)=false)
  (h:wpAny M A (evalArgs (.type T) true args kws) (fun z sz=>wpAny M A (call (.type T) z.pos z.kw) Q E sz) E s):wpAny M A (callWith pos (.type T) [] args kws) Q E s:=by
 unfold callWith
 refine wpAny_bind (wpAny_holding (wpAny_mono h (fun z sz hz=>wpAny_bind (wpAny_standAt ?_)) fun _ _ y=>y))
 simp only[hp,hk,Bool.or_false]
 refine wpAny_bind (wpAny_pure (wpAny_bind (wpAny_mono hz (fun v sv hv=>wpAny_bind (wpAny_holding (wpAny_point (wpAny_pure hv)))) fun _ _ y=>y)))
section
variable {X:Cx}{els:List Expr}{kk:Nat}{pp:Pos}
def Xs (K:PySem.W.Frag)(ta:TA):TI:=fun σ H R=>ta σ H fun vs H1=>∃a xs,vs=[.ref a]∧AM K H1 a xs∧R (Yv K a) H1
theorem UC {l:Expr} {ta:TA} {p pos kp cp:Pos} {j} (hg:Gl X "enumerate") (hm:X.mg "enumerate"=none) (ha:PA X [l] ta)
  (he:backTo pos (starEach [l] X.env)=(false,eval l X.env)::backTo pos (starEach [] X.env):=by rfl)
  (hpl:(backTo pos (starEach [l] X.env)).any (·.1)=false:=by rfl) :
  PI X (.Tuple els kk pp) (.Call (.Name "enumerate" p) [l] [⟨some "start",.Constant (.int 1) j cp,kp⟩] pos) (Xs X.K ta):=by
 intro pins s σ H R I h
 refine wpAny_Call_Name_kw (IR I hg hm HX (O0 hpl rfl ?_))
 have hsp:=ha pos pins s σ H _ I h
 rw[he] at hsp ⊢
 refine evalArgs_kwB rfl (Bd hsp fun us s1 ⟨vs,H1,I1,r1,q1⟩=>?_)
 refine kws_cons (wpAny_Constant_int (kws_nil ?_))
 obtain⟨a,xs,rfl,hq,q⟩:=q1
 obtain⟨u,rfl,ru⟩:=vals1 r1
 cases ru
 have I2:=I1.tok (s1.toks+1)
 obtain⟨its,rv,⟨⟨oc,od,odt,sl⟩,m,pl,c1,c2,c3⟩,hz⟩:=I2.list hq
 simp only at c1 c2 c3
 subst c1 c2 c3
 refine Rh (items:=its.toArray) (m:=m) (sl:=sl) pl ?_
 have hs:(s1.heap.push { cls:=.type "list_iterator",data:=.fields #[.ref a,.int 0 0] }).objs.size=s1.heap.objs.size+1:=Heap.size_push ..
 have hE:IsEnum ((s1.heap.push { cls:=.type "list_iterator",data:=.fields #[.ref a,.int 0 0] }).push { cls:=.type "enumerate",data:=.fields #[.none,.bool false,.ref s1.heap.objs.size,rawInt 1,.none,.none] }) (s1.heap.objs.size+1) s1.heap.objs.size 1 .none:=by
  rw[←hs];exact Heap.get?_push_size _ rfl
 refine wpAny_pyIter_enum hE ?_
 refine⟨s1.heap.objs.size+1,[s1.heap.objs.size+1,s1.heap.objs.size],_,Yv X.K a,H1,rfl,I2.kept (t':=s1.toks+1) fun b o e=>Heap.get?_push_of_some _ (Heap.get?_push_of_some _ e),Q0 a (s1.heap.objs.size+1) s1.heap.objs.size (Nat.succ_ne_self _),⟨⟨_,hE⟩,_,Heap.get?_push_of_some _ (Heap.get?_push_size _ rfl),rfl,rfl⟩,fun b hb=>?_,q⟩
 rcases List.mem_cons.mp hb with rfl|hb
 ·exact I2.fpOk (Nat.le_succ _) (I2.hok.fresh (Nat.le_succ _))
 ·rw[List.mem_singleton.mp hb];exact I2.fpOk (Nat.le_refl _) (I2.hok.fresh (Nat.le_refl _))
end
theorem Rb {K:PySem.W.Frag} {a:Addr} {xs:List V} {fr:List (Option Nat)} {i0 i1:Nat} {n:Nat} {te:TE} {Q:VK} {σ:St} {H:Hp} (f:Nat→V→V) (h1:H a=some (.lst xs)) (hn:xs.length≤1000000) (h2:n=2)
  (helt:∀(i:Nat) (x:V) (H':Hp) (R:VK),xs[i]?=some x→Al H H'→(∀H'',Al H' H''→R (f i x) H'')→te (((stC fr σ).set i0 (some (.int ((i:Int)+1)))).set i1 (some x)) H' R) (hne:i0≠i1)
  (hQ:∀l H',H l=none→Al H H'→H' l=some (.lst ((List.range xs.length).map fun i=>f i (xs.getD i .non)))→Q (.ref l) H') :
  E6 fr (Vg K n (LK (D2 i0) (LK (D2 i1) Wa))) Oq te σ Q (Yv K a) H:=by
 intro l hl
 have hal:a≠l:=Ar h1 hl
 refine⟨fun i m σ' H'=>m=xs.length-i∧i≤xs.length∧(∀y z,(σ'.set i0 y).set i1 z=((stC fr σ).set i0 y).set i1 z)∧Al H H'∧H' l=some (.lst ((List.range i).map fun i=>f i (xs.getD i .non))),⟨xs.length,by simp,Nat.zero_le _,fun _ _=>rfl,Ak hl _,by rw[Ad];rfl⟩,?_⟩
 rintro i m σ' H' ⟨rfl,hi,hσ,hs,hl'⟩
 have ha':=hs.get h1
 by_cases hlt:i<xs.length
 ·refine .inr ⟨⟨xs,xs[i],AM.of ha',by simp[hlt]⟩,?_⟩
  rintro x H'' ⟨T,y,hT,rfl,hy,rfl⟩
  have hyi:=hy xs (AM.of ha')
  have st:=Ak hT (.tup [.int ((i:Int)+1),y])
  subst h2
  refine⟨T,_,rfl,AW.of Ad,rfl,_,_,rfl,_,_,rfl,rfl,?_⟩
  show te ((σ'.set i0 (some (.int ((i:Int)+1)))).set i1 (some y)) _ _
  rw[hσ]
  refine helt i y _ _ hyi (hs.trans st) fun H4 s4=>?_
  refine⟨_,s4.get (st.get hl'),BL (by rw[List.length_map,List.length_range];omega),xs.length-(i+1),by omega,rfl,hlt,fun y z=>?_,Br ((hs.trans st).trans s4) hl _,?_⟩
  ·rw[List.set_comm _ _ (Ne.symm hne),List.set_set,List.set_set]
  ·rw[Ad,List.range_succ,List.map_append]
   simp[List.getD,hyi]
 ·have e:i=xs.length:=by omega
  subst e
  exact .inl ⟨⟨xs,AM.of ha',rfl⟩,hQ l H' hl hs hl'⟩
end L2
namespace L2
open PySem PySem.Spec PyProof.Rows
theorem Qf {X:Cx}{K:PySem.W.Frag}{pos:Pos}{es:List Expr}{k:Nat}{t:VU}{n:Nat}(hK:X.K=K)(hc:X.calm=true)(h:Yl X es t)(hn:(assignEach es X.env).length=n:=by rfl)(hs:(assignEach es X.env).findIdx? (·.1)=none:=by rfl):PG X (.Tuple es k pos) (Vg K n t):=by
 subst hK
 exact KE hc h hn hs
section
variable {X:Cx}
end
theorem Tz {xs:List V}:GI xs none (some (-1))=xs.dropLast:=by
 unfold GI HT.C5
 rw[List.dropLast_eq_take]
 simp only[List.drop_zero,Nat.sub_zero]
 rw[if_pos (by decide)]
 congr 1
 omega
end L2
namespace L2
open PySem PySem.Spec PyProof.Rows
section
variable {κ:Type}[DecidableEq κ]
def CL (kvs:List (κ×V))(k:κ):Option V:=(kvs.find? fun kv=>decide (kv.1=k)).map (·.2)
def putK (kvs:List (κ×V))(k:κ)(v:V):List (κ×V):=
 if(kvs.any fun kv=>decide (kv.1=k))=true then kvs.map (fun kv=>if kv.1=k then(kv.1,v) else kv) else kvs++[(k,v)]
def Jz (kvs:List (κ×V))(k:κ):List (κ×V):=kvs.filter fun kv=>decide (kv.1≠k)
theorem GR {p:κ×V}{r:List (κ×V)}{k:κ}(e:p.1=k):CL (p::r) k=some p.2:=by simp[CL,List.find?_cons,e]
theorem Gu {p:κ×V}{r:List (κ×V)}{k:κ}(e:¬p.1=k):CL (p::r) k=CL r k:=by simp[CL,List.find?_cons,e]
theorem Kg (k:κ):∀kvs:List (κ×V),(kvs.any fun kv=>decide (kv.1=k))=(CL kvs k).isSome
 |[]=>rfl
 |p::r=>by
  rw[List.any_cons]
  by_cases e:p.1=k
  ·simp only[GR e,decide_eq_true e,Bool.true_or,Option.isSome_some]
  ·rw[Gu e,decide_eq_false e,Bool.false_or];exact Kg k r
theorem GM (kvs:List (κ×V))(k:κ)(v:V):(putK kvs k v).length≤kvs.length+1:=by
 unfold putK
 split
 ·rw[List.length_map];omega
 ·rw[List.length_append,List.length_cons,List.length_nil];omega
theorem E5.isSome_eq {o:Option V}{u:Option Value}(r:E5 o u):o.isSome=u.isSome:=by
 cases o with
 |none=>cases u with
  |none=>rfl
  |some _=>exact(show False from r).elim
 |some _=>cases u with
  |none=>exact(show False from r).elim
  |some _=>rfl
theorem E5.getD {o:Option V}{u:Option Value}{d:V}{d':Value}(r:E5 o u)(rd:RelV d d'):RelV (o.getD d) (u.getD d'):=by
 cases o with
 |none=>cases u with
  |none=>exact rd
  |some _=>exact(show False from r).elim
 |some _=>cases u with
  |none=>exact(show False from r).elim
  |some _=>exact r
theorem KV.val {kvs:List (κ×V)}{vs:List (κ×Value)}(r:KV kvs vs)(k:κ):E5 (CL kvs k) (valueAt vs k):=by
 unfold KV at r
 induction r with
 |nil=>exact True.intro
 |@cons p q ps qs h t ih=>
  obtain⟨h1,h2⟩:=h
  by_cases e:p.1=k
  ·have e':q.1=k:=h1.symm.trans e
   have b:valueAt (q::qs) k=some q.2:=by simp[valueAt,List.find?_cons,e']
   rw[GR e,b];exact h2
  ·have e':¬q.1=k:=fun z=>e (h1.trans z)
   have b:valueAt (q::qs) k=valueAt qs k:=by simp[valueAt,List.find?_cons,e']
   rw[Gu e,b];exact ih
theorem KV.any {kvs:List (κ×V)}{vs:List (κ×Value)}(r:KV kvs vs)(k:κ):(kvs.any fun kv=>decide (kv.1=k))=vs.any fun kv=>decide (kv.1=k):=by
 unfold KV at r
 induction r with
 |nil=>rfl
 |cons h t ih=>rw[List.any_cons,List.any_cons,ih,h.1]
theorem KV.repl {kvs:List (κ×V)}{vs:List (κ×Value)}(r:KV kvs vs)(k:κ){y:V}{u:Value}(ry:RelV y u) :
  KV (kvs.map fun kv=>if kv.1=k then(kv.1,y) else kv) (vs.map fun kv=>if kv.1=k then(kv.1,u) else kv):=by
 unfold KV at r ⊢
 induction r with
 |nil=>exact .nil
 |@cons p q ps qs h t ih=>
  rw[List.map_cons,List.map_cons]
  refine .cons ?_ ih
  obtain⟨h1,h2⟩:=h
  by_cases e:p.1=k
  ·rw[if_pos e,if_pos (h1.symm.trans e)];exact⟨h1,ry⟩
  ·rw[if_neg e,if_neg (fun z=>e (h1.trans z))];exact⟨h1,h2⟩
theorem KV.put {kvs:List (κ×V)}{vs:List (κ×Value)}(r:KV kvs vs)(k:κ){y:V}{u:Value}(ry:RelV y u):KV (putK kvs k y) (stored vs k u):=by
 unfold putK stored
 rw[r.any k]
 by_cases e:(vs.any fun kv=>decide (kv.1=k))=true
 ·rw[if_pos e,if_pos e];exact r.repl k ry
 ·rw[if_neg e,if_neg e];exact Paired.snoc r ⟨rfl,ry⟩
theorem KV.drop {kvs:List (κ×V)}{vs:List (κ×Value)}(r:KV kvs vs)(k:κ):KV (Jz kvs k) (without vs k):=by
 unfold KV at r ⊢
 unfold Jz without
 induction r with
 |nil=>exact .nil
 |@cons p q ps qs h t ih=>
  obtain⟨h1,h2⟩:=h
  rw[List.filter_cons,List.filter_cons]
  by_cases e:p.1=k
  ·have a:¬decide (p.1≠k)=true:=by simp[e]
   have b:¬decide (q.1≠k)=true:=by simp[h1.symm.trans e]
   rw[if_neg a,if_neg b];exact ih
  ·have e':¬q.1=k:=fun z=>e (h1.trans z)
   have a:decide (p.1≠k)=true:=by simp[e]
   have b:decide (q.1≠k)=true:=by simp[e']
   rw[if_pos a,if_pos b];exact .cons ⟨h1,h2⟩ ih
theorem KV.length {kvs:List (κ×V)}{vs:List (κ×Value)}(r:KV kvs vs):kvs.length=vs.length:=Paired.length r
theorem Ud (kvs:List (κ×V))(k:κ):(Jz kvs k).length≤kvs.length:=List.length_filter_le _ _
end
theorem Mc {P:Program}{w:World}{k:Key}{u:Value}(r:RelV (kV k) u):(Bf P w).is k u=true:=by
 cases k with
 |inl i=>obtain⟨t,e⟩:=(show ∃t,u=Value.int i t from r);subst e;exact NM P w i t
 |inr x=>obtain⟨t,e⟩:=(show ∃t,u=Value.str x t from r);subst e;exact Oh P w x t
theorem LI {P:Program}{w:World}:∀{ks:List Key} {us:List Value},AC (ks.map kV) us→ItemsAre (Bf P w) ks us
 |[],_,r=>by rw[List.map_nil] at r;cases r;exact .nil
 |k::ks,_,r=>by
  rw[List.map_cons] at r
  cases r with
  |cons h t=>exact .cons (Mc h) (LI t)
abbrev KT (H:Hp):List (List Key×V)→List (List Key×Addr×Value)→Prop:=Paired fun p q=>p.1=q.1∧H q.2.1=some (.tup (p.1.map kV))∧RelV p.2 q.2.2
theorem KT.val {H:Hp}{kvs:List (List Key×V)}{xs:List (List Key×Addr×Value)}(r:KT H kvs xs)(k:List Key):E5 (CL kvs k) ((atKey xs k).map (·.2)):=by
 induction r with
 |nil=>exact True.intro
 |@cons p q ps qs h t ih=>
  obtain⟨h1,_,h2⟩:=h
  by_cases e:p.1=k
  ·have e':q.1=k:=h1.symm.trans e
   have b:atKey (q::qs) k=some q.2:=by simp[atKey,List.find?_cons,e']
   rw[GR e,b];exact h2
  ·have e':¬q.1=k:=fun z=>e (h1.trans z)
   have b:atKey (q::qs) k=atKey qs k:=by simp[atKey,List.find?_cons,e']
   rw[Gu e,b];exact ih
theorem KT.repl {H:Hp}{kvs:List (List Key×V)}{xs:List (List Key×Addr×Value)}(r:KT H kvs xs)(k:List Key){y:V}{u:Value}(ry:RelV y u) :
  KT H (kvs.map fun kv=>if kv.1=k then(kv.1,y) else kv) (xs.map (putAt k u)):=by
 induction r with
 |nil=>exact .nil
 |@cons p q ps qs h t ih=>
  rw[List.map_cons,List.map_cons]
  refine .cons ?_ ih
  obtain⟨h1,h2,h3⟩:=h
  unfold putAt
  by_cases e:p.1=k
  ·rw[if_pos e,if_pos (h1.symm.trans e)];exact⟨h1,h2,ry⟩
  ·rw[if_neg e,if_neg (fun z=>e (h1.trans z))];exact⟨h1,h2,h3⟩
theorem KT.put {H:Hp}{kvs:List (List Key×V)}{xs:List (List Key×Addr×Value)}(r:KT H kvs xs)(k:List Key){b:Addr}{y:V}{u:Value}(hb:H b=some (.tup (k.map kV)))(ry:RelV y u) :
  KT H (putK kvs k y) (storedH xs k b u):=by
 have e:(kvs.any fun kv=>decide (kv.1=k))=(atKey xs k).isSome:=by
  rw[Kg,(r.val k).isSome_eq,Option.isSome_map]
 unfold putK storedH
 rw[e]
 by_cases q:(atKey xs k).isSome=true
 ·rw[if_pos q,if_pos q];exact r.repl k ry
 ·rw[if_neg q,if_neg q];exact Paired.snoc r ⟨rfl,hb,ry⟩
theorem KT.keeps {H H':Hp}{kvs:List (List Key×V)}{xs:List (List Key×Addr×Value)}(r:KT H kvs xs)(ht:∀b ys,H b=some (.tup ys)→H' b=some (.tup ys)):KT H' kvs xs:=
 Paired.mapP r fun _ _ z=>⟨z.1,ht _ _ z.2.1,z.2.2⟩
section
variable {P:Program}{w:World}{H:Hp}{h:Heap}{a:Addr}
theorem VW {u:HO}(ok:G9 P w H h)(e:Rd H a u):AZ P w H h a u:=e.ok ok
theorem NN {kvs:List (Key×V)}(ok:G9 P w H h)(e:Rd H a (.dK kvs)):kvs.length≤sizeLine∧(a == sysModules)=false∧∃vs,KV kvs vs∧h.DictOf (Bf P w) a vs:=
 show AZ P w H h a (.dK kvs) from VW ok e
theorem Qk {kvs:List (Key×V)}(ok:G9 P w H h)(e:H a=some (.dK kvs)):kvs.length≤sizeLine∧(a == sysModules)=false∧∃vs,KV kvs vs∧h.DictOf (Bf P w) a vs:=NN ok (.inl e)
theorem MZ {ks:List Key}(ok:G9 P w H h)(e:H a=some (.tup (ks.map kV))):(tupleKind (Bf P w)).is h ks a:=by
 obtain⟨_,its,r,o,h1,h2,n,h3⟩:=(show AZ P w H h a (.tup (ks.map kV)) from ok a _ e)
 exact⟨o,its.toArray,n,h1,h2,h3,by simpa using LI r⟩
theorem Nt {kvs:List (List Key×V)}(ok:G9 P w H h)(e:Rd H a (.dT kvs)):kvs.length≤sizeLine∧(a == sysModules)=false∧
  ∃xs,KT H kvs xs∧h.DictOfH (tupleKind (Bf P w)) a xs:=by
 obtain⟨z,y,xs,r,o,es,ep,h1,h2,h3,h4,h5⟩:=(show AZ P w H h a (.dT kvs) from VW ok e)
 refine⟨z,y,xs,r,o,es,ep,h1,h2,h3,h4,fun x hx=>?_,h5⟩
 have all:∀{l:List (List Key×V)} {m:List (List Key×Addr×Value)},KT H l m→∀x∈m,(tupleKind (Bf P w)).is h x.1 x.2.1:=by
  intro l m q
  induction q with
  |nil=>intro x hx;exact nomatch hx
  |@cons p q ps qs hq t ih=>
   intro x hx
   rcases List.mem_cons.mp hx with e|hx
   ·subst e
    exact MZ ok (by rw[←hq.1];exact hq.2.1)
   ·exact ih x hx
 exact all r x hx
theorem Yk {kvs:List (List Key×V)}(ok:G9 P w H h)(e:H a=some (.dT kvs)):kvs.length≤sizeLine∧(a == sysModules)=false∧
  ∃xs,KT H kvs xs∧h.DictOfH (tupleKind (Bf P w)) a xs:=Nt ok (.inl e)
end
def Dl (H:Hp)(a:Addr)(y:V)(r:Option V):Prop:=
 (∃kvs k,Rd H a (.dK kvs)∧y=kV k∧r=CL kvs k)∨∃kvs k b,Rd H a (.dT kvs)∧y=.ref b∧H b=some (.tup (k.map kV))∧r=CL kvs k
def HQ (H:Hp)(a:Addr)(y v:V)(H':Hp):Prop:=
 (∃kvs k,H a=some (.dK kvs)∧y=kV k∧kvs.length<sizeLine∧H'=upd H a (.dK (putK kvs k v)))∨
 ∃kvs k b,H a=some (.dT kvs)∧y=.ref b∧H b=some (.tup (k.map kV))∧kvs.length<sizeLine∧H'=upd H a (.dT (putK kvs k v))
theorem Dl.k {H:Hp}{a:Addr}{kvs:List (Key×V)}{k:Key}(e:H a=some (.dK kvs)):Dl H a (kV k) (CL kvs k):=.inl ⟨kvs,k,.inl e,rfl,rfl⟩
theorem Dl.t {H:Hp}{a b:Addr}{kvs:List (List Key×V)}{k:List Key}(e:H a=some (.dT kvs))(eb:H b=some (.tup (k.map kV))):Dl H a (.ref b) (CL kvs k):=.inr ⟨kvs,k,b,.inl e,rfl,eb,rfl⟩
theorem HQ.k {H:Hp}{a:Addr}{kvs:List (Key×V)}{k:Key}{v:V}(e:H a=some (.dK kvs))(hl:kvs.length<sizeLine):HQ H a (kV k) v (upd H a (.dK (putK kvs k v))):=.inl ⟨kvs,k,e,rfl,hl,rfl⟩
theorem HQ.t {H:Hp}{a b:Addr}{kvs:List (List Key×V)}{k:List Key}{v:V}(e:H a=some (.dT kvs))(eb:H b=some (.tup (k.map kV)))(hl:kvs.length<sizeLine) :
  HQ H a (.ref b) v (upd H a (.dT (putK kvs k v))):=.inr ⟨kvs,k,b,e,rfl,eb,hl,rfl⟩
section
variable {X:Cx}{pins:List (Addr×Obj)}{σ:St}{H:Hp}{s:Shared}{a:Addr}{y v:V}{u r:Value}{o:Option V}{A:Around}{E:Value→Shared→Prop}
theorem Inv.big (I:Inv X pins σ H s):sysModules<s.heap.objs.size:=by
 have h:mainGlobals<s.heap.objs.size:=(I.mod.glob.keeps I.bk).lt
 exact Nat.lt_trans (by decide) h
theorem RE {Q:Value→Shared→Prop}(hu:A.units+1<cLine)(I:Inv X pins σ H s)(g:Dl H a y (some v))(ry:RelV y u)(h:∀w' s',Inv X pins σ H s'→RelV v w'→Q w' s') :
  wpAny (model X.prog X.w) A (getItem (.ref a) u) Q E s:=by
 rcases g with⟨kvs,k,e,ey,l⟩|⟨kvs,k,b,e,ey,eb,l⟩
 ·subst ey
  obtain⟨z,hd,vs,rel,dd⟩:=NN I.hok e
  obtain⟨w',hw,rw'⟩:=E5.some_of (v:=v) (o:=valueAt vs k) (by rw[l];exact rel.val k)
  exact wpAny_getItem_of (Mc ry) dd.mapOf hw (h w' _ (I.tok _) rw')
 ·subst ey
  cases(show u=Value.ref b from ry)
  obtain⟨z,hd,xs,rel,dd⟩:=Nt I.hok e
  obtain⟨w',hw,rw'⟩:=E5.some_of (v:=v) (o:=(atKey xs k).map (·.2)) (by rw[l];exact rel.val k)
  obtain⟨p,hp,hp2⟩:=Option.map_eq_some_iff.mp hw
  refine wpAny_getItem_heap (tupleKind_room_in1 hu) (MZ I.hok eb) dd hp ?_
  rw[hp2]
  exact h w' _ (I.tok _) rw'
theorem J8 {h':Heap}{t':Nat}{ob:HO}(I:Inv X pins σ H s)(mu:X3 (H a))(hs:Heap.SameBut a s.heap h')(he:∃q,h'.get? a=some q)(new:AZ X.prog X.w (upd H a ob) h' a ob) :
  Inv X pins σ (upd H a ob) { s with heap:=h',toks:=t' }:=
 I.write (x:=a) (e:=a) mu (.inl rfl) (fun b q hb z=>(hs.2 b hb).trans z) he new
theorem Pm {P:Program}{w:World}{H':Hp}{h':Heap}{kvs:List (Key×V)}{vs:List (Key×Value)}(z:kvs.length≤sizeLine)(hd:(a == sysModules)=false)(rel:KV kvs vs)(dd:h'.DictOf (Bf P w) a vs) :
  AZ P w H' h' a (.dK kvs):=⟨z,hd,vs,rel,dd⟩
theorem R0 {H':Hp}{Q:Unit→Shared→Prop}(hu:A.units+1<cLine)(I:Inv X pins σ H s)(g:HQ H a y v H')(ry:RelV y u)(rv:RelV v r)(h:∀s',Inv X pins σ H' s'→Q () s') :
  wpAny (model X.prog X.w) A (setItem (.ref a) u r) Q E s:=by
 rcases g with⟨kvs,k,e,ey,l,eH⟩|⟨kvs,k,b,e,ey,eb,l,eH⟩
 ·subst ey eH
  obtain⟨z,hd,vs,rel,dd⟩:=Qk I.hok e
  have hz:vs.length≤sizeLine:=by rw[←rel.length];exact z
  have hl:(putK kvs k v).length≤sizeLine:=by have:=GM kvs k v;omega
  refine wpAny_setItem_pairs (hsz:=hz) (Mc ry) dd fun h' dd' hs=>h _ ?_
  have he:∃q,h'.get? a=some q:=let⟨q,_,_,hq,_⟩:=dd';⟨q,hq⟩
  exact J8 I (by rw[e];exact True.intro) hs he (Pm hl hd (rel.put k rv) dd')
 ·subst ey eH
  cases(show u=Value.ref b from ry)
  obtain⟨z,hd,xs,rel,dd⟩:=Yk I.hok e
  have hz:xs.length≤sizeLine:=by rw[←Paired.length rel];exact z
  have hl:(putK kvs k v).length≤sizeLine:=by have:=GM kvs k v;omega
  refine wpAny_setItem_heap (hsz:=hz) (tupleKind_room_in1 hu) (MZ I.hok eb) dd fun h' dd' hs=>h _ ?_
  obtain⟨q,es,ep,hq,h2,h3,h4,_,h5⟩:=dd'
  refine J8 I (by rw[e];exact True.intro) hs ⟨q,hq⟩ ⟨hl,hd,_,(rel.put k eb rv).keeps fun c ys ec=>?_,q,es,ep,hq,h2,h3,h4,h5⟩
  rw[Ai (Av ec e (fun z=>nomatch z))]
  exact ec
end
section
variable {X:Cx}{pins:List (Addr×Obj)}{σ:St}{H:Hp}{s:Shared}{a:Addr}{kvs:List (Key×V)}{k:Key}{u:Value}{A:Around}{E:Value→Shared→Prop}
theorem Yb {v:V} {more:List Value} {Q:Value→Shared→Prop} (I:Inv X pins σ H s) (e:H a=some (.dK kvs)) (ry:RelV (kV k) u) (l:CL kvs k=some v) (hm:more=[]∨∃x,more=[x])
  (h:∀w' s',Inv X pins σ (upd H a (.dK (Jz kvs k))) s'→RelV v w'→Q w' s'):wpAny (model X.prog X.w) A (call (.builtin "dict.pop") (.ref a::u::more)) Q E s:=by
 obtain⟨z,hd,vs,rel,dd⟩:=Qk I.hok e
 obtain⟨w',hw,rw'⟩:=E5.some_of (v:=v) (o:=valueAt vs k) (by rw[←l];exact rel.val k)
 have hp:(keyPart u).isSome=true:=by
  cases k with
  |inl i=>obtain⟨t,q⟩:=(show ∃t,u=Value.int i t from ry);subst q;rfl
  |inr x=>obtain⟨t,q⟩:=(show ∃t,u=Value.str x t from ry);subst q;rfl
 have ha:argsOk "dict.pop" ⟨.ref a::u::more,[]⟩:=by
  rcases hm with q|⟨x,q⟩
  ·subst q;exact PySem.F.args_dict_pop_2 _ _
  ·subst q;exact PySem.F.args_dict_pop_3 _ _ _
 refine call_meetsIn PySem.F.slot_dict_pop dd.typeIs PySem.F.entry_dict_pop ha (meets_dict_pop_there (Bf X.prog X.w) a (Mc ry) more hm hp)
  ⟨vs,w',dd,by rw[←rel.length];exact z,hw,fun h' dd' hs=>h w' _ ?_ rw'⟩
 have he:∃q,h'.get? a=some q:=let⟨q,_,_,hq,_⟩:=dd';⟨q,hq⟩
 exact J8 I (by rw[e];exact True.intro) hs he (Pm (Nat.le_trans (Ud kvs k) z) hd (rel.drop k) dd')
theorem Wr {r:Value}{Q:Value→Shared→Prop}(I:Inv X pins σ H s)(e:H a=some (.dK kvs))(ry:RelV (kV k) u)(l:CL kvs k=none)(h:∀s',Inv X pins σ H s'→Q r s') :
  wpAny (model X.prog X.w) A (call (.builtin "dict.pop") [.ref a,u,r]) Q E s:=by
 obtain⟨z,hd,vs,rel,dd⟩:=Qk I.hok e
 have hn:valueAt vs k=none:=E5.none_of (by rw[←l];exact rel.val k)
 have hp:(keyPart u).isSome=true:=by
  cases k with
  |inl i=>obtain⟨t,q⟩:=(show ∃t,u=Value.int i t from ry);subst q;rfl
  |inr x=>obtain⟨t,q⟩:=(show ∃t,u=Value.str x t from ry);subst q;rfl
 exact call_meetsIn PySem.F.slot_dict_pop dd.typeIs PySem.F.entry_dict_pop (PySem.F.args_dict_pop_3 _ _ _) (meets_dict_pop_default (Bf X.prog X.w) a (Mc ry) hd hp r) ⟨vs,dd,hn,h _ (I.tok _)⟩
theorem Vj {Q:Value→Shared→Prop}(I:Inv X pins σ H s)(e:H a=some (.dK kvs))(h:∀s',Inv X pins σ (upd H a (.dK [])) s'→Q .none s'):wpAny (model X.prog X.w) A (call (.builtin "dict.clear") [.ref a]) Q E s:=by
 obtain⟨z,hd,vs,rel,dd⟩:=Qk I.hok e
 refine call_meetsIn PySem.F.slot_dict_clear dd.typeIs PySem.F.entry_dict_clear (PySem.F.args_dict_clear_1 _) (meets_dict_clear (Bf X.prog X.w) a) ⟨vs,dd,by rw[←rel.length];exact z,fun h' dd' hs=>h _ ?_⟩
 have he:∃q,h'.get? a=some q:=let⟨q,_,_,hq,_⟩:=dd';⟨q,hq⟩
 exact J8 (t':=s.toks) I (by rw[e];exact True.intro) hs he (Pm (Nat.zero_le _) hd .nil dd')
end
def Xq (i:Expr):Prop:=∀ov iv,subscripted i false ov iv=operate [ov,iv] (getItem ov iv)
theorem UW {prog:Program} {w:World} {A:Around} {E:Value→Shared→Prop} {s:Shared} {env:Env} {value slice:Expr} {pos:Pos} {T id:String} {Q:Value→Shared→Prop}
  (hl:typeLookup (.type T) "__getitem__"=pure (some (.builtin id))) (hs:Xq slice)
  (h:wpAny (model prog w) A (eval value env) (fun o s₁=>wpAny (model prog w) A (eval slice env) (fun i s₂=>s₂.TypeIs o T∧wpAny (model prog w) A (getItem o i) Q E s₂) E s₁) E s) :
  wpAny (model prog w) A (eval (.Subscript value slice pos) env) Q E s:=by
 refine Subscript_ (wpAny_mono h (fun o s₁ h₁=>wpAny_mono h₁ (fun i s₂ h₂=>?_) fun _ _ x=>x) fun _ _ x=>x)
 obtain⟨hT,h₂⟩:=h₂
 unfold subscriptTail
 refine wpAny_bind ?_
 rw[getitemInPython_of_ne hT.not_modules]
 refine wpAny_bind (wpAny_specialOf hT hl ?_)
 have fin:wpAny (model prog w) A (subscripted slice false o i) (fun r s₃=>wpAny (model prog w) A (letTemporaryGo value o r >>= fun _=>pure r) Q E s₃) E s₂:=by
  rw[hs o i]
  exact wpAny_operating (wpAny_mono h₂ (fun r s₃ h₃=>wpAny_bind (wpAny_letTemporaryGo (wpAny_pure h₃))) fun _ _ x=>x)
 first
  |exact wpAny_pure (wpAny_bind fin)
  |exact wpAny_bind (wpAny_pure (wpAny_bind fin))
  |exact wpAny_bind fin
theorem Oa {X:Cx}{pins:List (Addr×Obj)}{σ:St}{H:Hp}{s:Shared}{a:Addr}{y:V}{o:Option V}(I:Inv X pins σ H s)(g:Dl H a y o):s.TypeIs (.ref a) "dict":=by
 rcases g with⟨kvs,k,e,_,_⟩|⟨kvs,k,b,e,_,_,_⟩
 ·obtain⟨_,_,vs,_,dd⟩:=NN I.hok e
  exact dd.typeIs
 ·obtain⟨_,_,xs,_,dd⟩:=Nt I.hok e
  exact dd.typeIs
def Xv (td ty:TE):TE:=fun σ H Q=>td σ H fun x H1=>ty σ H1 fun y H2=>∃a v,x=.ref a∧Dl H2 a y (some v)∧Q v H2
def Yc (td ty tv:TE):TS:=fun D σ H=>tv σ H fun v H1=>td σ H1 fun x H2=>ty σ H2 fun y H3=>∃a H4,x=.ref a∧HQ H3 a y v H4∧D.nx σ H4
section
variable {X:Cx}{o i e value:Expr}{pos pos' tpos:Pos}{td ty tv:TE}
theorem DE (hu:X.A.units+1<cLine)(ho:PE X o td)(hi:PE X i ty)(hs:Xq i):PE X (.Subscript o i pos) (Xv td ty):=by
 intro pins s σ H Q I h
 refine UW PySem.F.slot_dict_getitem.lookup hs (Bd (ho pins s σ H _ I h) fun u s1 ⟨x,H1,I1,rx,q1⟩=>Bd (hi pins s1 σ H1 _ I1 q1) fun iv s2 ⟨y,H2,I2,ry,a,v,ex,g,q2⟩=>?_)
 subst ex
 obtain rfl:u=Value.ref a:=rx
 exact⟨Oa I2 g,RE hu I2 g ry fun w' s3 I3 rw'=>⟨v,H2,I3,rw',q2⟩⟩
theorem D5 (hu:X.A.units+1<cLine)(ho:PE X o td)(hi:PE X i ty)(hv:PE X value tv)(hs:swapsWith value (some (.Subscript o i pos')) pos.line X.env=pure false) :
  PS X (.Assign [.Subscript o i pos'] value pos) (Yc td ty tv):=by
 intro pins s σ H D I h
 refine wpAny_Assign_Subscript (Bd (hv pins s σ H _ I h) fun r s1 ⟨v,H1,I1,rv,q1⟩=>Bd (ho pins s1 σ H1 _ I1 q1) fun u s2 ⟨x,H2,I2,rx,q2⟩=>Bd (hi pins s2 σ H2 _ I2 q2) fun iv s3 ⟨y,H3,I3,ry,a,H4,ex,g,q3⟩=>?_) hs
 subst ex
 obtain rfl:u=Value.ref a:=rx
 exact R0 hu I3 g ry rv fun s4 I4=>⟨σ,H4,I4,q3⟩
end
theorem SF {P:Program}{w:World}{H:Hp}(h:Heap)(hb:sysModules<h.objs.size):AZ P w H (h.push { cls:=.type "dict",data:=.dict #[] }) h.objs.size (.dK []):=
 ⟨Nat.zero_le _,beq_eq_false_iff_ne.mpr (Ne.symm (Nat.ne_of_lt hb)),[],.nil,Heap.DictOf.new h⟩
theorem TF {P:Program}{w:World}{H:Hp}(h:Heap)(hb:sysModules<h.objs.size):AZ P w H (h.push { cls:=.type "dict",data:=.dict #[] }) h.objs.size (.dT []):=
 ⟨Nat.zero_le _,beq_eq_false_iff_ne.mpr (Ne.symm (Nat.ne_of_lt hb)),[],.nil,_,#[],0,Heap.get?_push_size _ rfl,⟨rfl,rfl,rfl⟩,rfl,rfl,List.nodup_nil⟩
def WX:TE:=fun _ H Q=>∀p,H p=none→Q (.ref p) (upd H p (.dK []))
def WZ:TE:=fun _ H Q=>∀p,H p=none→Q (.ref p) (upd H p (.dT []))
section
variable {X:Cx}{pos:Pos}
theorem OA:PE X (.Dict [] [] pos) WX:=fun pins s σ H Q I h=>
 wpAny_Dict_empty ⟨.ref s.heap.objs.size,_,I.laid (a:=s.heap.objs.size) (o:=.dK []) (t':=s.toks) (fun _ _ q=>Heap.get?_push_of_some _ q) (Nat.le_refl _) (SF s.heap I.big),rfl,h _ (I.hok.fresh (Nat.le_refl _))⟩
theorem Kn:PE X (.Dict [] [] pos) WZ:=fun pins s σ H Q I h=>
 wpAny_Dict_empty ⟨.ref s.heap.objs.size,_,I.laid (a:=s.heap.objs.size) (o:=.dT []) (t':=s.toks) (fun _ _ q=>Heap.get?_push_of_some _ q) (Nat.le_refl _) (TF s.heap I.big),rfl,h _ (I.hok.fresh (Nat.le_refl _))⟩
end
structure M1 (X:Cx) (o:Expr) (m:Str) (apos:Pos) (e:Expr) (cpos:Pos):Prop where
 base:attributeBase o m X.env (eval o X.env)=eval o X.env
 few:((backTo cpos (starEach [e] X.env)).all (fun x=>!x.1)&&(backToKw cpos (keywordEach [] X.env)).all (fun x=>x.1.isSome)
  && decide (([e]:List Expr).length+([]:List Keyword).length+(if([]:List Keyword).isEmpty then 0 else 1)<30))=true
 line:(apos.endLine == cpos.line)=true
 trees:backTo cpos (starEach [e] X.env)=[(false,eval e X.env)]
structure M2 (X:Cx) (o:Expr) (m:Str) (apos:Pos) (e f:Expr) (cpos:Pos):Prop where
 base:attributeBase o m X.env (eval o X.env)=eval o X.env
 few:((backTo cpos (starEach [e,f] X.env)).all (fun x=>!x.1)&&(backToKw cpos (keywordEach [] X.env)).all (fun x=>x.1.isSome)
  && decide (([e,f]:List Expr).length+([]:List Keyword).length+(if([]:List Keyword).isEmpty then 0 else 1)<30))=true
 line:(apos.endLine == cpos.line)=true
 trees:backTo cpos (starEach [e,f] X.env)=[(false,eval e X.env),(false,eval f X.env)]
def YZ (H:Hp)(a:Addr):Prop:=(∃kvs,Rd H a (.dK kvs))∨∃kvs,Rd H a (.dT kvs)
theorem Pb {X:Cx}{pins:List (Addr×Obj)}{σ:St}{H:Hp}{s:Shared}{a:Addr}(I:Inv X pins σ H s)(d:YZ H a) :
  s.TypeIs (.ref a) "dict"∧(∀b,Value.ref a=.ref b→∃ob,s.heap.get? b=some ob∧ob.dict=none)∧(a == sysModules)=false:=by
 rcases d with⟨kvs,e⟩|⟨kvs,e⟩
 ·obtain⟨_,hd,vs,_,dd⟩:=NN I.hok e
  refine⟨dd.typeIs,fun b q=>?_,hd⟩
  cases q
  obtain⟨ob,_,_,h1,h2,_⟩:=dd
  exact⟨ob,h1,h2.2.1⟩
 ·obtain⟨_,hd,xs,_,dd⟩:=Nt I.hok e
  refine⟨dd.typeIs,fun b q=>?_,hd⟩
  cases q
  obtain⟨ob,_,_,h1,h2,_⟩:=dd
  exact⟨ob,h1,h2.2.1⟩
section
variable {X:Cx}{pins:List (Addr×Obj)}{σ:St}{H:Hp}{s:Shared}{a:Addr}{y d:V}{u r:Value}{o:Option V}{A:Around}{E:Value→Shared→Prop}
theorem WW {Q:Value→Shared→Prop}(hu:A.units+1<cLine)(I:Inv X pins σ H s)(g:Dl H a y o)(ry:RelV y u)(h:∀w' s',Inv X pins σ H s'→RelV (o.getD .non) w'→Q w' s') :
  wpAny (model X.prog X.w) A (call (.builtin "dict.get") [.ref a,u]) Q E s:=by
 rcases g with⟨kvs,k,e,ey,l⟩|⟨kvs,k,b,e,ey,eb,l⟩
 ·subst ey
  obtain⟨z,hd,vs,rel,dd⟩:=NN I.hok e
  refine call_meetsIn PySem.F.slot_dict_get dd.typeIs PySem.F.entry_dict_get (PySem.F.args_dict_get_2 _ _) (meets_dict_get (Bf X.prog X.w) a (Mc ry) hd) ⟨_,dd.mapOf,h _ _ (I.tok _) ?_⟩
  rw[l]
  exact(rel.val k).getD rfl
 ·subst ey
  cases(show u=Value.ref b from ry)
  obtain⟨z,hd,xs,rel,dd⟩:=Nt I.hok e
  refine call_meetsIn PySem.F.slot_dict_get dd.typeIs PySem.F.entry_dict_get (PySem.F.args_dict_get_2 _ _) (meetsH_dict_get (tupleKind (Bf X.prog X.w)) a b hd) ⟨tupleKind_room_in1 hu,k,xs,MZ I.hok eb,dd,h _ _ (I.tok _) ?_⟩
  rw[l]
  exact(rel.val k).getD rfl
end
def Ww (td ty:TE):TE:=fun σ H Q=>td σ H fun x H1=>∃a,x=.ref a∧YZ H1 a∧ty σ H1 fun y H2=>∃o,Dl H2 a y o∧Q (o.getD .non) H2
def Ws (td ty tx:TE):TE:=fun σ H Q=>td σ H fun x H1=>∃a,x=.ref a∧YZ H1 a∧ty σ H1 fun y H2=>tx σ H2 fun z H3=>∃kvs k,H3 a=some (.dK kvs)∧y=kV k∧
 (∀v,CL kvs k=some v→Q v (upd H3 a (.dK (Jz kvs k))))∧(CL kvs k=none→Q z H3)
section
variable {X:Cx}{o e f:Expr}{apos cpos:Pos}{td ty tx:TE}
theorem SJ (hu:X.A.units+1<cLine)(ho:PE X o td)(he:PE X e ty)(m:M1 X o "get" apos e cpos):PE X (.Call (.Attribute o "get" apos) [e] [] cpos) (Ww td ty):=by
 intro pins s σ H Q I h
 refine wpAny_Call_method m.base m.few m.line PySem.F.plainAttrs_dict PySem.F.slot_dict_get PySem.F.type_dict_get (Bd (ho pins s σ H _ I h) fun u s1 ⟨x,H1,I1,rx,a,ex,d,q1⟩=>?_)
 subst ex
 obtain rfl:u=Value.ref a:=rx
 obtain⟨t1,t2,_⟩:=Pb I1 d
 refine⟨t1,t2,?_⟩
 rw[m.trees]
 refine Calls.callWith_builtin rfl (Calls.evalArgs_plain (Calls.spliced_cons (Bd (he pins s1 σ H1 _ I1 q1) fun iv s2 ⟨y,H2,I2,ry,ov,g,q2⟩=>Calls.spliced_nil ?_)))
 exact WW hu I2 g ry fun w' s3 I3 rw'=>⟨_,H2,I3,rw',q2⟩
theorem TL (ho:PE X o td)(he:PE X e ty)(hf:PE X f tx)(m:M2 X o "pop" apos e f cpos):PE X (.Call (.Attribute o "pop" apos) [e,f] [] cpos) (Ws td ty tx):=by
 intro pins s σ H Q I h
 refine wpAny_Call_method m.base m.few m.line PySem.F.plainAttrs_dict PySem.F.slot_dict_pop PySem.F.type_dict_pop (Bd (ho pins s σ H _ I h) fun u s1 ⟨x,H1,I1,rx,a,ex,d,q1⟩=>?_)
 subst ex
 obtain rfl:u=Value.ref a:=rx
 obtain⟨t1,t2,_⟩:=Pb I1 d
 refine⟨t1,t2,?_⟩
 rw[m.trees]
 refine Calls.callWith_builtin rfl (Calls.evalArgs_plain (Calls.spliced_cons (Bd (he pins s1 σ H1 _ I1 q1) fun iv s2 ⟨y,H2,I2,ry,q2⟩=>
  Calls.spliced_cons (Bd (hf pins s2 σ H2 _ I2 q2) fun fv s3 ⟨z,H3,I3,rz,kvs,k,ea,ey,q3,q4⟩=>Calls.spliced_nil ?_))))
 subst ey
 cases l:CL kvs k with
 |some v=>exact Yb I3 ea ry l (.inr ⟨fv,rfl⟩) fun w' s4 I4 rw'=>⟨v,_,I4,rw',q3 v l⟩
 |none=>exact Wr I3 ea ry l fun s4 I4=>⟨z,H3,I4,rz,q4 l⟩
end
section
variable {X:Cx}{pins:List (Addr×Obj)}{σ:St}{H:Hp}{s:Shared}{a:Addr}{kvs:List (Key×V)}{A:Around}{E:Value→Shared→Prop}
end
section
variable {X:Cx}{pins:List (Addr×Obj)}{σ:St}{H:Hp}{s:Shared}{a:Addr}{y:V}{u:Value}{A:Around}{E:Value→Shared→Prop}
end
end L2
namespace L2
open PySem PySem.Spec PyProof.Rows
section
variable {X:Cx}
def Tf (K:PySem.W.Frag):R2:=fun x y H Q=>∃a b xs ys,x=.ref a∧y=.ref b∧AW K H a xs∧AW K H b ys∧xs.length+ys.length≤sizeLine∧
 (xs=[]→Q (.ref b) H)∧(xs≠[]→ys=[]→Q (.ref a) H)∧(xs≠[]→ys≠[]→∀p,H p=none→Q (.ref p) (upd H p (.tup (xs++ys))))
theorem Sv:Gd X (binaryOp .Add) (Tf X.K):=by
 intro pins s σ H x y v u Q I rx ry h
 obtain⟨a,b,xs,ys,rfl,rfl,ha,hb,hz,q0,q1,q2⟩:=h
 by_cases hx:xs=[]
 ·subst hx
  cases rx
  cases ry
  obtain⟨its,r1,p1,_⟩:=I.tuple ha
  obtain⟨its2,r2,p2,_⟩:=I.tuple hb
  cases r1
  obtain⟨⟨cls,dd,data,sl⟩,ho,hc,n,hd⟩:=id p1
  obtain⟨⟨cls2,dd2,data2,sl2⟩,ho2,hc2,n2,hd2⟩:=id p2
  simp only at hc hd hc2 hd2
  subst hc hd hc2 hd2
  exact concat_meets ⟨_,ho,rfl⟩ ⟨_,ho2,rfl⟩ noFill_tuple_add seq_tuple_add PySem.F.slot_tuple_add PySem.F.entry_tuple_add (PySem.F.args_tuple_add_2 _ _) (tuple_addW0 a b _ _ n n2 dd dd2 sl sl2 rfl) ⟨ho,ho2,.ref b,H,I,rfl,q0 rfl⟩
 ·exact Vo pins s σ H _ _ v u Q I rx ry ⟨a,b,xs,ys,rfl,rfl,ha,hb,hx,hz,q1 hx,q2 hx⟩
end
inductive Tr where
 |non
 |bl (b:Bool)
 |int (i:Int)
 |str (z:Str)
 |tup (ts:List Tr)
 |lst (ts:List Tr)
mutual
def Rep (F:Addr→Prop)(H:Hp):Tr→V→Prop
 | .non,v=>v=.non
 | .bl b,v=>v=.bl b
 | .int i,v=>v=.int i
 | .str z,v=>v=.str z
 | .tup ts,v=>∃a vs,v=.ref a∧H a=some (.tup vs)∧AD F H ts vs
 | .lst ts,v=>∃a vs,v=.ref a∧F a∧H a=some (.lst vs)∧AD F H ts vs
def AD (F:Addr→Prop)(H:Hp):List Tr→List V→Prop
 |[],vs=>vs=[]
 |t::ts,vs=>∃v us,vs=v::us∧Rep F H t v∧AD F H ts us
end
mutual
def Tr.dep:Tr→Nat
 | .tup ts=>1+Tr.deps ts
 | .lst ts=>1+Tr.deps ts
 |_=>1
def Tr.deps:List Tr→Nat
 |[]=>0
 |t::ts=>max (Tr.dep t) (Tr.deps ts)
end
mutual
def Tr.ok:Tr→Prop
 | .str z=>z.length≤1000
 | .tup ts=>ts.length≤1000∧Tr.oks ts
 | .lst ts=>ts.length≤1000∧Tr.oks ts
 |_=>True
def Tr.oks:List Tr→Prop
 |[]=>True
 |t::ts=>Tr.ok t∧Tr.oks ts
end
mutual
theorem Rep.same {F:Addr→Prop}{H H':Hp}(s:Al H H'):∀(t:Tr) (v:V),Rep F H t v→Rep F H' t v
 | .non,_,h=>h
 | .bl _,_,h=>h
 | .int _,_,h=>h
 | .str _,_,h=>h
 | .tup ts,_,⟨a,vs,e,ha,hr⟩=>⟨a,vs,e,s.get ha,AD.same s ts vs hr⟩
 | .lst ts,_,⟨a,vs,e,fa,ha,hr⟩=>⟨a,vs,e,fa,s.get ha,AD.same s ts vs hr⟩
theorem AD.same {F:Addr→Prop}{H H':Hp}(s:Al H H'):∀(ts:List Tr) (vs:List V),AD F H ts vs→AD F H' ts vs
 |[],_,h=>h
 |t::ts,_,⟨v,us,e,h1,h2⟩=>⟨v,us,e,Rep.same s t v h1,AD.same s ts us h2⟩
end
theorem AD.len {F:Addr→Prop}{H:Hp}:∀(ts:List Tr) (vs:List V),AD F H ts vs→vs.length=ts.length
 |[],_,h=>by rw[show _=[] from h];rfl
 |t::ts,_,⟨v,us,e,_,h2⟩=>by rw[e,List.length_cons,List.length_cons,AD.len ts us h2]
theorem AD.get {F:Addr→Prop}{H:Hp}:∀{ts:List Tr} {vs:List V},AD F H ts vs→∀{i:Nat} {v:V},vs[i]?=some v→∃t,ts[i]?=some t∧Rep F H t v
 |[],_,h,i,v,hv=>by rw[show _=[] from h] at hv;simp at hv
 |t::ts,_,⟨w,us,e,h1,h2⟩,0,v,hv=>by
  rw[e] at hv
  cases(Option.some.inj hv)
  exact⟨t,rfl,h1⟩
 |t::ts,_,⟨w,us,e,h1,h2⟩,i+1,v,hv=>by
  rw[e] at hv
  obtain⟨t',e1,e2⟩:=AD.get h2 (i:=i) (v:=v) (by simpa using hv)
  exact⟨t',by simpa using e1,e2⟩
theorem AD.append {F:Addr→Prop}{H:Hp}:∀{ts us:List Tr} {vs ws:List V},AD F H ts vs→AD F H us ws→AD F H (ts++us) (vs++ws)
 |[],us,_,ws,h,h2=>by rw[show _=[] from h];exact h2
 |t::ts,us,_,ws,⟨w,vs,e,h1,hr⟩,h2=>by
  rw[e]
  exact⟨w,vs++ws,rfl,h1,AD.append hr h2⟩
theorem AD.one {F:Addr→Prop}{H:Hp}{t:Tr}{v:V}(h:Rep F H t v):AD F H [t] [v]:=⟨v,[],rfl,h,rfl⟩
theorem Tr.oks_get:∀{ts:List Tr},Tr.oks ts→∀{i:Nat} {t:Tr},ts[i]?=some t→Tr.ok t
 |t::ts,h,0,t',e=>by cases(Option.some.inj e);exact h.1
 |t::ts,h,i+1,t',e=>Tr.oks_get h.2 (i:=i) (by simpa using e)
theorem Rep.ok {F:Addr→Prop}{H:Hp}:∀{t:Tr} {v:V},Rep F H t v→t.ok→Ok H v
 | .non,_,h,_=>by rw[show _=V.non from h];trivial
 | .bl _,_,h,_=>by rw[show _=V.bl _ from h];trivial
 | .int _,_,h,_=>by rw[show _=V.int _ from h];trivial
 | .str z,_,h,o=>by rw[show _=V.str z from h];exact o
 | .tup ts,_,⟨a,vs,e,ha,_⟩,_=>by rw[e];exact .inr ⟨vs,ha⟩
 | .lst ts,_,⟨a,vs,e,_,ha,_⟩,_=>by rw[e];exact .inl ⟨vs,ha⟩
section
variable {X:Cx}{pins:List (Addr×Obj)}{σ:St}{H:Hp}{s:Shared}{F G:Addr→Prop}
mutual
theorem V5 (I:Inv X pins σ H s):∀(t:Tr) (A:Around) (v u:V) (vv uu:Value),A.units+t.dep<cLine→Rep F H t v→Rep G H t u→RelV v vv→RelV u uu→SeqAt.EqAt A s vv uu true
 | .non,A,v,u,vv,uu,_,h1,h2,r1,r2=>by
  rw[show v=V.non from h1] at r1;rw[show u=V.non from h2] at r2
  cases r1;cases r2
  exact SeqAt.EqAt.same _
 | .bl b,A,v,u,vv,uu,_,h1,h2,r1,r2=>by
  rw[show v=V.bl b from h1] at r1;rw[show u=V.bl b from h2] at r2
  cases r1;cases r2
  exact SeqAt.EqAt.same _
 | .int i,A,v,u,vv,uu,_,h1,h2,r1,r2=>by
  have:=KU (A:=A) (s:=s) r1 r2 (by rw[show v=V.int i from h1];rfl) (by rw[show u=V.int i from h2];rfl)
  rw[show v=V.int i from h1,show u=V.int i from h2] at this
  have e:Lq (V.int i) (V.int i)=true:=by rw[pure_eq rfl rfl];simp
  rw[e] at this
  exact this
 | .str z,A,v,u,vv,uu,_,h1,h2,r1,r2=>by
  have:=KU (A:=A) (s:=s) r1 r2 (by rw[show v=V.str z from h1];rfl) (by rw[show u=V.str z from h2];rfl)
  rw[show v=V.str z from h1,show u=V.str z from h2] at this
  have e:Lq (V.str z) (V.str z)=true:=by rw[pure_eq rfl rfl];simp
  rw[e] at this
  exact this
 | .tup ts,A,v,u,vv,uu,hA,⟨a,vs,e1,ha,hr1⟩,⟨b,us,e2,hb,hr2⟩,r1,r2=>by
  subst e1 e2
  cases r1;cases r2
  by_cases hab:a=b
  ·subst hab;exact SeqAt.EqAt.same _
  have hA':A.units+(1+Tr.deps ts)<cLine:=hA
  obtain⟨its,rv1,p1,_⟩:=I.tuple (AW.of (K:=X.K) ha)
  obtain⟨its2,rv2,p2,_⟩:=I.tuple (AW.of (K:=X.K) hb)
  have l1:=rv1.length.symm.trans (AD.len ts vs hr1)
  have l2:=rv2.length.symm.trans (AD.len ts us hr2)
  have q:=SeqAt.RcAt.tuples (A:=A) (s:=s) (e:=fun _=>true) p1 p2 (by omega) (fun j g1 g2=>Ij I ts A.in1 vs us its its2 (by show A.units+1+Tr.deps ts<cLine;omega) hr1 hr2 rv1 rv2 j (by simpa using g1) (by simpa using g2))
  have e:((List.range (min its.toArray.size its2.toArray.size)).all (fun _=>true)&&its.toArray.size == its2.toArray.size)=true:=by
   simp[l1,l2]
  rw[e] at q
  exact SeqAt.EqAt.of_refs hab q
 | .lst ts,A,v,u,vv,uu,hA,⟨a,vs,e1,_,ha,hr1⟩,⟨b,us,e2,_,hb,hr2⟩,r1,r2=>by
  subst e1 e2
  cases r1;cases r2
  by_cases hab:a=b
  ·subst hab;exact SeqAt.EqAt.same _
  have hA':A.units+(1+Tr.deps ts)<cLine:=hA
  obtain⟨its,rv1,p1,_⟩:=I.list (AM.of (K:=X.K) ha)
  obtain⟨its2,rv2,p2,_⟩:=I.list (AM.of (K:=X.K) hb)
  have l1:=rv1.length.symm.trans (AD.len ts vs hr1)
  have l2:=rv2.length.symm.trans (AD.len ts us hr2)
  have q:=SeqAt.RcAt.lists (A:=A) (s:=s) (e:=fun _=>true) p1.isList p2.isList (by simp[l1,l2]) (by omega) (fun j g1 g2=>Ij I ts A.in1 vs us its its2 (by show A.units+1+Tr.deps ts<cLine;omega) hr1 hr2 rv1 rv2 j (by simpa using g1) (by simpa using g2))
  have e:((List.range its.toArray.size).all (fun _=>true))=true:=by simp
  rw[e] at q
  exact SeqAt.EqAt.of_refs hab q
theorem Ij (I:Inv X pins σ H s):∀(ts:List Tr) (A:Around) (vs us:List V) (its its2:List Value),A.units+Tr.deps ts<cLine→AD F H ts vs→AD G H ts us→AC vs its→AC us its2→∀(j:Nat) (g1:j<its.length) (g2:j<its2.length),SeqAt.EqAt A s its[j] its2[j] true
 |[],A,vs,us,its,its2,_,h1,h2,r1,r2=>fun j g1 g2=>by
  rw[show vs=[] from h1] at r1
  cases r1
  simp at g1
 |t::ts,A,vs,us,its,its2,hA,⟨v,vr,e1,a1,b1⟩,⟨u,ur,e2,a2,b2⟩,r1,r2=>by
  subst e1 e2
  have hA':A.units+max (Tr.dep t) (Tr.deps ts)<cLine:=hA
  cases r1 with
  |cons p1 q1=>
   cases r2 with
   |cons p2 q2=>
    intro j g1 g2
    cases j with
    |zero=>exact V5 I t A v u _ _ (by omega) a1 a2 p1 p2
    |succ j=>exact Ij I ts A vr ur _ _ (by omega) b1 b2 q1 q2 j (by simpa using g1) (by simpa using g2)
end
end
section
variable {X:Cx}
def Yy:R2:=fun x y H Q=>∃t F G,t.dep≤100∧Rep F H t x∧Rep G H t y∧Q (.bl false) H
theorem Wf (hu:X.A.units+150<cLine):Gd X (compareOp .NotEq) Yy:=by
 intro pins s σ H x y v u Q I rx ry h
 obtain⟨t,F,G,hd,h1,h2,q⟩:=h
 have Pn:∀z:V,CY z=true∨(∃b,z=.bl b)→x=z→y=z→wpAny (model X.prog X.w) X.A (compareOp .NotEq v u) (EP X pins σ Q) X.xe s:=fun z hz e1 e2=>by
  refine QV pins s σ H x y v u Q I rx ry ⟨?_,?_⟩
  ·subst e1 e2
   rcases hz with hz|⟨b,rfl⟩
   ·cases y<;>first|rfl|exact absurd (show false=true from hz) Bool.false_ne_true
   ·rfl
  ·rw[e1,e2];simpa using q
 cases t with
 |non=>exact Pn _ (.inl rfl) h1 h2
 |bl b=>exact Pn _ (.inr ⟨b,rfl⟩) h1 h2
 |int i=>exact Pn (.int i) (.inl rfl) h1 h2
 |str z=>exact Pn (.str z) (.inl rfl) h1 h2
 |tup ts=>
  obtain⟨a,vs,rfl,ha,hr1⟩:=h1
  obtain⟨b,us,rfl,hb,hr2⟩:=h2
  cases rx;cases ry
  have hd':1+Tr.deps ts≤100:=hd
  obtain⟨its,rv1,p1,_⟩:=I.tuple (AW.of (K:=X.K) ha)
  obtain⟨its2,rv2,p2,_⟩:=I.tuple (AW.of (K:=X.K) hb)
  have l1:=rv1.length.symm.trans (AD.len ts vs hr1)
  have l2:=rv2.length.symm.trans (AD.len ts us hr2)
  have q2:=SeqAt.RcNeAt.tuples (A:=X.A) (s:=s) (e:=fun _=>true) p1 p2 (by omega) (fun j g1 g2=>Ij I ts X.A.in1 vs us its its2 (by show X.A.units+1+Tr.deps ts<cLine;omega) hr1 hr2 rv1 rv2 j (by simpa using g1) (by simpa using g2))
  have e:(!((List.range (min its.toArray.size its2.toArray.size)).all (fun _=>true)&&its.toArray.size == its2.toArray.size))=false:=by
   simp[l1,l2]
  rw[e] at q2
  exact q2 _ _ _ _ ⟨.bl _,H,I,rfl,q⟩
 |lst ts=>
  obtain⟨a,vs,rfl,_,ha,hr1⟩:=h1
  obtain⟨b,us,rfl,_,hb,hr2⟩:=h2
  cases rx;cases ry
  have hd':1+Tr.deps ts≤100:=hd
  obtain⟨its,rv1,p1,_⟩:=I.list (AM.of (K:=X.K) ha)
  obtain⟨its2,rv2,p2,_⟩:=I.list (AM.of (K:=X.K) hb)
  have l1:=rv1.length.symm.trans (AD.len ts vs hr1)
  have l2:=rv2.length.symm.trans (AD.len ts us hr2)
  have q2:=SeqAt.RcNeAt.lists (A:=X.A) (s:=s) (e:=fun _=>true) p1.isList p2.isList (by simp[l1,l2]) (by omega) (fun j g1 g2=>Ij I ts X.A.in1 vs us its its2 (by show X.A.units+1+Tr.deps ts<cLine;omega) hr1 hr2 rv1 rv2 j (by simpa using g1) (by simpa using g2))
  have e:(!(List.range its.toArray.size).all (fun _=>true))=false:=by simp
  rw[e] at q2
  exact q2 _ _ _ _ ⟨.bl _,H,I,rfl,q⟩
end
mutual
theorem Rep.mono {F G:Addr→Prop}{H:Hp}(h:∀a,F a→G a):∀(t:Tr) (v:V),Rep F H t v→Rep G H t v
 | .non,_,q=>q
 | .bl _,_,q=>q
 | .int _,_,q=>q
 | .str _,_,q=>q
 | .tup ts,_,⟨a,vs,e,ha,hr⟩=>⟨a,vs,e,ha,AD.mono h ts vs hr⟩
 | .lst ts,_,⟨a,vs,e,fa,ha,hr⟩=>⟨a,vs,e,h a fa,ha,AD.mono h ts vs hr⟩
theorem AD.mono {F G:Addr→Prop}{H:Hp}(h:∀a,F a→G a):∀(ts:List Tr) (vs:List V),AD F H ts vs→AD G H ts vs
 |[],_,q=>q
 |t::ts,_,⟨v,us,e,h1,h2⟩=>⟨v,us,e,Rep.mono h t v h1,AD.mono h ts us h2⟩
end
mutual
theorem Rep.upd {F:Addr→Prop}{H:Hp}{l:Addr}{us us':List V}(hl:H l=some (.lst us))(nl:¬F l):∀(t:Tr) (v:V),Rep F H t v→Rep F (upd H l (.lst us')) t v
 | .non,_,q=>q
 | .bl _,_,q=>q
 | .int _,_,q=>q
 | .str _,_,q=>q
 | .tup ts,_,⟨a,vs,e,ha,hr⟩=>⟨a,vs,e,by rw[Ai (Av ha hl (by intro z;cases z))];exact ha,AD.upd hl nl ts vs hr⟩
 | .lst ts,_,⟨a,vs,e,fa,ha,hr⟩=>⟨a,vs,e,fa,by rw[Ai (show a≠l from fun z=>nl (by rw[←z];exact fa))];exact ha,AD.upd hl nl ts vs hr⟩
theorem AD.upd {F:Addr→Prop}{H:Hp}{l:Addr}{us us':List V}(hl:H l=some (.lst us))(nl:¬F l):∀(ts:List Tr) (vs:List V),AD F H ts vs→AD F (L2.upd H l (.lst us')) ts vs
 |[],_,q=>q
 |t::ts,_,⟨v,ur,e,h1,h2⟩=>⟨v,ur,e,Rep.upd hl nl t v h1,AD.upd hl nl ts ur h2⟩
end
theorem Ui {J:It} {xs:List V} {fr:List (Option Nat)} {k:Nat} {te:TE} {Q:VK} {σ:St} {H:Hp} (P:Nat→Hp→V→Hp→Prop) (hP:∀i H1 y H2 H3,P i H1 y H2→Al H2 H3→P i H1 y H3)
  (hU:∀i H1 y H2 l us us' ws,P i H1 y H2→H1 l=some (.lst ws)→H2 l=some (.lst us)→P i H1 y (upd H2 l (.lst us'))) (hJ:Kz J H xs) (hn:xs.length≤1000000)
  (helt:∀(i:Nat) (x:V) (H':Hp) (R:VK),xs[i]?=some x→Al H H'→(∀y H'',Al H' H''→P i H' y H''→R y H'')→te ((stC fr σ).set k (some x)) H' R)
  (hQ:∀l H' (ys:List V),H l=none→Al H H'→H' l=some (.lst ys)→ys.length=xs.length→(∀(i:Nat) y,ys[i]?=some y→∃H1,Al H H1∧P i H1 y H')→Q (.ref l) H') :
  E6 fr (D2 k) Oq te σ Q J H:=by
 intro l hl
 refine⟨fun i m σ' H'=>m=xs.length-i∧i≤xs.length∧(∀y,σ'.set k y=(stC fr σ).set k y)∧Al H H'∧∃ys:List V,H' l=some (.lst ys)∧ys.length=i∧(∀(i:Nat) y,ys[i]?=some y→∃H1 ws,Al H H1∧H1 l=some (.lst ws)∧P i H1 y H'),
  ⟨xs.length,by simp,Nat.zero_le _,fun _=>rfl,Ak hl _,[],Ad,rfl,fun i y h=>by simp at h⟩,?_⟩
 rintro i m σ' H' ⟨rfl,hi,hσ,hs,ys,hl',hlen,hp⟩
 obtain⟨h1,h2,h3⟩:=hJ H' hs i
 by_cases hlt:i<xs.length
 ·refine .inr ⟨h1 hlt,fun x H'' y=>?_⟩
  obtain⟨rfl,hx⟩:=h2 x H'' y
  have hx:=hx hlt
  show te (σ'.set k (some x)) H'' _
  rw[hσ]
  refine helt i x H'' _ hx hs fun y H4 s4 py=>?_
  refine⟨_,s4.get hl',BL (by omega),xs.length-(i+1),by omega,rfl,hlt,fun y=>by rw[List.set_set],Br (hs.trans s4) hl _,ys++[y],Ad,by rw[List.length_append,hlen];rfl,fun j y' hy'=>?_⟩
  by_cases hj:j<ys.length
  ·rw[List.getElem?_append_left hj] at hy'
   obtain⟨H1,ws,a1,a2,a3⟩:=hp j y' hy'
   exact⟨H1,ws,a1,a2,hU _ _ _ _ _ _ _ _ (hP _ _ _ _ _ a3 s4) a2 (s4.get hl')⟩
  ·rw[List.getElem?_append_right (by omega)] at hy'
   by_cases hj2:j=ys.length
   ·subst hj2
    rw[Nat.sub_self] at hy'
    cases(Option.some.inj hy':y=y')
    rw[hlen]
    exact⟨H'',ys,hs,hl',hU _ _ _ _ _ _ _ _ py hl' (s4.get hl')⟩
   ·rw[List.getElem?_eq_none (by simp;omega)] at hy'
    cases hy'
 ·have e:i=xs.length:=by omega
  subst e
  exact .inl ⟨h3 (Nat.le_refl _),hQ l H' ys hl hs hl' hlen fun i y hy=>(let⟨H1,_,a1,_,a3⟩:=hp i y hy;⟨H1,a1,a3⟩)⟩
theorem Es {K:PySem.W.Frag}{a:Addr}{H:Hp}{xs:List V}(h:H a=some (.tup xs)):Kz (Xn K a) H xs:=fun H' s i=>
 ⟨fun hi=>⟨xs,xs[i],AW.of (s.get h),by simp[hi]⟩,fun x H'' y=>⟨y.1,fun _=>y.2 xs (AW.of (s.get h))⟩,fun hi=>⟨xs,AW.of (s.get h),hi⟩⟩
def Tr.ty:Tr→String
 | .non=>"NoneType"
 | .bl _=>"bool"
 | .int _=>"int"
 | .str _=>"str"
 | .tup _=>"tuple"
 | .lst _=>"list"
theorem Rep.tyN {F:Addr→Prop}{H:Hp}:∀{t:Tr} {v:V},Rep F H t v→L2.Hl H v=t.ty
 | .non,_,h=>by rw[show _=V.non from h];rfl
 | .bl _,_,h=>by rw[show _=V.bl _ from h];rfl
 | .int _,_,h=>by rw[show _=V.int _ from h];rfl
 | .str z,_,h=>by rw[show _=V.str z from h];rfl
 | .tup ts,_,⟨a,vs,e,ha,_⟩=>by rw[e];simp only[L2.Hl,ha];rfl
 | .lst ts,_,⟨a,vs,e,_,ha,_⟩=>by rw[e];simp only[L2.Hl,ha];rfl
theorem ML {A:Around}{k:Nat}(hr:Room k A):A.units+150<cLine:=by have:=hr.un;omega
section
variable {σ:St}{H:Hp}{m k:Nat}{te:TE}{ta:TA}
theorem AD.rep {F:Addr→Prop}{ts:List Tr}{vs:List V}(h:AD F H ts vs):∀n:Nat,AD F H (List.replicate n ts).flatten (List.replicate n vs).flatten
 |0=>rfl
 |n+1=>by
  rw[List.replicate_succ,List.replicate_succ,List.flatten_cons,List.flatten_cons]
  exact AD.append h (AD.rep h n)
end
end L2
namespace L2
open PySem PySem.Spec PyProof.Rows
def DI (P:Program)(w:World)(K:PySem.W.Frag)(mg:Str→Option Value)(base:Heap)(k:Nat)(C:Addr)(m:Str)(ps:List Str)(sp:Sp):Prop:=
 ∃(f:Addr) (fd:FuncData),FnOk P w K mg base Dp k f fd ps sp∧Meth K C m f∧Binds K fd ps []
def T7 (P:Program)(w:World)(K:PySem.W.Frag)(mg:Str→Option Value)(base:Heap)(k:Nat)(C:Addr)(x:Str)(ps:List Str)(sp:Sp):Prop:=
 ∃(f:Addr) (fd:FuncData),FnOk P w K mg base Dp k f fd ps sp∧Mk K C f∧mg x=some (.ref C)∧Binds K fd ps []
section
variable {X:Cx}{k:Nat}{x m:Str}{C:Addr}{ps:List Str}{sp:Sp}{e o:Expr}{es:List Expr}{t:TA}{ta:TE}{p apos pos:Pos}
theorem Td (D:T7 X.prog X.w X.K X.mg X.base k C x ps sp) (hr:Room (k+1) X.A) (hg:Gl X x) (ha:PA X (e::es) t)
  (hdb:(x == ("__debug__":Str))=false:=by decide) (he:starEach (e::es) X.env=(false,eval e X.env)::starEach es X.env:=by rfl) (hpl:(backTo pos (starEach es X.env)).any (·.1)=false:=by rfl) :
  PE X (.Call (.Name x p) (e::es) [] pos) (V2 C sp [] E0 t):=by
 obtain⟨f,fd,F,M,hm,hb⟩:=D
 exact UK M F hr hg hm hb .nil LG ha hdb he hpl
theorem DP {pl:Sem Bool} (ho:PE X o ta) (c:Cls X.K C) (D:DI X.prog X.w X.K X.mg X.base k C m ps sp) (hr:Room k X.A) (ha:PA X (e::es) t)
  (hst:starEach (e::es) X.env=(false,eval e X.env)::starEach es X.env:=by rfl) (hpl:(backTo pos (starEach es X.env)).any (·.1)=false:=by rfl)
  (ht:eval (.Call (.Attribute o m apos) (e::es) [] pos) X.env=(do
   let ov ←eval o X.env
   standAt apos.atName
   let(f,first) ←holding [ov] (getMethod ov m pl)
   callWith pos f first (backTo pos (starEach (e::es) X.env)) (backToKw pos (keywordEach [] X.env))):=by rfl) :
  PE X (.Call (.Attribute o m apos) (e::es) [] pos) (OF C m sp [] E0 ta t):=by
 obtain⟨f,fd,F,M,hb⟩:=D
 exact QT ho c M F hr hb .nil LG ha hst hpl ht
theorem Hh {pl:Sem Bool} (ho:PE X o ta) (c:Cls X.K C) (D:DI X.prog X.w X.K X.mg X.base k C m ps sp) (hr:Room k X.A)
  (ht:eval (.Call (.Attribute o m apos) [] [] pos) X.env=(do
   let ov ←eval o X.env
   standAt apos.atName
   let(f,first) ←holding [ov] (getMethod ov m pl)
   callWith pos f first (backTo pos (starEach [] X.env)) (backToKw pos (keywordEach [] X.env))):=by rfl) :
  PE X (.Call (.Attribute o m apos) [] [] pos) (OF C m sp [] E0 ta Gj):=by
 obtain⟨f,fd,F,M,hb⟩:=D
 exact Ug ho c M F hr hb .nil LG ht
end
end L2
namespace L2
open PySem PySem.Spec PyProof.Rows
def Rq (K:PySem.W.Frag)(a:Addr):It:=
 ⟨fun i H=>∃xs x,AM K H a xs∧xs[i]?=some x,fun i H v H'=>∃T x,H T=none∧v=.ref T∧(∀xs,AM K H a xs→xs[i]?=some x)∧H'=upd H T (.tup [.int (i:Int),x]),fun i H=>∃xs,AM K H a xs∧xs.length=i⟩
theorem P6 {P:Program}{w:World}{K:PySem.W.Frag}{els:List Expr}{kk:Nat}{pp:Pos}(a e it:Addr)(hei:e≠it):Turn P w K (.Tuple els kk pp) (Rq K a) [e,it] e (fun i h=>(∃old,IsEnum h e it (i:Int) old)∧h.IsListIter it a i) where
 mem:=by simp
 obj:=fun i h st b hb=>by
  obtain⟨⟨old,he⟩,o,ho,_,hd⟩:=st
  rcases List.mem_cons.mp hb with rfl|hb
  ·exact⟨_,he,fun v z=>by cases z⟩
  ·rw[List.mem_singleton.mp hb];exact⟨o,ho,fun v z=>by rw[hd] at z;cases z⟩
 keep:=fun i h h' st hk=>by
  obtain⟨⟨old,he⟩,o,ho,r⟩:=st
  exact⟨⟨old,hk e (by simp) _ he⟩,o,hk it (by simp) o ho,r⟩
 item:=fun X hP hw hK hc i pins s σ H E I hf st hg=>by
  subst hP hw hK
  obtain⟨xs,x,hq,hx⟩:=hg
  obtain⟨its,rv,p,hz⟩:=I.list hq
  obtain⟨⟨old,he⟩,hit⟩:=st
  have fe:=hf e (by simp)
  have fi:=hf it (by simp)
  obtain⟨u,hu,ru⟩:=rv.get hx
  have il:=p.isList
  have nae:a≠e:=fun z=>by
   obtain⟨o,ho,c1,_⟩:=il
   rw[z,he] at ho;cases ho;injection c1 with y;exact absurd y (by decide)
  have nai:a≠it:=fun z=>by
   obtain⟨o,ho,c1,_⟩:=il
   obtain⟨o2,ho2,c2,_⟩:=hit
   rw[z,ho2] at ho;cases ho;rw[c2] at c1;injection c1 with y;exact absurd y (by decide)
  have W:=WalksT.enumerateD (prog:=X.prog) (w:=X.w) (A:=X.A) (Draws.list (prog:=X.prog) (w:=X.w) (A:=X.A.in1) (I.ok.hd hc) it a nai its.toArray) e hei (by simp[hei,Ne.symm nae]) (by simp)
  refine W.item i s _ E (by have:=(List.getElem?_eq_some_iff.mp hu).1;simp;omega) ⟨⟨old,he⟩,hit,il⟩ fun T vals h1 tk ⟨t,y,hy,ev⟩ hT htu hm hk=>?_
  refine⟨.ref T,rfl,W.go els kk pp i T _ _ E hm fun h2 st2 hk2=>?_⟩
  obtain⟨⟨old2,he2⟩,hit2,_⟩:=st2
  subst ev
  have ey:y=u:=by
   have q1:its.toArray[i]?=some u:=by simpa using hu
   exact Option.some.inj (hy.symm.trans q1)
  subst ey
  have hTw:T∉[e,it]:=W.apart _ _ _ hm
  have ht2:IsTup h2 T #[.int (i:Int) t,y]:=by
   obtain⟨o,ho,c⟩:=htu
   exact⟨o,hk2 T o hTw ho,c⟩
  refine⟨.ref T,upd H T (.tup [.int (i:Int),x]),?_,rfl,⟨T,x,I.hok.fresh hT,rfl,fun zs hzs=>(by rw[I.list_inj hzs hq];exact hx),rfl⟩,⟨⟨old2,by simpa using he2⟩,hit2⟩,fun b hb=>?_⟩
  ·have I2:=I.turned2 (h':=h2) (t':=tk) (xs:=[.int (i:Int),x]) (us:=[.int (i:Int) t,y]) fe fi (fun b o b1 b2 q=>hk2 b o (by simp[b1,b2]) (hk b o (by simp[b1,b2]) q)) hT (.cons ⟨_,rfl⟩ (.cons ru .nil)) (by show 2≤sizeLine;decide) ht2
   exact I2
  ·have nb:b≠T:=fun z=>hTw (z▸hb)
   rw[Ai nb];exact(hf b hb).1
 done:=fun X hP hw hK hc i pins s σ H E I hf st hg=>by
  subst hP hw hK
  obtain⟨xs,hq,hx⟩:=hg
  obtain⟨its,rv,p,hz⟩:=I.list hq
  obtain⟨⟨old,he⟩,hit⟩:=st
  have fe:=hf e (by simp)
  have fi:=hf it (by simp)
  have il:=p.isList
  have nae:a≠e:=fun z=>by
   obtain⟨o,ho,c1,_⟩:=il
   rw[z,he] at ho;cases ho;injection c1 with y;exact absurd y (by decide)
  have nai:a≠it:=fun z=>by
   obtain⟨o,ho,c1,_⟩:=il
   obtain⟨o2,ho2,c2,_⟩:=hit
   rw[z,ho2] at ho;cases ho;rw[c2] at c1;injection c1 with y;exact absurd y (by decide)
  have W:=WalksT.enumerateD (prog:=X.prog) (w:=X.w) (A:=X.A) (Draws.list (prog:=X.prog) (w:=X.w) (A:=X.A.in1) (I.ok.hd hc) it a nai its.toArray) e hei (by simp[hei,Ne.symm nae]) (by simp)
  have el:its.toArray.size=i:=by rw[List.size_toArray,←rv.length,hx]
  refine W.done s _ E (by rw[el];exact⟨⟨old,he⟩,hit,il⟩) fun h' tk hk=>⟨rfl,?_⟩
  exact I.turned2n (h':=h') (t':=tk) fe fi fun b o b1 b2 q=>hk b o (by simp[b1,b2]) q
 self:=fun A i s Q E st h=>by
  obtain⟨⟨old,he⟩,_⟩:=st
  exact wpAny_pyIter_enum he h
section
variable {X:Cx}{els:List Expr}{kk:Nat}{pp:Pos}
def WS (K:PySem.W.Frag)(ta:TA):TI:=fun σ H R=>ta σ H fun vs H1=>∃a xs,vs=[.ref a]∧AM K H1 a xs∧R (Rq K a) H1
theorem Ot {l:Expr}{ta:TA}{p pos:Pos}(hg:Gl X "enumerate")(hm:X.mg "enumerate"=none)(ha:PA X [l] ta)(hs:starEach [l] X.env=[(false,eval l X.env)]:=by rfl):PI X (.Tuple els kk pp) (.Call (.Name "enumerate" p) [l] [] pos) (WS X.K ta):=by
 intro pins s σ H R I h
 refine Call_ (IR I hg hm HX (PyProof.Rows.callWith_type1 (Bd (ha pos pins s σ H _ I h) fun us s1 ⟨vs,H1,I1,r1,q1⟩=>?_) hs rfl))
 obtain⟨a,xs,rfl,hq,q⟩:=q1
 obtain⟨u,rfl,ru⟩:=vals1 r1
 cases ru
 obtain⟨its,rv,pl,hz⟩:=I1.list hq
 refine call_enumerate_list pl.isList fun h' hE hit hz' hk=>?_
 refine wpAny_pyIter_enum hE ?_
 refine⟨s1.heap.objs.size+1,[s1.heap.objs.size+1,s1.heap.objs.size],_,Rq X.K a,H1,rfl,I1.kept (t':=s1.toks) hk,P6 a (s1.heap.objs.size+1) s1.heap.objs.size (Nat.succ_ne_self _),⟨⟨_,hE⟩,hit⟩,fun b hb=>?_,q⟩
 rcases List.mem_cons.mp hb with rfl|hb
 ·exact I1.fpOk (Nat.le_succ _) (I1.hok.fresh (Nat.le_succ _))
 ·rw[List.mem_singleton.mp hb];exact I1.fpOk (Nat.le_refl _) (I1.hok.fresh (Nat.le_refl _))
end
theorem LM {K:PySem.W.Frag} {a:Addr} {xs:List V} {g:TG} {tb:TS} {D:Ends} {σ:St} {H:Hp} (Pv:Nat→St→Hp→Prop) (h0:Pv 0 σ H) (hl:∀(i:Nat) (σ:St) (H:Hp),i≤xs.length→Pv i σ H→AM K H a xs)
  (turn:∀(i:Nat) (x:V) (σ:St) (H:Hp) (T:Addr),xs[i]?=some x→Pv i σ H→H T=none→g (.ref T) σ (upd H T (.tup [.int (i:Int),x])) fun σ2 H2=>tb { nx:=Pv (i+1),rt:=D.rt,bk:=D.nx,ct:=Pv (i+1) } σ2 H2)
  (done:∀(σ:St) (H:Hp),Pv xs.length σ H→D.nx σ H) :
  ∃W:Nat→Nat→St→Hp→Prop,(∃m,W 0 m σ H)∧∀i m σ H,W i m σ H→
   ((Rq K a).stop i H∧D.nx σ H)∨((Rq K a).go i H∧∃N:St→Hp→Prop,(∀σ' H',N σ' H'→∃m',m'<m∧W (i+1) m' σ' H')∧∀x H',(Rq K a).yld i H x H'→g x σ H' fun σ2 H2=>tb { D with nx:=N,ct:=N,bk:=D.nx } σ2 H2):=by
 refine⟨fun i m σ H=>m=xs.length-i∧i≤xs.length∧Pv i σ H,⟨_,rfl,Nat.zero_le _,h0⟩,?_⟩
 rintro i m σ H ⟨rfl,hi,hp⟩
 by_cases hlt:i<xs.length
 ·refine .inr ⟨⟨xs,xs[i],hl i σ H hi hp,by simp[hlt]⟩,Pv (i+1),fun σ' H' hn=>⟨xs.length-(i+1),by omega,rfl,hlt,hn⟩,?_⟩
  rintro x H' ⟨T,y,hT,rfl,hy,rfl⟩
  exact turn i y σ H T (hy xs (hl i σ H hi hp)) hp hT
 ·have e:i=xs.length:=by omega
  subst e
  exact .inl ⟨⟨xs,hl _ σ H hi hp,rfl⟩,done σ H hp⟩
end L2
namespace L2
open PySem PySem.Spec PyProof.Rows
theorem SB {P:Program}{w:World}{k:Key}{u:Value}(h:(Bf P w).is k u=true):RelV (kV k) u:=by
 rcases Bu h with⟨i,t,rfl,rfl⟩|⟨x,t,rfl,rfl⟩
 ·exact⟨t,rfl⟩
 ·exact⟨t,rfl⟩
section
variable {X:Cx}{tg:Expr}
end
theorem Dl.kf {H:Hp}{a:Addr}{o:Obj}{kvs:List (Key×V)}{k:Key}(e:H a=some (.frz o (.dK kvs))):Dl H a (kV k) (CL kvs k):=.inl ⟨kvs,k,.inr ⟨o,e⟩,rfl,rfl⟩
end L2
namespace L2
open PySem PySem.Spec PyProof.Rows
section
variable {X:Cx}
structure M0 (X:Cx) (o:Expr) (m:Str) (apos cpos:Pos):Prop where
 base:attributeBase o m X.env (eval o X.env)=eval o X.env
 few:((backTo cpos (starEach [] X.env)).all (fun x=>!x.1)&&(backToKw cpos (keywordEach [] X.env)).all (fun x=>x.1.isSome)
  && decide (([]:List Expr).length+([]:List Keyword).length+(if([]:List Keyword).isEmpty then 0 else 1)<30))=true
 line:(apos.endLine == cpos.line)=true
 trees:backTo cpos (starEach [] X.env)=[]
def Vy (td:TE):TE:=fun σ H Q=>td σ H fun x H1=>∃a kvs,x=.ref a∧H1 a=some (.dK kvs)∧Q .non (upd H1 a (.dK []))
theorem Ru {o:Expr}{td:TE}{apos cpos:Pos}(ho:PE X o td)(m:M0 X o "clear" apos cpos):PE X (.Call (.Attribute o "clear" apos) [] [] cpos) (Vy td):=by
 intro pins s σ H Q I h
 refine wpAny_Call_method m.base m.few m.line PySem.F.plainAttrs_dict PySem.F.slot_dict_clear PySem.F.type_dict_clear (Bd (ho pins s σ H _ I h) fun u s1 ⟨x,H1,I1,rx,a,kvs,ex,ea,q1⟩=>?_)
 subst ex
 obtain rfl:u=Value.ref a:=rx
 obtain⟨t1,t2,_⟩:=Pb I1 (.inl ⟨kvs,.inl ea⟩)
 refine⟨t1,t2,?_⟩
 rw[m.trees]
 exact Calls.callWith_builtin rfl (PySem.evalArgs_none (Vj I1 ea fun s3 I3=>⟨.non,_,I3,rfl,q1⟩))
end
theorem Hf {t u:TS}{D:Ends}{σ:St}{H:Hp}(M:St→Hp→Prop)(h1:∀N:St→Hp→Prop,(∀σ' H',M σ' H'→N σ' H')→t { D with nx:=N } σ H)(h2:∀σ' H',M σ' H'→u D σ' H'):We t u D σ H:=h1 (u D) h2
theorem MQ {J:It} {xs:List V} {fr:List (Option Nat)} {k:Nat} {te:TE} {Q:VK} {σ:St} {H:Hp} (I:Nat→List V→Addr→Hp→Prop) (hn:xs.length≤1000000)
  (hJ:∀i ys l H',I i ys l H'→(i<xs.length→J.go i H')∧(∀x H'',J.yld i H' x H''→H''=H'∧(i<xs.length→xs[i]?=some x))∧(xs.length≤i→J.stop i H'))
  (h0:∀l,H l=none→I 0 [] l (upd H l (.lst [])))
  (step:∀(i:Nat) (x:V) (ys:List V) (l:Addr) (H':Hp) (R:VK),xs[i]?=some x→H l=none→H' l=some (.lst ys)→ys.length=i→I i ys l H'→(∀y H'',H'' l=some (.lst ys)→I (i+1) (ys++[y]) l (upd H'' l (.lst (ys++[y])))→R y H'')→te ((stC fr σ).set k (some x)) H' R)
  (hQ:∀l H' (ys:List V),H l=none→H' l=some (.lst ys)→ys.length=xs.length→I xs.length ys l H'→Q (.ref l) H'):E6 fr (D2 k) Oq te σ Q J H:=by
 intro l hl
 refine⟨fun i m σ' H'=>m=xs.length-i∧i≤xs.length∧(∀y,σ'.set k y=(stC fr σ).set k y)∧∃ys:List V,H' l=some (.lst ys)∧ys.length=i∧I i ys l H',⟨xs.length,by simp,Nat.zero_le _,fun _=>rfl,[],Ad,rfl,h0 l hl⟩,?_⟩
 rintro i m σ' H' ⟨rfl,hi,hσ,ys,hl',hlen,hI⟩
 obtain⟨h1,h2,h3⟩:=hJ i ys l H' hI
 by_cases hlt:i<xs.length
 ·refine .inr ⟨h1 hlt,fun x H'' y=>?_⟩
  obtain⟨rfl,hx⟩:=h2 x H'' y
  have hx:=hx hlt
  show te (σ'.set k (some x)) H'' _
  rw[hσ]
  refine step i x ys l H'' _ hx hl hl' hlen hI fun y H4 hl4 hI4=>?_
  exact⟨ys,hl4,BL (by omega),xs.length-(i+1),by omega,rfl,hlt,fun y=>by rw[List.set_set],ys++[y],Ad,by rw[List.length_append,hlen];rfl,hI4⟩
 ·have e:i=xs.length:=by omega
  subst e
  exact .inl ⟨h3 (Nat.le_refl _),hQ l H' ys hl hl' hlen hI⟩
theorem PQ {lo:Int}{n i:Nat}{H:Hp}:(i<((List.range n).map fun(i:Nat)=>V.int (lo+(i:Int))).length→(Uv lo n).go i H)∧(∀x H'',(Uv lo n).yld i H x H''→H''=H∧(i<((List.range n).map fun(i:Nat)=>V.int (lo+(i:Int))).length→((List.range n).map fun(i:Nat)=>V.int (lo+(i:Int)))[i]?=some x))∧(((List.range n).map fun(i:Nat)=>V.int (lo+(i:Int))).length≤i→(Uv lo n).stop i H):=by
 rw[List.length_map,List.length_range]
 refine⟨fun h=>h,fun x H'' y=>⟨y.1,fun h=>?_⟩,fun h=>h⟩
 rw[List.getElem?_map,List.getElem?_range h,y.2];rfl
end L2
namespace L2
open PySem PySem.Spec PyProof.Rows
theorem AZ.get {P:Program}{w:World}{H:Hp}{h:Heap}{a:Addr}{o:HO}(x:AZ P w H h a o):∃ob,h.get? a=some ob:=by
 cases o with
 |lst xs=>obtain⟨_,_,_,_,e⟩:=x;exact⟨_,e⟩
 |tup xs=>obtain⟨_,_,_,ob,e,_⟩:=x;exact⟨_,e⟩
 |dK kvs=>obtain⟨_,_,_,_,o,_,_,e,_⟩:=x;exact⟨_,e⟩
 |dT kvs=>obtain⟨_,_,_,_,o,_,_,e,_⟩:=x;exact⟨_,e⟩
 |set S n=>obtain⟨o,_,_,_,e,_⟩:=x;exact⟨_,e⟩
 |ins C dx fs=>obtain⟨_,_,_,e,_⟩:=x;exact⟨_,e⟩
 |own y=>obtain⟨_,e⟩:=x;exact⟨_,e⟩
 |xd fs=>obtain⟨_,⟨_,_,_,e,_⟩,_⟩:=x;exact⟨_,e⟩
 |rng lo hi=>obtain⟨_,_,_,e⟩:=x;exact⟨_,e⟩
 |frz ob u=>obtain⟨e,_⟩:=x;exact⟨_,e⟩
 |tbl ps=>exact⟨_,x⟩
 |met f y=>exact⟨_,x⟩
 |ext φ=>obtain⟨_,e,_⟩:=x;exact e
structure Fly (P:Program) (w:World) (outer:List Env) (H:Hp) (s:Shared) (ea:Addr) (cls:Value) (H':Hp) (B:Heap) (a0:Value) (s':Shared):Prop where
 os:s'.os=s.os
 bare:AllBare s'.gens
 un:Un (D3 outer) [] H H' s.heap s'.heap
 hok:G9 P w H' B
 fl:Heap.FlyingW B outer ea cls a0 s'.heap
 kp:∀b o,s.heap.get? b=some o→H b=none→b∉D3 outer→B.get? b=some o
 th:∀b o,s.heap.get? b=some o→b∉D3 outer→∃o',B.get? b=some o'
def IK (P:Program)(w:World):OQ:=fun outer H s E e s'=>∃(ea:Addr) (cls:Value) (H':Hp) (B:Heap) (a0:Value),e=.ref ea∧Fly P w outer H s ea cls H' B a0 s'∧E cls none H'
section
variable {P:Program}{w:World}{outer:List Env}{H H':Hp}{s s':Shared}{ea:Addr}{cls a0:Value}{B h' base:Heap}
theorem Fly.stay (F:Fly P w outer H s ea cls H' B a0 s')(hl:s.heap.FunFrames base outer)(hn:∀b∈D3 outer,H b=none)(sB:B.StaysIn h')(up:s'.heap.UpToSlots h'):Un (D3 outer) [] H H' s.heap h':=by
 have sl:∀b o,s.heap.get? b=some o→b∈D3 outer→∃sl,h'.get? b=some { o with slots:=sl }:=fun b o q hb=>by
  obtain⟨z,e⟩:=F.un.slot b o q (hn b hb) hb (by simp)
  obtain⟨_,o',ho',hd⟩:=hl.mem hb
  rw[q] at ho'
  cases ho'
  exact up b { o with slots:=z } e hd
 refine⟨fun b o q n hb _=>sB b o (F.kp b o q n hb),fun b o q _ hb _=>sl b o q hb,F.un.free,fun b o q _=>?_,F.un.tups,F.un.frzs,F.un.tbls⟩
 by_cases hb:b∈D3 outer
 ·obtain⟨z,e⟩:=sl b o q hb
  exact⟨_,e⟩
 ·obtain⟨o',e⟩:=F.th b o q hb
  exact⟨o',sB b o' e⟩
theorem Fly.free (F:Fly P w outer H s ea cls H' B a0 s'):H' ea=none:=by
 cases e:H' ea with
 |none=>rfl
 |some u=>
  obtain⟨ob,q⟩:=(F.hok ea u e).get
  rw[F.fl.2.1] at q
  cases q
end
section
variable {X:Cx}{pins:List (Addr×Obj)}{σ:St}{H H':Hp}{s s':Shared}{ea:Addr}{cls a0:Value}{B h':Heap}
theorem Inv.landed (I:Inv X pins σ H s)(F:Fly X.prog X.w X.stack H s ea cls H' B a0 s')(sB:B.StaysIn h')(up:s'.heap.UpToSlots h'):Inv X pins σ H' { s' with heap:=h' }:=
 I.call' (s':={ s' with heap:=h' }) (ch:=[]) F.os (F.stay I.stack I.stkFree sB up) (F.hok.kept sB) F.bare (fun b z=>nomatch z)
theorem Inv.hid (I:Inv X pins σ H s):G9 X.prog X.w H (PySem.W.hideAll s.heap (D3 X.stack)):=fun b u e=>by
 refine(I.hok b u e).stay (fun c v hc q=>PySem.W.hideAll_get _ q fun z=>?_) (fun _ q=>q) fun _ _ q=>q
 have:=I.stkFree c z
 rcases hc with rfl|hc
 ·rw[e] at this;cases this
 ·rw[hc] at this;cases this
theorem Inv.hidFrames (I:Inv X pins σ H s):s.heap.FunFrames (PySem.W.hideAll s.heap (D3 X.stack)) X.stack:=
 PySem.W.funFrames_hide I.stack fun env he a ha=>List.mem_filterMap.mpr ⟨env,he,ha⟩
theorem Inv.made1 {h1:Heap}{vs:List Value}{l:List Env}{t':Nat}(I:Inv X pins σ H s)(hx:Heap.MadeExcOf s.heap h1 ea cls vs)(fl:Heap.FlyingW (PySem.W.hideAll s.heap (D3 X.stack)) l ea cls a0 h')(up:h1.UpToSlots h') :
  Un (D3 X.stack) [] H H s.heap h':=by
 have sl:∀b o,s.heap.get? b=some o→b∈D3 X.stack→∃sl,h'.get? b=some { o with slots:=sl }:=fun b o q hb=>by
  obtain⟨_,o',ho',hd⟩:=I.stack.mem hb
  rw[q] at ho'
  cases ho'
  exact up b _ (hx.keeps b o q) hd
 refine⟨fun b o q _ hb _=>fl.1 b o (PySem.W.hideAll_get _ q hb),fun b o q _ hb _=>sl b o q hb,fun b o _ n _=>n,fun b o q _=>?_,fun _ _ e=>e,fun _ _ _ e=>e,fun b ps e=>⟨#[],by rw[e];simp⟩⟩
 by_cases hb:b∈D3 X.stack
 ·obtain⟨z,e⟩:=sl b o q hb
  exact⟨_,e⟩
 ·exact⟨o,fl.1 b o (PySem.W.hideAll_get _ q hb)⟩
end
def Zc (X:Cx)(E:XK):Prop:=∀(pins:List (Addr×Obj)) (σ:St) (H:Hp) (s:Shared) (cls:Value) (h1:Heap) (ea:Addr) (vs:List Value),Inv X pins σ H s→Heap.MadeExcOf s.heap h1 ea cls vs→E cls none H→X.xe (.ref ea) { s with heap:=h1 }
section
variable {P:Program}{w:World}{K:PySem.W.Frag}{mg:Str→Option Value}{base:Heap}{N:List Str}{qual:Str}{scope:Scope}{f:Addr}{cd:Value}{A:Around}{outer:List Env}{s:Shared}{H:Hp}{E:XK}
theorem Fw {pins:List (Addr×Obj)}{σ:St}{H1:Hp}{s1:Shared}(I:Inv (B9 (IK P w) P w K mg base N qual scope f cd A outer s H E) pins σ H1 s1){b:Addr}{o:Obj}(q:s.heap.get? b=some o)(hb:b∉D3 outer) :
  b∉D3 (envOfC qual scope s.heap.objs.size f cd::outer):=fun z=>by
 rcases List.mem_cons.mp (I.stkSub b z) with e|e
 ·have h1:s.heap.objs.size≤b:=by rw[e];exact I.ok.above
  exact absurd (Nat.lt_of_lt_of_le (Heap.lt_size q) h1) (Nat.lt_irrefl _)
 ·exact hb e
theorem FR:CI (IK P w) (B9 (IK P w) P w K mg base N qual scope f cd A outer s H E) E:=by
 intro pins σ H1 s1 e s2 I h
 obtain⟨ea,cls,H',B,a0,rfl,F,q⟩:=h
 have hfr:=I.ok.frames
 refine wpAny_leaves_onW (L:=s.heap.objs.size) hfr rfl F.fl fun h' fl' up=>?_
 have un:=F.stay I.stack I.stkFree fl'.1 up
 have J:=I.call' (s':={ s2 with heap:=h' }) (ch:=[]) F.os un (F.hok.kept fl'.1) F.bare (fun b z=>nomatch z)
 refine⟨ea,cls,H',B,a0,rfl,⟨J.os,F.bare,J.base,F.hok,fl',fun b o e n hb=>?_,fun b o e hb=>?_⟩,q⟩
 ·exact F.kp b o (I.base.keep b o e n hb (by intro z;cases z)) (I.base.free b o e n (by intro z;cases z)) (Fw I e hb)
 ·obtain⟨o1,e1⟩:=I.base.there b o e (by intro z;cases z)
  exact F.th b o1 e1 (Fw I e hb)
theorem Im:Zc (B9 (IK P w) P w K mg base N qual scope f cd A outer s H E) E:=by
 intro pins σ H1 s1 cls h1 ea vs I hx q
 have hfr:=I.ok.frames
 refine wpAny_leaves_madeW (base:=PySem.W.hideAll s1.heap (D3 (envOfC qual scope s.heap.objs.size f cd::outer))) (h:=s1.heap) (L:=s.heap.objs.size) hfr rfl (fun b o e=>PySem.W.of_hideAll _ e) I.hidFrames hx fun h' t fl' _ _ up=>?_
 have un:=I.made1 (t':=s1.toks) hx fl' up
 have J:=I.call' (s':={ s1 with heap:=h' }) (ch:=[]) rfl un (I.hid.kept fl'.1) I.bare (fun b z=>nomatch z)
 refine⟨ea,cls,H1,_,_,rfl,⟨J.os,I.bare,J.base,I.hid,fl',fun b o e n hb=>?_,fun b o e hb=>?_⟩,q⟩
 ·exact PySem.W.hideAll_get _ (I.base.keep b o e n hb (by intro z;cases z)) (Fw I e hb)
 ·obtain⟨o1,e1⟩:=I.base.there b o e (by intro z;cases z)
  exact⟨o1,PySem.W.hideAll_get _ e1 (Fw I e hb)⟩
end
theorem VY {P:Program}{w:World}{X:Cx}:CI (IK P w) X E0:=fun _ _ _ _ _ _ _ ⟨_,_,_,_,_,_,_,z⟩=>False.elim z
abbrev N5:List Value:=[.type "ValueError",.type "Exception",.type "BaseException",.type "object"]
theorem Vd {K:PySem.W.Frag}{h:Heap}{C:Addr}(Kh:K.In h)(q:PySem.W.excIn K C N5 "ValueError.__new__"=true) :
  ∃bm N nm qn bs hd sn sub ab col dd k0 k1 k2 k3 k5 mN,h.get? C=some (excClassObj nm qn C N bs bm hd sn sub ab col dd k0 k1 k2 k3 k5 "ValueError.__new__")∧h.Ns N mN∧mN "__init__"=none∧OwnTail h N5 bm:=by
 unfold PySem.W.excIn at q
 split at q
 ·rename_i dx ck slots found
  split at q
  ·rename_i C0 tl p0 p1 p2 p3 made p5 em es
   rw[Bool.and_eq_true,Bool.and_eq_true,Bool.and_eq_true,Bool.and_eq_true,Bool.and_eq_true] at q
   obtain⟨⟨⟨⟨⟨z1,z2⟩,z3⟩,z4⟩,z5⟩,z6⟩:=q
   have y1:C0=C:=beq_iff_eq.mp z1
   have y2:made="ValueError.__new__":=beq_iff_eq.mp z2
   have y3:ck.hasDel=false:=by simpa using z3
   subst y1 y2
   obtain⟨nm,bs,mro,ns,qn,hd,sn,sub,ab,col,del⟩:=ck
   simp only at em y3 z5 z6
   subst em y3
   have es':slots = #[p0,p1,p2,p3,some (.builtin "ValueError.__new__"),p5]:=by
    obtain⟨l⟩:=slots
    simp only at es
    rw[es]
   subst es'
   exact⟨tl,ns,nm,qn,bs,hd,sn,sub,ab,col,dx,p0,p1,p2,p3,p5,_,Kh _ _ found,.of_isNs (PySem.W.isNs_of_in Kh z5),PySem.W.nsMap_none_of_in Kh z5 (beq_iff_eq.mp z6),PySem.W.tail_of_in Kh z4⟩
  ·cases q
 ·cases q
section
variable {X:Cx}{E:XK}{x:Str}{C:Addr}{np cpos pos:Pos}
theorem Hj (R:Zc X E)(hc:X.calm=true)(hm:X.mg x=some (.ref C))(hq:PySem.W.excIn X.K C N5 "ValueError.__new__"=true)(hg:Gl X x)(hd:(x == ("__debug__":Str))=false:=by decide) :
  PS X (.Raise (some (.Call (.Name x np) [] [] cpos)) none pos) (fun _ _ H=>E (.ref C) none H):=by
 intro pins s σ H D I h
 obtain⟨tl,N,nm,q,bs,hdct,sn,sub,ab,col,dd,k0,k1,k2,k3,k5,mN,hC,hN,hni,T⟩:=Vd I.kIn hq
 refine wpAny_Raise_call_subT (C:=C) (nm:=nm) (q:=q) (N:=N) (bs:=bs) (bm:=tl) (hdct:=hdct) (sn:=sn) (sub:=sub) (ab:=ab) (col:=col) (dd:=dd) (k0:=k0) (k1:=k1) (k2:=k2) (k3:=k3) (k5:=k5)
  PySem.F.excBase_ValueError (mN:=mN) (T.hasType PySem.F.excBase_ValueError.hasBase) (I.ok.hd hc) rfl hni (DF I hg hm ⟨rfl,?_⟩ hd)
 exact evalArgs_empty ⟨rfl,Nat.zero_le _,hC,hN,T,fun h' e hx=>R pins σ H s (.ref C) h' e [] I hx h⟩
end
abbrev XS:=Value→St→Hp→Prop
abbrev TX:=Ends→XS→St→Hp→Prop
def XP (X:Cx)(pins:List (Addr×Obj))(Ex:XS)(e:Value)(s':Shared):Prop:=
 ∃(ea:Addr) (cls:Value) (σ':St) (H1 H':Hp) (s1:Shared) (B:Heap) (a0:Value),e=.ref ea∧Inv X pins σ' H1 s1∧Fly X.prog X.w X.stack H1 s1 ea cls H' B a0 s'∧Ex cls σ' H'
def PX (X:Cx)(st:Stmt)(t:TX):Prop:=
 ∀(pins:List (Addr×Obj)) (s:Shared) (σ:St) (H:Hp) (D:Ends) (Ex:XS),Inv X pins σ H s→t D Ex σ H→wpAny (model X.prog X.w) X.A (exec st X.env) (SP X pins D) (XP X pins Ex) s
def Zb (X:Cx)(st:List Stmt)(t:TX):Prop:=
 ∀(pins:List (Addr×Obj)) (s:Shared) (σ:St) (H:Hp) (D:Ends) (Ex:XS),Inv X pins σ H s→t D Ex σ H→wpAny (model X.prog X.w) X.A (execs st X.env) (SP X pins D) (XP X pins Ex) s
def Y8 (X:Cx)(e:Expr)(t:(Value→Hp→Prop)→TE):Prop:=
 ∀(pins:List (Addr×Obj)) (s:Shared) (σ:St) (H:Hp) (Q:VK) (Ex:Value→Hp→Prop),Inv X pins σ H s→t Ex σ H Q→wpAny (model X.prog X.w) X.A (eval e X.env) (EP X pins σ Q) (XP X pins fun cls σ' H'=>σ'=σ∧Ex cls H') s
section
variable {X:Cx}{st:Stmt}{rest:List Stmt}{e:Expr}{pos:Pos}
theorem Vt {t:TX}(h1:PX X st t):Zb X [st] t:=by
 intro pins s σ H D Ex I h
 refine wpAny_execs_cons (Bd (h1 pins s σ H D Ex I h) fun f s1 q=>?_)
 cases f with
 |next=>exact wpAny_execs_nil q
 |ret v=>exact q
 |brk=>exact q
 |cont=>exact q
theorem X4 {pins:List (Addr×Obj)}{σ:St}{Ex:XS}{v:Value}{s:Shared}(h:XP X pins (fun cls σ' H'=>σ'=σ∧Ex cls σ H') v s):XP X pins Ex v s:=by
 obtain⟨ea,cls,σ',H1,H',s1,B,a0,h1,h2,h3,h4,h5⟩:=h
 subst h4
 exact⟨ea,cls,_,H1,H',s1,B,a0,h1,h2,h3,h5⟩
def YX (te:(Value→Hp→Prop)→TE):TX:=fun D Ex σ H=>te (fun cls H'=>Ex cls σ H') σ H D.rt
theorem WC {te:(Value→Hp→Prop)→TE}(he:Y8 X e te):PX X (.Return (some e) pos) (YX te):=by
 intro pins s σ H D Ex I h
 exact wpAny_Return_some (wpAny_mono (he pins s σ H _ _ I h) (fun v s1 ⟨x,H1,I1,r1,q1⟩=>⟨x,σ,H1,I1,r1,q1⟩) fun _ _ z=>X4 z)
end
def Iy (P:Program)(w:World)(K:PySem.W.Frag)(mg:Str→Option Value)(base:Heap)(k:Nat)(x:Str)(ps:List Str)(sp:Sp):Prop:=
 ∃(f:Addr) (fd:FuncData),FnOk P w K mg base (IK P w) k f fd ps sp∧mg x=some (.ref f)∧PySem.W.keepIn K (.ref f)=true∧Binds K fd ps []
def Js (P:Program)(w:World)(K:PySem.W.Frag)(mg:Str→Option Value)(base:Heap)(k:Nat)(C:Addr)(m:Str)(ps:List Str)(sp:Sp):Prop:=
 ∃(f:Addr) (fd:FuncData),FnOk P w K mg base (IK P w) k f fd ps sp∧Meth K C m f∧Binds K fd ps []
theorem Fun.okX {P:Program} {w:World} {K:PySem.W.Frag} {mg:Str→Option Value} {base:Heap} {x qual:Str} {st:Stmt} {f:Addr} {fd:FuncData} {N ps:List Str} {k:Nat} {sp:Sp} (F:Fun K x qual st f fd) (S:FnScope N ps (Ah st)) (len:∀vs H Q E,sp vs H Q E→vs.length=ps.length)
  (hbody:∀(cdv:Value) (A:Around) (outer:List Env) (s:Shared) (H:Hp) (vs:List V) (Q:VK) (E:XK),Room k (A.deeper (envOfC qual (Ah st) s.heap.objs.size f cdv))→sp vs H Q E→
   ∃t,Ml (B9 (IK P w) P w K mg base N qual (Ah st) f cdv A outer s H E) (Ao st) t∧t { nx:=fun _ H'=>Q .non H',rt:=Q } (start N vs) H):FnOk P w K mg base (IK P w) (k+1) f fd ps sp:=by
 obtain⟨oc,od,kV,doc,pm,an,cdv,ct,osl,rfl,lk,hcd⟩:=F.ex
 exact Ua lk hcd S len fun A outer s H vs Q E hr hsp=>hbody cdv A outer s H vs Q E hr hsp
section
variable {X:Cx}{k:Nat}{x m:Str}{C:Addr}{ps:List Str}{sp:Sp}{E:XK}{e o:Expr}{es:List Expr}{t:TA}{ta:TE}{p pos apos:Pos}
theorem K5 (D:Iy X.prog X.w X.K X.mg X.base k x ps sp) (hr:Room k X.A) (hg:Gl X x) (hx:CI (IK X.prog X.w) X E) (ha:PA X (e::es) t)
  (hdb:(x == ("__debug__":Str))=false:=by decide) (he:starEach (e::es) X.env=(false,eval e X.env)::starEach es X.env:=by rfl) (hpl:(backTo pos (starEach es X.env)).any (·.1)=false:=by rfl) :
  PE X (.Call (.Name x p) (e::es) [] pos) (Jt sp [] E t):=by
 obtain⟨f,fd,F,hm,hk,hb⟩:=D
 exact MX F hr hg hm hk hb .nil hx ha hdb he hpl
theorem G6 {pl:Sem Bool} (ho:PE X o ta) (c:Cls X.K C) (D:Js X.prog X.w X.K X.mg X.base k C m ps sp) (hr:Room k X.A) (hx:CI (IK X.prog X.w) X E) (ha:PA X (e::es) t)
  (hst:starEach (e::es) X.env=(false,eval e X.env)::starEach es X.env:=by rfl) (hpl:(backTo pos (starEach es X.env)).any (·.1)=false:=by rfl)
  (ht:eval (.Call (.Attribute o m apos) (e::es) [] pos) X.env=(do
   let ov ←eval o X.env
   standAt apos.atName
   let(f,first) ←holding [ov] (getMethod ov m pl)
   callWith pos f first (backTo pos (starEach (e::es) X.env)) (backToKw pos (keywordEach [] X.env))):=by rfl) :
  PE X (.Call (.Attribute o m apos) (e::es) [] pos) (OF C m sp [] E ta t):=by
 obtain⟨f,fd,F,hm,hb⟩:=D
 exact QT ho c hm F hr hb .nil hx ha hst hpl ht
theorem Vx {CX:OQ} {f:Addr} {fd:FuncData} {pins:List (Addr×Obj)} {σ:St} {H:Hp} {s:Shared} {Q:VK} {us:List Value} {vs:List V} {Ex:Value→Hp→Prop} (F:FnOk X.prog X.w X.K X.mg X.base (IK X.prog X.w) k f fd ps sp) (hr:Room k X.A) (hb:Binds X.K fd ps [])
  (I:Inv X pins σ H s) (r:AC vs us) (h:sp (vs++[]) H Q fun cls _ H'=>Ex cls H'):wpAny (model X.prog X.w) X.A (call (.ref f) us) (EP X pins σ Q) (XP X pins fun cls σ' H'=>σ'=σ∧Ex cls H') s:=by
 rw[List.append_nil] at h
 have hl:us.length=ps.length:=by rw[←r.length];exact F.len _ _ _ _ h
 have hb':=hb s us I.kIn (by rw[List.append_nil];exact hl)
 rw[List.append_nil] at hb'
 refine wpAny_call (codeAny_mono (F.run X.A X.stack s H ⟨us,[]⟩ us vs Q _ hr I.env0 hb' r h) fun r s' hq=>?_)
 cases r with
 |error e=>
  obtain⟨ea,cls,H',B,a0,he,Fl,q⟩:=hq
  exact⟨ea,cls,σ,H,H',s,B,a0,he,I,Fl,rfl,q⟩
 |ok fl=>
  cases fl with
  |ret u=>exact I.after hq
  |next=>exact False.elim hq
  |brk=>exact False.elim hq
  |cont=>exact False.elim hq
theorem V6 (D:Iy X.prog X.w X.K X.mg X.base k x ps sp) (hr:Room k X.A) (hg:Gl X x) (ha:PA X.nox (e::es) t)
  (hdb:(x == ("__debug__":Str))=false:=by decide) (he:starEach (e::es) X.env=(false,eval e X.env)::starEach es X.env:=by rfl) (hpl:(backTo pos (starEach es X.env)).any (·.1)=false:=by rfl) :
  Y8 X (.Call (.Name x p) (e::es) [] pos) (fun Ex=>Jt sp [] (fun cls _ H'=>Ex cls H') t):=by
 obtain⟨f,fd,F,hm,hk,hb⟩:=D
 intro pins s σ H Q Ex I h
 refine wpAny_Call_Name_kw (DF I hg hm ?_ hdb)
 refine PySem.W.callWith_K (h₀:=X.base) I.ok.mod.kin hk (wpAny_mono (ha pos pins s σ H _ (I.wish _) h) (fun us s1 ⟨vs,H1,I1,r,q⟩=>⟨I1.kIn,?_⟩) fun _ _ z=>False.elim z) he hpl
 exact Vx (CX:=IK X.prog X.w) F hr hb I1.unwish r q
end
def Cx.held (X:Cx)(e:Value):Cx:={ X with A:=X.A.mark (some e),calm:=false,xe:=fun _ _=>False }
section
variable {X:Cx}{pins:List (Addr×Obj)}{σ:St}{H:Hp}{s:Shared}{e:Value}
theorem Inv.held (I:Inv X pins σ H s)(e:Value):Inv (X.held e) pins σ H s:=
 ⟨⟨I.ok.mod,I.ok.kind,I.ok.glob,I.ok.blt,I.ok.above,I.ok.inj,I.ok.has,I.ok.cab,(fun z=>nomatch z),I.ok.frames,I.ok.stk,I.ok.exf,I.ok.bs,I.ok.bsz,I.ok.noex,I.ok.exfs,I.ok.funs,I.ok.frf⟩,I.os,I.bare,I.base,I.loc,I.cell,I.free,I.freeC,I.pin,I.hok,I.len⟩
theorem Inv.unheld (J:Inv X pins σ H s){σ':St}{H':Hp}{s':Shared}(I:Inv (X.held e) pins σ' H' s'):Inv X pins σ' H' s':=
 ⟨J.ok,I.os,I.bare,I.base,I.loc,I.cell,I.free,I.freeC,I.pin,I.hok,I.len⟩
theorem SP.unheld (J:Inv X pins σ H s){D:Ends}{f:Flow}{s':Shared}(h:SP (X.held e) pins D f s'):SP X pins D f s':=by
 cases f with
 |next=>obtain⟨σ',H',I,q⟩:=h;exact⟨σ',H',J.unheld I,q⟩
 |brk=>obtain⟨σ',H',I,q⟩:=h;exact⟨σ',H',J.unheld I,q⟩
 |cont=>obtain⟨σ',H',I,q⟩:=h;exact⟨σ',H',J.unheld I,q⟩
 |ret u=>obtain⟨v,σ',H',I,r,q⟩:=h;exact⟨v,σ',H',J.unheld I,r,q⟩
end
section
variable {X:Cx}{x:Str}{c:Value}{body orelse suite:List Stmt}{b₀:Stmt}{np hpos pos:Pos}
def Y6 (K:PySem.W.Frag)(c:Value)(tb:TX)(te ts:TS):TS:=fun D σ H=>tb { D with nx:=te D } (fun cls σ' H'=>PySem.W.exmOne K cls c=some true∧ts D σ' H') σ H
theorem WH {tb:TX} {te ts:TS} (hst:X.stack=X.env::X.outer∧X.env.frame=some X.env.locals) (hm:X.mg x=some c) (hg:Gl X x) (hb:Zb X body tb) (he:Ml X orelse te) (hs:∀e,Ml (X.held e) (b₀::suite) ts)
  (hd:(x == ("__debug__":Str))=false:=by decide):PS X (.Try body [.ExceptHandler (some (.Name x np)) none (b₀::suite) hpos] orelse [] pos) (Y6 X.K c tb te ts):=by
 intro pins s σ H D I h
 refine wpAny_Try_except (wpAny_mono (hb pins s σ H _ _ I h) (fun f s1 q=>?_) fun e s1 q=>?_)
 ·cases f with
  |next=>
   obtain⟨σ',H',I',q⟩:=q
   exact he pins s1 σ' H' D I' q
  |ret v=>exact q
  |brk=>exact q
  |cont=>exact q
 ·obtain⟨ea,cls,σ',H1,H',s2,B,a0,rfl,I2,F,hx,q⟩:=q
  have hfr:=I.ok.frames
  have fl:=F.fl
  rw[hst.1] at hfr fl
  refine wpAny_looks_onW hfr hst.2 fl fun h4 held4 up4=>?_
  refine wpAny_landsW held4 fun h5 fl5 up5=>?_
  have J5:=I2.landed F fl5.1 (up4.trans up5)
  refine wpAny_handleBy_cons (codeAny_handlers_test (DF (J5.held (.ref ea)) hg hm ?_ hd)) (by intro z;cases z)
  obtain⟨ob,hob,hcls⟩:=fl5.there
  have LT:PySem.W.Looks (model X.prog X.w) h5 (typeOf (.ref ea)) cls:=by
   subst hcls
   exact(PySem.W.Looks.ld hob).andThen .now
  refine(PySem.W.exm_one J5.kIn LT hx).here ?_
  refine codeAny_handlers_suite (lands_againW fl5 fun h6 fl6 up6=>?_)
  have J6:=I2.landed F fl6.1 ((up4.trans up5).trans up6)
  exact wpAny_mono (hs (.ref ea) pins _ σ' H' D (J6.held (.ref ea)) q) (fun f s7 z=>z.unheld J6) fun _ _ z=>False.elim z
end
end L2
namespace L2
open PySem PySem.Spec PyProof.Rows
section
variable {X:Cx}
end
end L2
namespace L2
open PySem PySem.Spec PyProof.Rows
section
variable {X:Cx}
end
end L2
namespace L2
open PySem PySem.Spec PyProof.Rows
section
variable {prog:Program}{w:World}{A:Around}{E:Value→Shared→Prop}{s:Shared}{it t:Addr}{i:Nat}{its:Array Value}{Q:Value→Shared→Prop}
end
structure ZA (z TI TO i1 i2:Addr) (f1 f2:List Addr):Prop where
 TIz:TI≠z
 TOz:TO≠z
 i1z:i1≠z
 i2z:i2≠z
 TITO:TI≠TO
 TIi1:TI≠i1
 TIi2:TI≠i2
 TOi1:TO≠i1
 TOi2:TO≠i2
 i12:i1≠i2
 z1:z∉f1
 o1:TO∉f1
 j1:i2∉f1
 z2:z∉f2
 o2:TO∉f2
 j2:i1∉f2
section
variable {prog:Program}{w:World}{A:Around}{E:Value→Shared→Prop}{s:Shared}{z TI TO i1 i2:Addr}{f1 f2:List Addr}{n i:Nat}{P1 P2:Nat→Value→Prop}{St1 St2:Nat→Heap→Prop}{a b:Value}
end
section
variable {prog:Program}{w:World}{A:Around}{E:Value→Shared→Prop}{s:Shared}{z TI TO i1 i2:Addr}{f1 f2:List Addr}{n i:Nat}{P1 P2:Nat→Value→Prop}{St1 St2:Nat→Heap→Prop}{a b:Value}
end
section
variable {X:Cx}{pins:List (Addr×Obj)}{σ:St}{H:Hp}{s:Shared}{h':Heap}
end
section
variable {X:Cx}{els:List Expr}{kk:Nat}{pp:Pos}
end
theorem Tx {X:Cx} {K:PySem.W.Frag} {T:String} {name:Str} {id:String} {r:V→List V→Hp→VK→Prop} {o e:Expr} {es:List Expr} {to:TE} {t:TA} {apos cpos:Pos} (hK:X.K=K) (pa:PlainAttrs T) (slot:Slot T name id) (hty:typeOf (.builtin id)=pure (.type "method_descriptor")) (hm:Yt X id r) (ho:PE X o to) (ha:PA X (e::es) t)
  (hbase:attributeBase o name X.env (eval o X.env)=eval o X.env:=by rfl)
  (hfew:((backTo cpos (starEach (e::es) X.env)).all (fun x=>!x.1)&&(backToKw cpos (keywordEach [] X.env)).all (fun x=>x.1.isSome)
   && decide ((e::es).length+([]:List Keyword).length+(if([]:List Keyword).isEmpty then 0 else 1)<30))=true:=by rfl)
  (hline:(apos.endLine == cpos.line)=true:=by rfl) (hs:starEach (e::es) X.env=(false,eval e X.env)::starEach es X.env:=by rfl) (hplain:(backTo cpos (starEach es X.env)).any (·.1)=false:=by rfl) :
  PE X (.Call (.Attribute o name apos) (e::es) [] cpos) (Zd K T r to t):=by
 subst hK
 exact Gk pa slot hty hm ho ha hbase hfew hline hs hplain
end L2
namespace L2
open PySem PySem.Spec PyProof.Rows
theorem Pd {env env':Env}(h:env.frame=env'.frame)(e:Value):noteFrame e env=noteFrame e env':=by
 unfold noteFrame PySem.frameOf
 rw[h]
theorem N7 {h h' base base':Heap}:∀{l:List Env},h.FunFrames base l→(∀b∈D3 l,∀o,h.get? b=some o→∃o',h'.get? b=some o'∧o'.data=o.data)→(∀b∈D3 l,base.get? b=none→base'.get? b=none)→h'.FunFrames base' l
 |[],_,_,_=>trivial
 |env::l,⟨hk,⟨L,o,hf,hn,ho,hd⟩,hr⟩,k,kb=>by
  have mL:L∈D3 (env::l):=List.mem_filterMap.mpr ⟨env,List.mem_cons_self,hf⟩
  have sub:∀b∈D3 l,b∈D3 (env::l):=fun b hb=>by
   obtain⟨e,he,q⟩:=List.mem_filterMap.mp hb
   exact List.mem_filterMap.mpr ⟨e,List.mem_cons_of_mem _ he,q⟩
  obtain⟨o',ho',hd'⟩:=k L mL o ho
  exact⟨hk,⟨L,o',hf,kb L mL hn,ho',fun vs=>hd'▸hd vs⟩,N7 hr (fun b hb=>k b (sub b hb)) fun b hb=>kb b (sub b hb)⟩
section
variable {M:Model}{A:Around}{E:Value→Shared→Prop}{s:Shared}{base:Heap}{env:Env}{outer l:List Env}{L e:Addr}{cls a0 fl:Value}
structure Retraced (base h h':Heap) (T:Addr) (ts:Array Value) (v:Value):Prop where
 here:∃o',h'.get? T=some o'∧o'.data=.fields (ts.setIfInBounds 3 v)
 rest:∀b o,b≠T→h.get? b=some o→h'.get? b=some o
 low:base.StaysIn h→base.StaysIn h'
 plain:∀b o,h.get? b=some o→(∀vs,o.data≠.fields vs)→h'.get? b=some o
theorem OM {h:Heap}{T:Addr}{oT:Obj}{ts:Array Value}(v:Value)(n:base.get? T=none)(q:h.get? T=some oT)(d:oT.data=.fields ts):Retraced base h (h.update T (Obj.mapFields (·.setIfInBounds 3 v))) T ts v:=by
 have rest:∀b o,b≠T→h.get? b=some o→(h.update T (Obj.mapFields (·.setIfInBounds 3 v))).get? b=some o:=fun b o ne z=>(Heap.get?_update_other h _ (Ne.symm ne)).trans z
 refine⟨⟨_,Heap.get?_update_self _ q (Obj.isFreed_of_fields (Obj.data_mapFields d _)),Obj.data_mapFields d _⟩,rest,fun st b o z=>rest b o (fun e=>?_) (st b o z),fun b o z nf=>rest b o (fun e=>?_) z⟩
 ·rw[e,n] at z;cases z
 ·rw[e,q] at z;cases z;exact nf ts d
theorem OZ {fr:Option Addr} {Q:Unit→Shared→Prop} (hkb:base.StaysIn s.heap) (hl:s.heap.FunFrames base l) (ht:s.heap.TracedAtW base e cls a0 fl)
  (h:∀h',base.StaysIn h'→h'.FunFrames base l→h'.TracedAtW base e cls a0 (fr.elim Value.none fun f=>rawInt f)→s.heap.UpToSlots h'→Q () { s with heap:=h' }):wpAny M A (setFlight (.ref e) fr) Q E s:=by
 obtain⟨oe,vs,T,oT,ts,z1,z2,z3,z4,z5,z6,z7,z8,z9⟩:=ht
 have lt3:=(Array.getElem?_eq_some_iff.mp z9).1
 have U:=OM (base:=base) (fr.elim Value.none fun f=>rawInt f) z5 z7 z8
 unfold setFlight
 refine wpAny_bind (wpAny_field z1 z3 z4 ?_)
 rw[if_pos (by simp)]
 obtain⟨o',g1,g2⟩:=U.here
 exact wpAny_setField z7 z8 lt3 (h _ (U.low hkb) (hl.of_keeps fun b o p nf=>⟨o,U.plain b o p nf,rfl⟩) ⟨oe,vs,T,o',_,U.rest _ _ (Ne.symm z6) z1,z2,z3,z4,z5,z6,g1,g2,by simp[lt3]⟩ fun b o p nf=>⟨o.slots,U.plain b o p nf⟩)
theorem PK {α:Type} {what:String} {Q:α→Shared→Prop} (hkb:base.StaysIn s.heap) (hl:s.heap.FunFrames base l) (ht:s.heap.TracedAtW base e cls a0 fl)
  (h:∀h' fl',base.StaysIn h'→h'.FunFrames base l→h'.TracedAtW base e cls a0 fl'→s.heap.UpToSlots h'→E (.ref e) { s with heap:=h' }):wpAny M A (PySem.passOn what (.ref e) env:Sem α) Q E s:=by
 obtain⟨oe,vs,T,oT,ts,z1,z2,z3,z4,_⟩:=id ht
 unfold PySem.passOn
 refine wpAny_bind (wpAny_field z1 z3 z4 ?_)
 rw[if_neg (by simp)]
 exact wpAny_bind (OZ hkb hl ht fun h' k1 k2 k3 k4=>wpAny_throw (h h' _ k1 k2 k3 k4))
theorem Pp {Q:Unit→Shared→Prop} (hfr:A.frames=some (env::outer)) (hl:s.heap.FunFrames base (env::outer)) (hf:env.frame=some L) (ht:s.heap.TracedAtW base e cls a0 fl) (hne:fl≠rawInt L) (hkb:base.StaysIn s.heap) (hen:base.get? e=none)
  (q:∀h',Heap.NotedW base (env::outer) e cls a0 (rawInt L) s.heap h'→Q () { s with heap:=h' }):wpAny M A (noteFrame (.ref e) env) Q E s:=by
 obtain⟨oe,vs,T,oT,ts,z1,⟨rfl,z2⟩,z3,z4,z5,z6,z7,z8,z9⟩:=ht
 have U:=OM (base:=base) Value.none z5 z7 z8
 unfold noteFrame
 simp only[hf]
 refine wpAny_bind (wpAny_field z1 z3 z4 ?_)
 rw[if_pos (by simp)]
 refine wpAny_bind (wpAny_field z7 z8 z9 ?_)
 rw[if_neg fun z=>hne (eq_of_beq z)]
 refine wpAny_bind (wpAny_setField z7 z8 (Array.getElem?_eq_some_iff.mp z9).1 ?_)
 exact wpAny_entryW hfr (hl.of_keeps fun b o p nf=>⟨o,U.plain b o p nf,rfl⟩) hf (U.rest _ _ (Ne.symm z6) z1) (U.low hkb) hen z3 (Array.getElem?_eq_some_iff.mp z4).1 z2 fun h' ⟨x1,x2,x3,x4⟩=>q h' ⟨x1,x2,x3,fun b o p nf=>x4 b o (U.plain b o p nf) nf⟩
theorem RR {Q:Unit→Shared→Prop} (hfr:A.frames=some (env::outer)) (hl:s.heap.FunFrames base (env::outer)) (hf:env.frame=some L) (ht:s.heap.TracedAtW base e cls a0 fl) (hkb:base.StaysIn s.heap) (hen:base.get? e=none)
  (h:∀h',Heap.FlyingW base outer e cls a0 h'→s.heap.UpToSlots h'→Q () { s with heap:=h' }):wpAny M A (leaving env (.ref e)) Q E s:=by
 unfold leaving
 by_cases hc:fl=rawInt L
 ·subst hc
  refine wpAny_bind (wpAny_noteFrame_againW hf ht (wpAny_landsW ⟨hkb,hen,hl,ht⟩ fun h' fl' up=>?_))
  obtain⟨k1,k2,⟨_,_,k3⟩,k4⟩:=fl'
  exact h h' ⟨k1,k2,k3,k4⟩ up
 ·refine wpAny_bind (Pp hfr hl hf ht hc hkb hen fun h1 ⟨x1,x2,x3,x4⟩=>wpAny_landsW ⟨x1,hen,x2,x3⟩ fun h' fl' up=>?_)
  obtain⟨k1,k2,⟨_,_,k3⟩,k4⟩:=fl'
  exact h h' ⟨k1,k2,k3,k4⟩ (Heap.UpToSlots.trans x4 up)
end
def XB (Y:Cx)(Ex:Value→Hp→Prop):Value→Shared→Prop:=fun e s'=>∃(ea:Addr) (cls:Value) (pins:List (Addr×Obj)) (σ1:St) (H1 H':Hp) (s1:Shared) (B:Heap) (a0:Value),e=.ref ea∧Inv Y pins σ1 H1 s1∧Fly Y.prog Y.w Y.stack H1 s1 ea cls H' B a0 s'∧Ex cls H'
theorem OH {Y:Cx}{Ex:Value→Hp→Prop}:CI (IK Y.prog Y.w) (Y.wish (XB Y Ex)) (fun cls _ H'=>Ex cls H'):=by
 intro pins σ H1 s1 e s2 I h
 obtain⟨ea,cls,H',B,a0,rfl,F,q⟩:=h
 exact⟨ea,cls,pins,σ,H1,H',s1,B,a0,rfl,I.unwish,F,q⟩
section
variable {P:Program}{w:World}{K:PySem.W.Frag}{mg:Str→Option Value}{base:Heap}{N:List Str}{qual:Str}{scope:Scope}{f:Addr}{cd:Value}{A:Around}{outer:List Env}{s:Shared}{H:Hp}{E:XK}
theorem V8 {scopeB:Scope} {cl:List (Str×Addr)} {NB:List Str} {C:Addr} {fp:List Addr} {pins:List (Addr×Obj)} {σ:St} {H3:Hp} {s3:Shared} {cenv:Env} {e:Value} {s':Shared} {acc:Value} {use:Option (Value→Sem Unit)} {Qc:Value→Shared→Prop}
  (I3:Inv (B9 (IK P w) P w K mg base N qual scope f cd A outer s H E) pins σ H3 s3) (hC:s3.heap.objs.size=C) (f3:∀b∈fp,Gf (B9 (IK P w) P w K mg base N qual scope f cd A outer s H E) pins H3 b)
  (hfe:cenv.frame=(envOfC qual scope s.heap.objs.size f cd).frame)
  (h:XB (AR (B9 (IK P w) P w K mg base N qual scope f cd A outer s H E) scopeB cl NB C s3 H3 fp) (fun cls H'=>E cls none H') e s') :
  notedBy (model P w) (A.deeper (envOfC qual scope s.heap.objs.size f cd)) cenv (fun x s''=>compPost (model P w) (A.deeper (envOfC qual scope s.heap.objs.size f cd)) (B9 (IK P w) P w K mg base N qual scope f cd A outer s H E).xe use Qc acc C (.error x) s'') e s':=by
 obtain⟨ea,cls,pins',σ1,H1,H',s1,B,a0,rfl,I1,F,q⟩:=h
 have hfr:=I3.ok.frames
 have hst:∀b∈D3 (envOfC qual scope s.heap.objs.size f cd::outer),∃o,s3.heap.get? b=some o∧∀vs,o.data≠.fields vs:=fun b hb=>(I3.stack.mem hb).2
 have nCs:∀b o,s3.heap.get? b=some o→b≠C:=fun b o q=>by rw[←hC];exact Nat.ne_of_lt (Heap.lt_size q)
 have nCf:∀b∈D3 (envOfC qual scope s.heap.objs.size f cd::outer),b≠C:=fun b hb=>by
  obtain⟨o,ho,_⟩:=hst b hb
  exact nCs b o ho
 obtain⟨m,hNs,_⟩:=I1.loc
 obtain⟨oC,es,ep,hoC,rC⟩:=id hNs
 have hC1:s1.heap.get? C=some oC:=hoC
 have H1C:H1 C=none:=I1.free
 have BC:B.get? C=some oC:=F.kp C oC hC1 H1C fun z=>nCf C z rfl
 have H'C:H' C=none:=F.un.free C oC hC1 H1C (by simp)
 show wpAny _ _ (noteFrame (.ref ea) cenv) _ _ _
 rw[Pd hfe]
 refine wpAny_looks_onW (L:=s.heap.objs.size) hfr rfl F.fl fun h2 held2 up2=>?_
 obtain⟨st2,en2,ff2,tr2⟩:=held2
 have BnC:∀{b},B.get? b=none→b≠C:=fun{b} q z=>by rw[z,BC] at q;cases q
 refine⟨m,⟨oC,es,ep,st2 C oC BC,rC⟩,fun h3 sb cenv' _=>?_⟩
 have b3:∀b,b≠C→h3.get? b=h2.get? b:=fun b hb=>sb.2 b hb
 have stB:∀b o,(PySem.W.hideAll B [C]).get? b=some o→b≠C∧B.get? b=some o:=fun b o q=>by
  refine⟨fun z=>?_,PySem.W.of_hideAll _ q⟩
  rw[z,PySem.W.hideAll_none _ (List.mem_singleton_self C)] at q
  cases q
 have hid:∀b o,b≠C→B.get? b=some o→(PySem.W.hideAll B [C]).get? b=some o:=fun b o hb q=>PySem.W.hideAll_get _ q (by simpa using hb)
 have nB:∀b,B.get? b=none→(PySem.W.hideAll B [C]).get? b=none:=fun b q=>by
  cases z:(PySem.W.hideAll B [C]).get? b with
  |none=>rfl
  |some o=>rw[(stB b o z).2] at q;cases q
 have st3:(PySem.W.hideAll B [C]).StaysIn h3:=fun b o q=>by
  obtain⟨hb,q'⟩:=stB b o q
  rw[b3 b hb];exact st2 b o q'
 have ff3:h3.FunFrames (PySem.W.hideAll B [C]) (envOfC qual scope s.heap.objs.size f cd::outer):=N7 ff2 (fun b hb o q=>⟨o,by rw[b3 b (nCf b hb)];exact q,rfl⟩) fun b _=>nB b
 have tr3:h3.TracedAtW (PySem.W.hideAll B [C]) ea cls a0 (rawInt s.heap.objs.size):=by
  obtain⟨oe,vs,T,oT,ts,he,hc,hd,h1,hnT,hTe,hT,r⟩:=tr2
  exact⟨oe,vs,T,oT,ts,by rw[b3 ea (BnC en2)];exact he,hc,hd,h1,nB T hnT,hTe,by rw[b3 T (BnC hnT)];exact hT,r⟩
 refine PK st3 ff3 tr3 fun h4 fl4 st4 ff4 tr4 up4=>?_
 show wpAny _ _ (leaving _ (.ref ea)) _ _ _
 refine RR (L:=s.heap.objs.size) hfr ff4 rfl tr4 st4 (nB ea en2) fun h' fl' up'=>?_
 have slots:∀b∈D3 (envOfC qual scope s.heap.objs.size f cd::outer),∀o,s3.heap.get? b=some o→b∉fp→∃sl,h'.get? b=some { o with slots:=sl }:=fun b hb o qb hx=>by
  have nH:H3 b=none:=I3.stkFree b hb
  obtain⟨o1,ho1,hd1⟩:=hst b hb
  rw[qb] at ho1
  cases ho1
  obtain⟨z1,e1⟩:=I1.base.slot b o qb nH hb hx
  have n1:=I1.base.free b o qb nH hx
  obtain⟨z2,e2⟩:=F.un.slot b _ e1 n1 hb (by simp)
  obtain⟨z3,e3⟩:=up2 b { o with slots:=z2 } e2 hd1
  have e3':h3.get? b=some { o with slots:=z3 }:=by rw[b3 b (nCf b hb)];exact e3
  obtain⟨z4,e4⟩:=up4 b { o with slots:=z3 } e3' hd1
  exact up' b { o with slots:=z4 } e4 hd1
 have un:Un (D3 (envOfC qual scope s.heap.objs.size f cd::outer)) fp H3 H' s3.heap h':=by
  refine⟨fun b o qb n hb hx=>?_,fun b o qb n hb hx=>slots b hb o qb hx,fun b o qb n hx=>?_,fun b o qb hx=>?_,fun b xs z=>F.un.tups b xs (I1.base.tups b xs z),fun b o u z=>F.un.frzs b o u (I1.base.frzs b o u z),fun b ps z=>?_⟩
  ·have k1:=I1.base.keep b o qb n hb hx
   have n1:=I1.base.free b o qb n hx
   exact fl'.1 b o (hid b o (nCs b o qb) (F.kp b o k1 n1 hb))
  ·obtain⟨o1,k1⟩:=I1.base.there b o qb hx
   exact F.un.free b o1 k1 (I1.base.free b o qb n hx) (by simp)
  ·by_cases hb:b∈D3 (envOfC qual scope s.heap.objs.size f cd::outer)
   ·obtain⟨z,e⟩:=slots b hb o qb hx
    exact⟨_,e⟩
   ·obtain⟨o1,k1⟩:=I1.base.there b o qb hx
    obtain⟨o2,k2⟩:=F.th b o1 k1 hb
    exact⟨o2,fl'.1 b o2 (hid b o2 (nCs b o qb) k2)⟩
  ·obtain⟨m1,e1⟩:=I1.base.tbls b ps z
   obtain⟨m2,e2⟩:=F.un.tbls b _ e1
   exact⟨m1++m2,by rw[e2,Array.append_assoc]⟩
 have hokB:G9 P w H' (PySem.W.hideAll B [C]):=fun b u z=>by
  refine(F.hok b u z).stay (fun c v hc qc=>hid c v (fun y=>?_) qc) (fun _ y=>y) fun _ _ y=>y
  rcases hc with rfl|hc
  ·rw[y,H'C] at z;cases z
  ·rw[y,H'C] at hc;cases hc
 have os3:s'.os=s3.os:=F.os.trans I1.os
 have J:=I3.call' (s':={ s' with heap:=h' }) (ch:=fp) os3 un (hokB.kept fl'.1) F.bare (fun b hb=>by
  obtain⟨g0,g1,g2,g3,g4,g5⟩:=f3 b hb
  exact⟨g3,g1,g4,g5⟩)
 have nfp:∀b o,s.heap.get? b=some o→b∉fp:=fun b o qb hb=>by
  obtain⟨g0,g1,g2,g3,g4,g5⟩:=f3 b hb
  rcases g3 with z|z
  ·cases z
  ·exact absurd (Nat.lt_of_lt_of_le (Heap.lt_size qb) z) (Nat.lt_irrefl _)
 refine⟨ea,cls,H',_,a0,rfl,⟨J.os,F.bare,J.base,hokB,fl',fun b o qb n hb=>?_,fun b o qb hb=>?_⟩,q⟩
 ·have k3:=I3.base.keep b o qb n hb (by intro z;cases z)
  have n3:=I3.base.free b o qb n (by intro z;cases z)
  have hbs:=Fw I3 qb hb
  have hx:=nfp b o qb
  exact hid b o (nCs b o k3) (F.kp b o (I1.base.keep b o k3 n3 hbs hx) (I1.base.free b o k3 n3 hx) hbs)
 ·obtain⟨o3,k3⟩:=I3.base.there b o qb (by intro z;cases z)
  obtain⟨o1,k1⟩:=I1.base.there b o3 k3 (nfp b o qb)
  obtain⟨o2,k2⟩:=F.th b o1 k1 (Fw I3 qb hb)
  exact⟨o2,hid b o2 (nCs b o3 k3) k2⟩
end
abbrev Rv (X:Cx)(scope:Scope)(cl:List (Str×Addr))(N:List Str)(C:Addr)(s:Shared)(H:Hp)(fp:List Addr)(E:XK):Cx:=(AR X scope cl N C s H fp).wish (XB (AR X scope cl N C s H fp) fun cls H'=>E cls none H')
section
variable {X:Cx}
theorem PB {P:Program} {w:World} {K:PySem.W.Frag} {mg:Str→Option Value} {base:Heap} {N0:List Str} {qual:Str} {sc0:Scope} {f0:Addr} {cd:Value} {A0:Around} {outer:List Env} {s0:Shared} {H0:Hp} {E:XK} (hX:X=B9 (IK P w) P w K mg base N0 qual sc0 f0 cd A0 outer s0 H0 E) (N:List Str) (fr:List (Option Nat)) {elt tg iter:Expr} {ifs:List Expr} {scope:Scope} {pos fpos:Pos} {wi:TI} {g:TG} {tt:TT} {te:TE} {cl:List (Str×Addr)}
  (hc:X.calm=true) (hi:PI X tg iter wi) (hchk:D4 X.N X.env.scope scope N fr=true) (hclos:closureFor scope X.env=pure cl) (hcl:MF X.env.cells cl) (hall:GJ cl scope.names)
  (hb:∀(C:Addr) (s:Shared) (H:Hp) (fp:List Addr),PG (Rv X scope cl N C s H fp E) tg g∧Mu (Rv X scope cl N C s H fp E) ifs tt∧PE (Rv X scope cl N C s H fp E) elt te)
  (hs:∀x,foldedSetIterable iter X.env x=pure x) {pins:List (Addr×Obj)} {s:Shared} {σ:St} {H:Hp} {Q:VK} {use:Option (Value→Sem Unit)} {Qc:Value→Shared→Prop} (I:Inv X pins σ H s) (h:JB fr wi g tt te σ H Q)
  (hfin:∀(l:Addr) (H':Hp) (s':Shared) (C:Addr),Inv X pins σ H' s'→Gf X pins H' C→(∃m,s'.heap.Ns C m)→Q (.ref l) H'→compPost (model X.prog X.w) X.A X.xe use Qc (.ref l) C (.ok .next) s') :
  wpAny (model X.prog X.w) X.A (comprehension (.ListComp elt [⟨tg,iter,ifs,0⟩] scope pos) scope X.env fpos (newList []) (firstAsync [⟨tg,iter,ifs,0⟩]) (firstIter [⟨tg,iter,ifs,0⟩] X.env) use) Qc X.xe s:=by
 simp only[D4,Bool.and_eq_true,decide_eq_true_eq,List.all_eq_true,Bool.or_eq_true,Bool.not_eq_true',decide_eq_false_iff_not] at hchk
 obtain⟨⟨⟨⟨⟨hkind,hlen⟩,hcell⟩,hnames⟩,hfree⟩,hfr⟩:=hchk
 have hnames':∀x∈scope.names,x.2=.local→scope.names.lookup x.1=some .local:=fun y hy e=>(hnames y hy).resolve_left fun z=>z e
 have hcell':∀x∈scope.names,x.2≠.cell:=fun y hy=>hcell y hy
 refine wpAny_comprehension_free (use:=use) rfl hs hclos hkind hnames' (Bd (hi pins s σ H _ I h) fun v s1 h1=>Bd h1 fun itv s2 h2=>?_)
 obtain⟨it,fp,tn,J,H2,e,I2,T,st2,f2,hQ⟩:=h2
 subst e
 refine wpAny_newObj_type (hd:=by size_fits) (wpAny_newFunctionEnv hcell' (by intro y hy;simp at hy) (fun h₁ hns hsb=>?_) hkind)
 dsimp only at hns hsb ⊢
 obtain⟨W,⟨m0,w0⟩,turn⟩:=hQ s2.heap.objs.size I2.fresh
 have I3:Inv X pins σ (upd H2 s2.heap.objs.size (.lst [])) { s2 with heap:=s2.heap.push { cls:=.type "list",data:=.seq ([]:List Value).toArray },toks:=s2.toks }:=I2.lnew (its:=[]) .nil (Nat.zero_le _)
 generalize hh3:s2.heap.push { cls:=.type "list",dict:=none,data:=.seq ([]:List Value).toArray }=h3 at hns hsb ⊢
 rw[show s2.heap.push { cls:=.type "list",data:=.seq ([]:List Value).toArray }=h3 from hh3] at I3
 generalize hH3:upd H2 s2.heap.objs.size (.lst [])=H3 at I3 w0
 generalize hl:s2.heap.objs.size=l at turn hH3 ⊢
 have hl3:l<h3.objs.size:=by rw[←hh3,←hl,Heap.size_push];exact Nat.lt_succ_self _
 generalize hs3:({ s2 with heap:=h3,toks:=s2.toks }:Shared)=s3 at I3
 have es3:s3.heap=h3:=by rw[←hs3]
 have eos:s3.os=s2.os:=by rw[←hs3]
 have egens:s3.gens=s2.gens:=by rw[←hs3]
 generalize hC:h3.objs.size=C at hns hsb ⊢
 have old:∀b o,h3.get? b=some o→h₁.get? b=some o:=fun b o e=>
  hsb.extBut b o (by rw[←hC];exact Nat.ne_of_lt (Heap.lt_size e)) (Heap.get?_push_of_some _ e)
 have f3:∀b∈fp,Gf X pins H3 b:=fun b hb=>by
  obtain⟨g0,g1⟩:=f2 b hb
  refine⟨?_,g1⟩
  rw[←hH3]
  have:b≠l:=by
   obtain⟨o,e,_⟩:=T.obj _ _ st2 b hb
   rw[←hl];exact Nat.ne_of_lt (Heap.lt_size e)
  rw[Ai this];exact g0
 have st3:tn 0 h₁:=T.keep _ _ _ st2 fun b hb o e=>old b o (by rw[←hh3];exact Heap.get?_push_of_some _ e)
 have ok:(AR X scope cl N C s3 H3 fp).Ok:=by
  refine⟨I3.ok.mod,?_,I3.ok.glob,I3.ok.blt,?_,fun x y c e1 e2=>I3.ok.inj x y c (hcl.get e1) (hcl.get e2),fun x hx=>?_,fun x c hx=>(by cases hx),I3.ok.hd,I3.ok.frames,.inl rfl,fun b hb=>?_,fun b o e=>?_,?_,fun b o e hb=>?_,fun b hb hb2=>?_,?_,fun b hb=>?_⟩
  ·exact hkind
  ·show s3.heap.objs.size≤C
   rw[es3,hC];exact Nat.le_refl _
  ·have hx':(relabel scope X.env).names.lookup x=some .cell∨(relabel scope X.env).names.lookup x=some .free:=hx
   have:scope.names.lookup x=some .free:=by
    rcases hx' with z|z
    ·rcases C8 z with q|⟨_,q⟩
     ·exact absurd rfl (hcell' _ (PySem.mem_of_lookup q))
     ·exact q
    ·rcases C8 z with q|⟨q,_⟩
     ·exact q
     ·cases q
   exact hall.get _ (PySem.mem_of_lookup this) rfl
  ·obtain⟨g0,g1,g2,g3,g4,g5⟩:=f3 b hb
   obtain⟨o,e,_⟩:=T.obj _ _ st2 b hb
   refine⟨?_,fun x c e=>g4 x c (hcl.get e)⟩
   show b≠C
   rw[←hC]
   exact Nat.ne_of_lt (Heap.lt_size (by rw[←hh3];exact Heap.get?_push_of_some _ e))
  ·have q:=I3.bs b o e
   exact q
  ·show X.base.objs.size≤s3.heap.objs.size
   exact Nat.le_trans I3.ok.bsz I3.sz
  ·obtain⟨g0,g1,g2,g3,g4,g5⟩:=f3 b hb
   rcases g3 with z|z
   ·exact I3.ok.noex b o e z
   ·exact absurd (Nat.lt_of_lt_of_le (Heap.lt_size e) (Nat.le_trans I3.ok.bsz z)) (Nat.lt_irrefl _)
  ·obtain⟨g0,g1,g2,g3,g4,g5⟩:=f3 b hb
   rcases List.mem_cons.mp (I3.stkSub b hb2) with z|z
   ·exact g1 z
   ·exact g2 z
  ·show s3.heap.FunFrames X.base X.stack
   exact I3.stack
  ·exact I3.stkFree b hb
 have I4:Inv (AR X scope cl N C s3 H3 fp) [] (stC fr σ) H3 { s2 with heap:=h₁,toks:=s2.toks+([]:List (Str×Value)).length }:=by
  have hk3:∀b o,s3.heap.get? b=some o→h₁.get? b=some o:=fun b o e=>old b o (by rw[←es3];exact e)
  refine⟨ok,eos.symm▸rfl,egens▸I3.bare,Un.kept hk3,⟨_,hns,fun i x v e1 e2 e3=>?_⟩,fun x c e=>?_,?_,fun x c e=>I3.freeC x c (hcl.get e),fun p hp=>(by cases hp),I3.hok.kept hk3,?_⟩
  ·
   have e1':N[i]?=some x:=e1
   have e2':(fr[i]?).map (fun o=>o.bind fun i=>(σ[i]?).bind id)=some (some v):=by
    have:(stC fr σ)[i]?=some (some v):=e2
    rw[stC,List.getElem?_map] at this
    exact this
   cases q:fr[i]? with
   |none=>rw[q] at e2';cases e2'
   |some o=>
    rw[q] at e2'
    cases o with
    |none=>cases e2'
    |some j=>
     have e2'':(σ[j]?).bind id=some v:=Option.some.inj e2'
     obtain⟨p1,p2⟩:X.N[j]?=some x∧scope.names.lookup x=some .free:=by
      have hz:(x,some j)∈N.zip fr:=by
       have:(N.zip fr)[i]?=some (x,some j):=by
        rw[List.getElem?_zip_eq_some];exact⟨e1',q⟩
       exact List.mem_of_getElem? this
      have:=hfr _ hz
      simpa using this
     have hv:X.env.scope.names.lookup x=some .cell∨X.env.scope.names.lookup x=some .free:=by
      rcases hfree _ (PySem.mem_of_lookup p2) with z|z
      ·exact absurd rfl z
      ·simpa using z
     have e3':σ[j]?=some (some v):=by
      cases q3:σ[j]? with
      |none=>rw[q3] at e2'';cases e2''
      |some w'=>rw[q3] at e2'';have:w'=some v:=e2'';rw[this]
     obtain⟨m,hn,hl'⟩:=I3.loc
     obtain⟨u,ru,lk⟩:=hl' j x v p1 e3' (.inr hv)
     refine⟨u,ru,.inr ⟨FK p2,?_⟩⟩
     rcases lk with⟨lk,_⟩|⟨_,c,ec,cc⟩
     ·have lk':X.env.scope.names.lookup x=some .local:=lk
      rcases hv with z|z<;>(rw[z] at lk';cases lk')
     ·obtain⟨c',ec'⟩:=hall.get _ (PySem.mem_of_lookup p2) rfl
      have:=hcl.get ec'
      rw[ec] at this;cases this
      obtain⟨o,ho,hd⟩:=cc
      exact⟨c,ec',o,hk3 _ _ ho,hd⟩
  ·obtain⟨v,o,ho,hd⟩:=I3.cell x c (hcl.get e)
   exact⟨v,o,hk3 _ _ ho,hd⟩
  ·show H3 C=none
   exact I3.hok.fresh (by rw[es3,hC];exact Nat.le_refl _)
  ·show(stC fr σ).length=N.length
   rw[stC,List.length_map];exact hlen
 obtain⟨hg,ht,he⟩:=hb C s3 H3 fp
 have fpc:∀{H':Hp},(∀b∈fp,H' b=none)→∀b∈fp,Gf (AR X scope cl N C s3 H3 fp) [] H' b:=fun hn b hb=>by
  obtain⟨q1,q2⟩:=ok.exf b hb
  exact⟨hn b hb,q1,ok.exfs b hb,.inl hb,q2,fun p hp=>by cases hp⟩
 have fin:∀(σ':St) (H':Hp) (s':Shared),Inv (AR X scope cl N C s3 H3 fp) [] σ' H' s'→Q (.ref l) H'→compPost (model X.prog X.w) X.A X.xe use Qc (.ref l) C (.ok .next) s':=fun σ' H' s' I' q=>by
  obtain⟨m,hn,_⟩:=I'.loc
  have nC:∀b o,s3.heap.get? b=some o→b≠C:=fun b o e=>by
   rw[←hC,←es3];exact Nat.ne_of_lt (Heap.lt_size e)
  have fC:H' C=none:=I'.free
  have u:=I'.base
  refine hfin l H' s' C ?_ (I3.fpOk (by rw[es3,hC];exact Nat.le_refl _) fC) ⟨m,hn⟩ q
  refine I3.call' (s':=s') (ch:=fp) I'.os ⟨fun b o e n hb hx=>u.keep b o e n hb hx,fun b o e n hb hx=>u.slot b o e n hb hx,u.free,fun b o e hx=>u.there b o e hx,u.tups,u.frzs,u.tbls⟩ (fun b o e=>I'.hok b o e) I'.bare fun b hb=>?_
  obtain⟨g0,g1,g2,g3,g4,g5⟩:=f3 b hb
  exact⟨g3,g1,g4,g5⟩
 have loop:codeAny (model X.prog X.w) X.A (.compLoop (.ListComp elt [⟨tg,iter,ifs,0⟩] scope pos) 0 (.ref it) (.ref l) (compEnvC scope cl C X.env)) (compPost (model X.prog X.w) X.A X.xe use Qc (.ref l) C)
   { s2 with heap:=h₁,toks:=s2.toks+([]:List (Str×Value)).length }:=by
  refine JC (Ee:=XB (AR X scope cl N C s3 H3 fp) fun cls H'=>E cls none H') (fun n s'=>∃i σ' H',Inv (AR X scope cl N C s3 H3 fp) [] σ' H' s'∧tn i s'.heap∧(∀b∈fp,H' b=none)∧W i n σ' H') (fun x sx z=>by subst hX;exact V8 I3 (by rw[es3];exact hC) f3 rfl z) ?_ m0 ⟨0,_,H3,I4,st3,fun b hb=>(f3 b hb).1,w0⟩
  rintro n s5 ⟨i,σ5,H5,I5,st5,fr5,w5⟩
  rcases turn i n σ5 H5 w5 with⟨stop,qn⟩|⟨go,step⟩
  ·refine Bd (T.done (AR X scope cl N C s3 H3 fp) rfl rfl rfl hc i [] s5 σ5 H5 (fun _ _=>False) I5 (fpc fr5) st5 stop) fun r s6 ⟨hr,I6⟩=>?_
   subst hr
   exact fin σ5 H5 s6 I6 qn
  ·refine Bd (T.item (AR X scope cl N C s3 H3 fp) rfl rfl rfl hc i [] s5 σ5 H5 (fun _ _=>False) I5 (fpc fr5) st5 go) fun r s6 ⟨u,hr,h6⟩=>?_
   subst hr
   refine Bd h6 fun _ s7 ⟨x,H7,I7,r7,y7,st7,fr7⟩=>?_
   have I7':=I7.pinned (fpc fr7) (T.obj _ _ st7)
   refine Bd (hg _ s7 σ5 H7 x u _ (I7'.wish _) r7 (step x H7 y7)) fun _ s8 ⟨σ8,H8,I8w,q8⟩=>?_
   have I8:=I8w.unwish
   have again:∀{σ9:St} {H9:Hp} {s9:Shared},Inv (AR X scope cl N C s3 H3 fp) ([]++Jg fp s7.heap) σ9 H9 s9→(∃m',m'<n∧W (i+1) m' σ9 H9)→∃m,m<n∧∃i σ' H',Inv (AR X scope cl N C s3 H3 fp) [] σ' H' s9∧tn i s9.heap∧(∀b∈fp,H' b=none)∧W i m σ' H':=fun{σ9 H9 s9} I9 n9=>by
    obtain⟨m',hm,w9⟩:=n9
    refine⟨m',hm,i+1,σ9,H9,I9.unpinned,T.keep _ _ _ st7 fun b hb o e=>(I9.pin (b,o) (List.mem_append_right _ (List.mem_append_right _ (Dx hb e)))).1,fun b hb=>?_,w9⟩
    obtain⟨o,e,d⟩:=T.obj _ _ st7 b hb
    exact(I9.pin (b,o) (List.mem_append_right _ (List.mem_append_right _ (Dx hb e)))).2.1
   refine Bd (ht _ s8 σ8 H8 _ (I8.wish _) q8) fun ok s9 ⟨H9,I9w,q9⟩=>?_
   have I9:=I9w.unwish
   cases ok with
   |false=>
    rw[if_neg Bool.false_ne_true] at q9 ⊢
    exact again I9 q9
   |true=>
    rw[if_pos rfl] at q9 ⊢
    refine Bd (he _ s9 σ8 H9 _ (I9.wish _) q9) fun y sa ⟨vy,Ha,Iaw,ry,qa⟩=>?_
    have Ia:=Iaw.unwish
    obtain⟨xs,hla,hsz,n9⟩:=qa
    refine Bd (G5 _ sa σ8 Ha (.ref l) [vy] (.ref l) [y] (fun _ Hb=>∃m',m'<n∧W (i+1) m' σ8 Hb) Ia rfl (.cons ry .nil) ⟨l,xs,vy,rfl,rfl,hla,hsz,n9⟩) fun _ sb ⟨_,Hb,Ib,_,qb⟩=>?_
    exact again Ib qb
 show codeAny (model X.prog X.w) X.A (.compStart (.ListComp elt [⟨tg,iter,ifs,0⟩] scope pos) 0 (.ref it) (.ref l) (compEnvC scope cl C X.env)) (compPost (model X.prog X.w) X.A X.xe use Qc (.ref l) C) { s2 with heap:=h₁,toks:=s2.toks+([]:List (Str×Value)).length }
 exact codeAny_compStart_list loop (T.self _ 0 _ _ _ st3 loop)
theorem Ox {P:Program} {w:World} {K:PySem.W.Frag} {mg:Str→Option Value} {base:Heap} {N0:List Str} {qual:Str} {sc0:Scope} {f0:Addr} {cd:Value} {A0:Around} {outer:List Env} {s0:Shared} {H0:Hp} {E:XK} (hX:X=B9 (IK P w) P w K mg base N0 qual sc0 f0 cd A0 outer s0 H0 E) (N:List Str) (fr:List (Option Nat)) {elt tg iter:Expr} {ifs:List Expr} {scope:Scope} {pos:Pos} {wi:TI} {g:TG} {tt:TT} {te:TE} {cl:List (Str×Addr)}
  (hc:X.calm=true) (hi:PI X tg iter wi) (hchk:D4 X.N X.env.scope scope N fr=true) (hclos:closureFor scope X.env=pure cl) (hcl:MF X.env.cells cl) (hall:GJ cl scope.names)
  (hb:∀(C:Addr) (s:Shared) (H:Hp) (fp:List Addr),PG (Rv X scope cl N C s H fp E) tg g∧Mu (Rv X scope cl N C s H fp E) ifs tt∧PE (Rv X scope cl N C s H fp E) elt te)
  (hs:∀x,foldedSetIterable iter X.env x=pure x:=by intro _;rfl) :
  PE X (.ListComp elt [⟨tg,iter,ifs,0⟩] scope pos) (JB fr wi g tt te):=by
 intro pins s σ H Q I h
 rw[eval_ListComp]
 refine PB hX N fr hc hi hchk hclos hcl hall hb hs I h fun l H' s' C I' fC ⟨m,hn⟩ q=>?_
 refine⟨m,hn,fun h'' hs''=>⟨.ref l,H',?_,rfl,q⟩⟩
 obtain⟨f0,f1,f2,f3,f4,f5⟩:=fC
 exact I'.turned (t':=s'.toks) (fun b o hb e=>(hs''.2 b hb).trans e) f0 f1 f3 f4 f5
end
end L2
namespace L2
section
open PySem PySem.Calls PyProof.Rows PySem.W Builtin Builtin.ObjectAttr Builtin.Getset_descriptor
section
variable {prog:Program}{w:World}{A:Around}{E:Value→Shared→Prop}{K:Frag}{e D:Addr}
structure IsExc (h:Heap) (e D:Addr):Prop where
 ob:∃o,h.get? e=some o∧o.cls=.ref D∧∃vs,o.data=.fields vs
theorem IsExc.ty {h:Heap}(z:IsExc h e D){M:Model}:Looks M h (typeOf (.ref e)) (.ref D):=by
 obtain⟨o,q,c,_⟩:=z.ob
 rw[←c]
 exact(Looks.ld q).andThen .now
theorem Q6 {tp:Value}{s:Shared}{R:Result→Shared→Prop}(k:K.In s.heap)(z:IsExc s.heap e D)(hm:mroIn K D (.type "object")=some true)(q:R (.ok (.ret (.ref D))) s) :
  codeAny (model prog w) A (.call (.builtin "getset_descriptor.__get__") ⟨[.builtin "object.__class__",.ref e,tp],[]⟩) R s:=by
 obtain⟨h1,g1,d1,t1,o1⟩:=s
 have T0:=z.ty (M:=model prog w)
 have T1:=looks_mroIn (M:=model prog w) k hm
 have slot:=KF.slot_gs
 refine codeAny_call_builtin slot.plain KF.entry_gs (slot.check _ _ _ _ _ _ _ _ KF.type_class (KF.args_gs _ _ _) ?_)
 simp only[Builtin.«getset_descriptor.__get__»,descrGet,dga_obj]
 refine wpAny_bind (wpAny_pure ?_)
 dsimp only[descrGetter,descrCheckInstance,descrNameAndClass,isInstance]
 rw[show descrOwnerAndName "object.__class__"=("object","__class__") from KF.owner_class]
 repeat lk
 refine⟨Code.quiet_builtin (id:="object.__class__") _ (by decide +kernel),codeAny_builtin KF.entry_class ?_⟩
 simp only[Builtin.«object.__class__»,shownTypeOf]
 repeat lk
 exact q
theorem TB {h:Heap} {M:Model} (k:K.In h) (ha:findIn K (.ref D) "__class__"=some (some (.builtin "object.__class__")))
  (hn:specialIn K (.builtin "object.__class__") "__get__"=some (some (.builtin "getset_descriptor.__get__"))) (ht:takesIn K (.builtin "object.__class__")=some true) :
  Looks M h (find (.ref e) (.ref D) "__class__") (.bind (.builtin "getset_descriptor.__get__") (.builtin "object.__class__")):=
 (looks_findIn k ha).andThen ((show Looks M h (getOf (some (.builtin "object.__class__"))) (some (.builtin "getset_descriptor.__get__")) from looks_specialIn k hn).andThen
  ((show Looks M h (dataDescriptor? (some (.builtin "object.__class__")) (some (.builtin "getset_descriptor.__get__"))) (some (.builtin "getset_descriptor.__get__",.builtin "object.__class__")) from(looks_takesIn k ht).andThen .now).andThen (Looks.tag .now)))
theorem LF {nv:Value}{s:Shared}{Q:Unit→Shared→Prop}{M:Model}(k:K.In s.heap)(z:IsExc s.heap e D)(hb:mroIn K D (.type "BaseException")=some true)(q:Q () s) :
  wpAny M A (checkBuiltinCall "BaseException.__getattribute__" ⟨[.ref e,nv],[]⟩) Q E s:=by
 obtain⟨h1,g1,d1,t1,o1⟩:=s
 have b1:builtinKind "BaseException.__getattribute__"=some .slot:=by decide +kernel
 have b2:splitId "BaseException.__getattribute__"=some ("BaseException","__getattribute__"):=by decide +kernel
 have b3:=F.args_bexc_ga (.ref e) nv
 have T:Looks M h1 (isInstance (.ref e) (.type "BaseException")) true:=z.ty.andThen (looks_mroIn k hb)
 simp only[checkBuiltinCall,b1,b2]
 refine wpAny_bind (T.at ?_)
 rw[if_neg (by decide)]
 repeat wp_step
 exact q
theorem RC {tk:Tok} {s:Shared} {Q:Fin→Shared→Prop} (k:K.In s.heap) (z:IsExc s.heap e D) (ha:findIn K (.ref D) "__class__"=some (some (.builtin "object.__class__")))
  (hn:specialIn K (.builtin "object.__class__") "__get__"=some (some (.builtin "getset_descriptor.__get__"))) (ht:takesIn K (.builtin "object.__class__")=some true) (hm:mroIn K D (.type "object")=some true) (q:Q (.done (.ret (.ref D))) s) :
  wpAny (model prog w) A (Builtin.«object.__getattribute__» ⟨[.ref e,.str "__class__" tk],[]⟩) Q E s:=by
 obtain⟨h1,g1,d1,t1,o1⟩:=s
 have T0:=z.ty (M:=model prog w)
 have T1:=TB (e:=e) (M:=model prog w) k ha hn ht
 have s0:slotArgs "__getattribute__" 1 ⟨[.ref e,.str "__class__" tk],[]⟩=pure (Value.ref e,[Value.str "__class__" tk]):=by kernel_rfl
 have s1:attrName (.str "__class__" tk)=pure "__class__":=by kernel_rfl
 simp only[Builtin.«object.__getattribute__»,s0]
 refine wpAny_bind (wpAny_pure ?_)
 dsimp only
 rw[s1]
 refine wpAny_bind (wpAny_pure (wpAny_bind (T0.at (wpAny_bind (T1.at ?_)))))
 dsimp only
 unfold bindTo
 dsimp only
 refine wpAny_bind (wpAny_call (Q6 (s:=⟨h1,g1,d1,t1,o1⟩) k z hm ?_))
 exact wpAny_pure q
theorem RA {s:Shared} {Q:Option Value→Shared→Prop} (k:K.In s.heap) (z:IsExc s.heap e D) (hga:findIn K (.ref D) "__getattribute__"=some (some (.builtin "BaseException.__getattribute__"))) (hgg:findIn K (.ref D) "__getattr__"=some none)
  (ha:findIn K (.ref D) "__class__"=some (some (.builtin "object.__class__"))) (hn:specialIn K (.builtin "object.__class__") "__get__"=some (some (.builtin "getset_descriptor.__get__"))) (ht:takesIn K (.builtin "object.__class__")=some true)
  (hm:mroIn K D (.type "object")=some true) (hb:mroIn K D (.type "BaseException")=some true) (q:Q (some (.ref D)) { s with toks:=s.toks+1 }) :
  wpAny (model prog w) A (getAttr? (.ref e) "__class__") Q E s:=by
 obtain⟨h1,g1,d1,t1,o1⟩:=s
 have T0:=z.ty (M:=model prog w)
 have T1:=looks_findIn (M:=model prog w) k hga
 have T2:=looks_findIn (M:=model prog w) k hgg
 have B:=F.excAttr_ValueError.ga.bind (.ref e)
 simp only[getAttr?,getAttrBy?,getAttrBy]
 refine wpAny_bind (wpAny_mkText (wpAny_bind (wpAny_attempt (wpAny_holding (wpAny_bind (T0.at (wpAny_bind (T1.at ?_))))))))
 have n0:(onTheHeap (Value.ref D)&&Value.builtin "BaseException.__getattribute__" == Value.builtin "object.__getattribute__")=false:=by
  have:(Value.builtin "BaseException.__getattribute__" == Value.builtin "object.__getattribute__")=false:=by decide +kernel
  rw[this];rfl
 dsimp only
 rw[if_neg (by rw[n0];decide)]
 unfold getAttrByItsOwn hookBefore
 rw[if_pos (by rfl)]
 refine wpAny_bind (T2.at (wpAny_bind (wpAny_attempt (wpAny_holding ?_))))
 unfold callGetattribute boundAndCalled
 rw[if_neg (by decide),B]
 refine wpAny_bind (wpAny_pure ?_)
 dsimp only
 refine wpAny_call (codeAny_call_builtin F.excAttr_ValueError.ga.plain F.entry_bexc_ga ?_)
 refine LF (s:=⟨h1,g1,d1,t1+1,o1⟩) k ⟨z.ob⟩ hb (RC (s:=⟨h1,g1,d1,t1+1,o1⟩) k ⟨z.ob⟩ ha hn ht hm ?_)
 dsimp only
 exact handed_on rfl (wpAny_pure q)
structure ExcCls (K:Frag) (D:Addr):Prop where
 ga:findIn K (.ref D) "__getattribute__"=some (some (.builtin "BaseException.__getattribute__"))
 gg:findIn K (.ref D) "__getattr__"=some none
 cl:findIn K (.ref D) "__class__"=some (some (.builtin "object.__class__"))
 sp:specialIn K (.builtin "object.__class__") "__get__"=some (some (.builtin "getset_descriptor.__get__"))
 tk:takesIn K (.builtin "object.__class__")=some true
 mo:mroIn K D (.type "object")=some true
 mb:mroIn K D (.type "BaseException")=some true
theorem ExcCls.there (c:ExcCls K D):∃o,K.lookup D=some o∧∃cd,o.data=.cls cd:=by
 obtain⟨cd,h,_⟩:=Option.bind_eq_some_iff.mp c.mo
 unfold clsIn at h
 split at h
 ·rename_i o d' cd' sl' ho
  exact⟨_,ho,_,rfl⟩
 ·cases h
theorem ExcCls.kit (c:ExcCls K D):KitX K (.ref e) (.ref D) (fun h=>IsExc h e D) where
 ty:=fun _ _ _ z=>z.ty
 it:=fun M h k _=>by
  obtain⟨⟨oc,od,oda,os⟩,h1,cd,h2⟩:=c.there
  dsimp only at h2
  subst h2
  intro A1 Q1 E1 s1 st q
  unfold isType loadHead
  exact wpAny_bind (wpAny_loadPart (st _ _ (k _ _ h1)) (wpAny_pure q))
 ne:=fun h tp dd its n sl k ht=>by
  obtain⟨o,h1,cd,h2⟩:=c.there
  cases q:(Value.ref D == Value.ref tp) with
  |false=>rfl
  |true=>
   cases Value.ref.inj (beq_iff_eq.mp q)
   rw[k _ _ h1] at ht
   cases ht
   cases h2
 ca:=fun k z q=>RA k z c.ga c.gg c.cl c.sp c.tk c.mo c.mb q
end
end
open PySem PySem.Spec PyProof.Rows
theorem IsExc.stays {h1 h2:Heap}{e D:Addr}(z:IsExc h1 e D)(k:∀o,h1.get? e=some o→h2.get? e=some o):IsExc h2 e D:=by
 obtain⟨o,q,r⟩:=z.ob
 exact⟨o,k o q,r⟩
section
variable {X:Cx}{pins:List (Addr×Obj)}{σ:St}{H:Hp}{s:Shared}
theorem Inv.know {e:Addr} {o:HO} (I:Inv X pins σ H s) (n0:e∉X.ex→X.s₀.heap.get? e=none) (nl:e≠X.env.locals) (nc:∀x c,X.env.cells.lookup x=some c→c≠e) (np:∀p∈X.pn++pins,p.1≠e) (hn:H e=none)
  (ho:AZ X.prog X.w (upd H e o) s.heap e o):Inv X pins σ (upd H e o) s:=by
 have up:∀{b:Addr} {u:HO},H b=some u→upd H e o b=some u:=fun{b u} q=>by rw[Ai (Ar q hn)];exact q
 refine⟨I.ok,I.os,I.bare,⟨I.base.keep,I.base.slot,fun b ob q n x=>?_,I.base.there,fun b xs q=>up (I.base.tups b xs q),fun b ob u q=>up (I.base.frzs b ob u q),fun b ps q=>?_⟩,I.loc,I.cell,?_,fun x c q=>?_,fun p hp=>?_,fun b u q=>?_,I.len⟩
 ·rw[Ai (fun z=>by subst z;rw[n0 x] at q;cases q)]
  exact I.base.free b ob q n x
 ·obtain⟨more,z⟩:=I.base.tbls b ps q
  exact⟨more,up z⟩
 ·rw[Ai nl.symm];exact I.free
 ·rw[Ai (nc x c q)];exact I.freeC x c q
 ·obtain⟨h1,h2,h3⟩:=I.pin p hp
  exact⟨h1,by rw[Ai (np p hp)];exact h2,h3⟩
 ·by_cases hb:b=e
  ·subst hb
   rw[Ad] at q
   cases q
   exact ho
  ·rw[Ai hb] at q
   exact(I.hok b u q).stay (fun c v _ z=>z) (fun _ z=>up z) fun _ _ z=>up z
theorem J4 {M:Model} {A:Around} {E:Value→Shared→Prop} {i:Nat} {x:Str} {pos:Pos} {Q:Unit→Shared→Prop} (I:Inv X pins σ H s) (hN:X.N.Nodup) (hi:X.N[i]?=some x) (hk:X.env.kindOf x=some .local)
  (h:∀s',Inv X pins (σ.set i none) H s'→Q () s'):wpAny M A (do bindName X.env x .none;unbindBehindTheSuite X.env x pos) Q E s:=by
 obtain⟨m,hn,hl⟩:=id I.loc
 have hc:(X.env.scope.kind == .class||(X.env.scope.kind == .module&&X.env.locals != X.env.globals))=false:=by rw[I.ok.kind];rfl
 have hiσ:i<σ.length:=by rw[I.len];exact(List.getElem?_eq_some_iff.mp hi).1
 obtain⟨oL,_,_,hoL,_⟩:=id hn
 refine wpAny_nameGoes_keeps hk hn hc fun h' v hn' hs=>?_
 have apart:∀b o,X.s₀.heap.get? b=some o→b≠X.env.locals:=fun b o q=>Nat.ne_of_lt (Nat.lt_of_lt_of_le (Heap.lt_size q) I.ok.above)
 refine h _ ⟨I.ok,I.os,I.bare,⟨fun b o q n hb hx=>(hs.2 b (apart b o q)).trans (I.base.keep b o q n hb hx),fun b o q n hb hx=>?_,I.base.free,fun b o q hx=>?_,I.base.tups,I.base.frzs,I.base.tbls⟩,
  ⟨_,hn',fun j y v' e1 e2 e3=>?_⟩,fun y c q=>?_,I.free,I.freeC,fun p hp=>?_,fun b u q=>?_,by simpa using I.len⟩
 ·obtain⟨sl,z⟩:=I.base.slot b o q n hb hx
  exact⟨sl,(hs.2 b (apart b o q)).trans z⟩
 ·obtain⟨o',z⟩:=I.base.there b o q hx
  exact⟨o',(hs.2 b (apart b o q)).trans z⟩
 ·by_cases hj:j=i
  ·subst hj
   rw[List.getElem?_set_self hiσ] at e2
   cases e2
  ·rw[List.getElem?_set_ne (Ne.symm hj)] at e2
   obtain⟨u',r',q⟩:=hl j y v' e1 e2 e3
   refine⟨u',r',?_⟩
   rcases q with⟨k,z⟩|⟨k,c,z,z2⟩
   ·have ny:y≠x:=fun t=>hj (KP hN e1 (t▸hi))
    exact .inl ⟨k,by simp[ny,z]⟩
   ·exact .inr ⟨k,c,z,z2.sameBut hs (I.cne y c z)⟩
 ·obtain⟨w',z⟩:=I.cell y c q
  exact⟨w',z.sameBut hs (I.cne y c q)⟩
 ·obtain⟨q,n,ne,nf,d⟩:=I.pin p hp
  exact⟨(hs.2 p.1 ne).trans q,n,ne,nf,d⟩
 ·have nb:∀{c:Addr} {v':HO},H c=some v'→c≠X.env.locals:=fun{c v'} z=>Ar z I.free
  refine(I.hok b u q).stay (fun c w' hc z=>(hs.2 c ?_).trans z) (fun _ z=>z) fun _ _ z=>z
  rcases hc with rfl|hc
  ·exact nb q
  ·exact nb hc
theorem Inv.flown {H':Hp}{s':Shared}{ea:Addr}{cls a0:Value}{B:Heap}(I:Inv X pins σ H s)(F:Fly X.prog X.w X.stack H s ea cls H' B a0 s'):s.heap.get? ea=none:=by
 cases q:s.heap.get? ea with
 |none=>rfl
 |some o=>
  by_cases hb:ea∈D3 X.stack
  ·obtain⟨z,e⟩:=F.un.slot ea o q (I.stkFree ea hb) hb (by simp)
   obtain⟨_,o',ho',hd⟩:=I.stack.mem hb
   rw[q] at ho'
   cases ho'
   obtain⟨_,_,_,oe,vs,_,_,_,he,_,hv,_⟩:=F.fl
   rw[he] at e
   cases e
   exact absurd hv (hd vs)
  ·obtain⟨o',e⟩:=F.th ea o q hb
   rw[F.fl.2.1] at e
   cases e
end
section
variable {X:Cx}{x n:Str}{c:Value}{body orelse suite:List Stmt}{b₀:Stmt}{np hpos pos:Pos}{i:Nat}
end
section
variable {X:Cx}{e:Expr}{es:List Expr}{pos:Pos}
end
end L2
namespace L2
open PySem PySem.Spec PyProof.Rows
section
variable {X:Cx}{k:Nat}{x:Str}{f C:Addr}{fd:FuncData}{ps:List Str}{sp:Sp}{E:XK}{e:Expr}{es:List Expr}{t:TA}{p pos:Pos}
end
section
variable {X:Cx}
end
section
variable {X:Cx}
end
end L2
namespace L2
section
open PySem
open Sem (wp wp_bind' wp_mono)
def NW (o:Obj):Prop:=∃vs,o.data=.fields vs∧vs[2]?=some .none
def DictAt (h:Heap)(e:Addr)(d:Option Addr):Prop:=∃o,h.objs[e]?=some o∧o.dict=d∧NW o
def DK {α:Type}(t:Sem α):Prop:=∀(M:Model) (Γ:Ctx) (Q:α→Pos→Shared→Prop) (E:Value→Pos→Shared→Prop) (p:Pos) (s:Shared) (e:Addr) (d:Option Addr),wp M Γ t Q E p s→DictAt s.heap e d→
 wp M Γ t (fun a p s'=>Q a p s'∧DictAt s'.heap e d) (fun v p s'=>E v p s'∧DictAt s'.heap e d) p s
variable {α β:Type}
theorem Bm (a:α):DK (pure a:Sem α):=fun _ _ _ _ _ _ _ _ h j=>⟨h,j⟩
theorem CM (w:String):DK (PySem.unsupported w:Sem α):=fun _ _ _ _ _ _ _ _ h _=>False.elim h
theorem AX {m:Sem α}{f:α→Sem β}(h1:DK m)(h2:∀a,DK (f a)):DK (m >>= f):=by
 intro M Γ Q E p s e d h j
 rw[wp_bind'] at h ⊢
 exact wp_mono M Γ m (fun a p' s' q=>h2 a M Γ Q E p' s' e d q.1 q.2) (fun _ _ _ q=>q) p s (h1 M Γ _ E p s e d h j)
theorem ME (a:Addr):DK (load a):=fun M Γ Q E p s e d ⟨o,q,h⟩ j=>⟨o,q,h,j⟩
theorem Lc:DK stack:=fun M Γ Q E p s e d h j=>⟨h,j⟩
theorem Nx (o:Obj):DK (alloc o):=fun M Γ Q E p s e d h ⟨o1,q,hd⟩=>⟨h,o1,by
 show(s.heap.objs.push o)[e]?=some o1
 have hlt:e<s.heap.objs.size:=(Array.getElem?_eq_some_iff.mp q).1
 rw[Array.getElem?_push,if_neg (Nat.ne_of_lt hlt)]
 exact q,hd⟩
theorem LL (a:Addr){f:Obj→Obj}(hf:∀o,(f o).dict=o.dict∧(NW o→NW (f o))):DK (update a f):=fun M Γ Q E p s e d ⟨q0,h⟩ ⟨o1,q,hd,h2⟩=>⟨q0,h,by
 by_cases ea:a=e
 ·subst ea
  refine⟨f o1,?_,by rw[(hf o1).1];exact hd,(hf o1).2 h2⟩
  show(s.heap.objs.modify a f)[a]?=some (f o1)
  rw[Array.getElem?_modify,if_pos rfl,q];rfl
 ·refine⟨o1,?_,hd,h2⟩
  show(s.heap.objs.modify a f)[e]?=some o1
  rw[Array.getElem?_modify,if_neg ea]
  exact q⟩
theorem Gp {c:Prop}[Decidable c]{t u:Sem α}(h1:DK t)(h2:DK u):DK (if c then t else u):=by
 split
 ·exact h1
 ·exact h2
theorem Lb {i:Nat}(hi:i≠2)(x:Value)(o:Obj):(Obj.mapFields (·.setIfInBounds i x) o).dict=o.dict∧(NW o→NW (Obj.mapFields (·.setIfInBounds i x) o)):=by
 constructor
 ·unfold Obj.mapFields
  split<;>rfl
 ·rintro⟨vs,h1,h2⟩
  obtain⟨c,d,dt,sl⟩:=o
  dsimp only at h1
  subst h1
  exact⟨_,rfl,by rw[Array.getElem?_setIfInBounds_ne hi];exact h2⟩
theorem Nw (v:Value):DK (fieldsOf v):=by
 unfold fieldsOf
 split
 ·refine AX (ME _) fun o=>?_
  split
  ·exact Bm _
  ·exact CM _
 ·exact CM _
theorem HW (v:Value)(i:Nat):DK (field v i):=by
 unfold field
 refine AX (Nw v) fun vs=>?_
 split
 ·exact Bm _
 ·exact CM _
theorem GS (v:Value){i:Nat}(hi:i≠2)(x:Value):DK (setField v i x):=by
 unfold setField updateField
 split
 ·refine AX (ME _) fun o=>?_
  split
  ·exact Gp (LL _ (Lb hi x)) (CM _)
  ·exact CM _
 ·exact CM _
theorem Mv (ty:String)(vs:List Value):DK (newFields ty vs):=by
 unfold newFields newObj newObjAsIs
 dsimp only
 split
 ·exact AX (CM _) fun _=>AX (Nx _) fun _=>Bm _
 ·exact AX (Nx _) fun _=>Bm _
theorem Od (a b c d e:Value)(l:List Value):DK (EntryCells.newEntry a b c d e l):=Mv _ _
theorem Mp:DK frameEnvs:=AX Lc fun _=>Bm _
theorem NR (env:Env)(outer:List Env):DK (behindIsImport env outer):=by
 unfold behindIsImport
 refine Gp (Bm _) ?_
 refine Gp (Bm _) ?_
 exact AX (HW _ _) fun _=>Bm _
theorem OS (env:Env)(i:Bool)(outer:List Env):DK (keptBack env i outer):=by
 unfold keptBack
 split
 ·refine Gp (Bm _) ?_
  refine AX (AX Lc fun _=>Bm _) fun _=>Bm _
 ·exact Bm _
theorem NJ:∀l:List Env,DK (readyFrames l)
 |[]=>Bm _
 |env::outer=>by
  unfold readyFrames
  split
  ·refine AX (ME _) fun o=>?_
   refine Gp (Bm _) ?_
   refine AX (NR _ _) fun _=>AX (OS _ _ _) fun _=>AX (LL _ fun _=>⟨rfl,fun h=>h⟩) fun _=>NJ outer
  ·exact CM _
theorem Pu (env:Env):DK (frameOf env):=by
 unfold frameOf
 refine AX Mp fun l=>?_
 refine AX ?_ fun r=>?_
 ·unfold frameObject
  split
  ·exact Bm _
  ·exact AX (NJ _) fun _=>Bm _
 ·split
  ·exact Bm _
  ·exact CM _
theorem Lo (f:Addr)(b:Bool):DK (entryPlaceOf f b):=by
 unfold entryPlaceOf
 refine AX Lc fun l=>?_
 split<;>exact Bm _
theorem FJ (e:Value)(f:Option Addr):DK (setFlight e f):=by
 unfold setFlight
 exact AX (HW _ _) fun _=>Gp (GS _ (by decide) _) (Bm _)
theorem Iq (e:Value)(env:Env):DK (noteFrame e env):=by
 unfold noteFrame
 split
 ·rename_i fa _
  refine AX (HW _ _) fun head=>?_
  have rest:DK (do setField e 1 (←EntryCells.newEntry head (←frameOf env) .none (rawInt fa) .none (←entryPlaceOf fa (head != .none)))):=
   AX (Pu _) fun _=>AX (Lo _ _) fun _=>AX (Od _ _ _ _ _ _) fun _=>GS _ (by decide) _
  refine Gp ?_ rest
  refine AX (HW _ _) fun _=>?_
  refine Gp (Bm _) ?_
  exact AX (GS _ (by decide) _) fun _=>rest
 ·exact CM _
theorem Pk (env:Env)(e:Value):DK (leaving env e):=AX (Iq _ _) fun _=>FJ _ _
theorem DK.also {t:Sem α}(k:DK t){M:Model}{A:Around}{Q:α→Shared→Prop}{E:Value→Shared→Prop}{s:Shared}{e:Addr}{d:Option Addr}(j:DictAt s.heap e d)(h:wpAny M A t (fun a s'=>DictAt s'.heap e d→Q a s') E s):wpAny M A t Q E s:=fun Γ p hΓ=>
 wp_mono M Γ t (fun _ _ _ q=>q.1 q.2) (fun _ _ _ q=>q.1) p s (k M Γ _ _ p s e d (h Γ p hΓ) j)
end
section
open PySem PySem.Calls PyProof.Rows PySem.W Builtin Builtin.ObjectAttr
def PD:List Value→Bool
 | .ref _::r=>PD r
 |l=>l == N5
theorem Lw (self:Value):∀{l:List Value},PD l=true→refuseLoop self "__setattr__" l=pure ()
 |[],e=>by cases e
 | .ref a::r,e=>by rw[refuseLoop_ref];exact Lw self (l:=r) e
 | .type n::r,e=>by
  have:(Value.type n::r)=N5:=beq_iff_eq.mp e
  rw[this]
  exact PySem.F.store_ValueError.passes self
 | .none::_,e | .bool _::_,e | .int _ _::_,e | .float _ _::_,e | .str _ _::_,e | .builtin _::_,e | .notImplemented::_,e | .ellipsis::_,e=>by cases e
def XQ (K:Frag)(C:Addr):Bool:=(clsIn K C).any fun cd=>PD cd.mro
section
variable {prog:Program}{w:World}{A:Around}{E:Value→Shared→Prop}{s:Shared}{K:Frag}{x C:Addr}{vs:Array Value}{name:Str}{v:Value}
structure ExiCls (K:Frag) (C:Addr):Prop extends ExcCls K C where
 sa:findIn K (.ref C) "__setattr__"=some (some (.builtin "object.__setattr__"))
 ve:XQ K C=true
 hd:hasDictIn K C=true
theorem Sb (hx:s.heap.get? x=some ⟨.ref C,none,.fields vs,#[]⟩):InstAt s.heap x ⟨.ref C,none,.fields vs,#[]⟩ C none:=⟨hx,rfl,rfl,trivial⟩
theorem Ro {Q:Unit→Shared→Prop} (X:K.In s.heap) (c:ExiCls K C) (hn:findIn K (.ref C) name=some none) (hx:s.heap.get? x=some ⟨.ref C,none,.fields vs,#[]⟩)
  (h:∀h',h'.get? x=some ⟨.ref C,some s.heap.objs.size,.fields vs,#[]⟩→h'.Ns1 s.heap.objs.size (fun y=>if y=name then some v else none)→(∀b o,b≠x→s.heap.get? b=some o→h'.get? b=some o)→Q () { s with heap:=h',toks:=s.toks+2 }) :
  wpAny (model prog w) A (setAttr (.ref x) name v) Q E s:=by
 have I:=Sb hx
 obtain⟨cd,hc,hm⟩:=any_some c.ve
 obtain⟨cd2,hc2,hdd⟩:=any_some c.hd
 rw[hc] at hc2
 cases hc2
 refine set_plain X I c.sa ?_
 have inObj:Looks (model prog w) s.heap (isInstance (.ref x) (.type "object")) true:=I.type.andThen (looks_mroIn X c.mo)
 have G:=PySem.F.store_ValueError
 refine codeAny_call_builtin G.slot.plain G.entry (@check_slot (model prog w) _ _ { s with toks:=s.toks+1 } "object.__setattr__" "object" "__setattr__" (.ref x) [.str name s.toks,v] [] _ G.kind G.split inObj (G.args (.ref x) (.str name s.toks) v) ?_)
 rw[osa_eq,refuse_eq]
 have own:Looks (model prog w) s.heap (mroOf (.ref C)) cd.mro:=(looks_clsIn X hc).andThen .now
 refine wpAny_bind (wpAny_bind (Looks.here (s:={ s with toks:=s.toks+1 }) I.type (wpAny_bind (Looks.here (s:={ s with toks:=s.toks+1 }) own ?_))))
 rw[Lw _ hm]
 refine wpAny_pure (wpAny_bind (Looks.here (s:={ s with toks:=s.toks+1 }) I.type (wpAny_bind (Looks.here (s:={ s with toks:=s.toks+1 }) (looks_findIn X hn) (wpAny_bind (wpAny_pure ?_))))))
 dsimp only
 refine wpAny_bind (wpAny_pure (wpAny_bind (wpAny_bind (wpAny_loadPart hx (wpAny_bind (Looks.here (s:={ s with toks:=s.toks+1 }) (looks_clsIn X hc) ?_))))))
 rw[hdd]
 refine wpAny_bind (wpAny_alloc ?_)
 have n0:s.heap.get? s.heap.objs.size=none:=Heap.get?_none_of_le (Nat.le_refl _)
 have nx:s.heap.objs.size≠x:=fun z=>by rw[z,hx] at n0;cases n0
 have hx1:=Heap.get?_push_of_some { cls:=.type "dict",data:=.dict #[] } hx
 refine wpAny_bind (wpAny_update hx1 ?_)
 have hx2:=Heap.get?_update_self (fun o:Obj=>{ o with dict:=some s.heap.objs.size }) hx1 rfl
 have hd2:((s.heap.push { cls:=.type "dict",data:=.dict #[] }).update x (fun o:Obj=>{ o with dict:=some s.heap.objs.size })).get? s.heap.objs.size=some { cls:=.type "dict",data:=.dict #[] }:=by
  rw[Heap.get?_update_other _ _ (Ne.symm nx)]
  exact Heap.get?_push_size _ rfl
 have ns0:((s.heap.push { cls:=.type "dict",data:=.dict #[] }).update x (fun o:Obj=>{ o with dict:=some s.heap.objs.size })).Ns1 s.heap.objs.size (fun _=>none):=⟨_,_,_,hd2,rfl,(fun e he=>by simp at he),(by simp[UniqKeys]),fun _=>rfl⟩
 have keep:∀b o,b≠x→s.heap.get? b=some o→((s.heap.push { cls:=.type "dict",data:=.dict #[] }).update x (fun o:Obj=>{ o with dict:=some s.heap.objs.size })).get? b=some o:=fun b o nb q=>by
  rw[Heap.get?_update_other _ _ (Ne.symm nb)]
  exact Heap.get?_push_of_some _ q
 generalize (s.heap.push { cls:=.type "dict",data:=.dict #[] }).update x (fun o:Obj=>{ o with dict:=some s.heap.objs.size })=h1 at hx2 hd2 ns0 keep
 refine wpAny_pure (a:=some s.heap.objs.size) (wpAny_bind (wpAny_pure (wpAny_bind ?_)))
 refine wpAny_nsSet1 (s:={ s with heap:=h1,toks:=s.toks+1 }) ns0 fun h2 ns2 but=>?_
 obtain⟨oD,esD,epD,hoD,hdD,hcD⟩:=ns2.count (PySem.Within.cons (ns:=[]) name v fun _ z=>absurd rfl z)
 refine wpAny_bind (wpAny_lookBehind hoD (by rw[hdD];exact pastItsLine_dict (Nat.le_trans hcD (by rw[sizeLine_eq];show 1≤_;decide))) ?_)
 refine wpAny_pure (h h2 ((but.2 x (Ne.symm nx)).trans hx2) ns2 fun b o nb q=>(but.2 b fun z=>?_).trans (keep b o nb q))
 rw[z,n0] at q
 cases q
end
def Nz (K:Frag)(C:Addr):Bool:=(K.lookup C).any fun o=>match o with
 |⟨.type t,_,.cls cd,sl⟩=>t == "type" && !cd.hasDel&&(match cd.mro with | .ref D::tl=>D == C&&tailIn K N5 tl|_=>false)&&(match sl.toList with|[_,_,_,_,some (.builtin n),_]=>n == "ValueError.__new__"|_=>false)
 |_=>false
theorem Ql {h:Heap}{K:Frag}{C:Addr}(X:K.In h)(q:Nz K C=true) :
  ∃tl N nm qn bs hd sn sub ab col dd k0 k1 k2 k3 k5,h.get? C=some (excClassObj nm qn C N bs tl hd sn sub ab col dd k0 k1 k2 k3 k5 "ValueError.__new__")∧OwnTail h N5 tl:=by
 obtain⟨o,found,z⟩:=any_some q
 split at z
 ·rename_i t dx ck sl
  rw[Bool.and_eq_true,Bool.and_eq_true,Bool.and_eq_true] at z
  obtain⟨⟨⟨z1,z2⟩,z3⟩,z4⟩:=z
  have y1:t="type":=beq_iff_eq.mp z1
  have y2:ck.hasDel=false:=by simpa using z2
  split at z3
  ·rename_i D tl em
   rw[Bool.and_eq_true] at z3
   have y3:D=C:=beq_iff_eq.mp z3.1
   split at z4
   ·rename_i p0 p1 p2 p3 made p5 es
    have y4:made="ValueError.__new__":=beq_iff_eq.mp z4
    subst y1 y3 y4
    obtain⟨nm,bs,mro,ns,qn,hd,sn,sub,ab,col,del⟩:=ck
    simp only at em y2
    subst em y2
    obtain⟨l⟩:=sl
    simp only at es
    subst es
    exact⟨tl,ns,nm,qn,bs,hd,sn,sub,ab,col,dx,p0,p1,p2,p3,p5,X _ _ found,tail_of_in X z3.2⟩
   ·cases z4
  ·cases z3
 ·cases z
section
variable {prog:Program}{w:World}{A:Around}{E:Value→Shared→Prop}{s:Shared}{K:Frag}{C f:Addr}{us:List Value}
def Dv (C t:Addr)(d:Option Addr):Obj:=⟨.ref C,d,.fields #[.ref t,.none,.none,.none,.bool false,.none],#[]⟩
theorem Sk {Q:Value→Shared→Prop} (X:K.In s.heap) (hq:Nz K C=true) (hi:findIn K (.ref C) "__init__"=some (some (.ref f))) (hf:typeIn K (.ref f)=some (.type "function")) (hl:us.length≤sizeLine)
  (h:∀h1,(∀b o,s.heap.get? b=some o→h1.get? b=some o)→h1.get? (s.heap.objs.size+1)=some (Dv C s.heap.objs.size none)→h1.objs.size=s.heap.objs.size+2→
   wpAny (model prog w) (A.under (.builtin "type.__call__" ⟨.ref C::us,[]⟩)) (call (.ref f) (.ref (s.heap.objs.size+1)::us)) (fun r s'=>r=.none∧Q (.ref (s.heap.objs.size+1)) s') E { s with heap:=h1 }) :
  wpAny (model prog w) A (call (.ref C) us) Q E s:=by
 obtain⟨tl,N,nm,qn,bs,hd,sn,sub,ab,col,dd,k0,k1,k2,k3,k5,oc,T⟩:=Ql X hq
 obtain⟨hp,g,d,t,os⟩:=s
 have G:=PySem.F.excBase_ValueError
 have l1:=tc_lookup
 have l2:=tc_bind (.ref C)
 have hT:(⟨hp,g,d,t,os⟩:Shared).TypeIs (.ref C) "type":=⟨_,oc,rfl⟩
 refine wpAny_call (codeAny_of_tree ?_)
 show wpAny _ _ (callAny (.ref C) _) _ _ _
 repeat (any_goals (first|assumption|(with_reducible refine wpAny_loadPart_at oc ?_)|wp_step))
 refine⟨rfl,codeAny_call_builtin_at (Code.quiet_builtin _ (by decide +kernel)) entry_typeCall (wpAny_check_type_call_sub oc ?_)⟩
 change K.In hp at X
 change hp.get? C=_ at oc
 change OwnTail hp N5 tl at T
 dsimp only at h
 generalize eA:A.under (Code.builtin "type.__call__" { pos:=[Value.ref C]++us })=A1
 have h:∀h1,(∀b o,hp.get? b=some o→h1.get? b=some o)→h1.get? (hp.objs.size+1)=some (Dv C hp.objs.size none)→h1.objs.size=hp.objs.size+2→wpAny (model prog w) A1 (call (.ref f) (.ref (hp.objs.size+1)::us)) (fun r s'=>r=.none∧Q (.ref (hp.objs.size+1)) s') E ⟨h1,g,d,t,os⟩:=by
  rw[←eA];exact h
 show wpAny (model prog w) A1 (Builtin.«type.__call__» ⟨.ref C::us,[]⟩) _ _ ⟨hp,g,d,t,os⟩
 repeat (first|(with_reducible refine wpAny_loadPart_at oc ?_)|(with_reducible refine wpAny_madeBy_exc oc ?_)|wp_step)
 refine codeAny_call_builtin_code (Code.quiet_builtin _ G.quiet) (wpAny_check_new_subT G T oc (codeAny_exc_new_subT G T oc ?_ hl))
 show wpAny _ _ _ _ _ _
 have k1:∀b o,hp.get? b=some o→((hp.push { cls:=.type "tuple",data:=.seq us.toArray }).push (Dv C hp.objs.size none)).get? b=some o:=fun b o q=>Heap.get?_push_of_some _ (Heap.get?_push_of_some _ q)
 have z1:((hp.push { cls:=.type "tuple",data:=.seq us.toArray }).push (Dv C hp.objs.size none)).objs.size=hp.objs.size+2:=by rw[Heap.size_push,Heap.size_push]
 have e1:((hp.push { cls:=.type "tuple",data:=.seq us.toArray }).push (Dv C hp.objs.size none)).get? (hp.objs.size+1)=some (Dv C hp.objs.size none):=by
  have:=Heap.get?_push_size (hp.push { cls:=.type "tuple",data:=.seq us.toArray }) (o:=Dv C hp.objs.size none) rfl
  rw[Heap.size_push] at this
  exact this
 change wpAny (model prog w) A1 _ _ _ ⟨(hp.push { cls:=.type "tuple",data:=.seq us.toArray }).push (Dv C hp.objs.size none),g,d,t,os⟩
 generalize (hp.push { cls:=.type "tuple",data:=.seq us.toArray }).push (Dv C hp.objs.size none)=h1 at k1 z1 e1
 have I:InstAt h1 (hp.objs.size+1) (Dv C hp.objs.size none) C none:=⟨e1,rfl,rfl,trivial⟩
 have X1:K.In h1:=fun b o q=>k1 b o (X b o q)
 have cC:(Value.ref C::tl).contains (.ref C)=true:=by simp
 refine wpAny_bind (wpAny_bind (Looks.here (s:=⟨h1,g,d,t,os⟩) I.type ?_))
 refine wpAny_isSubtype_exc (k1 _ _ oc) ?_
 rw[cC]
 refine wpAny_bind (wpAny_holding (special_fn (s:=⟨h1,g,d,t,os⟩) X1 I hi hf (wpAny_mono (h h1 k1 e1 z1) (fun r s' q=>?_) fun _ _ q=>q)))
 obtain⟨rfl,q⟩:=q
 exact wpAny_pure q
end
end
section
open PySem PySem.Spec PyProof.Rows
def Gg (x C:Addr)(d:Option Addr):HO:=.ext fun h=>∃t,h.get? x=some (Dv C t d)
theorem Qr {P:Program}{w:World}{H:Hp}{h:Heap}{x C t:Addr}{d:Option Addr}(e:h.get? x=some (Dv C t d)):AZ P w H h x (Gg x C d):=⟨⟨t,e⟩,⟨_,e⟩,fun _ _ ⟨t,z⟩ k=>⟨t,k _ z⟩⟩
variable {X:Cx}{pins:List (Addr×Obj)}{σ:St}{H:Hp}{s:Shared}
theorem Nn {A:Around} {E:Value→Shared→Prop} {Q:Unit→Shared→Prop} {e C:Addr} {f:Str} {y:V} {u:Value} (I:Inv X pins σ H s) (he:H e=some (Gg e C none)) (c:ExiCls X.K C) (n:PySem.W.findIn X.K (.ref C) f=some none) (ry:RelV y u)
  (h:∀dx s',H dx=none→Inv X pins σ (upd (upd H e (Gg e C (some dx))) dx (.xd [(f,y)])) s'→Q () s'):wpAny (model X.prog X.w) A (setAttr (.ref e) f u) Q E s:=by
 obtain⟨⟨t,ob⟩,_,_⟩:AZ X.prog X.w H s.heap e (Gg e C none):=I.hok e _ he
 refine Ro I.kIn c n ob fun h1 ob1 ns1 k1=>?_
 have hf:H s.heap.objs.size=none:=I.hok.fresh (Nat.le_refl _)
 have n0:s.heap.get? s.heap.objs.size=none:=Heap.get?_none_of_le (Nat.le_refl _)
 have ne:s.heap.objs.size≠e:=fun z=>by rw[z,ob] at n0;cases n0
 have J:=I.write (x:=e) (e:=e) (o:=Gg e C (some s.heap.objs.size)) (h':=h1) (t':=s.toks+2) (by rw[he];trivial) (.inl rfl) (fun b o nb q=>k1 b o nb q) ⟨_,ob1⟩ (Qr ob1)
 obtain⟨m,hn,_⟩:=id I.loc
 obtain⟨oL,_,_,hoL,_⟩:=id hn
 refine h s.heap.objs.size _ hf (J.know (fun x=>?_) (fun z=>?_) (fun x c q z=>?_) (fun p hp z=>?_) (by rw[Ai ne];exact hf) ⟨_,ns1,fun g=>?_⟩)
 ·cases q:X.s₀.heap.get? s.heap.objs.size with
  |none=>rfl
  |some o=>
   obtain⟨o',z⟩:=I.base.there _ o q x
   rw[n0] at z
   cases z
 ·rw[←z,n0] at hoL;cases hoL
 ·obtain⟨w',oc,e1,_⟩:=I.cell x c q
  rw[z,n0] at e1;cases e1
 ·have:=(I.pin p hp).1
  rw[z,n0] at this;cases this
 ·by_cases eg:g=f
  ·subst eg
   rw[if_pos rfl,List.lookup_cons_self]
   exact ry
  ·rw[if_neg eg,List.lookup_cons,show(g == f)=false from beq_eq_false_iff_ne.mpr eg]
   trivial
def Yf (K:PySem.W.Frag)(ta tv:TE)(f:Str):TS:=fun D σ H=>tv σ H fun y H1=>ta σ H1 fun x H2=>∃e C,x=.ref e∧H2 e=some (Gg e C none)∧ExiCls K C∧PySem.W.findIn K (.ref C) f=some none∧
 ∀dx,H2 dx=none→D.nx σ (upd (upd H2 e (Gg e C (some dx))) dx (.xd [(f,y)]))
theorem Vs {o value:Expr}{f:Str}{pos pos':Pos}{ta tv:TE}(ha:PE X o ta)(hv:PE X value tv)(hs:swapsWith value (some (.Attribute o f pos')) pos.line X.env=pure false):PS X (.Assign [.Attribute o f pos'] value pos) (Yf X.K ta tv f):=by
 intro pins s σ H D I h
 refine plainObj_wpAny_Assign_Attribute (Bd (hv pins s σ H _ I h) fun u s1 ⟨y,H1,I1,ry,q⟩=>Bd (ha pins s1 σ H1 _ I1 q) fun ov s2 ⟨x,H2,I2,rx,e,C,ex,he,c,n,q2⟩=>?_) hs
 subst ex
 obtain rfl:ov=Value.ref e:=rx
 exact Nn I2 he c n ry fun dx s3 hd I3=>⟨σ,_,I3,q2 dx hd⟩
structure MkX (K:PySem.W.Frag) (C f:Addr):Prop where
 ex:Nz K C=true
 init:PySem.W.findIn K (.ref C) "__init__"=some (some (.ref f))
 fn:PySem.W.isFn K (.ref f)=true
 kp:PySem.W.keepIn K (.ref C)=true
theorem UH {CX:OQ} {k:Nat} {f C:Addr} {fd:FuncData} {ps:List Str} {sp:Sp} {Q:VK} {us:List Value} {vs:List V} (M:MkX X.K C f) (F:FnOk X.prog X.w X.K X.mg X.base CX k f fd ps sp) (hr:Room (k+1) X.A) (hb:Binds X.K fd ps []) (hx:CI CX X E0) (hl:us.length≤sizeLine)
  (I:Inv X pins σ H s) (r:AC vs us) (hq:sp (.ref (s.heap.objs.size+1)::vs) (upd H (s.heap.objs.size+1) (Gg (s.heap.objs.size+1) C none)) (fun v H2=>v=.non∧Q (.ref (s.heap.objs.size+1)) H2) E0):wpAny (model X.prog X.w) X.A (call (.ref C) us) (EP X pins σ Q) X.xe s:=by
 refine Sk I.kIn M.ex M.init (beq_iff_eq.mp M.fn) hl fun h1 k1 e1 z1=>?_
 have I2:=I.laid (a:=s.heap.objs.size+1) (o:=Gg (s.heap.objs.size+1) C none) (h':=h1) (t':=s.toks) k1 (Nat.le_succ _) (Qr e1)
 have r2:AC (V.ref (s.heap.objs.size+1)::vs) (Value.ref (s.heap.objs.size+1)::us):=.cons rfl r
 have hn:(Value.ref (s.heap.objs.size+1)::us).length=ps.length:=r2.length.symm.trans (F.len _ _ _ _ hq)
 have hb':=hb { s with heap:=h1 } (Value.ref (s.heap.objs.size+1)::us) I2.kIn (by rw[List.append_nil];exact hn)
 rw[List.append_nil] at hb'
 refine wpAny_call (codeAny_mono (F.run _ X.stack _ _ ⟨Value.ref (s.heap.objs.size+1)::us,[]⟩ (Value.ref (s.heap.objs.size+1)::us) _ _ _ (hr.make C us []) (I2.env0.make C us []) hb' r2 hq) fun r s' z=>?_)
 match r,z with
 | .error e,z=>exact hx pins σ _ _ e s' I2 z
 | .ok (.ret u),z=>
  obtain⟨v,H',I3,rv,ev,q3⟩:=I2.after z
  subst ev
  exact⟨rv,⟨V.ref (s.heap.objs.size+1),H',I3,rfl,q3⟩⟩
theorem Rm {M:Model} {A:Around} {E:Value→Shared→Prop} {K:PySem.W.Frag} {env:Env} {y:Sem Value} {Q:Flow→Shared→Prop} {s:Shared} (hh:A.handled=none)
  (h:wpAny M A y (fun v s1=>∃e C t d,v=.ref e∧K.In s1.heap∧Nz K C=true∧s1.heap.get? e=some (Dv C t d)∧E (.ref e) s1) E s):wpAny M A (raiseStmt env (some y) none) Q E s:=by
 unfold raiseStmt
 refine wpAny_bind (wpAny_mono h (fun v s1 z=>?_) fun _ _ z=>z)
 obtain⟨e,C,t,d,rfl,k,hq,he,hE⟩:=z
 obtain⟨tl,N,nm,qn,bs,hd,sn,sub,ab,col,dd,k0,k1,k2,k3,k5,oc,T⟩:=Ql k hq
 obtain⟨hp,g,dr,tk,os⟩:=s1
 change hp.get? e=some ⟨.ref C,d,.fields #[.ref t,.none,.none,.none,.bool false,.none],#[]⟩ at he
 have RU:(Value.ref C::tl).contains (.type "BaseException")=true:=by rw[List.contains_cons,T.hasType PySem.F.excBase_ValueError.hasBase,Bool.or_true]
 repeat (first|(with_reducible refine wpAny_loadPart_at he ?_)|(with_reducible refine wpAny_loadPart_at oc ?_)|((with_reducible refine wpAny_isSubtype_exc oc ?_);rw[RU])|wp_step)
 exact wpAny_raiseNew_none hh hE
end
section
open PySem PySem.Spec PyProof.Rows
def del (H:Hp)(e:Addr):Hp:=fun b=>if b=e then none else H b
theorem Ob {H:Hp}{e:Addr}:del H e e=none:=by unfold del;rw[if_pos rfl]
theorem PV {H:Hp}{b e:Addr}(h:b≠e):del H e b=H b:=by unfold del;rw[if_neg h]
def Va (P:Program)(w:World):OQ:=fun outer H s E e s'=>∃(ea:Addr) (cls:Value) (H':Hp) (B:Heap) (a0:Value) (d:Option Addr),e=.ref ea∧Fly P w outer H s ea cls H' B a0 s'∧DictAt s'.heap ea d∧E cls d H'
theorem Ux {h:Heap}{e:Addr}{o:Obj}(q:h.get? e=some o)(f:NW o):DictAt h e o.dict:=by
 unfold Heap.get? at q
 split at q
 ·cases q
 ·exact⟨o,q,rfl,f⟩
theorem DictAt.get {h:Heap}{e:Addr}{d:Option Addr}{o:Obj}(j:DictAt h e d)(q:h.get? e=some o):o.dict=d∧NW o:=by
 obtain⟨o1,e1,h1⟩:=j
 unfold Heap.get? at q
 rw[e1] at q
 split at q
 ·cases q
 ·cases q;exact h1
section
variable {P:Program}{w:World}{K:PySem.W.Frag}{mg:Str→Option Value}{base:Heap}{N:List Str}{qual:Str}{scope:Scope}{f:Addr}{cd:Value}{A:Around}{outer:List Env}{s:Shared}{H:Hp}{E:XK}
theorem L6 {CX:OQ}{pins:List (Addr×Obj)}{σ:St}{H1:Hp}{s1:Shared}(I:Inv (B9 CX P w K mg base N qual scope f cd A outer s H E) pins σ H1 s1){b:Addr}{o:Obj}(q:s.heap.get? b=some o)(hb:b∉D3 outer) :
  b∉D3 (envOfC qual scope s.heap.objs.size f cd::outer):=fun z=>by
 rcases List.mem_cons.mp (I.stkSub b z) with e|e
 ·have h1:s.heap.objs.size≤b:=by rw[e];exact I.ok.above
  exact absurd (Nat.lt_of_lt_of_le (Heap.lt_size q) h1) (Nat.lt_irrefl _)
 ·exact hb e
theorem RD {pins:List (Addr×Obj)}{σ:St}{H1:Hp}{s1:Shared}{ea C:Addr}{d:Option Addr}(I:Inv (B9 (Va P w) P w K mg base N qual scope f cd A outer s H E) pins σ H1 s1)(he:H1 ea=some (Gg ea C d))(hn:s.heap.objs.size≤ea)(q:E (.ref C) d (del H1 ea)) :
  (B9 (Va P w) P w K mg base N qual scope f cd A outer s H E).xe (.ref ea) s1:=by
 have hfr:=I.ok.frames
 obtain⟨⟨t,ob⟩,_,_⟩:AZ P w H1 s1.heap ea (Gg ea C d):=I.hok ea _ he
 have nf:ea∉D3 (envOfC qual scope s.heap.objs.size f cd::outer):=fun z=>by
  have:=I.stkFree ea z
  rw[he] at this;cases this
 have nofs:s.heap.get? ea=none:=Heap.get?_none_of_le hn
 have hid:∀{b:Addr} {o:Obj},s1.heap.get? b=some o→b≠ea→b∉D3 (envOfC qual scope s.heap.objs.size f cd::outer)→(PySem.W.hideAll s1.heap (ea::D3 (envOfC qual scope s.heap.objs.size f cd::outer))).get? b=some o:=fun e n1 n2=>PySem.W.hideAll_get _ e fun z=>(List.mem_cons.mp z).elim n1 n2
 have ff:s1.heap.FunFrames (PySem.W.hideAll s1.heap (ea::D3 (envOfC qual scope s.heap.objs.size f cd::outer))) (envOfC qual scope s.heap.objs.size f cd::outer):=PySem.W.funFrames_hide I.stack fun env he a ha=>List.mem_cons_of_mem _ (List.mem_filterMap.mpr ⟨env,he,ha⟩)
 have hen:(PySem.W.hideAll s1.heap (ea::D3 (envOfC qual scope s.heap.objs.size f cd::outer))).get? ea=none:=PySem.W.hideAll_none _ List.mem_cons_self
 refine(Pk _ _).also (Ux ob ⟨_,rfl,rfl⟩) (wpAny_leaving_firstW (base:=PySem.W.hideAll s1.heap (ea::D3 (envOfC qual scope s.heap.objs.size f cd::outer))) (a0:=.ref t) hfr ff rfl ob (fun b o e=>PySem.W.of_hideAll _ e) hen rfl rfl rfl fun h' hL dj=>?_)
 obtain⟨k1,⟨_,_,k2⟩,k3,k4⟩:=hL
 generalize PySem.W.hideAll s1.heap (ea::D3 (envOfC qual scope s.heap.objs.size f cd::outer))=B at hid ff hen k1 k2 k3
 have nt:∀{b:Addr} {u:HO},H1 b=some u→(∀φ,u≠.ext φ)→del H1 ea b=some u:=fun{b u} e n=>by
  rw[PV (fun z=>by rw[z,he] at e;cases e;exact n _ rfl)];exact e
 have sl:∀b o,s1.heap.get? b=some o→b∈D3 (envOfC qual scope s.heap.objs.size f cd::outer)→∃z,h'.get? b=some { o with slots:=z }:=fun b o e hb=>by
  obtain⟨_,o',ho',hd⟩:=I.stack.mem hb
  rw[e] at ho'
  cases ho'
  exact k4 b o e hd
 have un:Un (D3 (envOfC qual scope s.heap.objs.size f cd::outer)) [] H1 (del H1 ea) s1.heap h':=by
  refine⟨fun b o e n hb _=>k1 b o (hid e (fun z=>by rw[z,he] at n;cases n) hb),fun b o e _ hb _=>sl b o e hb,fun b o _ n _=>?_,fun b o e _=>?_,fun b xs e=>nt e (by intro _ z;cases z),fun b o u e=>nt e (by intro _ z;cases z),fun b ps e=>⟨#[],by rw[nt e (by intro _ z;cases z)];simp⟩⟩
  ·unfold del;split
   ·rfl
   ·exact n
  ·by_cases z:b=ea
   ·rw[z]
    obtain⟨oe,_,_,_,_,e1,_⟩:=k3
    exact⟨_,e1⟩
   ·by_cases hb:b∈D3 (envOfC qual scope s.heap.objs.size f cd::outer)
    ·obtain⟨z,e1⟩:=sl b o e hb
     exact⟨_,e1⟩
    ·exact⟨o,k1 b o (hid e z hb)⟩
 have hok:G9 P w (del H1 ea) B:=fun b u e=>by
  have nb:b≠ea:=fun z=>by rw[z,Ob] at e;cases e
  rw[PV nb] at e
  refine(I.hok b u e).stay (fun c v hc z=>hid z (fun y=>?_) fun y=>?_) (fun c z=>nt z (by intro _ z;cases z)) fun c xs z=>nt z (by intro _ z;cases z)
  ·rcases hc with rfl|hc
   ·exact nb y
   ·rw[y,he] at hc;cases hc
  ·have:=I.stkFree c y
   rcases hc with rfl|hc
   ·rw[e] at this;cases this
   ·rw[hc] at this;cases this
 have J:=I.call' (s':={ s1 with heap:=h' }) (ch:=[]) rfl un (hok.kept k1) I.bare (fun b z=>nomatch z)
 refine⟨ea,_,del H1 ea,B,.ref t,d,rfl,⟨J.os,I.bare,J.base,hok,⟨k1,hen,k2,k3⟩,fun b o e n hb=>?_,fun b o e hb=>?_⟩,dj,q⟩
 ·exact hid (I.base.keep b o e n hb (by intro z;cases z)) (fun z=>by rw[z,nofs] at e;cases e) (L6 I e hb)
 ·obtain⟨o1,e1⟩:=I.base.there b o e (by intro z;cases z)
  exact⟨o1,hid e1 (fun z=>by rw[z,nofs] at e;cases e) (L6 I e hb)⟩
end
end
section
open PySem PySem.Spec PyProof.Rows
def XW (X:Cx)(E:XK):Prop:=∀(pins:List (Addr×Obj)) (σ:St) (H:Hp) (s:Shared) (ea C:Addr) (d:Option Addr),Inv X pins σ H s→H ea=some (Gg ea C d)→X.s₀.heap.objs.size≤ea→E (.ref C) d (del H ea)→X.xe (.ref ea) s
theorem PP {P:Program}{w:World}{K:PySem.W.Frag}{mg:Str→Option Value}{base:Heap}{N:List Str}{qual:Str}{scope:Scope}{f:Addr}{cd:Value}{A:Around}{outer:List Env}{s:Shared}{H:Hp}{E:XK}:XW (B9 (Va P w) P w K mg base N qual scope f cd A outer s H E) E:=
 fun _ _ _ _ _ _ _ I he hn q=>RD I he hn q
theorem WG {P:Program}{w:World}{X:Cx}:CI (Va P w) X E0:=fun _ _ _ _ _ _ _ ⟨_,_,_,_,_,_,_,_,_,z⟩=>False.elim z
def SX (C:Addr)(f:Str):Sp:=fun vs H Q _=>∃e y,vs=[.ref e,y]∧H e=some (Gg e C none)∧∀dx,H dx=none→Q .non (upd (upd H e (Gg e C (some dx))) dx (.xd [(f,y)]))
def Wh (P:Program)(w:World)(K:PySem.W.Frag)(mg:Str→Option Value)(base:Heap)(k:Nat)(x:Str)(C:Addr)(f:Str)(ps:List Str):Prop:=
 ∃(fI:Addr) (fd:FuncData),MkX K C fI∧FnOk P w K mg base Dp k fI fd ps (SX C f)∧mg x=some (.ref C)∧Binds K fd ps []
def VI (C:Addr)(f:Str)(E:XK)(t:TA):TS:=fun _ σ H=>t σ H fun vs H1=>∃y,vs=[y]∧∀dx,H1 dx=none→E (.ref C) (some dx) (upd H1 dx (.xd [(f,y)]))
variable {X:Cx}{E:XK}{x:Str}{C:Addr}{f:Str}{ps:List Str}{k:Nat}{e:Expr}{t:TA}{np cpos pos:Pos}
theorem RG (R:XW X E)(hc:X.calm=true)(D:Wh X.prog X.w X.K X.mg X.base k x C f ps)(hr:Room (k+1) X.A)(hg:Gl X x)(ha:PA X [e] t)(hdb:(x == ("__debug__":Str))=false:=by decide)(he:starEach [e] X.env=[(false,eval e X.env)]:=by rfl) :
  PS X (.Raise (some (.Call (.Name x np) [e] [] cpos)) none pos) (VI C f E t):=by
 intro pins s σ H Dn I h
 obtain⟨fI,fd,M,F,hm,hb⟩:=D
 rw[arm_exec_Raise]
 refine wpAny_bind (wpAny_standAt (Rm (K:=X.K) (I.ok.hd hc) (wpAny_bind ?_)))
 refine wpAny_Call_Name_kw (DF I hg hm ?_ hdb)
 refine PySem.W.callWith_K (h₀:=X.base) I.ok.mod.kin M.kp (Bd (ha cpos pins s σ H _ I h) fun us s1 ⟨vs,H1,I1,r,y,ev,q⟩=>⟨I1.kIn,?_⟩) he rfl
 subst ev
 have hl2:us.length≤sizeLine:=by rw[←r.length,sizeLine_eq];show 1≤_;decide
 have h1:=I1.hok.fresh (Nat.le_succ s1.heap.objs.size)
 refine Bd (UH (Q:=fun v H2=>v=.ref (s1.heap.objs.size+1)∧∃dx,H2 (s1.heap.objs.size+1)=some (Gg (s1.heap.objs.size+1) C (some dx))∧E (.ref C) (some dx) (del H2 (s1.heap.objs.size+1))) M F hr hb LG hl2 I1 r ⟨_,y,rfl,Ad,fun dx hd=>⟨rfl,rfl,dx,?_,?_⟩⟩) fun v s2 z=>?_
 ·have nd:s1.heap.objs.size+1≠dx:=fun z=>by rw[←z,Ad] at hd;cases hd
  rw[Ai nd,Ad]
 ·have nd:dx≠s1.heap.objs.size+1:=fun z=>by rw[z,Ad] at hd;cases hd
  rw[Ai nd] at hd
  have eq:del (upd (upd (upd H1 (s1.heap.objs.size+1) (Gg (s1.heap.objs.size+1) C none)) (s1.heap.objs.size+1) (Gg (s1.heap.objs.size+1) C (some dx))) dx (.xd [(f,y)])) (s1.heap.objs.size+1)=upd H1 dx (.xd [(f,y)]):=by
   funext b
   by_cases e1:b=s1.heap.objs.size+1
   ·rw[e1,Ob,Ai (Ne.symm nd)]
    exact h1.symm
   ·rw[PV e1]
    by_cases e2:b=dx
    ·rw[e2,Ad,Ad]
    ·rw[Ai e2,Ai e1,Ai e1,Ai e2]
  rw[eq]
  exact q dx hd
 ·obtain⟨v',H2,I2,rv,ev,dx,h2,q2⟩:=z
  subst ev
  obtain rfl:v=.ref (s1.heap.objs.size+1):=rv
  obtain⟨⟨t2,ob⟩,_,_⟩:AZ X.prog X.w H2 s2.heap (s1.heap.objs.size+1) (Gg (s1.heap.objs.size+1) C (some dx)):=I2.hok _ _ h2
  refine wpAny_bind (wpAny_standAt (wpAny_pure ⟨_,C,t2,some dx,rfl,I2.kIn,M.ex,ob,R pins σ H2 s2 _ C _ I2 h2 ?_ q2⟩))
  obtain⟨m,⟨oL,_,_,hoL,_⟩,_⟩:=id I1.loc
  exact Nat.le_of_lt (Nat.lt_of_le_of_lt I1.ok.above (Nat.lt_succ_of_lt (Heap.lt_size hoL)))
def SQ (P:Program)(w:World)(K:PySem.W.Frag)(mg:Str→Option Value)(base:Heap)(k:Nat)(x:Str)(ps:List Str)(sp:Sp):Prop:=
 ∃(f:Addr) (fd:FuncData),FnOk P w K mg base (Va P w) k f fd ps sp∧mg x=some (.ref f)∧PySem.W.keepIn K (.ref f)=true∧Binds K fd ps []
theorem Fun.okE {P:Program} {w:World} {K:PySem.W.Frag} {mg:Str→Option Value} {base:Heap} {x qual:Str} {st:Stmt} {f:Addr} {fd:FuncData} {N ps:List Str} {k:Nat} {sp:Sp} (F:Fun K x qual st f fd) (S:FnScope N ps (Ah st)) (len:∀vs H Q E,sp vs H Q E→vs.length=ps.length)
  (hbody:∀(cdv:Value) (A:Around) (outer:List Env) (s:Shared) (H:Hp) (vs:List V) (Q:VK) (E:XK),Room k (A.deeper (envOfC qual (Ah st) s.heap.objs.size f cdv))→sp vs H Q E→
   ∃t,Ml (B9 (Va P w) P w K mg base N qual (Ah st) f cdv A outer s H E) (Ao st) t∧t { nx:=fun _ H'=>Q .non H',rt:=Q } (start N vs) H):FnOk P w K mg base (Va P w) (k+1) f fd ps sp:=by
 obtain⟨oc,od,kV,doc,pm,an,cdv,ct,osl,rfl,lk,hcd⟩:=F.ex
 exact Ua lk hcd S len fun A outer s H vs Q E hr hsp=>hbody cdv A outer s H vs Q E hr hsp
end
section
open PySem PySem.Spec PyProof.Rows
variable {X:Cx}{k:Nat}{x:Str}{ps:List Str}{sp:Sp}{E:XK}{e:Expr}{es:List Expr}{t:TA}{p pos:Pos}
theorem Wm (D:SQ X.prog X.w X.K X.mg X.base k x ps sp) (hr:Room k X.A) (hg:Gl X x) (hx:CI (Va X.prog X.w) X E) (ha:PA X (e::es) t)
  (hdb:(x == ("__debug__":Str))=false:=by decide) (he:starEach (e::es) X.env=(false,eval e X.env)::starEach es X.env:=by rfl) (hpl:(backTo pos (starEach es X.env)).any (·.1)=false:=by rfl) :
  PE X (.Call (.Name x p) (e::es) [] pos) (Jt sp [] E t):=by
 obtain⟨f,fd,F,hm,hk,hb⟩:=D
 exact MX F hr hg hm hk hb .nil hx ha hdb he hpl
abbrev Xp:=Value→Option Addr→St→Hp→Prop
abbrev Xl:=Ends→Xp→St→Hp→Prop
def XA (X:Cx)(pins:List (Addr×Obj))(Ex:Xp)(e:Value)(s':Shared):Prop:=
 ∃(ea:Addr) (cls:Value) (σ':St) (H1 H':Hp) (s1:Shared) (B:Heap) (a0:Value) (d:Option Addr),e=.ref ea∧Inv X pins σ' H1 s1∧Fly X.prog X.w X.stack H1 s1 ea cls H' B a0 s'∧DictAt s'.heap ea d∧Ex cls d σ' H'
def Za (X:Cx)(st:Stmt)(t:Xl):Prop:=
 ∀(pins:List (Addr×Obj)) (s:Shared) (σ:St) (H:Hp) (D:Ends) (Ex:Xp),Inv X pins σ H s→t D Ex σ H→wpAny (model X.prog X.w) X.A (exec st X.env) (SP X pins D) (XA X pins Ex) s
def X9 (X:Cx)(st:List Stmt)(t:Xl):Prop:=
 ∀(pins:List (Addr×Obj)) (s:Shared) (σ:St) (H:Hp) (D:Ends) (Ex:Xp),Inv X pins σ H s→t D Ex σ H→wpAny (model X.prog X.w) X.A (execs st X.env) (SP X pins D) (XA X pins Ex) s
def Yn (X:Cx)(e:Expr)(t:(Value→Option Addr→Hp→Prop)→TE):Prop:=
 ∀(pins:List (Addr×Obj)) (s:Shared) (σ:St) (H:Hp) (Q:VK) (Ex:Value→Option Addr→Hp→Prop),Inv X pins σ H s→t Ex σ H Q→wpAny (model X.prog X.w) X.A (eval e X.env) (EP X pins σ Q) (XA X pins fun cls d σ' H'=>σ'=σ∧Ex cls d H') s
theorem Wn {pins:List (Addr×Obj)}{σ:St}{Ex:Xp}{v:Value}{s:Shared}(h:XA X pins (fun cls d σ' H'=>σ'=σ∧Ex cls d σ H') v s):XA X pins Ex v s:=by
 obtain⟨ea,cls,σ',H1,H',s1,B,a0,d,h1,h2,h3,h4,h5,h6⟩:=h
 subst h5
 exact⟨ea,cls,_,H1,H',s1,B,a0,d,h1,h2,h3,h4,h6⟩
def WV (te:(Value→Option Addr→Hp→Prop)→TE):Xl:=fun D Ex σ H=>te (fun cls d H'=>Ex cls d σ H') σ H fun _ H1=>D.nx σ H1
theorem TN {te:(Value→Option Addr→Hp→Prop)→TE}(he:Yn X e te)(hs:swapsWith e none pos.line X.env=pure false:=by rfl):Za X (.Expr e pos) (WV te):=by
 intro pins s σ H D Ex I h
 exact wpAny_Expr_any (wpAny_mono (he pins s σ H _ _ I h) (fun v s1 ⟨x,H1,I1,r1,q1⟩=>⟨σ,H1,I1,q1⟩) fun _ _ z=>Wn z) I.quiet hs
theorem So {st:Stmt}{u:Xl}(h1:Za X st u):X9 X [st] u:=by
 intro pins s σ H D Ex I h
 refine wpAny_execs_cons (Bd (h1 pins s σ H D Ex I h) fun f s1 q=>?_)
 cases f with
 |next=>exact wpAny_execs_nil q
 |ret v=>exact q
 |brk=>exact q
 |cont=>exact q
theorem U9 (D:SQ X.prog X.w X.K X.mg X.base k x ps sp) (hr:Room k X.A) (hg:Gl X x) (ha:PA X.nox (e::es) t)
  (hdb:(x == ("__debug__":Str))=false:=by decide) (he:starEach (e::es) X.env=(false,eval e X.env)::starEach es X.env:=by rfl) (hpl:(backTo pos (starEach es X.env)).any (·.1)=false:=by rfl) :
  Yn X (.Call (.Name x p) (e::es) [] pos) (fun Ex=>Jt sp [] (fun cls d H'=>Ex cls d H') t):=by
 obtain⟨f,fd,F,hm,hk,hb⟩:=D
 intro pins s σ H Q Ex I h
 refine wpAny_Call_Name_kw (DF I hg hm ?_ hdb)
 refine PySem.W.callWith_K (h₀:=X.base) I.ok.mod.kin hk (wpAny_mono (ha pos pins s σ H _ (I.wish _) h) (fun us s1 ⟨vs,H1,I1,r,q⟩=>⟨I1.kIn,?_⟩) fun _ _ z=>False.elim z) he hpl
 have J:=I1.unwish
 have q':sp vs H1 Q fun cls d H'=>Ex cls d H':=by rw[←List.append_nil vs];exact q
 have hl:us.length=ps.length:=by rw[←r.length];exact F.len _ _ _ _ q'
 have hb':=hb s1 us J.kIn (by rw[List.append_nil];exact hl)
 rw[List.append_nil] at hb'
 refine wpAny_call (codeAny_mono (F.run X.A X.stack s1 H1 ⟨us,[]⟩ us vs Q _ hr J.env0 hb' r q') fun r s' z=>?_)
 match r,z with
 | .error e,⟨ea,cls,H',B,a0,d,he,Fl,dj,q⟩=>exact⟨ea,cls,σ,H1,H',s1,B,a0,d,he,J,Fl,dj,rfl,q⟩
 | .ok (.ret u),z=>exact J.after z
end
section
open PySem PySem.Calls PyProof.Rows PySem.W
structure IsExcD (h:Heap) (e D:Addr) (d:Option Addr):Prop where
 is:IsExc h e D
 dj:∃o,h.get? e=some o∧o.dict=d∧NW o
theorem IsExcD.stays {h1 h2:Heap}{e D:Addr}{d:Option Addr}(z:IsExcD h1 e D d)(k:∀o,h1.get? e=some o→h2.get? e=some o):IsExcD h2 e D d:=by
 obtain⟨a,o,q,hd⟩:=z
 exact⟨a.stays k,o,k o q,hd⟩
end
section
open PySem PySem.Spec PyProof.Rows
def T4 (e D:Addr)(d:Option Addr):HO:=.ext fun h=>IsExcD h e D d
variable {X:Cx}{pins:List (Addr×Obj)}{σ:St}{H:Hp}{s:Shared}
theorem Inv.knowD {H':Hp}{s':Shared}{ea C:Addr}{a0:Value}{B h':Heap}{d:Option Addr}(I:Inv X pins σ H s)(F:Fly X.prog X.w X.stack H s ea (.ref C) H' B a0 s')(J:Inv X pins σ H' { s' with heap:=h' })(T:h'.TracedW B ea (.ref C) a0)(dj:DictAt h' ea d):Inv X pins σ (upd H' ea (T4 ea C d)) { s' with heap:=h' }:=by
 have n:=I.flown F
 obtain⟨m,hn,_⟩:=id I.loc
 obtain⟨oL,_,_,hoL,_⟩:=id hn
 obtain⟨oe,vs,_,_,_,he,⟨hc,_⟩,hv,_⟩:=T
 have ise:IsExcD h' ea C d:=⟨⟨oe,he,hc,vs,hv⟩,oe,he,dj.get he⟩
 refine J.know (fun x=>?_) (fun z=>?_) (fun x c q z=>?_) (fun p hp z=>?_) F.free ⟨ise,⟨oe,he⟩,fun h1 h2 z k=>z.stays k⟩
 ·cases q:X.s₀.heap.get? ea with
  |none=>rfl
  |some o=>
   obtain⟨o',z⟩:=I.base.there ea o q x
   rw[n] at z
   cases z
 ·rw[←z,n] at hoL;cases hoL
 ·obtain⟨w',oc,e,_⟩:=I.cell x c q
  rw[z,n] at e;cases e
 ·have:=(I.pin p hp).1
  rw[z,n] at this;cases this
variable {x n:Str}{c:Value}{body orelse suite:List Stmt}{b₀:Stmt}{np hpos pos:Pos}{i:Nat}
def Vw (K:PySem.W.Frag)(c:Value)(i:Nat)(tb:Xl)(te:TS)(ts:Addr→TS):TS:=fun D σ H=>tb { D with nx:=te D } (fun cls d σ' H'=>PySem.W.exmOne K cls c=some true∧∃C:Addr,cls=.ref C∧∀ea,H' ea=none→
 ts ea { nx:=fun σ H=>D.nx (σ.set i none) H,rt:=D.rt,bk:=fun σ H=>D.bk (σ.set i none) H,ct:=fun σ H=>D.ct (σ.set i none) H } (σ'.set i (some (.ref ea))) (upd H' ea (T4 ea C d))) σ H
theorem Rr {tb:Xl} {te:TS} {ts:Addr→TS} (hst:X.stack=X.env::X.outer∧X.env.frame=some X.env.locals) (hm:X.mg x=some c) (hg:Gl X x) (hN:X.N.Nodup) (hi:X.N[i]?=some n) (hk:X.env.scope.names.lookup n=some .local) (hb:X9 X body tb) (he:Ml X orelse te) (hs:∀ea:Addr,Ml (X.held (.ref ea)) (b₀::suite) (ts ea))
  (hd:(x == ("__debug__":Str))=false:=by decide):PS X (.Try body [.ExceptHandler (some (.Name x np)) (some n) (b₀::suite) hpos] orelse [] pos) (Vw X.K c i tb te ts):=by
 intro pins s σ H D I h
 refine wpAny_Try_except (wpAny_mono (hb pins s σ H _ _ I h) (fun f s1 q=>?_) fun e s1 q=>?_)
 ·cases f with
  |next=>
   obtain⟨σ',H',I',q⟩:=q
   exact he pins s1 σ' H' D I' q
  |ret v=>exact q
  |brk=>exact q
  |cont=>exact q
 ·obtain⟨ea,cls,σ',H1,H',s2,B,a0,d,rfl,I2,F,dj,hx,C,hC,q⟩:=q
  subst hC
  have hfr:=I.ok.frames
  have fl:=F.fl
  rw[hst.1] at hfr fl
  refine(Iq _ _).also dj (wpAny_looks_onW hfr hst.2 fl fun h4 held4 up4 dj4=>?_)
  refine(FJ _ _).also dj4 (wpAny_landsW held4 fun h5 fl5 up5 dj5=>?_)
  have J5:=I2.landed F fl5.1 (up4.trans up5)
  refine wpAny_handleBy_cons (codeAny_handlers_test (DF (J5.held (.ref ea)) hg hm ?_ hd)) (by intro z;cases z)
  obtain⟨ob,hob,hcls⟩:=fl5.there
  have LT:PySem.W.Looks (model X.prog X.w) h5 (typeOf (.ref ea)) (.ref C):=by
   rw[←hcls]
   exact(PySem.W.Looks.ld hob).andThen .now
  refine(PySem.W.exm_one J5.kIn LT hx).here ?_
  refine codeAny_handlers_suite_as ((FJ _ _).also dj5 (lands_againW fl5 fun h6 fl6 up6 dj6=>?_))
  have J6:=I2.landed F fl6.1 ((up4.trans up5).trans up6)
  have J7:=I2.knowD F J6 fl6.2.2.2 dj6
  refine HY (v:=.ref ea) J7 hN hi (.inl hk) rfl (fun s8 I8=>?_) (.inr hk)
  refine wpAny_mono (hs ea pins s8 _ _ _ (I8.held (.ref ea)) (q ea F.free)) (fun f s9 z=>?_) fun _ _ z=>False.elim z
  have z':=z.unheld J7
  cases f with
  |next=>
   obtain⟨σ9,H9,I9,q9⟩:=z'
   exact J4 I9 hN hi hk fun s10 I10=>⟨_,_,I10,q9⟩
  |brk=>
   obtain⟨σ9,H9,I9,q9⟩:=z'
   exact J4 I9 hN hi hk fun s10 I10=>⟨_,_,I10,q9⟩
  |cont=>
   obtain⟨σ9,H9,I9,q9⟩:=z'
   exact J4 I9 hN hi hk fun s10 I10=>⟨_,_,I10,q9⟩
  |ret u=>
   obtain⟨v,σ9,H9,I9,r9,q9⟩:=z'
   exact J4 I9 hN hi hk fun s10 I10=>⟨v,_,_,I10,r9,q9⟩
end
section
open PySem PySem.Calls PyProof.Rows PySem.W Builtin Builtin.ObjectAttr Builtin.Getset_descriptor
variable {prog:Program}{w:World}{A:Around}{E:Value→Shared→Prop}{K:Frag}{e D:Addr}{oe od:Obj}{name:Str}{v:Value}{s:Shared}
theorem RX {tk:Tok}{Q:Fin→Shared→Prop}(k:K.In s.heap)(I:InstAt s.heap e oe D (some od))(hf:findObj K D (some od) name=some (.value v))(q:Q (.done (.ret v)) s) :
  wpAny (model prog w) A (Builtin.«object.__getattribute__» ⟨[.ref e,.str name tk],[]⟩) Q E s:=by
 have T0:=I.type (M:=model prog w)
 have T1:=looks_find (M:=model prog w) k I hf
 have s0:slotArgs "__getattribute__" 1 ⟨[.ref e,.str name tk],[]⟩=pure (Value.ref e,[Value.str name tk]):=by kernel_rfl
 have s1:attrName (.str name tk)=pure name:=by kernel_rfl
 simp only[Builtin.«object.__getattribute__»,s0]
 refine wpAny_bind (wpAny_pure ?_)
 dsimp only
 rw[s1]
 refine wpAny_bind (wpAny_pure (wpAny_bind (T0.here (wpAny_bind (T1.here ?_)))))
 exact wpAny_pure q
theorem UF {expr:Bool}{Q:Value→Shared→Prop}(k:K.In s.heap)(I:InstAt s.heap e oe D (some od))(z:IsExc s.heap e D)(c:ExcCls K D)(hf:findObj K D (some od) name=some (.value v))(hh:handedIn v=true)(q:Q v { s with toks:=s.toks+1 }) :
  wpAny (model prog w) A (getAttr (.ref e) name expr) Q E s:=by
 obtain⟨h1,g1,d1,t1,o1⟩:=s
 have T0:=I.type (M:=model prog w)
 have T1:=looks_findIn (M:=model prog w) k c.ga
 have T2:=looks_findIn (M:=model prog w) k c.gg
 have B:=F.excAttr_ValueError.ga.bind (.ref e)
 unfold getAttr getAttrBy
 refine wpAny_bind (wpAny_mkText (wpAny_holding (wpAny_bind (T0.at (wpAny_bind (T1.at ?_))))))
 have n0:(onTheHeap (Value.ref D)&&Value.builtin "BaseException.__getattribute__" == Value.builtin "object.__getattribute__")=false:=by
  have:(Value.builtin "BaseException.__getattribute__" == Value.builtin "object.__getattribute__")=false:=by decide +kernel
  rw[this];rfl
 dsimp only
 rw[if_neg (by rw[n0];decide)]
 unfold getAttrByItsOwn hookBefore
 rw[if_pos (by rfl)]
 refine wpAny_bind (T2.at (wpAny_bind (wpAny_attempt (wpAny_holding ?_))))
 unfold callGetattribute boundAndCalled
 rw[if_neg (by cases expr<;>decide),B]
 refine wpAny_bind (wpAny_pure ?_)
 dsimp only
 refine wpAny_call (codeAny_call_builtin F.excAttr_ValueError.ga.plain F.entry_bexc_ga ?_)
 refine LF (s:=⟨h1,g1,d1,t1+1,o1⟩) k z c.mb (RX (s:=⟨h1,g1,d1,t1+1,o1⟩) k I hf ?_)
 dsimp only
 exact handed_on hh q
end
section
open PySem PySem.Spec PyProof.Rows
variable {X:Cx}{pins:List (Addr×Obj)}{σ:St}{H:Hp}{s:Shared}
def Xw (K:PySem.W.Frag)(ta:TE)(f:Str):TE:=fun σ H Q=>ta σ H fun x H1=>∃e D dx fs v,x=.ref e∧H1 e=some (T4 e D (some dx))∧ExiCls K D∧PySem.W.findIn K (.ref D) f=some none∧H1 dx=some (.xd fs)∧fs.lookup f=some v∧Q v H1
theorem UB {K:PySem.W.Frag}(hK:X.K=K){o:Expr}{f:Str}{pos:Pos}{ta:TE}(he:PE X o ta)(hb:attributeBase o f X.env (eval o X.env)=eval o X.env):PE X (.Attribute o f pos) (Xw K ta f):=by
 subst hK
 intro pins s σ H Q I h
 refine QM hb (Bd (he pins s σ H _ I h) fun u s1 ⟨x,H1,I1,rx,e,D,dx,fs,v,ex,ee,c,n,hd,l,q⟩=>?_)
 subst ex
 obtain rfl:u=Value.ref e:=rx
 obtain⟨⟨z,oe,q1,hde,_⟩,_,_⟩:AZ X.prog X.w H1 s1.heap e (T4 e D (some dx)):=I1.hok e _ ee
 obtain⟨mA,ns,r⟩:AZ X.prog X.w H1 s1.heap dx (.xd fs):=I1.hok dx _ hd
 obtain⟨od,ho,hl⟩:=Mb ns
 obtain⟨u,hu,ru⟩:=E5.some_of (v:=v) (o:=mA f) (by rw[←l];exact r f)
 obtain⟨oe2,q2,hc,vs,hv⟩:=id z.ob
 rw[q1] at q2
 cases q2
 have inst:PySem.W.InstAt s1.heap e oe D (some od):=⟨q1,hc,by unfold PySem.W.notCls;rw[hv],by rw[hde];exact ho⟩
 exact UF I1.kIn inst z c.toExcCls (PySem.W.findObj_own c.hd n rfl (by rw[hl,hu])) (LV ru) ⟨v,H1,I1.tok _,ru,q⟩
end
end L2
namespace L2
section
open PySem PySem.Calls PyProof.Rows
variable {prog:Program}{w:World}{A:Around}{E:Value→Shared→Prop}{s:Shared}
theorem Ie (h:Heap):h.get? h.objs.size=none:=by
 cases e:h.get? h.objs.size with
 |none=>rfl
 |some o=>exact absurd (Heap.lt_size e) (Nat.lt_irrefl _)
def Qv (Q:Value→Shared→Prop)(vs:List Value)(s1:Shared):Prop:=∃ss,StrsAre vs ss∧vs.length<64∧
 ∀h' p (out:List Value) ss' c,StrsAre out ss'→ss'.Perm ss→sortedS ss'=true→s1.heap.objs.size≤p→(∀b o,s1.heap.get? b=some o→h'.get? b=some o)→
  h'.get? p=some (seqObj "list" out.toArray c)→Q (.ref p) { s1 with heap:=h' }
theorem Hq {x:Value}{Q:Value→Shared→Prop}(hc:wpAny (model prog w) A.in1 (collect x) (Qv Q) E s):wpAny (model prog w) A (call (.builtin "sorted") [x]) Q E s:=by
 refine Calls.call_function_entry kind_sorted plain_sorted entry_sorted (args_sorted1 x) ?_
 unfold Builtin.«sorted»
 refine wpAny_bind (m:=checkCount "sorted" 1 1 _) (wpAny_pure (wpAny_bind (wpAny_mono hc (fun vs s1 z=>?_) fun _ _ e=>e)))
 obtain⟨ss,hS,few,q⟩:=z
 refine wpAny_bind (wpAny_newList ?_)
 have there:(s1.heap.push (seqObj "list" vs.toArray 0)).get? s1.heap.objs.size=some (seqObj "list" vs.toArray 0):=Heap.get?_push_size _ rfl
 refine wpAny_bind (wpAny_holding (wpAny_call_entry slot_list_sort ⟨_,there,rfl⟩ entry_list_sort (list_sort_treeK strKind_oneLt there hS.keysOf (fun v₁ v₂ rest e=>keyKind_strs (by rw[←e];exact hS)) few fun st' pm so=>⟨_,rfl,?_⟩) (args_list_sort _)))
 obtain⟨ss',y1,y2,y3⟩:=sorted_out_str hS pm so
 obtain⟨c,hp⟩:=sortedHeap_at (out:=(arrOf st').map (·.2)) there
 refine wpAny_pure ⟨_,rfl,q _ _ ((arrOf st').map (·.2)).toList ss' c y1 y2 y3 (Nat.le_refl _) (fun b o e=>?_) (by rw[Array.toArray_toList];exact hp)⟩
 have lt:=Heap.lt_size e
 show Heap.get? _ b=some o
 rw[sortedHeap_old (Nat.ne_of_lt lt) (by rw[Heap.size_push];exact Nat.lt_succ_of_lt lt)]
 exact Heap.get?_push_of_some _ e
def Wx (S:Addr)(Q:List Value→Shared→Prop)(r:Result)(s':Shared):Prop:=∃acc c,r=.ok (.ret (.ref S))∧s'.heap.get? S=some { cls:=.type "list",dict:=none,data:=.seq acc c,slots:=#[] }∧Q acc.toList s'
theorem JG {x:Value} {Q:List Value→Shared→Prop} (h:wpAny (model prog w) A.in1 (Builtin.List.listExtendWith (.ref s.heap.objs.size) x (.ref s.heap.objs.size))
   (fun fin s'=>match fin with | .done f=>Wx s.heap.objs.size Q (.ok f) s' | .again c'=>c'.quiet=true∧codeAny (model prog w) A c' (Wx s.heap.objs.size Q) s') (fun e s'=>Wx s.heap.objs.size Q (.error e) s')
   { s with heap:=s.heap.push { cls:=.type "list",data:=.seq #[] } }):wpAny (model prog w) A (collect x) Q E s:=by
 unfold collect
 refine wpAny_bind (wpAny_runValue (codeAny_builtin PySem.F.entry_proto_collect ?_))
 rw[Around.under_plainId PySem.F.plain_proto_collect _]
 refine wpAny_bind (wpAny_newObj_type (wpAny_pure ⟨plainId_quiet PySem.F.plain_list_iadd _,codeAny_builtin PySem.F.entry_list_iadd ?_⟩))
 rw[Around.under_plainId PySem.F.plain_list_iadd _]
 refine wpAny_mono h (fun fin s' z=>?_) (fun e s' z=>?_)
 ·cases fin with
  |done f=>
   obtain⟨acc,c,e,hS,q⟩:=z
   cases e
   exact wpAny_bind (wpAny_load hS (wpAny_pure q))
  |again c'=>
   refine⟨z.1,codeAny_mono z.2 fun r s2 z2=>?_⟩
   obtain⟨acc,c,rfl,hS,q⟩:=z2
   exact wpAny_bind (wpAny_load hS (wpAny_pure q))
 ·obtain⟨acc,c,e,_⟩:=z
  cases e
theorem N4 {T:String} {r d:Addr} {n:Nat} {P:Nat→Value→Prop} {OK:Heap→Prop} {Q:List Value→Shared→Prop} (S:PySem.W.KdlSrc prog w T r d n P OK) (hh:A.handled=none) (ok:OK s.heap) (hn:n≤sizeLine)
  (q:∀h' tk (vs:List Value),(∀b o,s.heap.get? b=some o→h'.get? b=some o)→vs.length=n→(∀j v,vs[j]?=some v→P j v)→Q vs { s with heap:=h',toks:=tk }):wpAny (model prog w) A (collect (.ref r)) Q E s:=by
 obtain⟨lr,ld⟩:=S.there _ ok
 refine JG (PySem.W.kdl_extend S hh (S.keep _ _ ok fun b _ o e=>Heap.get?_push_of_some _ e) s.heap.objs.size (Nat.ne_of_gt lr) (Nat.ne_of_gt ld) (.ref s.heap.objs.size) 0 (Heap.get?_push_size _ rfl) (fun h' tk acc c k hS it=>?_) hn)
 refine⟨acc,c,rfl,hS,q h' tk acc.toList (fun b o e=>k b o (Nat.ne_of_lt (Heap.lt_size e)) (Heap.get?_push_of_some _ e)) (by rw[Array.length_toList];exact it.1) fun j v e=>it.2 j v (by rw[←Array.getElem?_toList];exact e)⟩
theorem Lu:Manifest.owners.lookup (String.ofList "rotareti_tes".toList.reverse)=some Manifest.sig_set_iterator:=by kernel_rfl
theorem EA:Slot "set_iterator" "__next__" "set_iterator.__next__":=
 .of (owner:="set_iterator") (n:="__next__") (by rw[typeLookup_type,builtinLookup_eq_fast];kernel_rfl) (by decide +kernel) (by decide +kernel) (by decide +kernel) (by first|exact .inl (by decide +kernel)|exact .inr (by decide +kernel)) (by rw[isSubtype_type];kernel_rfl)
theorem G4:entryFor table "set_iterator.__next__"=some Builtin.«set_iterator.__next__»:=entryFor_of_fast (by kernel_rfl)
theorem IH (a:Value):argsOk "set_iterator.__next__" ⟨[a],[]⟩:=by
 unfold argsOk
 rw[signature?_of (id:="set_iterator.__next__") (n:="__txen__".toList) (o:="rotareti_tes".toList) (by kernel_rfl) Lu]
 kernel_rfl
theorem Ky:entryFor table "set.__iter__"=some Builtin.«frozenset.__iter__»:=entryFor_alias (id':="frozenset.__iter__") (by kernel_rfl) rfl (by decide +kernel) (by kernel_rfl)
theorem Hu {it:Addr} {T id:String} {B:Builtin} {Q:Option Value→Shared→Prop} (slot:Slot T "__next__" id) (hT:s.TypeIs (.ref it) T) (entry:entryFor table id=some B) (args:argsOk id ⟨[.ref it],[]⟩)
  (h:wpAny (model prog w) A.in1 (B ⟨[.ref it],[]⟩) (fun fin s'=>∃v,fin=.done (.ret v)∧Q (some v) s') (fun _ _=>False) s):wpAny (model prog w) A (pyNext (.ref it)) Q E s:=by
 unfold pyNext
 refine wpAny_bind (wpAny_attempt (wpAny_callSpecial?_slot (name:=Str.ofString "__next__") hT slot (wpAny_call_entry slot hT entry (wpAny_mono h (fun fin s' z=>?_) fun _ _ z=>z.elim) args)))
 obtain⟨v,rfl,q⟩:=z
 exact⟨v,rfl,wpAny_pure q⟩
theorem HM {it:Addr} {T id:String} {B:Builtin} {Q:Option Value→Shared→Prop} (slot:Slot T "__next__" id) (hT:s.TypeIs (.ref it) T) (entry:entryFor table id=some B) (args:argsOk id ⟨[.ref it],[]⟩)
  (h:wpAny (model prog w) A.in1 (B ⟨[.ref it],[]⟩) (fun _ _=>False) (fun x s'=>∃a o,x=.ref a∧s'.heap.get? a=some o∧o.cls=.type "StopIteration"∧Q none s') s):wpAny (model prog w) A (pyNext (.ref it)) Q E s:=by
 unfold pyNext
 refine wpAny_bind (wpAny_attempt (wpAny_callSpecial?_slot (name:=Str.ofString "__next__") hT slot (wpAny_call_entry slot hT entry (wpAny_mono h (fun _ _ z=>z.elim) fun x s' z=>?_) args)))
 obtain⟨a,o,rfl,e,c,q⟩:=z
 exact wpAny_bind (wpAny_isInstance (T:="StopIteration") (b:=true) ⟨o,e,c⟩ isSubtype_stop (wpAny_pure q))
theorem Jr {α:Type} {Q:α→Shared→Prop} (hh:A.handled=none)
  (q:∀h' x,(∀b o,s.heap.get? b=some o→h'.get? b=some o)→(∃o,h'.get? x=some o∧o.cls=.type "StopIteration")→E (.ref x) { s with heap:=h' }) :
  wpAny (model prog w) A (newExc (.type "StopIteration") [] >>= raiseNew:Sem α) Q E s:=by
 refine wpAny_bind ?_
 simp only[newExc,newTuple]
 refine wpAny_bind (wpAny_newObj_type ?_ (by size_fits))
 refine wpAny_bind (m:=firstArgMember _ _) (wpAny_of_eq (a:=Value.none) (by simp only[firstArgMember];rfl) (wpAny_newObj_type ?_ (by size_fits)))
 unfold raiseNew
 refine wpAny_bind (wpAny_handled ?_)
 rw[hh]
 exact wpAny_throw (q _ _ (fun b o z=>Heap.get?_push_of_some _ (Heap.get?_push_of_some _ z)) ⟨_,Heap.get?_push_size _ rfl,rfl⟩)
theorem Hr:Slot "set_iterator" "__iter__" "set_iterator.__iter__":=
 .of (owner:="set_iterator") (n:="__iter__") (by rw[typeLookup_type,builtinLookup_eq_fast];kernel_rfl) (by decide +kernel) (by decide +kernel) (by decide +kernel) (by first|exact .inl (by decide +kernel)|exact .inr (by decide +kernel)) (by rw[isSubtype_type];kernel_rfl)
theorem La:entryFor table "set_iterator.__iter__"=some Builtin.«dict_keyiterator.__iter__»:=entryFor_alias (id':="dict_keyiterator.__iter__") (by kernel_rfl) rfl (by decide +kernel) (by kernel_rfl)
theorem Li (a:Value):argsOk "set_iterator.__iter__" ⟨[a],[]⟩:=by
 unfold argsOk
 rw[signature?_of (id:="set_iterator.__iter__") (n:="__reti__".toList) (o:="rotareti_tes".toList) (by kernel_rfl) Lu]
 kernel_rfl
def Fp (h:Heap)(a:Addr)(es:Array (Int×Value))(ep:Nat)(t:SetTable):Prop:=∃o,h.get? a=some o∧o.cls=.type "set"∧o.data=.set es ep t
def Ii (h:Heap)(it a:Addr)(first:Value)(i n ep:Nat):Prop:=∃o,h.get? it=some o∧o.cls=.type "set_iterator"∧o.data=.fields #[first,rawInt i,.ref a,rawInt n,rawInt ep]
theorem Fp.keep {h h':Heap}{a:Addr}{es:Array (Int×Value)}{ep:Nat}{t:SetTable}(x:Fp h a es ep t)(k:∀o,h.get? a=some o→h'.get? a=some o):Fp h' a es ep t:=let⟨o,e,r⟩:=x;⟨o,k o e,r⟩
theorem Ii.keep {h h':Heap}{it a:Addr}{f:Value}{i n ep:Nat}(x:Ii h it a f i n ep)(k:∀o,h.get? it=some o→h'.get? it=some o):Ii h' it a f i n ep:=let⟨o,e,r⟩:=x;⟨o,k o e,r⟩
theorem Ii.typeIs {it a:Addr}{f:Value}{i n ep:Nat}(x:Ii s.heap it a f i n ep):s.TypeIs (.ref it) "set_iterator":=let⟨o,e,c,_⟩:=x;⟨o,e,c⟩
theorem Ii.self {it a:Addr}{f:Value}{i n ep:Nat}{Q:Value→Shared→Prop}(x:Ii s.heap it a f i n ep)(q:Q (.ref it) s):wpAny (model prog w) A (pyIter (.ref it)) Q E s:=by
 refine wpAny_pyIter_slot x.typeIs Hr (wpAny_call_entry Hr x.typeIs La ?_ (Li _))
 exact wpAny_pure ⟨_,rfl,"set_iterator",_,x.typeIs,EA.lookup,q⟩
theorem DO {a:Addr}{es:Array (Int×Value)}{ep:Nat}{t:SetTable}{Q:Array (Int×Value)→Shared→Prop}(x:Fp s.heap a es ep t)(f:t.fits es.size=true)(q:Q es s):wpAny (model prog w) A (setEntries a) Q E s:=
 let⟨_,e,_,d⟩:=x;wpAny_setEntries_of e d f q
end
end L2
namespace L2
section
open PySem PySem.Calls PyProof.Rows
variable {prog:Program}{w:World}{A:Around}{E:Value→Shared→Prop}{s:Shared}
theorem DC {it:Addr} {vs:Array Value} {k:Nat} {x:Value} {Q:Unit→Shared→Prop} {o:Obj} (ho:s.heap.get? it=some o) (hc:o.cls=.type "set_iterator") (hd:o.data=.fields vs) (hk:k<vs.size)
  (q:∀h' o',h'.get? it=some o'→o'.cls=.type "set_iterator"→o'.data=.fields (vs.setIfInBounds k x)→(∀b o,b∉[it]→s.heap.get? b=some o→h'.get? b=some o)→Q () { s with heap:=h' }):wpAny (model prog w) A (setField (.ref it) k x) Q E s:=
 wpAny_setField ho hd hk (q _ _ (Heap.get?_update_self _ ho (Obj.isFreed_of_fields (Obj.data_mapFields hd _))) ((Obj.cls_mapFields ..).trans hc) (Obj.data_mapFields hd _) fun b o hb e=>(Heap.get?_update_other _ _ (fun z=>hb (by simp[z]))).trans e)
theorem L9 (hh:A.handled=none) (I a:Addr) (hne:a≠I) (xs:List Value) (sl:Nat→Nat) (es:Array (Int×Value)) (ep:Nat) (t:SetTable) (f:t.fits es.size=true) (hn:es.size=xs.length)
  (nx:∀(i:Nat) (A:Around) (E:Value→Shared→Prop) (s:Shared) (Q:Option (Value×Nat)→Shared→Prop),i≤xs.length→Fp s.heap a es ep t→Q (xs[i]?.map fun v=>(v,sl (i+1))) s→wpAny (model prog w) A (setNext a (sl i) i ep) Q E s) :
  Walks prog w A I [I,a] [I] xs.length (fun i v=>xs[i]?=some v) (fun i h=>Ii h I a (rawInt (sl i)) i xs.length ep∧Fp h a es ep t) where
 sub:=fun b z=>by simp at z;simp[z]
 frame:=fun _ _ _ st k=>⟨st.1.keep fun o e=>k I (by simp) o e,st.2.keep fun o e=>k a (by simp) o e⟩
 self:=fun _ _ _ _ st q=>st.1.self q
 item:=fun i s Q E hi st qq=>by
  refine Hu EA st.1.typeIs G4 (IH _) ?_
  obtain⟨o,ho,hc,hd⟩:=st.1
  unfold Builtin.«set_iterator.__next__»
  refine wpAny_bind (wpAny_pure ?_)
  dsimp only
  refine wpAny_bind (wpAny_fieldsOf ho hd ?_)
  refine wpAny_bind (m:=setEntries a) (DO st.2 f ?_)
  rw[if_neg (by rw[hn];simp)]
  refine wpAny_bind (m:=setNext a (sl i) i ep) (nx i _ _ _ _ (Nat.le_of_lt hi) st.2 ?_)
  obtain⟨v,hv⟩:∃v,xs[i]?=some v:=⟨xs[i],by simp[hi]⟩
  rw[hv]
  dsimp only[Option.map]
  refine wpAny_bind (DC ho hc hd (by simp) fun h1 o1 e1 c1 d1 k1=>?_)
  refine wpAny_bind (DC e1 c1 d1 (by simp) fun h2 o2 e2 c2 d2 k2=>?_)
  exact wpAny_pure ⟨v,rfl,qq v h2 s.toks hv ⟨⟨o2,e2,c2,d2⟩,st.2.keep fun o e=>k2 a o (by simp[hne]) (k1 a o (by simp[hne]) e)⟩ fun b o hb e=>k2 b o hb (k1 b o hb e)⟩
 done:=fun s Q E st hQ=>by
  refine HM EA st.1.typeIs G4 (IH _) ?_
  obtain⟨o,ho,hc,hd⟩:=st.1
  unfold Builtin.«set_iterator.__next__»
  refine wpAny_bind (wpAny_pure ?_)
  dsimp only
  refine wpAny_bind (wpAny_fieldsOf ho hd ?_)
  refine wpAny_bind (m:=setEntries a) (DO st.2 f ?_)
  rw[if_neg (by rw[hn];simp)]
  refine wpAny_bind (m:=setNext a (sl xs.length) xs.length ep) (nx xs.length _ _ _ _ (Nat.le_refl _) st.2 ?_)
  rw[List.getElem?_eq_none (Nat.le_refl _)]
  dsimp only[Option.map]
  refine wpAny_bind (DC ho hc hd (by simp) fun h1 o1 e1 c1 d1 k1=>?_)
  refine Jr hh fun h2 x k2 ⟨ox,ex,cx⟩=>⟨x,ox,rfl,ex,cx,hQ h2 s.toks fun b o hb e=>k2 b o (k1 b o hb e)⟩
def TupAt (h:Heap)(tp:Addr)(vs:List Value):Prop:=∃o n,h.get? tp=some o∧o.data=.seq vs.toArray n
theorem TupAt.keep {h h':Heap}{tp:Addr}{vs:List Value}(x:TupAt h tp vs)(k:∀o,h.get? tp=some o→h'.get? tp=some o):TupAt h' tp vs:=let⟨o,n,e,r⟩:=x;⟨o,n,k o e,r⟩
theorem P3 {a:Addr}{es:Array (Int×Value)}{ep p:Nat}{t:SetTable}{hx:Int}{v:Value}{Q:Value→Shared→Prop}(x:Fp s.heap a es ep t)(f:t.fits es.size=true)(e:es[p]?=some (hx,v))(q:Q v s):wpAny (model prog w) A (setNextDrawn a p ep) Q E s:=by
 obtain⟨o,eo,_,d⟩:=x
 unfold setNextDrawn
 refine wpAny_bind (wpAny_setState_of eo d f ?_)
 dsimp only
 rw[if_neg (by simp),e]
 exact wpAny_pure q
theorem Pw (hh:A.handled=none) (I a tp:Addr) (hne:a≠I) (hnt:tp≠I) (xs:List Value) (ps:List Nat) (es:Array (Int×Value)) (ep:Nat) (t:SetTable) (f:t.fits es.size=true) (hn:es.size=xs.length) (hp:ps.length=xs.length)
  (at_:∀(i p:Nat),ps[i]?=some p→∃hx v,es[p]?=some (hx,v)∧xs[i]?=some v) :
  Walks prog w A I [I,a,tp] [I] xs.length (fun i v=>xs[i]?=some v) (fun i h=>Ii h I a (.ref tp) i xs.length ep∧Fp h a es ep t∧TupAt h tp (ps.map fun(p:Nat)=>rawInt p)) where
 sub:=fun b z=>by simp at z;simp[z]
 frame:=fun _ _ _ st k=>⟨st.1.keep fun o e=>k I (by simp) o e,st.2.1.keep fun o e=>k a (by simp) o e,st.2.2.keep fun o e=>k tp (by simp) o e⟩
 self:=fun _ _ _ _ st q=>st.1.self q
 item:=fun i s Q E hi st qq=>by
  refine Hu EA st.1.typeIs G4 (IH _) ?_
  obtain⟨o,ho,hc,hd⟩:=st.1
  obtain⟨ot,nt,et,dt⟩:=st.2.2
  unfold Builtin.«set_iterator.__next__»
  refine wpAny_bind (wpAny_pure ?_)
  dsimp only
  refine wpAny_bind (wpAny_fieldsOf ho hd ?_)
  refine wpAny_bind (m:=setEntries a) (DO st.2.1 f ?_)
  rw[if_neg (by rw[hn];simp)]
  obtain⟨p,hpi⟩:∃p,ps[i]?=some p:=⟨ps[i]'(by omega),by simp[hp,hi]⟩
  obtain⟨hx,v,ev,xv⟩:=at_ i p hpi
  refine wpAny_bind (m:=seqItems? (.ref tp)) (wpAny_seqItems et dt ?_)
  have look:(ps.map fun(p:Nat)=>rawInt p).toArray[(i:Int).toNat]?=some (rawInt p):=by simp[hpi]
  dsimp only
  rw[look]
  refine wpAny_bind (m:=setNextDrawn a p ep) (P3 st.2.1 f ev ?_)
  refine wpAny_bind (DC ho hc hd (by simp) fun h1 o1 e1 c1 d1 k1=>?_)
  exact wpAny_pure ⟨v,rfl,qq v h1 s.toks xv ⟨⟨o1,e1,c1,d1⟩,st.2.1.keep fun o e=>k1 a o (by simp[hne]) e,st.2.2.keep fun o e=>k1 tp o (by simp[hnt]) e⟩ k1⟩
 done:=fun s Q E st hQ=>by
  refine HM EA st.1.typeIs G4 (IH _) ?_
  obtain⟨o,ho,hc,hd⟩:=st.1
  obtain⟨ot,nt,et,dt⟩:=st.2.2
  unfold Builtin.«set_iterator.__next__»
  refine wpAny_bind (wpAny_pure ?_)
  dsimp only
  refine wpAny_bind (wpAny_fieldsOf ho hd ?_)
  refine wpAny_bind (m:=setEntries a) (DO st.2.1 f ?_)
  rw[if_neg (by rw[hn];simp)]
  refine wpAny_bind (m:=seqItems? (.ref tp)) (wpAny_seqItems et dt ?_)
  have look:(ps.map fun(p:Nat)=>rawInt p).toArray[(xs.length:Int).toNat]?=none:=by simp[hp]
  dsimp only
  rw[look]
  refine wpAny_bind (DC ho hc hd (by simp) fun h1 o1 e1 c1 d1 k1=>?_)
  refine wpAny_bind (DC e1 c1 d1 (by simp) fun h2 o2 e2 c2 d2 k2=>?_)
  refine Jr hh fun h3 x k3 ⟨ox,ex,cx⟩=>⟨x,ox,rfl,ex,cx,hQ h3 s.toks fun b o hb e=>k3 b o (k2 b o hb (k1 b o hb e))⟩
theorem Qd {src:Source}{n:Nat}{Q:Nat→Shared→Prop}(h:n≠0)(q:∀i d,i<n→Q i { s with drawn:=d }):wpAny (model prog w) A (choose src n) Q E s:=by
 intro Γ p _
 unfold choose
 rw[Sem.wp_choose]
 exact⟨h,by rw[Sem.wp_pure];exact q _ _ (Nat.mod_lt _ (Nat.pos_of_ne_zero h))⟩
theorem K0 {α:Type}:∀{l:List α} {i:Nat} (h:i<l.length),(l[i]::l.eraseIdx i).Perm l
 |x::r,0,_=>List.Perm.refl _
 |x::r,i+1,h=>by
  have z:=K0 (l:=r) (i:=i) (by simpa using h)
  exact(List.Perm.swap ..).trans (List.Perm.cons x z)
theorem KL {α:Type}:∀(n:Nat) (xs:List α) (s:Shared) (Q:List α→Shared→Prop),n=xs.length→(∀ys d,ys.Perm xs→Q ys { s with drawn:=d })→wpAny (model prog w) A (drawOrder n xs) Q E s
 |0,xs,s,Q,h,q=>by
  have e:xs=[]:=List.length_eq_zero_iff.mp h.symm
  subst e
  exact wpAny_pure (q [] s.drawn (List.Perm.refl _))
 |n+1,[],s,Q,h,q=>nomatch h
 |n+1,x::r,s,Q,h,q=>by
  unfold drawOrder
  refine wpAny_bind (Qd (by simp) fun i d hi=>?_)
  rw[List.getElem?_eq_getElem hi]
  dsimp only
  refine wpAny_bind (KL n _ _ _ (by rw[List.length_eraseIdx_of_lt hi];simp at h ⊢;omega) fun ys d2 pm=>?_)
  exact wpAny_pure (q _ d2 ((List.Perm.cons _ pm).trans (K0 hi)))
theorem Qu {α:Type}(next:Nat→Nat):∀(fuel k:Nat) (left:List α) (out:Array α),fuel=left.length→(pickOrder.go next fuel k left out).toList.Perm (out.toList++left)
 |0,k,left,out,h=>by
  have e:left=[]:=List.length_eq_zero_iff.mp h.symm
  subst e
  unfold pickOrder.go
  rw[List.append_nil]
 |fuel+1,k,left,out,h=>by
  unfold pickOrder.go
  have hi:next k%left.length<left.length:=Nat.mod_lt _ (by omega)
  rw[List.getElem?_eq_getElem hi]
  dsimp only
  refine(Qu next fuel _ _ _ (by rw[List.length_eraseIdx_of_lt hi];omega)).trans ?_
  rw[Array.toList_push,List.append_assoc]
  exact List.Perm.append_left _ (K0 hi)
theorem L7 {α:Type}(next:Nat→Nat)(xs:Array α):(pickOrder next xs).toList.Perm xs.toList:=by
 unfold pickOrder
 exact Qu next _ _ _ _ (by simp)
def Bx (w:World):Bool:=w.params.followText "set-order"
theorem QY {a:Addr} {es:Array (Int×Value)} {ep i sl:Nat} {t:SetTable} {Q:Option (Value×Nat)→Shared→Prop} (bt:Bx w=true) (x:Fp s.heap a es ep t) (f:t.fits es.size=true)
  (q:Q (((pickOrder (w.params.setOrder a ep) es).toList.map (·.2))[i]?.map fun v=>(v,sl)) s):wpAny (model prog w) A (setNext a sl i ep) Q E s:=by
 obtain⟨o,eo,_,d⟩:=x
 unfold setNext setsByText setWalk setsByText
 refine wpAny_bind (wpAny_setState_of eo d f ?_)
 dsimp only
 simp only[bind_assoc,pure_bind]
 refine wpAny_bind (wpAny_askSetting ?_)
 refine wpAny_ite_split (fun _=>?_) (fun c=>absurd bt c)
 rw[if_neg (by simp)]
 refine wpAny_bind (wpAny_setState_of eo d f ?_)
 dsimp only
 refine wpAny_bind (wpAny_askSetting ?_)
 refine wpAny_bind (wpAny_ite_split (fun _=>?_) (fun c=>absurd bt c))
 refine wpAny_bind (wpAny_askSetting (wpAny_pure ?_))
 have e:((pickOrder (w.params.setOrder a ep) es).toList.map (·.2))[i]?=((pickOrder (w.params.setOrder a ep) es)[i]?).map (·.2):=by rw[List.getElem?_map,Array.getElem?_toList]
 rw[e,Option.map_map] at q
 exact wpAny_pure q
theorem Sx {es:Array (Int×Value)}{t:SetTable}(f:t.fits es.size=true):t.place.size=es.size:=by
 simp only[SetTable.fits,Bool.and_eq_true,beq_iff_eq] at f
 exact f.1
theorem Ub {a:Addr} {es:Array (Int×Value)} {ep i:Nat} {t:SetTable} {Q:Option (Value×Nat)→Shared→Prop} (bt:Bx w=false) (hl:t.led=true) (few:es.size≤1) (hi:i≤es.size) (x:Fp s.heap a es ep t) (f:t.fits es.size=true)
  (q:Q ((es.toList.map (·.2))[i]?.map fun v=>(v,if i+1=0 then 0 else t.place.getD 0 0+1)) s):wpAny (model prog w) A (setNext a (if i=0 then 0 else t.place.getD 0 0+1) i ep) Q E s:=by
 obtain⟨o,eo,_,d⟩:=x
 unfold setNext setsByText
 refine wpAny_bind (wpAny_setState_of eo d f ?_)
 dsimp only
 simp only[bind_assoc,pure_bind]
 refine wpAny_bind (wpAny_askSetting ?_)
 refine wpAny_ite_split (fun c=>absurd (bt.symm.trans c) (by decide)) (fun _=>?_)
 refine wpAny_ite_split (fun c=>absurd c ?_) (fun _=>?_)
 ·show ¬(!t.plain&&decide (es.size>1))=true
  rw[decide_eq_false (by omega)]
  simp
 refine wpAny_bind (?_:wpAny _ _ (if(!t.led && !es.isEmpty)=true then unsupported "set:maker-not-led" else pure ()) _ _ _)
 rw[hl,if_neg (by simp)]
 refine wpAny_pure (wpAny_pure ?_)
 have pz:=Sx f
 clear f hl d
 revert q
 generalize t.place=pl at pz
 obtain⟨l⟩:=es
 obtain⟨m⟩:=pl
 match l,m,few,pz,hi with
 |[],[],_,_,hi=>
  have e:i=0:=by simpa using hi
  subst e
  exact fun q=>q
 |[(hx,v)],[k],_,_,hi=>
  rcases(show i=0∨i=1 by simp at hi;omega) with rfl|rfl
  ·have b:SetTable.below #[k] (if 0=0 then 0 else(#[k]:Array Nat).getD 0 0+1)=0:=by simp[SetTable.below,SetTable.below.go]
   rw[b]
   exact fun q=>q
  ·have b:SetTable.below #[k] (if 1=0 then 0 else(#[k]:Array Nat).getD 0 0+1)=1:=by simp[SetTable.below,SetTable.below.go]
   rw[b]
   exact fun q=>q
 |_::_::_,_,few,_,_=>exact absurd few (by simp)
 |[],_::_,_,pz,_=>exact absurd pz (by simp)
 |[_],[],_,pz,_=>exact absurd pz (by simp)
 |[_],_::_::_,_,pz,_=>exact absurd pz (by simp)
theorem S1 {a:Addr} {es:Array (Int×Value)} {ep:Nat} {t:SetTable} {Q:Value→Shared→Prop} (x:Fp s.heap a es ep t) (f:t.fits es.size=true) (hl:t.led = !Bx w) (hp:es.size≠0→t.plain=false) (hb:es.size<scanBound)
  (q:∀h' d I fp (xs:List Value) St,(∀b o,s.heap.get? b=some o→h'.get? b=some o)→xs.Perm (es.toList.map (·.2))→(∀A:Around,A.handled=none→Walks prog w A I fp [I] xs.length (fun i v=>xs[i]?=some v) St)→St 0 h'→
   (∀b∈fp,b=a∨s.heap.get? b=none)→s.heap.get? I=none→Q (.ref I) { s with heap:=h',drawn:=d }):wpAny (model prog w) A (pyIter (.ref a)) Q E s:=by
 obtain⟨o,eo,co,dd⟩:=id x
 have hT:s.TypeIs (.ref a) "set":=⟨o,eo,co⟩
 have hlt:=Heap.lt_size eo
 refine wpAny_pyIter_slot hT PySem.F.slot_set_iter (wpAny_call_entry PySem.F.slot_set_iter hT Ky ?_ (PySem.F.args_set_iter_1 _))
 unfold Builtin.«frozenset.__iter__» Builtin.Frozenset.slot0 slotArgs
 simp only[bind_assoc,bne_self_eq_false,List.isEmpty_nil,List.length_nil,Bool.not_true,Bool.false_eq_true,↓reduceIte]
 refine wpAny_bind (wpAny_pure ?_)
 dsimp only
 refine wpAny_bind (m:=Builtin.Frozenset.addrOf (.ref a)) (wpAny_pure ?_)
 unfold Builtin.Frozenset.sizeOf
 simp only[bind_assoc,pure_bind]
 refine wpAny_bind (DO x f ?_)
 unfold setDrawn setsByText
 simp only[bind_assoc,pure_bind]
 refine wpAny_bind (wpAny_setState_of eo dd f ?_)
 dsimp only
 refine wpAny_bind (wpAny_askSetting ?_)
 change wpAny _ _ (if(!Bx w&&(!t.plain&&decide (es.size>1)))=true then _ else _) _ _ _
 refine wpAny_ite_split (fun c=>?_) (fun c=>?_)
 ·simp only[Bool.and_eq_true,Bool.not_eq_true',decide_eq_true_eq] at c
  refine wpAny_bind (KL es.size _ _ _ (by simp) fun ps d pm=>?_)
  refine wpAny_bind (wpAny_newTuple ?_ (by rw[List.length_map,pm.length_eq,List.length_range];exact fits_of_scanBound hb))
  refine wpAny_bind (wpAny_setEpoch_of (Heap.get?_push_of_some _ eo) dd f ?_)
  refine wpAny_bind (wpAny_newObj_type (wpAny_pure ⟨_,rfl,"set_iterator",_,⟨_,Heap.get?_push_size _ rfl,rfl⟩,EA.lookup,?_⟩))
  have rg:∀p∈ps,p<es.size:=fun p hp=>List.mem_range.mp (pm.mem_iff.mp hp)
  have ex:(List.range es.size).map (fun p=>(es[p]?.map (·.2)).getD .none)=es.toList.map (·.2):=by
   refine List.ext_getElem (by simp) fun i h1 h2=>?_
   have hi:i<es.size:=by simpa using h1
   simp[hi]
  have nt:s.heap.objs.size≠(s.heap.push { cls:=.type "tuple",data:=.seq (ps.map fun(i:Nat)=>rawInt i).toArray }).objs.size:=by rw[Heap.size_push];exact Nat.ne_of_lt (Nat.lt_succ_self _)
  have na:a≠(s.heap.push { cls:=.type "tuple",data:=.seq (ps.map fun(i:Nat)=>rawInt i).toArray }).objs.size:=by rw[Heap.size_push];exact Nat.ne_of_lt (Nat.lt_succ_of_lt hlt)
  have ln:es.size=(ps.map (fun p=>(es[p]?.map (·.2)).getD Value.none)).length:=by rw[List.length_map,pm.length_eq,List.length_range]
  have above:s.heap.get? (s.heap.push { cls:=.type "tuple",data:=.seq (ps.map fun(i:Nat)=>rawInt i).toArray }).objs.size=none:=by
   cases z:s.heap.get? _ with
   |none=>rfl
   |some o=>exact absurd (Heap.lt_size z) (by rw[Heap.size_push];exact Nat.not_lt.mpr (Nat.le_succ _))
  refine q _ d _ _ _ _ (fun b o e=>Heap.get?_push_of_some _ (Heap.get?_push_of_some _ e)) ((pm.map (fun p=>(es[p]?.map (·.2)).getD Value.none)).trans (by rw[ex])) (fun A hh=>Pw hh (s.heap.push { cls:=.type "tuple",data:=.seq (ps.map fun(i:Nat)=>rawInt i).toArray }).objs.size a s.heap.objs.size na nt _ ps es ep t f ln (by rw[List.length_map]) fun i p hi=>?_) ⟨⟨_,Heap.get?_push_size _ rfl,rfl,?_⟩,x.keep fun o e=>Heap.get?_push_of_some _ (Heap.get?_push_of_some _ e),⟨_,_,Heap.get?_push_of_some _ (Heap.get?_push_size _ rfl),rfl⟩⟩ (fun b hb=>?_) above
  ·have hp':=rg p (List.mem_of_getElem? hi)
   refine⟨es[p].1,es[p].2,by simp[hp'],?_⟩
   rw[List.getElem?_map,hi]
   simp[hp']
  ·rw[←ln];rfl
  ·simp only[List.mem_cons,List.not_mem_nil,or_false] at hb
   rcases hb with rfl|rfl|rfl
   ·exact .inr above
   ·exact .inl rfl
   ·exact .inr (Ie _)
 ·refine wpAny_bind (wpAny_setEpoch_of eo dd f ?_)
  refine wpAny_bind (wpAny_newObj_type (wpAny_pure ⟨_,rfl,"set_iterator",_,⟨_,Heap.get?_push_size _ rfl,rfl⟩,EA.lookup,?_⟩))
  have kk:∀b o,s.heap.get? b=some o→(s.heap.push { cls:=.type "set_iterator",data:=.fields [rawInt 0,rawInt 0,.ref a,rawInt es.size,rawInt ep].toArray }).get? b=some o:=fun b o e=>Heap.get?_push_of_some _ e
  have fresh:∀b∈[s.heap.objs.size,a],b=a∨s.heap.get? b=none:=fun b hb=>by
   simp only[List.mem_cons,List.not_mem_nil,or_false] at hb
   rcases hb with rfl|rfl
   ·exact .inr (Ie _)
   ·exact .inl rfl
  cases bt:Bx w with
  |true=>
   have ln:es.size=((pickOrder (w.params.setOrder a ep) es).toList.map (·.2)).length:=by rw[List.length_map,(L7 _ es).length_eq,Array.length_toList]
   refine q _ s.drawn s.heap.objs.size _ _ _ kk ((L7 _ es).map _) (fun A hh=>L9 hh s.heap.objs.size a (Nat.ne_of_lt hlt) ((pickOrder (w.params.setOrder a ep) es).toList.map (·.2)) (fun _=>0) es ep t f ln fun i A E s Q _ x q=>QY bt x f q) ⟨⟨_,Heap.get?_push_size _ rfl,rfl,?_⟩,x.keep fun o e=>kk a o e⟩ fresh (Ie _)
   rw[←ln];rfl
  |false=>
   have few:es.size≤1:=by
    rw[bt] at c
    by_cases z:es.size=0
    ·omega
    ·rw[hp z] at c
     simpa using c
   rw[bt] at hl
   refine q _ s.drawn s.heap.objs.size _ _ _ kk (List.Perm.refl _) (fun A hh=>L9 hh s.heap.objs.size a (Nat.ne_of_lt hlt) (es.toList.map (·.2)) (fun i=>if i=0 then 0 else t.place.getD 0 0+1) es ep t f (by simp) fun i A E s Q li x q=>Ub bt hl few (by simpa using li) x f q) ⟨⟨_,Heap.get?_push_size _ rfl,rfl,?_⟩,x.keep fun o e=>kk a o e⟩ fresh (Ie _)
   simp
theorem SK {a:Addr}{Q:Bool→Shared→Prop}(hT:s.TypeIs (.ref a) "set")(q:Q false s):wpAny (model prog w) A (Builtin.List.listLengthHint (.ref a)) Q E s:=by
 unfold Builtin.List.listLengthHint
 refine wpAny_bind (wpAny_specialOf hT PySem.F.slot_set_len.lookup ?_)
 generalize e0:("set.__len__":String)=d0
 wp_delta
 rw[show splitId d0=some ("set","__len__") from by subst e0;decide +kernel]
 subst e0
 refine wpAny_bind (wpAny_isInstance (T:="set") (b:=true) hT (by rw[isSubtype_type];kernel_rfl) ?_)
 refine wpAny_ite_split (fun c=>absurd c (by decide)) (fun _=>wpAny_ite_split (fun _=>?_) (fun c=>absurd (by decide +kernel) c))
 exact wpAny_bind (wpAny_typeOf hT (wpAny_pure q))
theorem O7 {xs:List Value}{acc:Array Value}(z:ItemsOf (fun i v=>xs[i]?=some v) acc xs.length):acc.toList=xs:=by
 refine List.ext_getElem? fun i=>?_
 rw[Array.getElem?_toList]
 cases e:acc[i]? with
 |some v=>exact(z.2 i v e).symm
 |none=>
  have:acc.size≤i:=by simpa using e
  rw[z.1] at this
  exact(List.getElem?_eq_none this).symm
theorem OG {a:Addr} {es:Array (Int×Value)} {ep:Nat} {t:SetTable} {Q:List Value→Shared→Prop} (hh:A.handled=none) (x:Fp s.heap a es ep t) (f:t.fits es.size=true) (hl:t.led = !Bx w) (hp:es.size≠0→t.plain=false) (hb:es.size<scanBound)
  (q:∀h' d tk (vs:List Value),(∀b o,s.heap.get? b=some o→h'.get? b=some o)→vs.Perm (es.toList.map (·.2))→Q vs { s with heap:=h',drawn:=d,toks:=tk }):wpAny (model prog w) A (collect (.ref a)) Q E s:=by
 refine JG ?_
 have x1:Fp (s.heap.push { cls:=.type "list",data:=.seq #[] }) a es ep t:=x.keep fun o e=>Heap.get?_push_of_some _ e
 have lt:a<s.heap.objs.size:=let⟨_,e,_⟩:=x;Heap.lt_size e
 unfold Builtin.List.listExtendWith
 have hT:Shared.TypeIs { s with heap:=s.heap.push { cls:=.type "list",data:=.seq #[] } } (.ref a) "set":=let⟨o,e,c,_⟩:=x1;⟨o,e,c⟩
 refine wpAny_bind (wpAny_typeOf hT ?_)
 have n1:Builtin.List.listSameRef (.ref s.heap.objs.size) (.ref a)=false:=by simp[Builtin.List.listSameRef,Nat.ne_of_gt lt]
 have n2:(Value.type "set" == Value.type "list")=false:=by decide
 have n3:(Value.type "set" == Value.type "tuple")=false:=by decide
 simp only[n1,n2,n3,Bool.or_false,Bool.false_eq_true,if_false]
 refine wpAny_bind (S1 x1 f hl hp hb fun h1 d I fp xs St k1 pm W st fr nI0=>?_)
 have hS1:h1.get? s.heap.objs.size=some { cls:=.type "list",data:=.seq #[] }:=k1 _ _ (Heap.get?_push_size _ rfl)
 have hSf:s.heap.objs.size∉fp:=fun hm=>by
  rcases fr _ hm with z|z
  ·exact absurd z (Nat.ne_of_gt lt)
  ·rw[show(s.heap.push { cls:=.type "list",data:=.seq #[] }).get? s.heap.objs.size=some { cls:=.type "list",data:=.seq #[] } from Heap.get?_push_size _ rfl] at z
   cases z
 have nI:∀b o,s.heap.get? b=some o→b∉s.heap.objs.size::[I]:=fun b o e hm=>by
  rcases List.mem_cons.mp hm with z|z
  ·exact absurd (Heap.lt_size e) (by rw[z];exact Nat.lt_irrefl _)
  ·rw[List.mem_singleton] at z
   subst z
   rw[Heap.get?_push_of_some _ e] at nI0
   cases nI0
 refine wpAny_bind (wpAny_holding (SK (let⟨o,e,c,_⟩:=x1;⟨o,k1 _ _ e,c⟩) ?_))
 refine wpAny_ite_split (fun _=>?_) (fun c=>absurd (by decide) c)
 refine wpAny_bind (wpAny_rule ?_)
 refine wpAny_bind ?_
 show wpAny _ _ (updateSeq s.heap.objs.size (·.push .none) >>= fun _=>updateSeq s.heap.objs.size (·.pop)) _ _ _
 refine wpAny_bind (wpAny_updateSeq hS1 rfl ?_)
 have hS2:=Heap.get?_update_self (Obj.mapSeq (·.push Value.none)) hS1 rfl
 refine wpAny_updateSeq (hz:=by seq_fits) hS2 rfl ?_
 have hS3:=Heap.get?_update_self (Obj.mapSeq (·.pop)) hS2 rfl
 have oth:∀b o,b≠s.heap.objs.size→h1.get? b=some o→((h1.update s.heap.objs.size (Obj.mapSeq (·.push Value.none))).update s.heap.objs.size (Obj.mapSeq (·.pop))).get? b=some o:=
  fun b o n e=>(Heap.get?_update_other _ _ (Ne.symm n)).trans ((Heap.get?_update_other _ _ (Ne.symm n)).trans e)
 refine wpAny_pure ⟨plainId_quiet PySem.F.plain_extend_loop _,codeAny_extend_loopS (W A.in1 hh).toS (by rw[pm.length_eq,List.length_map,Array.length_toList];exact fits_of_scanBound hb) s.heap.objs.size hSf (.ref s.heap.objs.size) xs.length 0 _ #[] _ rfl (Nat.zero_le _) ((W A hh).frame 0 _ _ st fun b hb o e=>oth b o (fun z=>hSf (z▸hb)) e) hS3 (ItemsOf.nil _) fun s' acc c hm hS' it=>?_⟩
 refine⟨acc,c,rfl,hS',?_⟩
 rw[O7 it,Moved.eq_with hm]
 exact q _ _ _ xs (fun b o e=>hm.heap b o (nI b o e) (oth b o (Nat.ne_of_lt (Heap.lt_size e)) (k1 b o (Heap.get?_push_of_some _ e)))) pm
end
end L2
namespace L2
section
open PySem PySem.Calls PyProof.Rows
variable {prog:Program}{w:World}{A:Around}{E:Value→Shared→Prop}{s:Shared}
theorem VA (t:SetTable)(es:Array (Int×Value))(h:Int)(x:Value):(layNew t es h x).2.1.led=t.led:=by
 unfold layNew
 split
 ·dsimp only[SetTable.put,SetTable.orStandIn]
  split<;>split<;>rfl
 ·rfl
theorem RT (t:SetTable)(es:Array (Int×Value))(n:Nat):(relayAll t es n).2.1.led=t.led:=by
 unfold relayAll
 split
 ·rename_i t' order e
  unfold SetTable.relaid SetTable.laid at e
  cases z:SetTable.layClean (SetTable.sizeAbove n-1) (es.map (·.1)) with
  |none=>rw[z] at e;cases e
  |some ow=>
   rw[z] at e
   injection e with e
   injection e with e1 e2
   dsimp only
   split
   ·rw[←e1]
   ·rfl
 ·rfl
theorem OT (t:SetTable)(es:Array (Int×Value))(n:Nat)(p:t.plain=false):(relayAll t es n).2.1.plain=false:=by
 unfold relayAll
 split
 ·rename_i t' order e
  unfold SetTable.relaid SetTable.laid at e
  cases z:SetTable.layClean (SetTable.sizeAbove n-1) (es.map (·.1)) with
  |none=>rw[z] at e;cases e
  |some ow=>
   rw[z] at e
   injection e with e
   injection e with e1 e2
   dsimp only
   split
   ·rw[←e1];exact p
   ·rfl
 ·rfl
def DS (prog:Program)(w:World)(h:Heap)(a:Addr)(ks:List Str):Prop:=∃o es ep t ss,h.get? a=some o∧o.ExactSet∧o.data=.set es ep t∧ElemsOf (PySem.strKind prog w) es.toList∧t.fits es.size=true∧t.led=(!Bx w)∧(es.size≠0→t.plain=false)∧
 StrsAre (es.toList.map (·.2)) ss∧ss.Perm ks
theorem Wp {k:Str}{v:Value}(h:Value.isStrOf k v=true):∃t,v=.str k t:=Value.isStrOf_shape h
theorem VH (led:Bool)(hl:led = !Bx w){h:Heap}{a:Addr}(e:h.get? a=some { cls:=.type "set",dict:=none,data:=.set #[] 0 (.fresh 0 0 led) }):DS prog w h a []:=
 ⟨_,#[],0,_,[],e,⟨rfl,rfl,rfl⟩,rfl,fun e he=>by simp at he,by rfl,hl,fun z=>absurd rfl z,.nil,List.Perm.refl _⟩
theorem IS {vs us:List Value}{ss:List Str}(h:StrsAre vs ss)(p:us.Perm vs):∃ts,StrsAre us ts∧ts.Perm ss:=by
 refine⟨us.map strOf,strsAre_map us fun v hv=>h.all v (p.mem_iff.mp hv),?_⟩
 have:=p.map strOf
 rw[h.strs] at this
 exact this
theorem Ol:∀{vs us:List Value} {ss ts:List Str},StrsAre vs ss→StrsAre us ts→StrsAre (vs++us) (ss++ts)
 |_,_,_,_,.nil,h=>h
 |_,_,_,_,.cons x t g,h=>.cons x t (Ol g h)
theorem NF {es:Array (Int×Value)}{ss:List Str}{k:Str}(hs:StrsAre (es.toList.map (·.2)) ss):k∈ss↔∃e∈es.toList,Value.isStrOf k e.2=true:=by
 rw[←hs.strs,List.mem_map]
 constructor
 ·rintro⟨v,hv,rfl⟩
  obtain⟨e,he,rfl⟩:=List.mem_map.mp hv
  obtain⟨x,t,ex⟩:=hs.all _ hv
  refine⟨e,he,?_⟩
  rw[ex]
  simp[Value.isStrOf,strOf]
 ·rintro⟨e,he,hk⟩
  obtain⟨t,ex⟩:=Wp hk
  exact⟨e.2,List.mem_map.mpr ⟨e,he,rfl⟩,by rw[ex];rfl⟩
theorem On {g:Bool→Sem Unit} (hg:∀(b:Bool) (s₁:Shared) (Q':Unit→Shared→Prop),Q' () s₁→wpAny (model prog w) A (g b) Q' E s₁) {a:Addr} {o:Obj} {es es1:Array (Int×Value)} {ep:Nat} {t t2:SetTable} {wd:Bool} {R:Option Bool→Shared→Prop}
  (ho:s.heap.get? a=some o) (hd:o.data=.set es ep t) (hb:es1.size<scanBound) (hf:t2.fits es1.size=true) (hp:t2.plain=false)
  (q:∀h' es' ep' t',Heap.SameBut a s.heap h'→h'.get? a=some { o with data:=.set es' ep' t' }→es'.toList.Perm es1.toList→t'.fits es'.size=true→t'.led=t2.led→t'.plain=false→R (some true) { s with heap:=h' }) :
  wpAny (model prog w) A (storeSet a es1 t2 >>= fun _=>if(!wd&&t2.tooFull)=true then g (relayAll t2 es1 (SetTable.grown es1.size)).2.2 >>= fun _=>storeSet a (relayAll t2 es1 (SetTable.grown es1.size)).1 (relayAll t2 es1 (SetTable.grown es1.size)).2.1 >>= fun _=>pure (some true) else pure (some true)) R E s:=by
 have put:∀(h:Heap) (o:Obj) (es ep t es' t'),h.get? a=some o→o.data=.set es ep t→(h.update a (Obj.putSet es' t')).get? a=some { o with data:=.set es' (ep+1) t' }:=fun h o es ep t es' t' e d=>by
  have z:=Heap.get?_update_self (Obj.putSet es' t') e (by rw[putSet_of es' t' d];rfl)
  rw[putSet_of es' t' d] at z
  exact z
 refine wpAny_bind (wpAny_storeSet_of ho hd ?_ (fits_of_scanBound hb))
 have h1:=put s.heap o es ep t es1 t2 ho hd
 refine wpAny_ite_split (fun _=>?_) (fun _=>wpAny_pure (q _ es1 (ep+1) t2 (Heap.SameBut.update ..) h1 (List.Perm.refl _) hf rfl hp))
 have pm:=relayAll_perm t2 es1 (SetTable.grown es1.size)
 have sz:(relayAll t2 es1 (SetTable.grown es1.size)).1.size=es1.size:=by rw[←Array.length_toList,pm.length_eq,Array.length_toList]
 refine wpAny_bind (hg _ _ _ (wpAny_bind (wpAny_storeSet_of h1 rfl ?_ (fits_of_scanBound (by rw[sz];exact hb)))))
 exact wpAny_pure (q _ _ (ep+1+1) _ ((Heap.SameBut.update ..).trans (Heap.SameBut.update ..)) (put _ { o with data:=.set es1 (ep+1) t2 } es1 (ep+1) t2 _ _ h1 rfl) pm (relayAll_fits ..) (RT ..) (OT _ _ _ hp))
theorem NO {a:Addr} {ks:List Str} {k:Str} {tk:Tok} {Q:Bool→Shared→Prop} (S:DS prog w s.heap a ks) (room:ks.length+1<scanBound)
  (q:∀b h',Heap.SameBut a s.heap h'→DS prog w h' a (if k∈ks then ks else ks++[k])→Q b { s with heap:=h',toks:=s.toks+1 }):wpAny (model prog w) A (setAdd a (.str k tk)) Q E s:=by
 obtain⟨o,es,ep,t,ss,ho,hex,hd,hel0,hf,hl,hp,hs,pm⟩:=S
 have hel:ElemsOf (PySem.strKind prog w) es.toList:=hel0
 have hkey:(PySem.strKind prog w).is k (.str k tk)=true:=by show Value.isStrOf k (.str k tk)=true;simp[Value.isStrOf]
 have ln:es.size=ks.length:=by rw[←pm.length_eq,←hs.length,List.length_map,Array.length_toList]
 have hb:es.size<scanBound:=by omega
 unfold setAdd
 refine wpAny_holding (wpAny_bind ((PySem.strKind prog w).pyHash hkey ?_))
 unfold setAddHashed
 unfold setAddHashedIn
 refine wpAny_holding (wpAny_bind (wpAny_setState_of (s:={ s with toks:=s.toks+1 }) ho hd hf ?_))
 dsimp only
 rw[byScan_of rfl hb hel]
 simp only[↓reduceIte]
 unfold setAddByScan
 refine wpAny_bind (wpAny_bind (wpAny_rule (wpAny_bind (wpAny_setScan_of hkey ho hd hf hel ?_))))
 cases hr:List.findIdx? (fun e=>(PySem.strKind prog w).is k e.2) es.toList with
 |some j=>
  dsimp only
  obtain⟨hj,hpj,_⟩:=List.findIdx?_eq_some_iff_getElem.mp hr
  have hm:k∈ks:=pm.mem_iff.mp ((NF hs).mpr ⟨_,List.getElem_mem hj,hpj⟩)
  refine wpAny_pure (wpAny_pure (q false s.heap (Heap.SameBut.refl a s.heap) ?_))
  rw[if_pos hm]
  exact⟨o,es,ep,t,ss,ho,hex,hd,hel,hf,hl,hp,hs,pm⟩
 |none=>
  dsimp only
  have hm:k∉ks:=fun z=>by
   obtain⟨e,he,hk⟩:=(NF hs).mp (pm.mem_iff.mpr z)
   have:=List.findIdx?_eq_none_iff.mp hr e he
   exact absurd (hk.symm.trans this) (by decide)
  rw[if_neg hm] at q
  have gw:∀(b:Bool) (s₁:Shared) (Q':Unit→Shared→Prop),Q' () s₁→wpAny (model prog w) A (match b with|true=>rule "set.scan.the-table-gave-way"|false=>pure ()) Q' E s₁:=fun b s₁ Q' hq=>by
   cases b
   ·exact wpAny_pure hq
   ·exact wpAny_rule hq
  have lp:=layNew_perm t es ((PySem.strKind prog w).hash k) (.str k tk)
  have lf:=layNew_fits t es ((PySem.strKind prog w).hash k) (.str k tk)
  have ll:=VA t es ((PySem.strKind prog w).hash k) (.str k tk)
  generalize layNew t es ((PySem.strKind prog w).hash k) (.str k tk)=L at lp lf ll
  obtain⟨es1,t1,wd,gave⟩:=L
  dsimp only at lp lf ll ⊢
  rw[Array.toList_push] at lp
  have hel1:ElemsOf (PySem.strKind prog w) es1.toList:=(hel.push hkey rfl).perm lp
  have sz1:es1.size=es.size+1:=by rw[←Array.length_toList,lp.length_eq,List.length_append,Array.length_toList];rfl
  have str1:∃ts,StrsAre (es1.toList.map (·.2)) ts∧ts.Perm (ks++[k]):=by
   have h0:StrsAre ((es.toList++[((PySem.strKind prog w).hash k,Value.str k tk)]).map (·.2)) (ss++[k]):=by
    rw[List.map_append]
    exact Ol hs (.cons k tk .nil)
   obtain⟨ts,y1,y2⟩:=IS h0 (lp.map (·.2))
   exact⟨ts,y1,y2.trans (pm.append_right _)⟩
  have fin:∀h' es' ep' t',Heap.SameBut a s.heap h'→h'.get? a=some { o with data:=.set es' ep' t' }→es'.toList.Perm es1.toList→t'.fits es'.size=true→t'.led=t.led→t'.plain=false→DS prog w h' a (ks++[k]):=fun h' es' ep' t' _ e pe fe le pl=>by
   obtain⟨ts,y1,y2⟩:=str1
   obtain⟨us,z1,z2⟩:=IS y1 (pe.map (·.2))
   exact⟨_,es',ep',t',us,e,hex,rfl,hel1.perm pe,fe,le.trans hl,fun _=>pl,z1,z2.trans y2⟩
  refine wpAny_bind (gw _ _ _ ?_)
  refine wpAny_ite_split (fun c=>?_) (fun c=>?_)
  ·rw[hashByValue_scannable 8 rfl]
   refine wpAny_bind (wpAny_pure ?_)
   refine On gw ho hd (by rw[sz1,ln];exact room) (SetTable.fits_plain_off lf) rfl fun h' es' ep' t' sb e pe fe le pl=>wpAny_pure (q true h' sb (fin h' es' ep' t' sb e pe fe (le.trans ll) pl))
  ·refine wpAny_bind (wpAny_pure ?_)
   have pl1:t1.plain=false:=by simpa using c
   refine On gw ho hd (by rw[sz1,ln];exact room) lf pl1 fun h' es' ep' t' sb e pe fe le pl=>wpAny_pure (q true h' sb (fin h' es' ep' t' sb e pe fe (le.trans ll) pl))
def D1 (ss:List Str):List Str:=ss.foldl (fun ks k=>if k∈ks then ks else ks++[k]) []
theorem NP (ss:List Str):(D1 ss).length≤ss.length:=by
 have z:∀(l ks:List Str),(l.foldl (fun ks k=>if k∈ks then ks else ks++[k]) ks).length≤ks.length+l.length:=fun l=>by
  induction l with
  |nil=>intro ks;exact Nat.le_refl _
  |cons k r ih=>
   intro ks
   refine Nat.le_trans (ih _) ?_
   rw[List.length_cons]
   dsimp only
   split
   ·omega
   ·rw[List.length_append,List.length_singleton];omega
 have:=z ss []
 rw[List.length_nil,Nat.zero_add] at this
 exact this
theorem RM {ss:List Str}{i:Nat}{k:Str}(h:ss[i]?=some k):D1 (ss.take (i+1))=if k∈D1 (ss.take i) then D1 (ss.take i) else D1 (ss.take i)++[k]:=by
 have e:ss.take (i+1)=ss.take i++[k]:=by rw[List.take_add_one,h];rfl
 unfold D1
 rw[e,List.foldl_append]
 rfl
theorem DS.keep {h h':Heap}{a:Addr}{ks:List Str}(S:DS prog w h a ks)(k:∀o,h.get? a=some o→h'.get? a=some o):DS prog w h' a ks:=let⟨o,es,ep,t,ss,e,r⟩:=S;⟨o,es,ep,t,ss,k o e,r⟩
theorem Qt:∀{vs:List Value} {ss:List Str},StrsAre vs ss→∀(i:Nat) (v:Value),vs[i]?=some v→∃k t,v=.str k t∧ss[i]?=some k
 |_,_,.nil,i,v,h=>by simp at h
 |_,_,.cons x t r,0,v,h=>⟨x,t,by simpa using h.symm,rfl⟩
 |_,_,.cons x t r,i+1,v,h=>Qt r i v h
theorem RQ {R:Result→Shared→Prop}{I S:Addr}{fp:List Addr}{vs:List Value}{ss:List Str}{St:Nat→Heap→Prop}(W:Walks prog w A.in1 I fp [I] vs.length (fun i v=>vs[i]?=some v) St)(nS:S∉fp)(hs:StrsAre vs ss)(hb:vs.length+1<scanBound) :
  ∀(k i:Nat) (s:Shared),vs.length-i=k→i≤vs.length→St i s.heap→DS prog w s.heap S (D1 (ss.take i))→
   (∀h' tk,(∀b o,b∉[S,I]→s.heap.get? b=some o→h'.get? b=some o)→DS prog w h' S (D1 ss)→R (.ok (.ret .none)) { s with heap:=h',toks:=tk })→codeAny (model prog w) A (.builtin "set.update.loop" ⟨[.ref S,.ref I],[]⟩) R s:=by
 have nI:S∉[I]:=fun z=>nS (W.sub _ z)
 have ln:vs.length=ss.length:=hs.length
 intro k
 induction k with
 |zero=>
  intro i s hk hi st T q
  have e:i=vs.length:=by omega
  subst e
  refine codeAny_builtin PyProof.Rows.F.entry_set_update_loop ?_
  rw[Around.under_plainId PyProof.Rows.F.plain_set_update_loop _]
  refine wpAny_bind (m:=pyNext (.ref I)) (W.done s _ _ st fun h' tk k'=>?_)
  rw[ln,List.take_length] at T
  exact wpAny_pure (q h' tk (fun b o n e=>k' b o (fun z=>n (List.mem_cons_of_mem _ z)) e) (T.keep fun o e=>k' S o nI e))
 |succ k ih=>
  intro i s hk hi st T q
  have lt:i<vs.length:=by omega
  refine codeAny_builtin PyProof.Rows.F.entry_set_update_loop ?_
  rw[Around.under_plainId PyProof.Rows.F.plain_set_update_loop _]
  refine wpAny_bind (m:=pyNext (.ref I)) (W.item i s _ _ lt st fun v h' tk hv st' k'=>?_)
  obtain⟨x,t,rfl,hx⟩:=Qt hs i v hv
  refine wpAny_bind (m:=holding [Value.str x t] (setAdd S (.str x t))) (wpAny_holding (NO (T.keep fun o e=>k' S o nI e) ?_ fun b h2 sb T2=>?_))
  ·have:=NP (ss.take i)
   rw[List.length_take] at this
   omega
  rw[←RM hx] at T2
  refine wpAny_pure ⟨plainId_quiet PyProof.Rows.F.plain_set_update_loop _,ih (i+1) _ (by omega) lt (W.frame _ _ _ st' fun b hb o e=>?_) T2 fun h3 tk3 k3 T3=>?_⟩
  ·rw[sb.2 b (fun z=>nS (z▸hb))];exact e
  ·refine q h3 tk3 (fun b o n e=>k3 b o n ?_) T3
   rw[sb.2 b (fun z=>n (by simp[z]))]
   exact k' b o (fun z=>n (List.mem_cons_of_mem _ z)) e
theorem R6 (x:Value){Q₁:Value→Shared→Prop}(q:Q₁ (.ref s.heap.objs.size) { s with heap:=s.heap.push { cls:=.type "set",dict:=none,data:=.set #[] 0 (.fresh 0 0 (!Bx w)) } }) :
  codeAny (model prog w) A (.call (.builtin "set.__new__") ⟨[.type "set",x],[]⟩) (wants Q₁ E) s:=by
 refine codeAny_of_tree ?_
 refine wpAny_bind (m:=checkBuiltinCall "set.__new__" ⟨[.type "set",x],[]⟩) (wpAny_of_eq (PySem.F.newCall_set_1 x) (wpAny_pure ⟨plainId_quiet PySem.F.plain_set_new _,codeAny_builtin PySem.F.entry_set_new ?_⟩))
 rw[Around.under_plainId PySem.F.plain_set_new _]
 unfold Builtin.«set.__new__»
 unfold Builtin.Frozenset.newClass
 have hsub:=sub_set_self
 obtain⟨hp,g,d,tk,os⟩:=s
 dsimp only
 wp_walk
 refine wpAny_askSetting (wpAny_pure ?_)
 dsimp only
 simp only[newObj]
 exact wpAny_bind (wpAny_alloc (wpAny_pure (wpAny_pure q)))
end
end L2
namespace L2
section
open PySem PySem.Calls PyProof.Rows
variable {prog:Program}{w:World}{A:Around}{E:Value→Shared→Prop}{s:Shared}
theorem Ut {lq:Addr} {vs:List Value} {ss:List Str} {Q:Value→Shared→Prop} (hh:A.handled=none) (hl:s.heap.IsList lq vs.toArray) (hs:StrsAre vs ss) (hb:vs.length+1<scanBound)
  (q:∀h' tk,(∀b o,s.heap.get? b=some o→h'.get? b=some o)→DS prog w h' s.heap.objs.size (D1 ss)→Q (.ref s.heap.objs.size) { s with heap:=h',toks:=tk }):wpAny (model prog w) A (call (.type "set") [.ref lq]) Q E s:=by
 obtain⟨c,tl,hmro⟩:=PySem.F.called_set.mro
 have hmade:=PySem.F.called_set.made
 have hsub:=PySem.F.called_set.sub
 refine wpAny_call (codeAny_of_tree (wpAny_pure ⟨Code.quiet_builtin _ (by decide +kernel),codeAny_builtin PySem.F.entry_type_call ?_⟩))
 rw[Around.under_plain (weight_type_call_type "set" [.ref lq] []) rfl]
 have h1:=PySem.F.called_set.notType
 have h2:=PySem.F.called_set.canCreate
 have hct:=PySem.F.typeCall_set_1 (.ref lq)
 repeat (any_goals (first|assumption|wp_step))
 refine codeAny_mono (R6 (.ref lq) (E:=E) (Q₁:=fun obj s₁=>obj=.ref s.heap.objs.size∧s₁={ s with heap:=s.heap.push { cls:=.type "set",dict:=none,data:=.set #[] 0 (.fresh 0 0 (!Bx w)) } }) ⟨rfl,rfl⟩) fun r s₁ hr=>?_
 match r,hr with
 | .error e,hr=>exact hr
 | .ok (.ret obj),hr=>
  obtain⟨rfl,rfl⟩:=hr
  have hS:(s.heap.push { cls:=.type "set",dict:=none,data:=.set #[] 0 (.fresh 0 0 (!Bx w)) }).get? s.heap.objs.size=some { cls:=.type "set",dict:=none,data:=.set #[] 0 (.fresh 0 0 (!Bx w)) }:=Heap.get?_push_size _ rfl
  have hT:Shared.TypeIs { s with heap:=s.heap.push { cls:=.type "set",dict:=none,data:=.set #[] 0 (.fresh 0 0 (!Bx w)) } } (.ref s.heap.objs.size) "set":=⟨_,hS,rfl⟩
  have hli:=PySem.F.called_set.init.lookup
  have hbi:=PySem.F.called_set.init.bind (.ref s.heap.objs.size)
  repeat (any_goals (first|assumption|wp_step))
  refine codeAny_mono (codeAny_call_builtin (R:=wants (fun r s₂=>r=.none∧∃h' tk,s₂={ s with heap:=h',toks:=tk }∧(∀b o,s.heap.get? b=some o→h'.get? b=some o)∧DS prog w h' s.heap.objs.size (D1 ss)) E) PySem.F.called_set.init.plain PySem.F.entry_set_init (check_set_init_1 hT ?_)) fun r₂ s₂ hr₂=>?_
  ·obtain⟨⟨cl,dl,tl,sl⟩,el,hcl,nl,hdl⟩:=hl
   simp only at hcl hdl
   subst hcl;subst hdl
   have el':=Heap.get?_push_of_some ({ cls:=.type "set",dict:=none,data:=.set #[] 0 (.fresh 0 0 (!Bx w)) }:Obj) el
   have lt:lq<s.heap.objs.size:=Heap.lt_size el
   have l1:(s.heap.push { cls:=.type "set",dict:=none,data:=.set #[] 0 (.fresh 0 0 (!Bx w)) }).IsList lq vs.toArray:=⟨_,el',rfl,nl,rfl⟩
   have n1:=PySem.F.sub_list_set
   have n2:=PySem.F.sub_list_frozenset
   have n3:(Value.type "list" == Value.type "dict")=false:=by decide
   unfold Builtin.«set.__init__» Builtin.Frozenset.updateFrom noKeywords
   generalize ePI:pyIter=PI
   wp_walk
   subst ePI
   refine wpAny_pyIter_list l1 (wpAny_bind (wpAny_runValue ?_))
   have nI:lq≠(s.heap.push { cls:=.type "set",dict:=none,data:=.set #[] 0 (.fresh 0 0 (!Bx w)) }).objs.size:=by rw[Heap.size_push];exact Nat.ne_of_lt (Nat.lt_succ_of_lt lt)
   have nS:s.heap.objs.size∉[(s.heap.push { cls:=.type "set",dict:=none,data:=.set #[] 0 (.fresh 0 0 (!Bx w)) }).objs.size,lq]:=by
    rw[Heap.size_push]
    simp only[List.mem_cons,List.not_mem_nil,or_false,not_or]
    exact⟨Nat.ne_of_lt (Nat.lt_succ_self _),Nat.ne_of_gt lt⟩
   have hA:A.in1.in1.in1.handled=none:=by simp[hh]
   have W:=Walks.list (prog:=prog) (w:=w) hA (s.heap.push { cls:=.type "set",dict:=none,data:=.set #[] 0 (.fresh 0 0 (!Bx w)) }).objs.size lq nI vs.toArray
   have W2:Walks prog w A.in1.in1.in1 (s.heap.push { cls:=.type "set",dict:=none,data:=.set #[] 0 (.fresh 0 0 (!Bx w)) }).objs.size [(s.heap.push { cls:=.type "set",dict:=none,data:=.set #[] 0 (.fresh 0 0 (!Bx w)) }).objs.size,lq] [(s.heap.push { cls:=.type "set",dict:=none,data:=.set #[] 0 (.fresh 0 0 (!Bx w)) }).objs.size] vs.length (fun i v=>vs[i]?=some v) (fun i h=>h.IsListIter (s.heap.push { cls:=.type "set",dict:=none,data:=.set #[] 0 (.fresh 0 0 (!Bx w)) }).objs.size lq i∧h.IsList lq vs.toArray):=by
    simpa only [List.size_toArray,List.getElem?_toArray] using W
   refine RQ W2 nS hs hb vs.length 0 _ (by omega) (Nat.zero_le _) ⟨⟨_,Heap.get?_push_size _ rfl,rfl,rfl⟩,l1.push _⟩ (VH (!Bx w) rfl (Heap.get?_push_of_some _ hS)) fun h' tk k' T=>?_
   refine wpAny_pure (wpAny_pure ⟨rfl,h',tk,rfl,fun b o e=>k' b o (fun z=>?_) (Heap.get?_push_of_some _ (Heap.get?_push_of_some _ e)),T⟩)
   have lb:=Heap.lt_size e
   rw[Heap.size_push] at z
   simp only[List.mem_cons,List.not_mem_nil,or_false] at z
   rcases z with rfl|rfl
   ·exact absurd lb (Nat.lt_irrefl _)
   ·exact absurd lb (Nat.not_lt.mpr (Nat.le_succ _))
  ·match r₂,hr₂ with
   | .error e,hr₂=>exact hr₂
   | .ok (.ret r),hr₂=>
    obtain⟨rfl,h',tk,rfl,k',T⟩:=hr₂
    repeat (any_goals (first|assumption|wp_step))
    exact q _ _ k' T
   | .ok .next,hr₂=>exact hr₂.elim
end
end L2
namespace L2
section
open PySem PySem.Calls PyProof.Rows
variable {X:Cx}{pins:List (Addr×Obj)}{σ:St}{H:Hp}{s:Shared}
theorem Inv.drew {d':Drawn}(I:Inv X pins σ H s):Inv X pins σ H { s with drawn:=d' }:=⟨I.ok,I.os,I.bare,I.base,I.loc,I.cell,I.free,I.freeC,I.pin,I.hok,I.len⟩
theorem Iz:∀{ss:List Str} {its:List Value},AC (ss.map V.str) its→StrsAre its ss
 |[],_,.nil=>.nil
 |x::r,_,.cons h t=>by
  obtain⟨k,rfl⟩:=h
  exact .cons x k (Iz t)
theorem HZ:∀{ss:List Str} {its:List Value},StrsAre its ss→AC (ss.map V.str) its
 |_,_,.nil=>.nil
 |_,_,.cons x t h=>.cons ⟨t,rfl⟩ (HZ h)
theorem Qo:∀{us:List Value} {ss:List Str},us.length=ss.length→(∀(j:Nat) (v:Value),us[j]?=some v→∃k t,v=.str k t∧ss[j]?=some k)→StrsAre us ss
 |[],[],_,_=>.nil
 |[],_::_,h,_=>nomatch h
 |_::_,[],h,_=>nomatch h
 |u::us,k::ss,h,f=>by
  obtain⟨k',t,rfl,e⟩:=f 0 u rfl
  cases e
  exact .cons _ t (Qo (Nat.succ.inj h) fun j v e=>f (j+1) v e)
theorem Qi:∀{kvs:List (Key×V)} {vs:List (Key×Value)},KV kvs vs→vs.map (·.1)=kvs.map (·.1)
 |_,_,.nil=>rfl
 |_,_,.cons h t=>by rw[List.map_cons,List.map_cons,Qi t,h.1]
def Uh (P:Program)(w:World)(p:Addr)(ks:List Str):HO:=.ext fun h=>DS P w h p ks
def Xx (P:Program)(w:World)(K:PySem.W.Frag):List V→Hp→VK→Prop:=fun xs H Q=>∃(a:Addr) (ss:List Str),xs=[.ref a]∧AM K H a (ss.map V.str)∧ss.length≤1000∧∀p,H p=none→Q (.ref p) (upd H p (Uh P w p (D1 ss)))
theorem RL {P:Program}{w:World}{K:PySem.W.Frag}(hP:X.prog=P)(hw:X.w=w)(hK:X.K=K)(hc:X.calm=true):DN X (.type "set") (Xx P w K):=by
 subst hP hw hK
 intro pins s σ H xs us Q I r h
 obtain⟨a,ss,rfl,h1,few,q⟩:=h
 obtain⟨u,rfl,ru⟩:=vals1 r
 cases ru
 obtain⟨its,r1,p1,_⟩:=I.list h1
 have hs:=Iz r1
 have ln:=hs.length
 refine Ut (I.ok.hd hc) p1.isList hs (by rw[ln];unfold scanBound;omega) fun h' tk k T=>⟨.ref s.heap.objs.size,_,I.laid (t':=tk) k (Nat.le_refl _) (?_:AZ X.prog X.w _ h' _ (Uh X.prog X.w s.heap.objs.size (D1 ss))),rfl,q _ (I.hok.fresh (Nat.le_refl _))⟩
 exact⟨T,let⟨o,_,_,_,_,e,_⟩:=T;⟨o,e⟩,fun h1 h2 T1 kk=>T1.keep kk⟩
def OU (H:Hp)(ks:List Str)(Q:VK):Prop:=∀ts p,ts.Perm ks→sortedS ts=true→H p=none→Q (.ref p) (upd H p (.lst (ts.map V.str)))
theorem Oo {Q:VK}{ks:List Str}{d':Drawn}{tk:Nat}{h1:Heap}{vs:List Value}{ss:List Str}(I:Inv X pins σ H s)(k:∀b o,s.heap.get? b=some o→h1.get? b=some o)(hs:StrsAre vs ss)(pm:ss.Perm ks)(few:ks.length<64)(q:OU H ks Q) :
  Qv (EP X pins σ Q) vs { s with heap:=h1,drawn:=d',toks:=tk }:=by
 have I1:Inv X pins σ H { s with heap:=h1,drawn:=d',toks:=tk }:=(I.drew (d':=d')).kept (t':=tk) k
 refine⟨ss,hs,by rw[hs.length,pm.length_eq];exact few,fun h' p out ss' c ho pe so lp k' e=>⟨.ref p,_,I1.laid (t':=tk) k' lp (?_:AZ X.prog X.w _ h' p (.lst (ss'.map V.str))),rfl,q ss' p (pe.trans pm) so (I1.hok.fresh lp)⟩⟩
 refine⟨?_,out,c,HZ ho,e⟩
 rw[List.length_map,pe.length_eq,pm.length_eq,sizeLine_eq]
 omega
def WI (P:Program)(w:World):List V→Hp→VK→Prop:=fun xs H Q=>∃(a:Addr) (ks:List Str),xs=[.ref a]∧H a=some (Uh P w a ks)∧ks.length<64∧OU H ks Q
theorem PZ {P:Program}{w:World}(hP:X.prog=P)(hw:X.w=w)(hc:X.calm=true):DN X (.builtin "sorted") (WI P w):=by
 subst hP hw
 intro pins s σ H xs us Q I r h
 obtain⟨a,ks,rfl,h1,few,q⟩:=h
 obtain⟨u,rfl,ru⟩:=vals1 r
 cases ru
 obtain⟨T,_⟩:AZ X.prog X.w H s.heap a (Uh X.prog X.w a ks):=I.hok a _ h1
 obtain⟨o,es,ep,t,ss,e,ex,d,el,f,hl,hp,hs,pm⟩:=T
 have ln:es.size=ks.length:=by rw[←pm.length_eq,←hs.length,List.length_map,Array.length_toList]
 refine Hq (OG (by simpa using I.ok.hd hc) ⟨o,e,ex.1,d⟩ f hl hp (by rw[ln];unfold scanBound;omega) fun h' d' tk vs k pv=>?_)
 obtain⟨ts,y1,y2⟩:=IS hs pv
 exact Oo I k y1 (y2.trans pm) few q
def Wo:List V→Hp→VK→Prop:=fun xs H Q=>∃(d:Addr) (kvs:List (Key×V)) (ss:List Str),xs=[.ref d]∧H d=some (.dK kvs)∧kvs.map (·.1)=ss.map .inr∧ss.length<64∧OU H ss Q
theorem O3 (hc:X.calm=true):DN X (.builtin "sorted") Wo:=by
 intro pins s σ H xs us Q I r h
 obtain⟨d,kvs,ss,rfl,h1,hk,few,q⟩:=h
 obtain⟨u,rfl,ru⟩:=vals1 r
 cases ru
 obtain⟨_,lo,vs,rv,o,es,ep,ho,h2,h3,h4⟩:AZ X.prog X.w H s.heap d (.dK kvs):=I.hok d _ h1
 have D:s.heap.DictAt (Bf X.prog X.w) d vs ep:=⟨o,es,ho,h2,h3,h4⟩
 have ln:vs.length=ss.length:=by
  have:=congrArg List.length hk
  rw[List.length_map,List.length_map] at this
  rw[←this];exact rv.length.symm
 refine Hq (N4 (PySem.W.kdl_dict (knd:=Bf X.prog X.w) (kvs:=vs) (ep:=ep) lo) (by simpa using I.ok.hd hc) D (by rw[ln,sizeLine_eq];omega) fun h' tk us k lu it=>?_)
 have hs:StrsAre us ss:=by
  refine Qo (by rw[lu,ln]) fun j v e=>?_
  obtain⟨ky,x,e1,e2⟩:=it j v e
  have e3:(kvs.map (·.1))[j]?=some ky:=by rw[←Qi rv,List.getElem?_map,e1];rfl
  rw[hk,List.getElem?_map] at e3
  cases z:ss[j]? with
  |none=>rw[z] at e3;cases e3
  |some y=>
   rw[z] at e3
   injection e3 with e3
   subst e3
   obtain⟨t,rfl⟩:=SB e2
   exact⟨_,t,rfl,rfl⟩
 exact Oo (d':=s.drawn) I k hs (List.Perm.refl _) few q
end
end L2
namespace L2
open PySem
theorem Ra {X:Cx}{K:PySem.W.Frag}(h:X.K=K):Gd X (binaryOp .Add) (Tf K):=by
 subst h
 exact Sv
end L2
namespace L2
open PySem PySem.Spec PyProof.Rows
section
variable {X:Cx}{els:List Expr}{kk:Nat}{pp:Pos}
end
end L2
namespace L2
open PySem PySem.Spec PyProof.Rows
section
variable {X:Cx}
end
end L2
namespace L2
open PySem PySem.Spec PyProof.Rows
section
variable {X:Cx}
end
end L2
namespace L2
open PySem PySem.Spec PyProof.Rows
theorem IJ:∀{ns:List Int} {its:List Value},IntsAre its ns→AC (ns.map V.int) its
 |[],_,.nil=>.nil
 |_::_,_,.cons n t h=>.cons ⟨_,rfl⟩ (IJ h)
def Xa (K:PySem.W.Frag):List V→Hp→VK→Prop:=fun xs H Q=>∃(a:Addr) (ns:List Int),xs=[.ref a]∧AM K H a (ns.map V.int)∧ns.length<64∧∀(ms:List Int) (p:Addr),ms.Perm ns→ms.Pairwise (·≤·)→H p=none→Q (.ref p) (upd H p (.lst (ms.map V.int)))
theorem K2 {X:Cx}{K:PySem.W.Frag}(hK:X.K=K):DN X (.builtin "sorted") (Xa K):=by
 subst hK
 intro pins s σ H xs us Q I r h
 obtain⟨a,ns,rfl,h1,few,q⟩:=h
 obtain⟨u,rfl,ru⟩:=vals1 r
 cases ru
 obtain⟨its,r1,p1,_⟩:=I.list h1
 have hs:=intsAre_of r1
 have hl:=IntsAre.length hs
 refine sorted_ints p1.isList hs (by omega) fun out ns' a1 a2 a3=>?_
 obtain⟨e,he⟩:=sortedAll_at s.heap its out
 have lp:s.heap.objs.size≤s.heap.objs.size+1:=Nat.le_succ _
 refine⟨.ref (s.heap.objs.size+1),_,I.laid (t':=s.toks) (o:=.lst (ns'.map V.int)) (fun b o y=>sortedAll_old y) lp ?_,rfl,q ns' _ a2 a3 (I.hok.fresh lp)⟩
 refine⟨?_,out.toList,e,IJ a1,he⟩
 rw[List.length_map,a2.length_eq,sizeLine_eq]
 omega
end L2
namespace L2
open PySem PySem.Spec PyProof.Rows
section
variable {X:Cx}{e:Expr}{es:List Expr}{pos:Pos}
end
end L2
namespace L2
section
open PySem PySem.Calls PyProof.Rows
variable {prog:Program}{w:World}{A:Around}{E:Value→Shared→Prop}{s:Shared}{it d:Addr}{i ep:Nat}{es:Array DictEntry}
def JU (h:Heap)(d:Addr)(es:Array DictEntry)(ep:Nat):Prop:=∃o,h.get? d=some o∧o.ExactDict∧o.data=.dict es ep
theorem JU.ty (x:JU s.heap d es ep):s.TypeIs (.ref d) "dict":=let⟨o,ho,hc,_⟩:=x;⟨o,ho,hc.1⟩
theorem JU.at {h h':Heap}(x:JU h d es ep)(k:∀o,h.get? d=some o→h'.get? d=some o):JU h' d es ep:=let⟨o,ho,r⟩:=x;⟨o,k o ho,r⟩
theorem LP {Q:Value→Shared→Prop} (hd:(d == sysModules)=false) (x:JU s.heap d es ep)
  (q:Q (.ref s.heap.objs.size) { s with heap:=s.heap.push { cls:=.type "dict_keyiterator",data:=.fields #[.ref d,.int 0 0,.int es.size 0,.int ep 0] } }):wpAny (model prog w) A (pyIter (.ref d)) Q E s:=by
 obtain⟨o,ho,_,hx⟩:=id x
 refine wpAny_pyIter_slot x.ty PySem.F.slot_dict_iter (wpAny_call_entry PySem.F.slot_dict_iter x.ty PySem.F.entry_dict_iter ?_ (PySem.F.args_dict_iter_1 _))
 refine wpAny_bind (wpAny_bind (wpAny_notOrdered_dict x.ty (wpAny_pure ?_)))
 refine wpAny_bind (m:=Builtin.Dict.addrOf (.ref d)) (wpAny_pure (wpAny_bind (m:=Builtin.Dict.showsAll d) ?_))
 unfold Builtin.Dict.showsAll
 rw[if_neg (fun z=>Bool.false_ne_true (hd.symm.trans z))]
 refine wpAny_pure (wpAny_bind (wpAny_dictEntries ho hx (wpAny_bind (wpAny_dictEpoch ho hx (wpAny_bind (wpAny_newObj_type (wpAny_pure ⟨_,rfl,"dict_keyiterator",_,⟨_,Heap.get?_push_size _ rfl,rfl⟩,PySem.F.slot_dict_keyiterator_next.lookup,?_⟩)))))))
 exact q
theorem L5 {vs:Array Value} {k:Nat} {x c:Value} {Q:Unit→Shared→Prop} {o:Obj} (ho:s.heap.get? it=some o) (hc:o.cls=c) (hd:o.data=.fields vs) (hk:k<vs.size)
  (q:∀h' o',h'.get? it=some o'→o'.cls=c→o'.data=.fields (vs.setIfInBounds k x)→(∀b o,b≠it→s.heap.get? b=some o→h'.get? b=some o)→Q () { s with heap:=h' }):wpAny (model prog w) A (setField (.ref it) k x) Q E s:=
 wpAny_setField ho hd hk (q _ _ (Heap.get?_update_self _ ho (Obj.isFreed_of_fields (Obj.data_mapFields hd _))) ((Obj.cls_mapFields ..).trans hc) (Obj.data_mapFields hd _) fun b o hb e=>(Heap.get?_update_other _ _ (Ne.symm hb)).trans e)
theorem LR {Q:Option Value→Shared→Prop} (st:s.heap.IsKeyIter it d i es.size ep) (x:JU s.heap d es ep) (hi:i<es.size)
  (q:∀h',h'.IsKeyIter it d (i+1) es.size ep→(∀b o,b≠it→s.heap.get? b=some o→h'.get? b=some o)→Q (some es[i].key) { s with heap:=h' }):wpAny (model prog w) A (pyNext (.ref it)) Q E s:=by
 obtain⟨o,ho,hc,hf⟩:=id st
 obtain⟨b,hb,_,hx⟩:=id x
 refine Hu PySem.F.slot_dict_keyiterator_next st.typeIs PySem.F.entry_dict_keyiterator_next (PySem.F.args_dict_keyiterator_next_1 _) ?_
 refine wpAny_bind (wpAny_pure (wpAny_bind (wpAny_bind (wpAny_bind (wpAny_typeNameOfWhole_keyiter st.typeIs (wpAny_pure (wpAny_bind (wpAny_fieldsOf ho hf ?_))))))))
 have own:Builtin.Dict_items.ownsTuple "dict_keyiterator"=false:=by decide
 simp only[own,Bool.false_eq_true,if_false]
 change wpAny _ _ (if(Value.ref d == Value.none)=true then _ else _) _ _ s
 rw[if_neg (show ¬((Value.ref d == Value.none)=true) from Bool.false_ne_true)]
 refine wpAny_bind (wpAny_pure (wpAny_bind (wpAny_dictEntries hb hx ?_)))
 rw[if_neg (by simp)]
 refine wpAny_bind (wpAny_pure (wpAny_bind (wpAny_dictEpoch hb hx ?_)))
 rw[if_neg (by simp)]
 refine wpAny_pure ?_
 simp only[show ¬((i:Int)<0) from by omega,if_false,Int.toNat_natCast,Array.getElem?_eq_getElem hi]
 refine wpAny_bind (wpAny_bind (wpAny_typeNameOfWhole_keyiter st.typeIs (wpAny_pure (wpAny_bind (wpAny_isOneOf_keyiter st.typeIs ?_)))))
 refine wpAny_bind (m:=setField (.ref it) 1 (rawInt ((i:Int)+1))) (L5 ho hc hf (by simp) fun h1 o1 e1 c1 d1 k1=>?_)
 have st1:h1.IsKeyIter it d (i+1) es.size ep:=⟨o1,e1,c1,by rw[d1];simp[rawInt]⟩
 exact wpAny_bind (wpAny_holding (wpAny_bind (wpAny_isOneOf_keyiter (s:={ s with heap:=h1 }) st1.typeIs (wpAny_pure (wpAny_pure ⟨_,rfl,q h1 st1 k1⟩)))))
theorem Om {Q:Option Value→Shared→Prop} (hh:A.handled=none) (st:s.heap.IsKeyIter it d i es.size ep) (x:JU s.heap d es ep) (hi:es.size≤i)
  (q:∀h',(∀b o,b≠it→s.heap.get? b=some o→h'.get? b=some o)→Q none { s with heap:=h' }):wpAny (model prog w) A (pyNext (.ref it)) Q E s:=by
 obtain⟨o,ho,hc,hf⟩:=id st
 obtain⟨b,hb,_,hx⟩:=id x
 refine HM PySem.F.slot_dict_keyiterator_next st.typeIs PySem.F.entry_dict_keyiterator_next (PySem.F.args_dict_keyiterator_next_1 _) ?_
 refine wpAny_bind (wpAny_pure (wpAny_bind (wpAny_bind (wpAny_bind (wpAny_typeNameOfWhole_keyiter st.typeIs (wpAny_pure (wpAny_bind (wpAny_fieldsOf ho hf ?_))))))))
 have own:Builtin.Dict_items.ownsTuple "dict_keyiterator"=false:=by decide
 simp only[own,Bool.false_eq_true,if_false]
 change wpAny _ _ (if(Value.ref d == Value.none)=true then _ else _) _ _ s
 rw[if_neg (show ¬((Value.ref d == Value.none)=true) from Bool.false_ne_true)]
 refine wpAny_bind (wpAny_pure (wpAny_bind (wpAny_dictEntries hb hx ?_)))
 rw[if_neg (by simp)]
 refine wpAny_bind (wpAny_pure (wpAny_bind (wpAny_dictEpoch hb hx ?_)))
 rw[if_neg (by simp)]
 refine wpAny_pure ?_
 simp only[show ¬((i:Int)<0) from by omega,if_false,Int.toNat_natCast,Array.getElem?_eq_none hi]
 refine wpAny_bind (wpAny_bind (wpAny_typeNameOfWhole_keyiter st.typeIs (wpAny_pure ?_)))
 refine wpAny_bind (m:=setField (.ref it) 0 .none) (L5 ho hc hf (by simp) fun h1 o1 e1 c1 d1 k1=>?_)
 exact Jr hh fun h2 y k2 ⟨oy,ey,cy⟩=>⟨y,oy,rfl,ey,cy,q h2 fun b o hb e=>k2 b o (k1 b o hb e)⟩
theorem S9 (lo:(d == sysModules)=false):PySem.W.KdlSrc prog w "dict" d d es.size (fun i v=>∃e,es[i]?=some e∧v=e.key) (fun h=>JU h d es ep) where
 type:=fun _ x=>x.ty
 there:=fun _ ⟨_,ho,_⟩=>⟨Heap.lt_size ho,Heap.lt_size ho⟩
 keep:=fun _ _ x k=>x.at fun o e=>k d (.inl rfl) o e
 notList:=by decide
 notTuple:=by decide
 hint:=fun _ _ _ _ x q=>PySem.W.kdl_hint_dict x.ty q
 iter:=fun A s hh x=>⟨_,fun i h=>h.IsKeyIter s.heap.objs.size d i es.size ep∧JU h d es ep,fun _ _ q=>LP lo x q,{
  sub:=fun b hb=>by simp at hb;simp[hb]
  frame:=fun _ _ _ st k=>⟨st.1.at fun o e=>k _ (by simp) o e,st.2.at fun o e=>k d (by simp) o e⟩
  item:=fun i s1 Q E hi st q=>LR st.1 st.2 hi fun h' st' k=>q _ h' s1.toks ⟨_,Array.getElem?_eq_getElem hi,rfl⟩ ⟨st',st.2.at fun o e=>k d o (let⟨_,ho,_⟩:=x;Nat.ne_of_lt (Heap.lt_size ho)) e⟩ fun b o hb e=>k b o (fun z=>hb (by simp[z])) e
  done:=fun s1 Q E st q=>Om hh st.1 st.2 (Nat.le_refl _) fun h' k=>q h' s1.toks fun b o hb e=>k b o (fun z=>hb (by simp[z])) e
  self:=fun _ _ _ _ st q=>wpAny_pyIter_keyiter st.1 q },⟨⟨_,Heap.get?_push_size _ rfl,rfl,rfl⟩,x.at fun o e=>Heap.get?_push_of_some _ e⟩⟩
end
section
open PySem PySem.Spec PyProof.Rows
def XT (d:Addr)(o:Obj)(kvs:List (List Key×V)):It:=
 ⟨fun i H=>H d=some (.frz o (.dT kvs))∧i<kvs.length,fun i H x H'=>H'=H∧∃k v b,kvs[i]?=some (k,v)∧x=.ref b∧H b=some (.tup (k.map kV)),fun i H=>H d=some (.frz o (.dT kvs))∧kvs.length≤i⟩
def VT (H:Hp)(kvs:List (List Key×V))(es:Array DictEntry):Prop:=es.size=kvs.length∧∀(i:Nat) (k:List Key) (v:V),kvs[i]?=some (k,v)→∃b e,es[i]?=some e∧e.key=.ref b∧H b=some (.tup (k.map kV))
theorem Mf {P:Program}{w:World}{H:Hp}{h:Heap}{d:Addr}{kvs:List (List Key×V)}(ok:AZ P w H h d (.dT kvs)):(d == sysModules)=false∧kvs.length≤sizeLine∧∃es ep,JU h d es ep∧VT H kvs es:=by
 obtain⟨z,y,xs,r,o,es,ep,h1,h2,h3,h4,h5⟩:=ok
 refine⟨y,z,es,ep,⟨o,h1,h2,h3⟩,?_,fun i k v e=>?_⟩
 ·rw[←Array.length_toList,h4,List.length_map];exact(Paired.length r).symm
 ·obtain⟨q,e2,g1,g2,_⟩:∃q,xs[i]?=some q∧(k,v).1=q.1∧H q.2.1=some (.tup ((k,v).1.map kV))∧True:=by
   clear h4 h5 z
   induction r generalizing i with
   |nil=>simp at e
   |@cons p q ps qs hq t ih=>
    cases i with
    |zero=>simp at e;subst e;exact⟨q,by simp,hq.1,hq.2.1,trivial⟩
    |succ i=>
     obtain⟨q',a,b⟩:=ih i (by simpa using e)
     exact⟨q',by simpa using a,b⟩
  exact⟨q.2.1,_,by rw[←Array.getElem?_toList,h4,List.getElem?_map,e2];rfl,rfl,g2⟩
theorem Inv.freezeT {X:Cx}{pins:List (Addr×Obj)}{σ:St}{H:Hp}{s:Shared}{d:Addr}{o:Obj}{kvs:List (List Key×V)}(I:Inv X pins σ H s)(h:H d=some (.dT kvs))(ho:s.heap.get? d=some o):Inv X pins σ (upd H d (.frz o (.dT kvs))) s:=by
 have nd:∀b,H b=none→upd H d (.frz o (.dT kvs)) b=none:=fun b hb=>by
  rw[Ai (fun z=>by rw[z,h] at hb;cases hb)];exact hb
 refine⟨I.ok,I.os,I.bare,⟨I.base.keep,I.base.slot,fun b ob e1 e2 e3=>nd b (I.base.free b ob e1 e2 e3),I.base.there,fun b xs e=>?_,fun b o2 u e=>?_,fun b ps e=>?_⟩,I.loc,I.cell,nd _ I.free,fun x c e=>nd c (I.freeC x c e),fun p hp=>?_,fun b u e=>?_,I.len⟩
 ·have:=I.base.tups b xs e
  rw[Ai (Av this h (by intro z;cases z))];exact this
 ·have:=I.base.frzs b o2 u e
  rw[Ai (Av this h (by intro z;cases z))];exact this
 ·obtain⟨more,q⟩:=I.base.tbls b ps e
  exact⟨more,by rw[Ai (Av q h (by intro z;cases z))];exact q⟩
 ·obtain⟨p1,p2,p3⟩:=I.pin p hp
  exact⟨p1,nd _ p2,p3⟩
 ·by_cases hb:b=d
  ·subst hb
   rw[Ad] at e
   cases e
   exact⟨ho,(I.hok b _ h).stay (fun c v _ r=>r) (fun c r=>by rw[Ai (Av r h (by intro z;cases z))];exact r) fun c xs r=>by rw[Ai (Av r h (by intro z;cases z))];exact r⟩
  ·rw[Ai hb] at e
   exact(I.hok b u e).stay (fun c v _ r=>r) (fun c r=>by rw[Ai (Av r h (by intro z;cases z))];exact r) fun c xs r=>by rw[Ai (Av r h (by intro z;cases z))];exact r
theorem Inv.thawT {X:Cx}{pins:List (Addr×Obj)}{σ:St}{H:Hp}{s:Shared}{d:Addr}{o:Obj}{kvs:List (List Key×V)}(I:Inv X pins σ H s)(h:H d=some (.frz o (.dT kvs)))(nf:∀o u,X.H₀ d≠some (.frz o u)):Inv X pins σ (upd H d (.dT kvs)) s:=by
 have nd:∀b,H b=none→upd H d (.dT kvs) b=none:=fun b hb=>by
  rw[Ai (fun z=>by rw[z,h] at hb;cases hb)];exact hb
 refine⟨I.ok,I.os,I.bare,⟨I.base.keep,I.base.slot,fun b ob e1 e2 e3=>nd b (I.base.free b ob e1 e2 e3),I.base.there,fun b xs e=>?_,fun b o2 u e=>?_,fun b ps e=>?_⟩,I.loc,I.cell,nd _ I.free,fun x c e=>nd c (I.freeC x c e),fun p hp=>?_,fun b u e=>?_,I.len⟩
 ·have:=I.base.tups b xs e
  rw[Ai (Av this h (by intro z;cases z))];exact this
 ·have:=I.base.frzs b o2 u e
  rw[Ai (fun z=>nf o2 u (by rw[←z];exact e))];exact this
 ·obtain⟨more,q⟩:=I.base.tbls b ps e
  exact⟨more,by rw[Ai (Av q h (by intro z;cases z))];exact q⟩
 ·obtain⟨p1,p2,p3⟩:=I.pin p hp
  exact⟨p1,nd _ p2,p3⟩
 ·by_cases hb:b=d
  ·subst hb
   rw[Ad] at e
   cases e
   obtain⟨_,q⟩:=I.hok b _ h
   exact AZ.stay (o:=.dT kvs) q (fun c v _ r=>r) (fun c r=>by rw[Ai (Av r h (by intro z;cases z))];exact r) fun c xs r=>by rw[Ai (Av r h (by intro z;cases z))];exact r
  ·rw[Ai hb] at e
   exact(I.hok b u e).stay (fun c v _ r=>r) (fun c r=>by rw[Ai (Av r h (by intro z;cases z))];exact r) fun c xs r=>by rw[Ai (Av r h (by intro z;cases z))];exact r
variable {X:Cx}{tg:Expr}
theorem MD {pins:List (Addr×Obj)}{σ:St}{H:Hp}{s:Shared}{d:Addr}{o:Obj}{kvs:List (List Key×V)}{es:Array DictEntry}{ep:Nat}(I:Inv X pins σ H s)(h:H d=some (.frz o (.dT kvs)))(he:o.data=.dict es ep):JU s.heap d es ep∧VT H kvs es:=by
 obtain⟨ho,q⟩:=I.hok d _ h
 obtain⟨_,_,es',ep',x,k⟩:=Mf (kvs:=kvs) q
 obtain⟨o',ho',hc,hx⟩:=id x
 rw[ho] at ho'
 cases ho'
 rw[he] at hx
 cases hx
 exact⟨x,k⟩
theorem O1 {P:Program}{w:World}{K:PySem.W.Frag}{tg:Expr}(d it:Addr)(o:Obj)(kvs:List (List Key×V))(es:Array DictEntry)(ep:Nat)(he:o.data=.dict es ep):Turn P w K tg (XT d o kvs) [it] it (fun i h=>h.IsKeyIter it d i kvs.length ep) where
 mem:=by simp
 obj:=fun i h st b hb=>by
  cases(show b=it by simpa using hb)
  obtain⟨q,e,c,x⟩:=st
  exact⟨q,e,fun v z=>by rw[x] at z;cases z⟩
 keep:=fun i h h' st k=>st.at fun o e=>k it (by simp) o e
 item:=by
  intro X hP hw hK hc i pins s σ H E I hf st ⟨hq,hi⟩
  subst hP hw hK
  obtain⟨x,n,ks⟩:=MD I hq he
  obtain⟨f0,f1,f2,f3,f4,f5⟩:=hf it (by simp)
  obtain⟨b,e,e1,e2,e3⟩:=ks i kvs[i].1 kvs[i].2 (List.getElem?_eq_getElem hi)
  rw[←n] at st
  refine LR st x (by omega) fun h' st' k=>?_
  have I1:Inv X pins σ H { s with heap:=h' }:=I.turned (t':=s.toks) (fun b o hb e=>k b o hb e) f0 f1 f3 f4 f5
  have ek:(es[i]'(by omega)).key=.ref b:=by rw[Array.getElem?_eq_getElem (by omega)] at e1;rw[Option.some.inj e1];exact e2
  rw[n] at st'
  obtain⟨o2,a1,a2,a3⟩:=id st'
  rw[ek]
  exact⟨_,rfl,L4 (s:={ s with heap:=h' }) a1 a2 a3 (by decide) ⟨.ref b,H,I1,rfl,⟨rfl,kvs[i].1,kvs[i].2,b,List.getElem?_eq_getElem hi,rfl,e3⟩,st',fun b hb=>(hf b hb).1⟩⟩
 done:=by
  intro X hP hw hK hc i pins s σ H E I hf st ⟨hq,hi⟩
  subst hP hw hK
  obtain⟨x,n,_⟩:=MD I hq he
  obtain⟨f0,f1,f2,f3,f4,f5⟩:=hf it (by simp)
  rw[←n] at st
  exact Om (I.ok.hd hc) st x (by omega) fun h' k=>⟨rfl,I.turned (t':=s.toks) (fun b o hb e=>k b o hb e) f0 f1 f3 f4 f5⟩
 self:=fun _ _ _ _ _ st h=>wpAny_pyIter_keyiter st h
def Uj (tl:TE):TI:=fun σ H R=>tl σ H fun x H1=>∃d kvs,x=.ref d∧H1 d=some (.dT kvs)∧∀o,R (XT d o kvs) (upd H1 d (.frz o (.dT kvs)))
theorem Sf {l:Expr}{tl:TE}(hl:PE X l tl):PI X tg l (Uj tl):=by
 intro pins s σ H R I h
 refine Bd (hl pins s σ H _ I h) fun v s1 ⟨x,H1,I1,r1,d,kvs,e,hq,q⟩=>?_
 subst e
 cases r1
 obtain⟨lo,_,es,ep,⟨o,ho,hc,he⟩,_⟩:=Mf (kvs:=kvs) (I1.hok d _ hq)
 have I2:=I1.freezeT hq ho
 obtain⟨x,n,_⟩:=MD I2 Ad he
 refine LP lo x ⟨s1.heap.objs.size,[s1.heap.objs.size],_,_,_,rfl,I2.kept (t':=s1.toks) fun b o e=>Heap.get?_push_of_some _ e,O1 d _ o kvs es ep he,⟨_,Heap.get?_push_size _ rfl,rfl,by rw[n];rfl⟩,fun b hb=>?_,q o⟩
 cases(show b=s1.heap.objs.size by simpa using hb)
 exact I2.fpOk (Nat.le_refl _) (I2.hok.fresh (Nat.le_refl _))
def Kf (X:Cx)(D:Ends):Ends where
 nx:=fun σ H=>∃d o kvs,(∀o u,X.H₀ d≠some (.frz o u))∧H d=some (.frz o (.dT kvs))∧D.nx σ (upd H d (.dT kvs))
 rt:=fun v H=>∃d o kvs,(∀o u,X.H₀ d≠some (.frz o u))∧H d=some (.frz o (.dT kvs))∧D.rt v (upd H d (.dT kvs))
def XD (X:Cx)(tl:TE)(g:TG)(tb:TS):TS:=fun D σ H=>Yg (Uj tl) g tb (Kf X D) σ H
theorem Vr {tg l:Expr} {body:List Stmt} {tl:TE} {g:TG} {tb:TS} {pos:Pos} (hp:PassesOwn (model X.prog X.w) X.A X.env X.xe) (hc:X.calm=true) (hl:PE X l tl) (hg:PG X tg g) (hb:Ml X body tb)
  (hs:∀x,foldedSetIterable l X.env x=pure x:=by intro _;rfl):PS X (.For tg l body [] pos) (XD X tl g tb):=by
 intro pins s σ H D I h
 refine Bd (CJ (pos:=pos) hp hc (Sf hl) hg hb hs pins s σ H (Kf X D) I h) fun f s' q=>?_
 cases f with
 |next=>
  obtain⟨σ',H',I',d,o,kvs,nf,hd,q⟩:=q
  exact⟨σ',_,I'.thawT hd nf,q⟩
 |brk=>obtain⟨σ',H',I',q⟩:=q;exact False.elim q
 |cont=>obtain⟨σ',H',I',q⟩:=q;exact False.elim q
 |ret v=>
  obtain⟨x,σ',H',I',r,d,o,kvs,nf,hd,q⟩:=q
  exact⟨x,σ',_,I'.thawT hd nf,r,q⟩
theorem Rc {d:Addr} {o:Obj} {kvs:List (List Key×V)} {g:TG} {tb:TS} {D:Ends} {σ:St} {H:Hp} (nf:∀o u,X.H₀ d≠some (.frz o u)) (Pv:Nat→St→Hp→Prop) (h0:Pv 0 σ H) (hl:∀(i:Nat) (σ:St) (H:Hp),i≤kvs.length→Pv i σ H→H d=some (.frz o (.dT kvs)))
  (turn:∀(i:Nat) (k:List Key) (v:V) (b:Addr) (σ:St) (H:Hp),kvs[i]?=some (k,v)→Pv i σ H→H b=some (.tup (k.map kV))→g (.ref b) σ H fun σ2 H2=>tb { nx:=Pv (i+1),rt:=(Kf X D).rt,bk:=(Kf X D).nx,ct:=Pv (i+1) } σ2 H2)
  (done:∀(σ:St) (H:Hp),Pv kvs.length σ H→D.nx σ (upd H d (.dT kvs))) :
  ∃W:Nat→Nat→St→Hp→Prop,(∃m,W 0 m σ H)∧∀i m σ H,W i m σ H→
   ((XT d o kvs).stop i H∧(Kf X D).nx σ H)∨((XT d o kvs).go i H∧∃N:St→Hp→Prop,(∀σ' H',N σ' H'→∃m',m'<m∧W (i+1) m' σ' H')∧∀x H',(XT d o kvs).yld i H x H'→g x σ H' fun σ2 H2=>tb { (Kf X D) with nx:=N,ct:=N,bk:=(Kf X D).nx } σ2 H2):=by
 refine⟨fun i m σ H=>m=kvs.length-i∧i≤kvs.length∧Pv i σ H,⟨_,rfl,Nat.zero_le _,h0⟩,?_⟩
 rintro i m σ H ⟨rfl,hi,hp⟩
 by_cases hlt:i<kvs.length
 ·refine .inr ⟨⟨hl i σ H hi hp,hlt⟩,Pv (i+1),fun σ' H' hn=>⟨kvs.length-(i+1),by omega,rfl,hlt,hn⟩,?_⟩
  rintro x H' ⟨rfl,k,v,b,e,rfl,hb⟩
  exact turn i k v b σ _ e hp hb
 ·obtain rfl:i=kvs.length:=by omega
  exact .inl ⟨⟨hl _ σ H hi hp,Nat.le_refl _⟩,d,o,kvs,nf,hl _ σ H hi hp,done σ H hp⟩
def VJ:Value→Addr
 | .ref b=>b
 |_=>0
theorem LH:∀bs:List Addr,AC (bs.map V.ref) (bs.map Value.ref)
 |[]=>.nil
 |_::bs=>.cons rfl (LH bs)
def W3:List V→Hp→VK→Prop:=fun xs H Q=>∃(d:Addr) (kvs:List (List Key×V)),xs=[.ref d]∧H d=some (.dT kvs)∧
 ∀(l:Addr) (bs:List Addr),H l=none→bs.length=kvs.length→(∀(i:Nat) k v b,kvs[i]?=some (k,v)→bs[i]?=some b→H b=some (.tup (k.map kV)))→Q (.ref l) (upd H l (.lst (bs.map V.ref)))
theorem K1 (hc:X.calm=true):DN X (.type "list") W3:=by
 intro pins s σ H xs us Q I r h
 obtain⟨d,kvs,rfl,hd,q⟩:=h
 obtain⟨u,rfl,ru⟩:=vals1 r
 cases ru
 obtain⟨lo,hz,es,ep,x,n,ks⟩:=Mf (kvs:=kvs) (I.hok d _ hd)
 refine PySem.W.kdl_call (S9 lo) (I.ok.hd hc) x (by omega) fun h' tk acc c' hk e' hacc=>?_
 have all:∀(i:Nat) (v:Value),acc.toList[i]?=some v→∃b k vv,v=.ref b∧kvs[i]?=some (k,vv)∧H b=some (.tup (k.map kV)):=fun i v e=>by
  obtain⟨e1,a1,rfl⟩:=hacc.2 i v (by rw[←Array.getElem?_toList];exact e)
  have lt:i<kvs.length:=by rw[←n];exact(Array.getElem?_eq_some_iff.mp a1).1
  obtain⟨b,e2,a2,a3,a4⟩:=ks i kvs[i].1 kvs[i].2 (List.getElem?_eq_getElem lt)
  rw[a1] at a2
  cases a2
  exact⟨b,_,_,a3,List.getElem?_eq_getElem lt,a4⟩
 have eb:acc.toList=(acc.toList.map VJ).map Value.ref:=by
  rw[List.map_map]
  refine(List.map_id'' (fun v=>rfl) acc.toList).symm.trans (List.map_congr_left fun v hv=>?_)
  obtain⟨i,hi⟩:=List.getElem?_of_mem hv
  obtain⟨b,_,_,rfl,_⟩:=all i v hi
  rfl
 have ln:(acc.toList.map VJ).length=kvs.length:=by rw[List.length_map,Array.length_toList,hacc.1,n]
 refine⟨.ref s.heap.objs.size,_,I.laid hk (Nat.le_refl _) (show AZ X.prog X.w _ h' _ (.lst _) from⟨?_,acc.toList,c',?_,by simpa using e'⟩),rfl,q _ (acc.toList.map VJ) I.fresh ln fun i k v b e1 e2=>?_⟩
 ·rw[List.length_map,ln];exact hz
 ·have:=LH (acc.toList.map VJ)
  rw[←eb] at this
  exact this
 ·rw[List.getElem?_map] at e2
  cases e3:acc.toList[i]? with
  |none=>rw[e3] at e2;cases e2
  |some u=>
   rw[e3] at e2
   obtain⟨b',k',vv,rfl,a2,a3⟩:=all i u e3
   rw[e1] at a2
   cases a2
   cases(show b'=b from Option.some.inj e2)
   exact a3
theorem RY:DN X (.builtin "len") (fun xs H Q=>∃(d:Addr) (kvs:List (List Key×V)),xs=[.ref d]∧H d=some (.dT kvs)∧Q (.int kvs.length) H):=by
 intro pins s σ H xs us Q I r h
 obtain⟨d,kvs,rfl,hd,q⟩:=h
 obtain⟨u,rfl,ru⟩:=vals1 r
 cases ru
 obtain⟨lo,hz,es,ep,x,n,_⟩:=Mf (kvs:=kvs) (I.hok d _ hd)
 obtain⟨o,ho,_,hx⟩:=id x
 rw[sizeLine_eq] at hz
 refine Calls.call_function_entry kind_len plain_len entry_len (args_len1 _) (wpAny_bind (m:=oneArg "len" _) (wpAny_pure (wpAny_bind (m:=callSpecial? (.ref d) (Str.ofString "__len__")) (wpAny_callSpecial?_slot (name:=Str.ofString "__len__") x.ty PySem.F.slot_dict_len
  (wpAny_call_entry PySem.F.slot_dict_len x.ty PySem.F.entry_dict_len ?_ (PySem.F.args_dict_len_1 _))))))
 refine wpAny_bind (m:=dictSize d) (wpAny_bind (wpAny_dictEntries ho hx (wpAny_pure (wpAny_bind (m:=Builtin.Dict.pendingCount d) (wpAny_pendingCount_other lo (wpAny_ret_mkInt ?_))))))
 rw[show((es.size:Int)+((0:Nat):Int))=(kvs.length:Int) by rw[n];omega]
 refine wpAny_bind (wpAny_holding (wpAny_pure (wpAny_bind (wpAny_letGo ?_))))
 change wpAny _ _ (if((kvs.length:Nat):Int)<0 then _ else if((kvs.length:Nat):Int)≥2^63 then _ else _) _ _ _
 rw[if_neg (by omega),if_neg (by omega)]
 exact wpAny_bind (wpAny_mkInt (wpAny_pure ⟨_,rfl,.int kvs.length,H,I.tok _,⟨_,rfl⟩,q⟩))
end
end L2
namespace M06
def wsum:Nat→List Int→Int
 |_,[]=>0
 |k,x::xs=>x*((k:Int)+1)+wsum (k+1) xs
def mk (ns:List Int):Int:=wsum 0 ns%2147483647
theorem JD:∀(xs ys:List Int) (k:Nat),wsum k (xs++ys)=wsum k xs+wsum (k+xs.length) ys
 |[],ys,k=>by simp[wsum]
 |x::xs,ys,k=>by
  rw[List.cons_append,wsum,wsum,JD xs ys (k+1),List.length_cons,show k+1+xs.length=k+(xs.length+1) by omega]
  omega
theorem R3 {ns:List Int}{i:Nat}(h:i<ns.length):wsum 0 (ns.take (i+1))=wsum 0 (ns.take i)+ns[i]*((i:Int)+1):=by
 rw[List.take_add_one,List.getElem?_eq_getElem h,JD,List.length_take,Nat.min_eq_left (by omega),Nat.zero_add]
 simp[wsum]
theorem QW (ns:List Int):((List.range ns.length).map fun i=>ns.getD i 0*((i:Int)+1)).sum=wsum 0 ns:=by
 have key:∀i,i≤ns.length→((List.range i).map fun i=>ns.getD i 0*((i:Int)+1)).sum=wsum 0 (ns.take i):=by
  intro i
  induction i with
  |zero=>intro _;simp[wsum]
  |succ i ih=>
   intro hi
   rw[List.range_succ,List.map_append,List.sum_append,ih (by omega),R3 (by omega)]
   simp[List.getD,List.getElem?_eq_getElem (show i<ns.length by omega)]
 have:=key ns.length (Nat.le_refl _)
 rw[List.take_of_length_le (Nat.le_refl _)] at this
 exact this
def RU (x:Int):Bool:=decide (0≤x)&&decide (x≤2147483646)
def sound (ns:List Int):Bool:=(!decide (ns=[]))&&(ns.all RU&&decide (ns.getLastD 0=mk ns.dropLast))
theorem Yo (ns:List Int):0≤mk ns∧mk ns≤2147483646:=by
 unfold mk
 omega
theorem UD {x:Int}:RU x=true↔0≤x∧x≤2147483646:=by simp[RU]
theorem Fs {ns:List Int}:sound ns=true↔ns≠[]∧(∀x∈ns,0≤x∧x≤2147483646)∧ns.getLastD 0=mk ns.dropLast:=by
 unfold sound
 simp only[Bool.and_eq_true,Bool.not_eq_true',decide_eq_false_iff_not,List.all_eq_true,UD,decide_eq_true_eq]
theorem MG {ns:List Int}(h:∀x∈ns,0≤x∧x≤2147483646):sound (ns++[mk ns])=true:=by
 rw[Fs]
 refine⟨by simp,fun x hx=>?_,by simp⟩
 rcases List.mem_append.mp hx with hx|hx
 ·exact h x hx
 ·rw[List.mem_singleton.mp hx];exact Yo ns
def Xm (r:List Int):Int:=wsum 0 r.dropLast-r.getLastD 0
def co (r:List Int)(i:Nat):Int:=if i+1=r.length then -1 else(i:Int)+1
theorem Nq:∀(ns:List Int) (k i:Nat) (y:Int) (h:i<ns.length),wsum k (ns.set i y)=wsum k ns+(y-ns[i])*((k:Int)+(i:Int)+1)
 |x::xs,k,0,y,_=>by
  simp only[List.set_cons_zero,wsum,List.getElem_cons_zero]
  grind
 |x::xs,k,i+1,y,h=>by
  simp only[List.set_cons_succ,wsum,List.getElem_cons_succ]
  rw[Nq xs (k+1) i y (by simpa using h)]
  grind
theorem JF {r:List Int}(h:r≠[]):r.getLastD 0=r[r.length-1]'(by have:=List.length_pos_iff.mpr h;omega):=by
 rw[List.getLastD_eq_getLast?,List.getLast?_eq_getElem?,List.getElem?_eq_getElem (by have:=List.length_pos_iff.mpr h;omega)]
 rfl
theorem U5 {r:List Int}{i:Nat}{y:Int}(h:i<r.length):Xm (r.set i y)=Xm r+co r i*(y-r[i]):=by
 have hne:r≠[]:=fun z=>by subst z;simp at h
 have hne2:r.set i y≠[]:=fun z=>by have:=congrArg List.length z;simp at this;exact hne this
 unfold Xm co
 rw[JF hne,JF hne2]
 by_cases hi:i+1=r.length
 ·rw[if_pos hi]
  have e1:(r.set i y).dropLast=r.dropLast:=by
   rw[List.dropLast_eq_take,List.dropLast_eq_take,List.length_set,List.take_set_of_le (by omega)]
  have e2:(r.set i y)[(r.set i y).length-1]'(by simp;omega)=y:=by
   simp only[List.length_set]
   rw[List.getElem_set,if_pos (by omega)]
  have e3:r[r.length-1]'(by omega)=r[i]:=by congr 1;omega
  rw[e1,e2,e3]
  omega
 ·rw[if_neg hi]
  have e1:(r.set i y).dropLast=r.dropLast.set i y:=by
   rw[List.dropLast_eq_take,List.dropLast_eq_take,List.length_set,List.take_set]
  have hd:i<r.dropLast.length:=by rw[List.length_dropLast];omega
  have e2:(r.set i y)[(r.set i y).length-1]'(by simp;omega)=r[r.length-1]'(by omega):=by
   simp only[List.length_set]
   rw[List.getElem_set,if_neg (by omega)]
  rw[e1,e2,Nq _ _ _ _ hd,List.getElem_dropLast]
  simp
  grind
theorem Lr {r:List Int}(h:sound r=true):Xm r%2147483647=0:=by
 obtain⟨_,_,h3⟩:=Fs.mp h
 unfold Xm
 rw[h3]
 unfold mk
 omega
end M06
set_option maxHeartbeats 4000000
namespace K20
local macro_rules | `(!$x) => do
  let (f, a) ← match x with | `($f:ident $a*) => pure (f, a) | `($f:ident) => pure (f, #[]) | _ => Lean.Macro.throwUnsupported
  let some n := [([`Ag, `As, `II, `A5, `G7], 1), ([`Oz, `OA, `Kn], 2), ([`Aj, `CD, `Bt, `Dm, `Vt, `NX, `So], 3), ([`An, `Ae, `BS, `Co, `IW, `JH, `Xh, `BA, `EY, `D0, `HR, `GE, `AH, `Ek, `Dk, `QH, `WC, `TN], 4), ([`Ab, `Af, `Gq, `By, `Fb, `J3, `Na, `Ru, `El], 5), ([`Ec, `T8, `G1, `KE, `DE, `Xb], 6), ([`Ay, `E2, `GU, `Hj, `SJ, `S8, `O5, `W5], 7), ([`AI, `AL, `Am, `CJ, `C7, `KC, `Vs, `Ot, `Vr], 8), ([`AB, `BG, `D5, `TL], 9), ([`Dg, `AK, `Jb, `V6, `U9], 10), ([`UC, `Hh, `K5, `Td, `Wm], 11), ([`Gk, `Tu, `Sh, `RG], 12), ([`WH], 13), ([`DP], 14), ([`G6], 15)].findSome? (fun (l, n) => if l.contains f.getId then some n else none) | Lean.Macro.throwUnsupported
  let u ← `(_)
  let us := Array.replicate n u
  `(@$f $us* $a*)
set_option hygiene false
local macro_rules | `(tactic| exists $t) => `(tactic| refine F.ok $t (fun vs H Q E h => ?_) (fun cdv A outer s H vs Q E hr h => ?_))
set_option hygiene true
local macro_rules | `(tactic| trivial) => `(tactic| first | exact .inl rfl | exact .inr rfl | assumption | exact ⟨rfl, rfl, rfl, by decide +kernel, rfl, by decide +kernel, by decide +kernel⟩ | exact L2.Room.mono (by assumption) (by decide))
open PySem L2 M06
theorem Sm : 0 ≤ sizeLine := small (by decide)
theorem RS : 1 ≤ sizeLine := small (by decide)
theorem Jn : 2 ≤ sizeLine := small (by decide)
theorem Rl : 3 ≤ sizeLine := small (by decide)
theorem YR : 4 ≤ sizeLine := small (by decide)
def top (i:Nat):Stmt:=PySem.Challenge.pw_stemshelf_k20_whole_one_copy_is_enough.main.body.getD i (.Pass ⟨0,0,0,0⟩)
abbrev DB:Stmt:=top 2
theorem NV:FnScope ["thing"] ["thing"] (Ah DB):=by trivial
abbrev CC:Stmt:=top 3
theorem Lk:FnScope ["thing","least","most"] ["thing","least","most"] (Ah CC):=by trivial
abbrev Cf:Stmt:=top 4
theorem Kx:FnScope ["thing","many"] ["thing","many"] (Ah Cf):=by trivial
abbrev C4:Stmt:=top 7
theorem Nc:FnScope ["sign"] ["sign"] (Ah C4):=by trivial
abbrev D8:Stmt:=top 8
theorem Ph:FnScope ["number"] ["number"] (Ah D8):=by trivial
abbrev Eb:Stmt:=top 9
theorem PN:FnScope ["thing","least","most"] ["thing","least","most"] (Ah Eb):=by trivial
abbrev CW:Stmt:=inClass (top 15) 0
theorem Mx:FnScope ["self","number"] ["self","number"] (Ah CW):=by trivial
abbrev Cv:Stmt:=top 24
theorem EH:FnScope ["thing","words","part"] ["thing"] (Ah Cv):=by trivial
abbrev Dr:Stmt:=top 25
theorem G2:FnScope ["words","reader","thing"] ["words"] (Ah Dr):=by trivial
abbrev Bo:Stmt:=inClass (top 26) 0
theorem HA:FnScope ["self","words"] ["self","words"] (Ah Bo):=by trivial
abbrev AU:Stmt:=inClass (top 26) 1
theorem ET:FnScope ["self"] ["self"] (Ah AU):=by trivial
abbrev A7:Stmt:=inClass (top 26) 2
theorem Gc:FnScope ["self","most"] ["self","most"] (Ah A7):=by trivial
abbrev BI:Stmt:=top 27
theorem DG:FnScope ["reader","deep","first","many"] ["reader","deep"] (Ah BI):=by trivial
abbrev C2:Stmt:=top 28
theorem IB:FnScope ["reader","many"] ["reader"] (Ah C2):=by trivial
abbrev D7:Stmt:=top 44
theorem O2:FnScope ["thing"] ["thing"] (Ah D7):=by trivial
abbrev Ft:Stmt:=top 45
theorem RW:FnScope ["thing"] ["thing"] (Ah Ft):=by trivial
abbrev Ds:Stmt:=top 46
theorem OP:FnScope ["thing"] ["thing"] (Ah Ds):=by trivial
abbrev BX:Stmt:=top 47
theorem JY:FnScope ["thing","level"] ["thing","level"] (Ah BX):=by trivial
abbrev Ck:Stmt:=top 48
theorem GQ:FnScope ["thing","names"] ["thing"] (Ah Ck):=by trivial
abbrev Dy:Stmt:=top 49
theorem NY:FnScope ["thing"] ["thing"] (Ah Dy):=by trivial
abbrev Fu:Stmt:=top 50
theorem Hc:FnScope ["block","total","number"] ["block"] (Ah Fu):=by trivial
abbrev BW:Stmt:=top 51
theorem Cb:FnScope ["block","told","name","kind","tag"] ["block"] (Ah BW):=by trivial
abbrev Ef:Stmt:=top 54
theorem PR:FnScope ["words"] ["words"] (Ah Ef):=by trivial
abbrev Fi:Stmt:=top 55
theorem RF:FnScope ["words"] ["words"] (Ah Fi):=by trivial
abbrev Du:Stmt:=top 56
theorem JI:FnScope ["row","words"] ["row"] (Ah Du):=by trivial
abbrev LC:Stmt:=top 58
theorem O6:FnScope ["boards","number","birth","block","row","board"] ["boards","number","birth","block"] (Ah LC):=by trivial
abbrev BZ:Stmt:=top 59
theorem JX:FnScope ["boards","tag"] ["boards","tag"] (Ah BZ):=by trivial
abbrev Eg:Stmt:=top 60
theorem Hy:FnScope ["boards","tag","board","block"] ["boards","tag"] (Ah Eg):=by trivial
abbrev DA:Stmt:=top 61
theorem Jx:FnScope ["boards","board","tag","told"] ["boards","board","tag"] (Ah DA):=by trivial
abbrev Dq:Stmt:=top 62
theorem GN:FnScope ["boards","board","number","row","words"] ["boards","board","number"] (Ah Dq):=by trivial
abbrev Cm:Stmt:=inClass (top 66) 0
theorem Kq:FnScope ["self","many"] ["self","many"] (Ah Cm):=by trivial
abbrev Cd:Stmt:=inClass (top 66) 1
theorem KB:FnScope ["self"] ["self"] (Ah Cd):=by trivial
abbrev BU:Stmt:=inClass (top 66) 2
theorem FZ:FnScope ["self","board","number","row","shelf"] ["self","board","number","row"] (Ah BU):=by trivial
abbrev Ce:Stmt:=inClass (top 66) 3
theorem GZ:FnScope ["self","board","number","row"] ["self","board","number"] (Ah Ce):=by trivial
abbrev BY:Stmt:=inClass (top 66) 4
theorem Gb:FnScope ["self","board","number","row","shelf"] ["self","board","number","row"] (Ah BY):=by trivial
abbrev Ci:Stmt:=inClass (top 66) 5
theorem Lf:FnScope ["self","board"] ["self","board"] (Ah Ci):=by trivial
abbrev BQ:Stmt:=inClass (top 66) 8
theorem JP:FnScope ["self","number"] ["self","number"] (Ah BQ):=by trivial
abbrev BO:Stmt:=inClass (top 66) 10
theorem JZ:FnScope ["self","board"] ["self","board"] (Ah BO):=by trivial
abbrev BV:Stmt:=top 68
theorem JM:FnScope ["_law_script","_law_k"] ["_law_script","_law_k"] (Ah BV):=by trivial
abbrev BP:Stmt:=top 69
theorem Bc:FnScope ["_law_cell","_law_many","_law_found","_law_number","_law_k"] ["_law_cell","_law_many"] (Ah BP):=by trivial
abbrev Cw:Stmt:=top 70
theorem Ht:FnScope ["_law_some"] [] (Ah Cw):=by trivial
abbrev Dz:Stmt:=top 71
theorem EJ:FnScope ["_law_number","_law_found"] ["_law_number"] (Ah Dz):=by trivial
abbrev C3:Stmt:=top 72
theorem FG:FnScope ["_law_number","_law_size","_law_signs_here"] ["_law_number"] (Ah C3):=by trivial
abbrev CF:Stmt:=top 73
theorem CN:FnScope ["_law_some","_law_level","_law_many","_law_entries","_law_number"] ["_law_some"] (Ah CF):=by trivial
abbrev C1:Stmt:=top 74
theorem Cy:FnScope ["_law_block_here","_law_told_here","_law_name_here","_law_kind","_law_tag_here"] ["_law_block_here"] (Ah C1):=by trivial
abbrev Dt:Stmt:=top 75
theorem EI:FnScope ["_law_block_here","_law_found","_law_number"] ["_law_block_here"] (Ah Dt):=by trivial
abbrev CZ:Stmt:=top 76
theorem BH:FnScope ["_law_boards","_law_cells","_law_laid_here","_law_k","_law_cell","_law_some","_law_number","_law_birth","_law_block_here"] ["_law_boards","_law_cells"] (Ah CZ):=by trivial
abbrev Cj:Stmt:=top 77
theorem Bj:FnScope ["_law_boards","_law_board","_law_tag_here","_law_some","_law_rows","_law_row","_law_at","_law_how","_law_other"] ["_law_boards","_law_board","_law_tag_here","_law_some","_law_rows"] (Ah Cj):=by trivial
abbrev BR:Stmt:=top 78
theorem CO:FnScope ["_law_boards","_law_tag_here","_law_lost","e"] ["_law_boards","_law_tag_here"] (Ah BR):=by trivial
abbrev BE:Stmt:=top 79
theorem Fj:FnScope ["_law_boards","_law_laid_here","_law_right","_law_but","_law_tag_here"] ["_law_boards","_law_laid_here","_law_right","_law_but"] (Ah BE):=by trivial
abbrev HV:Stmt:=top 80
theorem Ct:FnScope ["_law_script","_law_first","_law_boards","_law_many","_law_laid_here","_law_tags","_law_gone","_law_right","_law_rows","_law_tag_here","_law_k","_law_some","_law_board","_law_but"] ["_law_script"] (Ah HV):=by trivial
structure Txt (K:W.Frag) (mg:Str→Option Value) (Ac:Addr) (Aa:Addr) (XC:Nat→Addr):Prop where
 cl_WordReader:Cls K Ac
 n_WordReader_words:DR K Ac "words"
 n_WordReader_place:DR K Ac "place"
 cl_Boards:Cls K Aa
 n_Boards_shelves:DR K Aa "shelves"
 n_Boards_writes:DR K Aa "writes"
 n_Boards_writes_left:DR K Aa "writes_left"
 x_NoThing:mg "NoThing"=some (.ref (XC 0))
 x_Stopped:mg "Stopped"=some (.ref (XC 1))
 x_Lost:mg "Lost"=some (.ref (XC 2))
 q_Stopped:W.excIn K (XC 1) [.type "ValueError",.type "Exception",.type "BaseException",.type "object"] "ValueError.__new__"=true
 q_NoThing:W.excIn K (XC 0) [.type "ValueError",.type "Exception",.type "BaseException",.type "object"] "ValueError.__new__"=true
 m_NoThing_NoThing:W.exmOne K (.ref (XC 0)) (.ref (XC 0))=some true
 m_Lost_Lost:W.exmOne K (.ref (XC 2)) (.ref (XC 2))=some true
 i_Lost:ExiCls K (XC 2)
 f_Lost:W.findIn K (.ref (XC 2)) "number"=some none
 b_all:mg "all"=none
 b_bool:mg "bool"=none
 b_enumerate:mg "enumerate"=none
 b_int:mg "int"=none
 b_isinstance:mg "isinstance"=none
 b_len:mg "len"=none
 b_list:mg "list"=none
 b_max:mg "max"=none
 b_range:mg "range"=none
 b_set:mg "set"=none
 b_sorted:mg "sorted"=none
 b_str:mg "str"=none
 b_sum:mg "sum"=none
 b_tuple:mg "tuple"=none
 c_SIGNS:∃t,mg "SIGNS"=some (.str (PySem.Str.ofString " !\"#$&'()*+,-./0123456789:;<=>?@ABCDEFGHIJKLMNOPQRSTUVWXYZ[\\]^_`abcdefghijklmnopqrstuvwxyz{|}~") t)
 c_MOST_NUMBER:∃t,mg "MOST_NUMBER"=some (.int 999999999 t)
 c_MOST_SIGNS:∃t,mg "MOST_SIGNS"=some (.int 400 t)
 c_MOST_PARTS:∃t,mg "MOST_PARTS"=some (.int 100 t)
 c_MOST_DEEP:∃t,mg "MOST_DEEP"=some (.int 8 t)
 c_NUMBER_WORD:∃t,mg "NUMBER_WORD"=some (.int 0 t)
 c_TEXT_WORD:∃t,mg "TEXT_WORD"=some (.int 1 t)
 c_TUPLE_WORD:∃t,mg "TUPLE_WORD"=some (.int 2 t)
 c_PIECE:∃t,mg "PIECE"=some (.int 0 t)
 c_ROW:∃t,mg "ROW"=some (.int 1 t)
 c_FOLDER:∃t,mg "FOLDER"=some (.int 2 t)
 c_FILE_ENTRY:∃t,mg "FILE_ENTRY"=some (.int 1 t)
 c_FOLDER_ENTRY:∃t,mg "FOLDER_ENTRY"=some (.int 2 t)
 c_NAME_SIGNS:∃t,mg "NAME_SIGNS"=some (.str (PySem.Str.ofString "0123456789abcdefghijklmnopqrstuvwxyz") t)
 c_MOST_NAME_SIGNS:∃t,mg "MOST_NAME_SIGNS"=some (.int 8 t)
 c_MOST_CELL:∃t,mg "MOST_CELL"=some (.int 999999 t)
 c_MOST_BIRTH:∃t,mg "MOST_BIRTH"=some (.int 999999999 t)
 c_SUM_RESTS:∃t,mg "SUM_RESTS"=some (.int 997 t)
 c_MOST_PIECE_SIGNS:∃t,mg "MOST_PIECE_SIGNS"=some (.int 8 t)
 c_MOST_LEVEL:∃t,mg "MOST_LEVEL"=some (.int 9 t)
 c_MOST_TAGS:∃t,mg "MOST_TAGS"=some (.int 8 t)
 c_MOST_ENTRIES:∃t,mg "MOST_ENTRIES"=some (.int 16 t)
 c_MARK_RESTS:∃t,mg "MARK_RESTS"=some (.int 2147483647 t)
 c_LEAST_BOARDS:∃t,mg "LEAST_BOARDS"=some (.int 2 t)
 c_MOST_BOARDS:∃t,mg "MOST_BOARDS"=some (.int 4 t)
abbrev SG:Str:=PySem.Str.ofString " !\"#$&'()*+,-./0123456789:;<=>?@ABCDEFGHIJKLMNOPQRSTUVWXYZ[\\]^_`abcdefghijklmnopqrstuvwxyz{|}~"
theorem OV:SG.cps.toList.length=94:=by decide +kernel
theorem Qg:SG.length≤sizeLine:=small (by decide +kernel)
theorem QP:∀k:Nat,k<94→PySem.Txt.find SG ⟨#[SG.cps.toList.getD k 0]⟩=(k:Int):=by decide +kernel
theorem X8 {i:Int}(h0:0≤i)(h1:i<94):He SG.cps.toList i=some (SG.cps.toList.getD i.toNat 0):=by
 have hk:i.toNat<SG.cps.toList.length:=by rw[OV];omega
 have q:He SG.cps.toList ((i.toNat:Nat):Int)=some (SG.cps.toList.getD i.toNat 0):=CP (by rw[List.getElem?_eq_getElem hk];simp only[List.getD,List.getElem?_eq_getElem hk,Option.getD_some])
 have ek:((i.toNat:Nat):Int)=i:=by omega
 rw[ek] at q
 exact q
section
variable {P:Program}{w:World}{K:W.Frag}{mg:Str→Option Value}{base:Heap}{f Ac Aa:Addr}{XC:Nat→Addr}{fd:FuncData}
def DZ (K:W.Frag):Sp:=fun vs H Q _=>∃(a:Addr) (ns:List Int) (k:Int),vs=[.ref a,.int k]∧0≤k∧AM K H a (ns.map V.int)∧∀z:Int,Q (.int z) H
theorem J0 (T:Txt K mg Ac Aa XC)(F:Fun K "_law_cell_at" "_law_cell_at" BV f fd):FnOk P w K mg base Dp 1 f fd ["_law_script","_law_k"] (DZ K):=by
 exists JM
 ·obtain⟨a,ns,k,rfl,_⟩:=h
  rfl
 obtain⟨a,ns,k,rfl,hk,hS,q⟩:=h
 refine⟨_,(!Af (!AL (!AI V1 (pv 1) (!AB AN (by rfl) T.b_len B5 (!Ab (pv 0) (!Ag) (by rfl)) (by decide) (by decide) (by rfl) (by rfl)) (AJ _)) (!Aj (!An (!Ay AY (pv 0) (pv 1) (fun _ _=>rfl)))) (!As)) (!Aj (!An (!Ae)))),?_⟩
 refine⟨_,rfl,_,rfl,a,_,rfl,.inl hS,_,_,rfl,rfl,_,rfl,Cs (fun c=>?_) (fun c=>q 0)⟩
 have c':=dec_true c
 rw[List.length_map] at c'
 exact⟨_,rfl,_,rfl,a,_,_,_,rfl,rfl,hS,M9 hk c',q _⟩
def CQ (K:W.Frag):Sp:=fun vs H Q _=>∃(c m:Int),vs=[.int c,.int m]∧0≤m∧m≤1000∧
 ∀(r:Addr) (H':Hp) (ns:List Int),Al H H'→H r=none→H' r=some (.lst (ns.map V.int))→ns.length=m.toNat→(∀x∈ns,0≤x∧x<2147483647)→Q (.ref r) H'
theorem J1 (T:Txt K mg Ac Aa XC)(F:Fun K "_law_numbers" "_law_numbers" BP f fd):FnOk P w K mg base Dp 1 f fd ["_law_cell","_law_many"] (CQ K):=by
 exists Bc
 ·obtain⟨c,m,rfl,_⟩:=h
  rfl
 obtain⟨c,m,rfl,hm0,hm1,q⟩:=h
 refine⟨_,(!Af (@Ax _ _ (2) _ _ _ _ Bc.nd rfl (by trivial) (!BS (!Ag)) (by rfl) (by trivial)) (!Af (@Ax _ _ (3) _ _ _ _ Bc.nd rfl (by trivial) (!Am HP (pv 0) (!Am Pj (!Ae) (!Ae))) (by rfl) (by trivial)) (!Af (!AL (!AI Ym (pv 3) (!Ae) (AJ _)) (!Af (!CJ PassesOwn.never rfl (!Ec rfl T.b_range (!Ab (pv 1) (!Ag) (by rfl)) (by rfl)) (@Az _ _ (4) _ Bc.nd rfl (by trivial) (by trivial)) (!Af (!Co (!Gk PySem.F.plainAttrs_list PySem.F.slot_list_append PySem.F.type_list_append G5 (pv 2) (!Ab (!Am AG (pv 3) (!Ae)) (!Ag) (by rfl)) (by rfl) (by rfl) (by rfl) (by rfl) (by rfl)) (by rfl)) (!Aj (@Ax _ _ (3) _ _ _ _ Bc.nd rfl (by trivial) (!Am Dc (pv 3) (!Ae)) (by rfl) (by trivial)))) (by intro _;rfl)) (!Aj (!An (pv 2)))) (!As)) (!Af (@Ax _ _ (3) _ _ _ _ Bc.nd rfl (by trivial) (!Am AG (pv 0) (!Ae)) (by rfl) (by trivial)) (!Af (!CJ PassesOwn.never rfl (!Ec rfl T.b_range (!Ab (!Am Be (pv 1) (!Ae)) (!Ag) (by rfl)) (by rfl)) (@Az _ _ (4) _ Bc.nd rfl (by trivial) (by trivial)) (!Af (@Ax _ _ (3) _ _ _ _ Bc.nd rfl (by trivial) (!Am AG (!Am EM (!Am Be (!Am Be (pv 3) (pv 4)) (!Ae)) (!Ae)) (!Ae)) (by rfl) (by trivial)) (!Aj (!Co (!Gk PySem.F.plainAttrs_list PySem.F.slot_list_append PySem.F.type_list_append G5 (pv 2) (!Ab (!Am AG (!Am EM (pv 3) (!Ae)) (!Ae)) (!Ag) (by rfl)) (by rfl) (by rfl) (by rfl) (by rfl) (by rfl)) (by rfl)))) (by intro _;rfl)) (!Aj (!An (!Dg FN (pv 2) (!CD (!Ae)) (!II))))))))),?_⟩
 refine⟨Sm,fun g hg=>?_⟩
 refine⟨_,rfl,_,_,rfl,rfl,⟨by decide,by decide,by decide⟩,_,_,rfl,rfl,?_⟩
 refine⟨_,rfl,_,_,rfl,rfl,_,rfl,?_⟩
 refine Cs (fun c1=>?_) (fun c1=>?_)
 ·refine⟨_,rfl,m,rfl,by omega,by omega,LJ (lo:=0) (n:=m.toNat) (fun i σ H2=>∃(ns:List Int) (z:Int) (v:Option V),σ=[some (.int c),some (.int m),some (.ref g),some (.int z),v]∧Al H H2∧H2 g=some (.lst (ns.map V.int))∧ns.length=i∧∀x∈ns,0≤x∧x<2147483647)
   ⟨[],_,none,rfl,Ak hg _,Ad,rfl,fun _ h=>nomatch h⟩ ?_ ?_⟩
  ·rintro i σ H2 hi ⟨ns,z,v,rfl,s2,hg2,hl,hb⟩
   refine⟨_,rfl,.inl ⟨rfl,_,AM.of hg2⟩,_,rfl,_,_,rfl,rfl,(by show(0:Int)<5040;decide),g,_,_,rfl,rfl,hg2,BL (by rw[List.length_map];omega),?_⟩
   refine⟨_,rfl,_,_,rfl,rfl,⟨by decide,by decide⟩,?_⟩
   refine⟨ns++[z%5040],_,_,rfl,Br s2 hg _,?_,?_,fun x hx=>?_⟩
   ·rw[Ad,List.map_append];rfl
   ·rw[List.length_append,hl];rfl
   ·rcases List.mem_append.mp hx with hx|hx
    ·exact hb x hx
    ·rw[List.mem_singleton.mp hx];omega
  ·rintro σ H2 ⟨ns,z,v,rfl,s2,hg2,hl,hb⟩
   exact⟨_,rfl,q g _ ns s2 hg hg2 hl hb⟩
 ·refine⟨_,rfl,_,_,rfl,rfl,(by show(0:Int)<2147483647;decide),?_⟩
  refine⟨_,rfl,_,_,rfl,rfl,m+1,rfl,by omega,by omega,LJ (lo:=0) (n:=(m+1).toNat) (fun i σ H2=>∃(ns:List Int) (z:Int) (v:Option V),σ=[some (.int c),some (.int m),some (.ref g),some (.int z),v]∧Al H H2∧H2 g=some (.lst (ns.map V.int))∧ns.length=i∧∀x∈ns,0≤x∧x<2147483647)
   ⟨[],_,none,rfl,Ak hg _,Ad,rfl,fun _ h=>nomatch h⟩ ?_ ?_⟩
  ·rintro i σ H2 hi ⟨ns,z,v,rfl,s2,hg2,hl,hb⟩
   refine⟨_,rfl,_,rfl,_,_,rfl,rfl,_,_,rfl,rfl,_,_,rfl,rfl,.inr ⟨by decide,by decide⟩,_,_,rfl,rfl,(by show(0:Int)<2147483647;decide),?_⟩
   refine⟨_,rfl,.inl ⟨rfl,_,AM.of hg2⟩,_,rfl,_,_,rfl,rfl,.inr ⟨by decide,by decide⟩,_,_,rfl,rfl,(by show(0:Int)<2147483629;decide),g,_,_,rfl,rfl,hg2,BL (by rw[List.length_map];omega),?_⟩
   refine⟨ns++[(z+(0+(i:Int))+1)*48271%2147483647*69621%2147483629],_,_,rfl,Br s2 hg _,?_,?_,fun x hx=>?_⟩
   ·rw[Ad,List.map_append];rfl
   ·rw[List.length_append,hl];rfl
   ·rcases List.mem_append.mp hx with hx|hx
    ·exact hb x hx
    ·rw[List.mem_singleton.mp hx];omega
  ·rintro σ H2 ⟨ns,z,v,rfl,s2,hg2,hl,hb⟩
   refine⟨_,rfl,_,rfl,g,_,rfl,AM.of hg2,fun p hp=>?_⟩
   refine q p _ (ns.drop 1) (s2.trans (Ak hp _)) (s2.free hp) ?_ ?_ fun x hx=>hb x (List.mem_of_mem_drop hx)
   ·rw[Ad,Su (by decide),List.map_drop];rfl
   ·rw[List.length_drop,hl];omega
def DD (K:W.Frag):Sp:=fun vs H Q _=>vs=[]∧Q (.str SG) H
theorem Lp (T:Txt K mg Ac Aa XC)(F:Fun K "_law_signs" "_law_signs" Cw f fd):FnOk P w K mg base Dp 1 f fd [] (DD K):=by
 exists Ht
 ·obtain⟨rfl,_⟩:=h
  rfl
 obtain⟨rfl,q⟩:=h
 refine⟨_,(!Af (@Ax _ _ (0) _ _ _ _ Ht.nd rfl (by trivial) (!IW) (by rfl) (by trivial)) (!Aj (!An (!Am P0 (pv 0) (!IW))))),?_⟩
 refine⟨_,rfl,_,_,rfl,rfl,small (by decide +kernel),?_⟩
 have e:(PySem.Str.ofString " !\"#$&'()*+,-./0123456789:;<=>?@ABCDEFGHIJKLMNOPQRSTUVWXYZ[\\]^_`"++PySem.Str.ofString "abcdefghijklmnopqrstuvwxyz{|}~")=SG:=by decide +kernel
 rw[e]
 exact q
def Cu (K:W.Frag):Sp:=fun vs H Q _=>∃v,vs=[v]∧Ok H v∧Q (.bl (ER H v)) H
theorem Oe (T:Txt K mg Ac Aa XC)(F:Fun K "is_whole" "is_whole" DB f fd):FnOk P w K mg base Dp 1 f fd ["thing"] (Cu K):=by
 exists NV
 ·obtain⟨c,rfl,_⟩:=h
  rfl
 obtain⟨v,rfl,ok,q⟩:=h
 refine⟨_,(!Aj (!An (!E2 (!AB B2 (by rfl) T.b_isinstance Bv (!Ab (pv 0) (!Ab (!JH rfl T.b_int Uo (by decide) (by decide)) (!Ag) (by rfl)) (by rfl)) (by decide) (by decide) (by rfl) (by rfl)) (!Gq (!Xh (!AB B2 (by rfl) T.b_isinstance Bv (!Ab (pv 0) (!Ab (!JH rfl T.b_bool UI (by decide) (by decide)) (!Ag) (by rfl)) (by rfl)) (by decide) (by decide) (by rfl) (by rfl))))))),?_⟩
 exact Ke _ _ (fun R q=>⟨_,rfl,_,_,_,_,rfl,ok.ty K,ok.kit K,q⟩) (fun _ R q=>⟨_,rfl,_,_,_,_,rfl,ok.ty K,ok.kit K,_,rfl,q⟩) q
def Bg (K:W.Frag):Sp:=fun vs H Q _=>∃v a b,vs=[v,.int a,.int b]∧Ok H v∧Q (.bl (Cn a b v)) H
theorem Lh (T:Txt K mg Ac Aa XC)(F:Fun K "is_between" "is_between" CC f fd)(A9:Def P w K mg base 1 "is_whole" ["thing"] (Cu K)):FnOk P w K mg base Dp 2 f fd ["thing","least","most"] (Bg K):=by
 exists Lk
 ·obtain⟨v,a,b,rfl,_⟩:=h
  rfl
 obtain⟨v,a,b,rfl,ok,q⟩:=h
 refine⟨_,(!Aj (!An (!E2 (!AK A9 (by trivial) rfl (!Ab (pv 0) (!Ag) (by rfl)) (by decide) (by rfl) (by rfl)) (!Gq (!Tu QF QF (pv 1) (pv 0) (pv 2) (by with_unfolding_all rfl)))))),?_⟩
 refine Ke (ER H v) (Cn a b v) (fun R q=>⟨_,rfl,v,rfl,ok,q⟩) (fun hw R q=>?_) ?_
 ·obtain⟨i,rfl⟩:=SD ok hw
  refine⟨_,rfl,_,rfl,_,_,rfl,rfl,_,rfl,?_⟩
  refine Cs (fun c=>?_) (fun c=>?_)
  ·have e:Cn a b (.int i)=decide (i≤b):=by show(decide (a≤i)&&decide (i≤b))=_;rw[c];rfl
   rw[e] at q
   exact⟨_,rfl,_,_,rfl,rfl,q⟩
  ·have e:Cn a b (.int i)=false:=by show(decide (a≤i)&&decide (i≤b))=_;rw[Bool.eq_false_iff.mpr c];rfl
   rw[e] at q
   exact q
 ·cases hw:ER H v with
  |true=>exact q
  |false=>rw[U0 hw] at q;exact q
def Bn (t:Str)(z:Str):Bool:=(Do z).all fun c=>decide (c∈Do t)
def Ga (a b:Int):V→Bool
 | .str z=>decide (a≤(z.length:Int))&&decide ((z.length:Int)≤b)&&Bn SG z
 |_=>false
theorem TR {H:Hp}{v:V}{a b:Int}(h:isA (Hl H v) "str"=false):Ga a b v=false:=by
 cases v with
 |str z=>exact absurd (show isA "str" "str"=false from h) (by decide)
 |_=>rfl
def FL (K:W.Frag):Sp:=fun vs H Q _=>∃v a b,vs=[v,.int a,.int b]∧Ok H v∧∀H',Al H H'→Q (.bl (Ga a b v)) H'
theorem L3 (t z:Str):((Do z).map fun c=>V.str ⟨#[c]⟩).map (fun v=>match v with|V.str y=>V.bl (!(Builtin.Str.occurrences t y 0 t.length 1).isEmpty)|_=>V.non)=((Do z).map fun c=>decide (c∈Do t)).map V.bl:=by
 rw[List.map_map,List.map_map]
 refine List.map_congr_left fun c _=>?_
 show V.bl (!(Builtin.Str.occurrences t ⟨#[c]⟩ 0 t.length 1).isEmpty)=V.bl (decide (c∈Do t))
 rw[PySem.StrLaws.found_one]
theorem Pt (T:Txt K mg Ac Aa XC)(F:Fun K "is_text" "is_text" Eb f fd):FnOk P w K mg base Dp 1 f fd ["thing","least","most"] (FL K):=by
 exists PN
 ·obtain⟨v,a,b,rfl,_⟩:=h
  rfl
 obtain⟨v,a,b,rfl,ok,q⟩:=h
 refine⟨_,(!Af (!AL (@PW.pt _ _ _ (!GU (!BA (!Bt (!AB B2 (by rfl) T.b_isinstance Bv (!Ab (pv 0) (!Ab (!JH rfl T.b_str Sw (by decide) (by decide)) (!Ag) (by rfl)) (by rfl)) (by decide) (by decide) (by rfl) (by rfl)) (by intro _;rfl))) (!EY (!BA (!Sh QF QF (pv 1) (!AB FE (by rfl) T.b_len B5 (!Ab (pv 0) (!Ag) (by rfl)) (by decide) (by decide) (by rfl) (by rfl)) (pv 2) (by with_unfolding_all rfl)))))) (!Aj (!An (!D0))) (!As)) (!Aj (!An (!AB (GH rfl) (by rfl) T.b_all KD (!Ab (@Bq _ ["sign"] _ _ _ _ _ _ _ _ _ _ rfl (!HR (pv 0)) (by decide +kernel) (fun C s H fp=>⟨(@Az _ _ (0) _ (show(["sign"]:List Str).Nodup by decide +kernel) rfl (by trivial) (by trivial)),(!A5),(!C7 LY (pv 0) (!GE rfl T.c_SIGNS (by decide)) rfl)⟩) (by intro _;rfl)) (!Ag) (by rfl)) (by decide) (by decide) (by rfl) (by rfl))))),?_⟩
 refine⟨_,rfl,_,_,_,_,rfl,ok.ty K,ok.kit K,_,rfl,?_⟩
 cases hw:isA (Hl H v) "str" with
 |false=>
  refine AQ rfl ?_
  have:=q H (Al.refl _)
  rw[TR hw] at this
  exact this
 |true=>
  refine AS rfl ?_
  obtain⟨z,rfl,hz⟩:=WO ok hw
  have zl:=BJ z
  refine⟨_,rfl,_,rfl,_,rfl,small (by omega),_,_,rfl,rfl,_,rfl,?_⟩
  refine Cs (fun c=>?_) (fun c=>?_)
  ·refine⟨_,rfl,_,_,rfl,rfl,_,rfl,?_⟩
   refine Cs (fun d=>?_) (fun d=>?_)
   ·have d':decide ((z.length:Int)≤b)=false:=by simpa using d
    have e:Ga a b (.str z)=false:=by show(decide (a≤(z.length:Int))&&decide ((z.length:Int)≤b)&&Bn SG z)=_;rw[d',Bool.and_false];rfl
    have:=q H (Al.refl _)
    rw[e] at this
    exact this
   ·have d':decide ((z.length:Int)≤b)=true:=by simpa using d
    refine⟨_,rfl,z,rfl,?_⟩
    refine comp_map (fun v=>match v with | .str y=>.bl (!(Builtin.Str.occurrences SG y 0 SG.length 1).isEmpty)|_=>.non) EE (by rw[List.length_map];exact Nat.le_trans (Nat.le_of_eq zl) (by omega)) (fun x H' R hx s' hR=>?_) fun l H7 n7 s7 h7=>?_
    ·obtain⟨u,_,rfl⟩:=List.mem_map.mp hx
     exact⟨_,rfl,_,_,rfl,rfl,hR H' (Al.refl _)⟩
    rw[L3] at h7
    refine⟨l,_,rfl,AM.of h7,?_⟩
    have e:Ga a b (.str z)=((Do z).map fun c=>decide (c∈Do SG)).all id:=by
     show(decide (a≤(z.length:Int))&&decide ((z.length:Int)≤b)&&Bn SG z)=_;unfold Bn;rw[c,d',List.all_map];rfl
    have:=q H7 s7
    rw[e] at this
    exact this
  ·have c':decide (a≤(z.length:Int))=false:=Bool.eq_false_iff.mpr c
   have e:Ga a b (.str z)=false:=by show(decide (a≤(z.length:Int))&&decide ((z.length:Int)≤b)&&Bn SG z)=_;rw[c',Bool.false_and];rfl
   have:=q H (Al.refl _)
   rw[e] at this
   exact⟨_,rfl,this⟩
abbrev NS:Str:=PySem.Str.ofString "0123456789abcdefghijklmnopqrstuvwxyz"
abbrev LN:Str:=PySem.Str.ofString "abcdefghijklmnopqrstuvwxyz0123456789"
theorem T5:(∀c∈Do NS,c∈Do LN)∧∀c∈Do LN,c∈Do NS∧c∈Do SG:=by decide +kernel
def DH:V→Bool
 | .str z=>decide ((1:Int)≤z.length)&&decide ((z.length:Int)≤8)&&Bn LN z
 |_=>false
theorem Md (z:Str):(Bn SG z&&Bn NS z)=Bn LN z:=by
 unfold Bn
 rw[Bool.eq_iff_iff,Bool.and_eq_true,List.all_eq_true,List.all_eq_true,List.all_eq_true]
 simp only[decide_eq_true_eq]
 exact⟨fun h c hc=>T5.1 c (h.2 c hc),fun h=>⟨fun c hc=>(T5.2 c (h c hc)).2,fun c hc=>(T5.2 c (h c hc)).1⟩⟩
theorem Rn (v:V):DH v=match v with | .str z=>Ga 1 8 v&&Bn NS z|_=>false:=by
 cases v with
 |str z=>
  show(decide ((1:Int)≤z.length)&&decide ((z.length:Int)≤8)&&Bn LN z)=((decide ((1:Int)≤(z.length:Int))&&decide ((z.length:Int)≤8)&&Bn SG z)&&Bn NS z)
  rw[←Md z]
  simp only[Bool.and_assoc]
 |_=>rfl
def HJ (K:W.Frag):Sp:=fun vs H Q _=>∃v,vs=[v]∧Ok H v∧∀H',Al H H'→Q (.bl (DH v)) H'
theorem O4 (T:Txt K mg Ac Aa XC)(F:Fun K "is_name" "is_name" D7 f fd)(Eh:Def P w K mg base 1 "is_text" ["thing","least","most"] (FL K)):FnOk P w K mg base Dp 2 f fd ["thing"] (HJ K):=by
 exists O2
 ·obtain⟨v,rfl,_⟩:=h
  rfl
 obtain⟨v,rfl,ok,q⟩:=h
 refine⟨_,(!Aj (!An (!E2 (!AK Eh (by trivial) rfl (!Ab (pv 0) (!Ab (!Ae) (!Ab (!AH rfl T.c_MOST_NAME_SIGNS (by decide)) (!Ag) (by rfl)) (by rfl)) (by rfl)) (by decide) (by rfl) (by rfl)) (!Gq (!AB (GH rfl) (by rfl) T.b_all KD (!Ab (@Bq _ ["sign"] _ _ _ _ _ _ _ _ _ _ rfl (!HR (pv 0)) (by decide +kernel) (fun C s H fp=>⟨(@Az _ _ (0) _ (show(["sign"]:List Str).Nodup by decide +kernel) rfl (by trivial) (by trivial)),(!A5),(!C7 LY (pv 0) (!GE rfl T.c_NAME_SIGNS (by decide)) rfl)⟩) (by intro _;rfl)) (!Ag) (by rfl)) (by decide) (by decide) (by rfl) (by rfl)))))),?_⟩
 refine⟨_,rfl,v,1,8,rfl,ok,fun H1 s1=>⟨_,rfl,?_⟩⟩
 have en:=Rn v
 refine Cs (fun c=>?_) (fun c=>?_)
 ·cases v with
  |str z=>
   have hz:z.length≤1000:=ok
   have zl:=BJ z
   refine⟨_,rfl,z,rfl,?_⟩
   refine comp_map (fun v=>match v with | .str y=>.bl (!(Builtin.Str.occurrences NS y 0 NS.length 1).isEmpty)|_=>.non) EE (by rw[List.length_map];exact Nat.le_trans (Nat.le_of_eq zl) (by omega)) (fun x H' R hx s' hR=>?_) fun l H7 n7 s7 h7=>?_
   ·obtain⟨u,_,rfl⟩:=List.mem_map.mp hx
    exact⟨_,rfl,_,_,rfl,rfl,hR H' (Al.refl _)⟩
   rw[L3] at h7
   refine⟨l,_,rfl,AM.of h7,?_⟩
   have e:DH (.str z)=((Do z).map fun c=>decide (c∈Do NS)).all id:=by
    rw[en];show(Ga 1 8 (.str z)&&Bn NS z)=_;rw[c];unfold Bn;rw[List.all_map];rfl
   have:=q H7 (s1.trans s7)
   rw[e] at this
   exact this
  |_=>exact absurd (show false=true from c) Bool.false_ne_true
 ·have e:DH v=false:=by
   rw[en]
   cases v with
   |str z=>show(Ga 1 8 (.str z)&&Bn NS z)=false;rw[Bool.eq_false_iff.mpr c];rfl
   |_=>rfl
  have:=q H1 s1
  rw[e] at this
  exact this
def JT (H:Hp)(v:V)(n:Int):Bool:=match v with
 | .ref a=>match H a with
  |some (.tup xs)=>decide ((xs.length:Int)=n)
  |_=>false
 |_=>false
theorem C6 {H:Hp}{a:Addr}{xs:List V}{n:Int}(h:H a=some (.tup xs)):JT H (.ref a) n=decide ((xs.length:Int)=n):=by simp only[JT,h]
theorem VP {H:Hp}{v:V}{n:Int}(ok:Ok H v)(h:isA (Hl H v) "tuple"=false):JT H v n=false:=by
 refine ok.elim (fun e _=>?_) (fun _ e _=>?_) (fun _ e _=>?_) (fun _ e _ _=>?_) (fun a xs e e2 _=>?_) (fun _ _ _ _ e=>?_)
 ·rw[e];rfl
 ·rw[e];rfl
 ·rw[e];rfl
 ·rw[e];rfl
 ·rw[e];simp only[JT,e2]
 ·rw[e] at h;exact absurd h (by decide)
theorem UV {H:Hp}{v:V}{n:Int}(h:JT H v n=true):∃a xs,v=.ref a∧H a=some (.tup xs)∧(xs.length:Int)=n:=by
 unfold JT at h
 split at h
 ·split at h
  ·rename_i a _ xs e
   exact⟨a,xs,rfl,e,of_decide_eq_true h⟩
  ·cases h
 ·cases h
def Cr (K:W.Frag):Sp:=fun vs H Q _=>∃v n,vs=[v,.int n]∧Ok H v∧Q (.bl (JT H v n)) H
theorem KR (T:Txt K mg Ac Aa XC)(F:Fun K "is_tuple_of" "is_tuple_of" Cf f fd):FnOk P w K mg base Dp 1 f fd ["thing","many"] (Cr K):=by
 exists Kx
 ·obtain⟨v,n,rfl,_⟩:=h
  rfl
 obtain⟨v,n,rfl,ok,q⟩:=h
 refine⟨_,(!Aj (!An (!E2 (!AB B2 (by rfl) T.b_isinstance Bv (!Ab (pv 0) (!Ab (!JH rfl T.b_tuple Er (by decide) (by decide)) (!Ag) (by rfl)) (by rfl)) (by decide) (by decide) (by rfl) (by rfl)) (!Gq (!C7 B3 (!AB AN (by rfl) T.b_len B5 (!Ab (pv 0) (!Ag) (by rfl)) (by decide) (by decide) (by rfl) (by rfl)) (pv 1) (AJ _)))))),?_⟩
 refine Ke (isA (Hl H v) "tuple") (JT H v n) (fun R q=>⟨_,rfl,_,_,_,_,rfl,ok.ty K,ok.kit K,q⟩) (fun hw R q=>?_) ?_
 ·obtain⟨a,xs,rfl,e⟩:=Sg ok hw
  rw[C6 e] at q
  refine⟨_,rfl,a,xs,rfl,.inr (AW.of e),_,rfl,rfl,?_⟩
  rw[G8,Bool.beq_eq_decide_eq];exact q
 ·cases hw:isA (Hl H v) "tuple" with
  |true=>exact q
  |false=>rw[VP ok hw] at q;exact q
def CB (K:W.Frag):Sp:=fun vs H Q _=>∃u:Str,vs=[.str u]∧0≤PySem.Txt.find SG u∧Q (.int (PySem.Txt.find SG u)) H
theorem Ng (T:Txt K mg Ac Aa XC)(F:Fun K "number_of" "number_of" C4 f fd):FnOk P w K mg base Dp 1 f fd ["sign"] (CB K):=by
 exists Nc
 ·obtain⟨u,rfl,_⟩:=h
  rfl
 obtain⟨u,rfl,h0,q⟩:=h
 refine⟨_,(!Aj (!An (!Gk PySem.F.plainAttrs_str PySem.F.slot_str_index PySem.F.type_str_index (KS rfl) (!GE rfl T.c_SIGNS (by decide)) (!Ab (pv 0) (!Ag) (by rfl)) (by rfl) (by rfl) (by rfl) (by rfl) (by rfl)))),?_⟩
 exact⟨rfl,_,rfl,_,_,rfl,rfl,h0,q⟩
def HB (K:W.Frag):Sp:=fun vs H Q _=>∃i:Int,vs=[.int i]∧0≤i∧i<94∧Q (.str ⟨#[SG.cps.toList.getD i.toNat 0]⟩) H
theorem Pa (T:Txt K mg Ac Aa XC)(F:Fun K "sign_of" "sign_of" D8 f fd):FnOk P w K mg base Dp 1 f fd ["number"] (HB K):=by
 exists Ph
 ·obtain⟨u,rfl,_⟩:=h
  rfl
 obtain⟨i,rfl,h0,h1,q⟩:=h
 refine⟨_,(!Aj (!An (!Ay Qa (!GE rfl T.c_SIGNS (by decide)) (pv 0) (fun _ _=>rfl)))),?_⟩
 exact⟨_,rfl,_,_,_,rfl,rfl,Qg,X8 h0 h1,q⟩
def CT:Nat→Tr→Bool
 |0,_=>false
 |_+1,.int i=>decide (0≤i)&&decide (i≤999999999)
 |_+1,.str z=>decide ((z.length:Int)≤400)&&Bn SG z
 |n+1,.tup ts=>decide (ts.length≤100)&&ts.all (CT n)
 |_+1,_=>false
def All:Addr→Prop:=fun _=>True
def NL:Addr→Prop:=fun _=>False
mutual
theorem EK {H H':Hp}(k:∀c xs,H c=some (.tup xs)→H' c=some (.tup xs)):∀(t:Tr) (v:V),Rep NL H t v→Rep NL H' t v
 | .non,_,h=>h
 | .bl _,_,h=>h
 | .int _,_,h=>h
 | .str _,_,h=>h
 | .tup ts,_,⟨a,vs,e,ha,hr⟩=>⟨a,vs,e,k a _ ha,Il k ts vs hr⟩
 | .lst _,_,⟨_,_,_,fa,_⟩=>fa.elim
theorem Il {H H':Hp}(k:∀c xs,H c=some (.tup xs)→H' c=some (.tup xs)):∀(ts:List Tr) (vs:List V),AD NL H ts vs→AD NL H' ts vs
 |[],_,h=>h
 |t::ts,_,⟨v,us,e,h1,h2⟩=>⟨v,us,e,EK k t v h1,Il k ts us h2⟩
end
theorem MI {H:Hp}{t:Tr}{v:V}(h:Rep NL H t v):Rep All H t v:=Rep.mono (fun _ z=>z.elim) t v h
mutual
theorem PF:∀(n:Nat) (t:Tr),CT n t=true→t.ok
 |0,_,h=>nomatch h
 |n+1,.non,h=>nomatch h
 |n+1,.bl _,h=>nomatch h
 |n+1,.int _,_=>trivial
 |n+1,.str z,h=>by
  have h':(decide ((z.length:Int)≤400)&&Bn SG z)=true:=h
  rw[Bool.and_eq_true,decide_eq_true_eq] at h'
  show z.length≤1000
  omega
 |n+1,.tup ts,h=>by
  have h':(decide (ts.length≤100)&&ts.all (CT n))=true:=h
  rw[Bool.and_eq_true,decide_eq_true_eq] at h'
  exact⟨by omega,Qs n ts h'.2⟩
 |n+1,.lst _,h=>nomatch h
theorem Qs:∀(n:Nat) (ts:List Tr),ts.all (CT n)=true→Tr.oks ts
 |_,[],_=>trivial
 |n,t::ts,h=>by
  rw[List.all_cons,Bool.and_eq_true] at h
  exact⟨PF n t h.1,Qs n ts h.2⟩
end
def idx (c:Nat):Int:=PySem.Txt.find SG ⟨#[c]⟩
theorem GW {c:Nat}(h:c∈Do SG):0≤idx c∧idx c<94∧SG.cps.toList.getD (idx c).toNat 0=c:=by
 obtain⟨k,hk,e⟩:=List.getElem_of_mem (show c∈SG.cps.toList from h)
 have hk':k<94:=by rw[OV] at hk;exact hk
 have eg:SG.cps.toList.getD k 0=c:=by simp only[List.getD,List.getElem?_eq_getElem hk,Option.getD_some];exact e
 have:=QP k hk'
 rw[eg] at this
 have ei:idx c=(k:Int):=this
 rw[ei]
 exact⟨by omega,by omega,eg⟩
mutual
def wT:Tr→List Int
 | .int i=>[0,i]
 | .str z=>1::(z.length:Int)::(Do z).map idx
 | .tup ts=>2::(ts.length:Int)::wTs ts
 |_=>[]
def wTs:List Tr→List Int
 |[]=>[]
 |t::ts=>wT t++wTs ts
end
theorem Ka:∀(a b:List Tr),wTs (a++b)=wTs a++wTs b
 |[],_=>rfl
 |t::a,b=>by
  show wT t++wTs (a++b)=(wT t++wTs a)++wTs b
  rw[Ka a b,List.append_assoc]
theorem NQ {ts:List Tr}{i:Nat}{t:Tr}(h:ts[i]?=some t):wTs (ts.take (i+1))=wTs (ts.take i)++wT t:=by
 rw[List.take_add_one,h,Ka]
 show wTs (ts.take i)++(wT t++[])=_
 rw[List.append_nil]
theorem WR {ts:List Tr}(i:Nat):(wTs (ts.take i)).length≤(wTs ts).length:=by
 have:=congrArg List.length (Ka (ts.take i) (ts.drop i))
 rw[List.take_append_drop,List.length_append] at this
 omega
theorem UN {ts:List Tr}{i:Nat}{t:Tr}(h:ts[i]?=some t):(wTs (ts.take i)).length+(wT t).length≤(wTs ts).length:=by
 have:=WR (ts:=ts) (i+1)
 rw[NQ h,List.length_append] at this
 exact this
theorem MC {n:Nat}{z:Str}(h:CT n (.str z)=true):z.length≤400∧∀c∈Do z,c∈Do SG:=by
 cases n with
 |zero=>cases h
 |succ n=>
  have h':(decide ((z.length:Int)≤400)&&Bn SG z)=true:=h
  rw[Bool.and_eq_true,decide_eq_true_eq] at h'
  refine⟨by omega,fun c hc=>?_⟩
  have:=List.all_eq_true.mp h'.2 c hc
  simpa using this
theorem Cz {n:Nat}{ts:List Tr}(h:CT (n+1) (.tup ts)=true):ts.length≤100∧∀(i:Nat) t,ts[i]?=some t→CT n t=true:=by
 have h':(decide (ts.length≤100)&&ts.all (CT n))=true:=h
 rw[Bool.and_eq_true,decide_eq_true_eq] at h'
 exact⟨h'.1,fun i t ht=>List.all_eq_true.mp h'.2 t (List.mem_of_getElem? ht)⟩
theorem W8 (ts:List Tr):wT (.tup ts)=2::(ts.length:Int)::wTs ts:=rfl
def QS (n:Nat)(K:W.Frag):Sp:=fun vs H Q _=>∃(v:V) (t:Tr),vs=[v]∧Rep NL H t v∧CT n t=true∧(wT t).length≤900000∧∀l H',Al H H'→H l=none→H' l=some (.lst ((wT t).map V.int))→Q (.ref l) H'
def GA (K:W.Frag):Sp:=QS 8 K
theorem UU (T:Txt K mg Ac Aa XC)(F:Fun K "words_of" "words_of" Cv f fd)(A9:Def P w K mg base 1 "is_whole" ["thing"] (Cu K))(Bb:Def P w K mg base 1 "number_of" ["sign"] (CB K))(n:Nat)(EC:Def P w K mg base (1+n) "words_of" ["thing"] (QS n K)):FnOk P w K mg base Dp (1+n+1) f fd ["thing"] (QS (n+1) K):=by
 exists EH
 ·obtain⟨v,t,rfl,_⟩:=h
  rfl
 obtain⟨v,t,rfl,hv,ht,hw,q⟩:=h
 have ok:=PF _ _ ht
 have okv:=(MI hv).ok ok
 have ety:=(MI hv).tyN
 refine⟨_,(!Af (!AL (!Bt (!AK A9 (hr.mono (by omega)) rfl (!Ab (pv 0) (!Ag) (by rfl)) (by decide) (by rfl) (by rfl)) (by intro _;rfl)) (!Aj (!An (!BS (!Ab (!AH rfl T.c_NUMBER_WORD (by decide)) (!Ab (pv 0) (!Ag) (by rfl)) (by rfl))))) (!As)) (!Af (!AL (!Bt (!AB B2 (by rfl) T.b_isinstance Bv (!Ab (pv 0) (!Ab (!JH rfl T.b_str Sw (by decide) (by decide)) (!Ag) (by rfl)) (by rfl)) (by decide) (by decide) (by rfl) (by rfl)) (by intro _;rfl)) (!Aj (!An (!Am FT (!BS (!Ab (!AH rfl T.c_TEXT_WORD (by decide)) (!Ab (!AB FE (by rfl) T.b_len B5 (!Ab (pv 0) (!Ag) (by rfl)) (by decide) (by decide) (by rfl) (by rfl)) (!Ag) (by rfl)) (by rfl))) (@Bq _ ["sign"] _ _ _ _ _ _ _ _ _ _ rfl (!HR (pv 0)) (by decide +kernel) (fun C s H fp=>⟨(@Az _ _ (0) _ (show(["sign"]:List Str).Nodup by decide +kernel) rfl (by trivial) (by trivial)),(!A5),(!AK Bb (hr.mono (by omega)) rfl (!Ab (pv 0) (!Ag) (by rfl)) (by decide) (by rfl) (by rfl))⟩) (by intro _;rfl))))) (!As)) (!Af (@Ax _ _ (1) _ _ _ _ EH.nd rfl (by trivial) (!BS (!Ab (!AH rfl T.c_TUPLE_WORD (by decide)) (!Ab (!AB AN (by rfl) T.b_len B5 (!Ab (pv 0) (!Ag) (by rfl)) (by decide) (by decide) (by rfl) (by rfl)) (!Ag) (by rfl)) (by rfl))) (by rfl) (by trivial)) (!Af (!CJ PassesOwn.never rfl (!Ek (pv 0)) (@Az _ _ (2) _ EH.nd rfl (by trivial) (by trivial)) (!Aj (!Co (!Gk PySem.F.plainAttrs_list PySem.F.slot_list_extend PySem.F.type_list_extend I0 (pv 1) (!Ab (!AK EC (hr.mono (by omega)) rfl (!Ab (pv 2) (!Ag) (by rfl)) (by decide) (by rfl) (by rfl)) (!Ag) (by rfl)) (by rfl) (by rfl) (by rfl) (by rfl) (by rfl)) (by rfl))) (by intro _;rfl)) (!Aj (!An (pv 1))))))),?_⟩
 refine⟨_,rfl,v,rfl,okv,_,rfl,?_⟩
 cases t with
 |int i=>
  cases(show v=V.int i from hv)
  refine AQ rfl ?_
  exact⟨_,rfl,Jn,fun l hl=>q l _ (Ak hl _) hl Ad⟩
 |str z=>
  cases(show v=V.str z from hv)
  obtain⟨zl,zs⟩:=MC ht
  have zc:=BJ z
  refine AS rfl ?_
  refine⟨_,rfl,_,_,_,_,rfl,okv.ty K,okv.kit K,_,rfl,AQ (by rw[ety];show isA "str" "str"=true;decide) ?_⟩
  refine⟨_,rfl,_,rfl,small (by omega),Jn,fun p1 hp1=>?_⟩
  refine⟨_,rfl,z,rfl,?_⟩
  refine comp_map (fun v=>match v with | .str y=>.int (PySem.Txt.find SG y)|_=>.non) EE (by rw[List.length_map];exact Nat.le_trans (Nat.le_of_eq zc) (by omega)) (fun x H' R hx s' hR=>?_) fun l H7 n7 s7 h7=>?_
  ·obtain⟨u,hu,rfl⟩:=List.mem_map.mp hx
   exact⟨_,rfl,_,rfl,(GW (zs u hu)).1,hR H' (Al.refl _)⟩
  have e7:((z.cps.toList.map fun c=>V.str ⟨#[c]⟩).map fun v=>match v with|V.str y=>V.int (PySem.Txt.find SG y)|_=>V.non)=((Do z).map idx).map V.int:=by
   rw[List.map_map,List.map_map];rfl
  rw[e7] at h7
  have s1:=Ak hp1 (.lst [V.int 1,V.int (z.length:Int)])
  refine⟨p1,l,_,_,rfl,rfl,AM.of (s7.get Ad),AM.of h7,small (by rw[List.length_map,List.length_map];show 2+_≤_;omega),fun p hp=>?_⟩
  exact q p _ ((s1.trans s7).trans (Ak hp _)) ((s1.trans s7).free hp) Ad
 |tup ts=>
  obtain⟨a,vs,rfl,ha,hr'⟩:=hv
  have lv:=AD.len ts vs hr'
  obtain⟨tl,tt⟩:=Cz ht
  rw[W8] at hw q
  have hw2:(wTs ts).length≤899998:=by simp only[List.length_cons] at hw;omega
  refine AS (by unfold ER;rw[ety];rfl) ?_
  refine⟨_,rfl,_,_,_,_,rfl,okv.ty K,okv.kit K,_,rfl,AS (by rw[ety];show isA "tuple" "str"=false;decide) ?_⟩
  refine⟨_,rfl,a,_,rfl,.inr (AW.of ha),Jn,fun g hg=>?_⟩
  rw[lv]
  refine⟨_,rfl,a,rfl,⟨_,AW.of ((Ak hg _).get ha)⟩,Iw (K:=K) (a:=a) (xs:=vs) (fun i σ H2=>∃(v2:Option V),σ=[some (.ref a),some (.ref g),v2]∧Al H H2∧H2 g=some (.lst ((2::(ts.length:Int)::wTs (ts.take i)).map V.int)))
   ⟨none,rfl,Ak hg _,Ad⟩ (fun i σ H2 _ ⟨_,_,s2,_⟩=>AW.of (s2.get ha)) ?_ ?_⟩
  ·rintro i y σ H2 hi ⟨v2,rfl,s2,hg2⟩
   obtain⟨ty,et,ry⟩:=AD.get hr' hi
   have b1:=UN et
   refine⟨_,rfl,.inl ⟨rfl,_,AM.of hg2⟩,_,rfl,y,ty,rfl,Rep.same s2 _ _ ry,tt i ty et,by omega,fun l3 H3 s3 n3 h3=>?_⟩
   refine⟨g,l3,_,_,rfl,rfl,s3.get hg2,h3,small (by simp only[List.length_map,List.length_cons];omega),?_⟩
   refine⟨_,rfl,Br (s2.trans s3) hg _,?_⟩
   rw[Ad,←List.map_append,NQ et]
   rfl
  ·rintro σ H2 ⟨v2,rfl,s2,hg2⟩
   rw[lv,List.take_of_length_le (Nat.le_refl _)] at hg2
   exact⟨_,rfl,q g H2 s2 hg hg2⟩
 |non=>cases n<;>cases ht
 |bl b=>cases n<;>cases ht
 |lst ts=>cases n<;>cases ht
theorem Sz (T:Txt K mg Ac Aa XC)(F:Fun K "words_of" "words_of" Cv f fd)(A9:Def P w K mg base 1 "is_whole" ["thing"] (Cu K))(Bb:Def P w K mg base 1 "number_of" ["sign"] (CB K))(hm:mg "words_of"=some (.ref f))(hk:W.keepIn K (.ref f)=true)(hb:Binds K fd ["thing"] []):∀n,FnOk P w K mg base Dp (1+n) f fd ["thing"] (QS n K)
 |0=>by
  exists EH
  ·obtain⟨v,t,rfl,_,ht,_⟩:=h
   cases ht
  ·obtain⟨v,t,rfl,_,ht,_⟩:=h
   cases ht
 |n+1=>UU T F A9 Bb n ⟨f,fd,Sz T F A9 Bb hm hk hb n,hm,hk,hb⟩
theorem N8 (T:Txt K mg Ac Aa XC)(F:Fun K "words_of" "words_of" Cv f fd)(A9:Def P w K mg base 1 "is_whole" ["thing"] (Cu K))(Bb:Def P w K mg base 1 "number_of" ["sign"] (CB K))(hm:mg "words_of"=some (.ref f))(hk:W.keepIn K (.ref f)=true)(hb:Binds K fd ["thing"] []):FnOk P w K mg base Dp 9 f fd ["thing"] (GA K):=
 Sz T F A9 Bb hm hk hb 8
def FO (K:W.Frag):Sp:=fun vs H Q _=>∃(a:Addr) (ns:List Int),vs=[.ref a]∧H a=some (.lst (ns.map V.int))∧ns.length≤1000∧∀H',Al H H'→Q (.int (mk ns)) H'
def fI (i:Nat):V→V
 | .int x=>.int (x*((i:Int)+1))
 |v=>v
theorem Wy (ns:List Int):(List.range (ns.map V.int).length).map (fun i=>fI i ((ns.map V.int).getD i .non))=((List.range ns.length).map fun i=>ns.getD i 0*((i:Int)+1)).map V.int:=by
 rw[List.length_map,List.map_map]
 refine List.map_congr_left fun i hi=>?_
 have hl:i<ns.length:=List.mem_range.mp hi
 simp[List.getD,List.getElem?_eq_getElem hl,fI]
theorem Py (T:Txt K mg Ac Aa XC)(F:Fun K "mark_of" "mark_of" Ef f fd):FnOk P w K mg base Dp 1 f fd ["words"] (FO K):=by
 exists PR
 ·obtain⟨a,ns,rfl,_⟩:=h
  rfl
 obtain⟨a,ns,rfl,hS,hlen,q⟩:=h
 refine⟨_,(!Aj (!An (!Am AG (!AB (Uc rfl) (by rfl) T.b_sum W0 (!Ab (@Bq _ ["place","word"] _ _ _ _ _ _ _ _ _ _ rfl (!UC rfl T.b_enumerate (!Ab (pv 0) (!Ag) (by rfl)) (by rfl) (by rfl)) (by decide +kernel) (fun C s H fp=>⟨(@Qf _ (K) _ _ _ _ (2) (by rfl) rfl (!By (@Az _ _ (0) _ (show(["place","word"]:List Str).Nodup by decide +kernel) rfl (by trivial) (by trivial)) (!By (@Az _ _ (1) _ (show(["place","word"]:List Str).Nodup by decide +kernel) rfl (by trivial) (by trivial)) (!G7) (by rfl)) (by rfl)) (by rfl) (by rfl)),(!A5),(!Am EM (pv 1) (pv 0))⟩) (by intro _;rfl)) (!Ag) (by rfl)) (by decide) (by decide) (by rfl) (by rfl)) (!AH rfl T.c_MARK_RESTS (by decide))))),?_⟩
 refine⟨_,rfl,a,_,rfl,AM.of hS,?_⟩
 refine Rb fI hS (by rw[List.length_map];omega) rfl (fun i x H' R hx s' hR=>?_) (by decide) fun l H' nl s' hl=>?_
 ·obtain⟨z,rfl,hz⟩:=UY hx
  have hil:i<ns.length:=(List.getElem?_eq_some_iff.mp hz).1
  exact⟨_,rfl,_,rfl,_,_,rfl,rfl,.inr ⟨by omega,by omega⟩,hR H' (Al.refl _)⟩
 ·rw[Wy] at hl
  refine⟨l,_,rfl,AM.of hl,?_⟩
  refine⟨_,_,rfl,rfl,(by show(0:Int)<2147483647;decide),?_⟩
  rw[QW]
  exact q _ s'
def IM (K:W.Frag):Sp:=fun vs H Q _=>∃(a:Addr) (ns:List Int),vs=[.ref a]∧H a=some (.lst (ns.map V.int))∧ns.length≤1000∧
 ∀(r:Addr) (H':Hp),Al H H'→H r=none→H' r=some (.lst ((ns++[mk ns]).map V.int))→Q (.ref r) H'
theorem RJ (T:Txt K mg Ac Aa XC)(F:Fun K "sealed" "sealed" Fi f fd)(D9:Def P w K mg base 1 "mark_of" ["words"] (FO K)):FnOk P w K mg base Dp 2 f fd ["words"] (IM K):=by
 exists RF
 ·obtain⟨a,ns,rfl,_⟩:=h
  rfl
 obtain⟨a,ns,rfl,hS,hlen,q⟩:=h
 refine⟨_,(!Aj (!An (!Am FT (pv 0) (!BS (!Ab (!AK D9 (by trivial) rfl (!Ab (pv 0) (!Ag) (by rfl)) (by decide) (by rfl) (by rfl)) (!Ag) (by rfl)))))),?_⟩
 refine⟨_,rfl,_,rfl,a,ns,rfl,hS,hlen,fun H1 s1=>?_⟩
 refine⟨RS,fun g hg=>?_⟩
 refine⟨a,g,_,_,rfl,rfl,AM.of ((Ak hg _).get (s1.get hS)),AM.of Ad,small (by rw[List.length_map];show ns.length+1≤1000000;omega),fun p hp=>?_⟩
 refine q p _ ((s1.trans (Ak hg _)).trans (Ak hp _)) (s1.free ((Ak hg _).free hp)) ?_
 rw[Ad,List.map_append];rfl
def Gn (K:W.Frag):Sp:=fun vs H Q _=>∃(a:Addr) (ns:List Int),vs=[.ref a]∧H a=some (.lst (ns.map V.int))∧ns.length≤1000∧
 (sound ns=false→∀H',Al H H'→Q .non H')∧(sound ns=true→∀(r:Addr) (H':Hp),Al H H'→H r=none→H' r=some (.lst (ns.dropLast.map V.int))→Q (.ref r) H')
def fB:V→V
 | .int x=>.bl (RU x)
 |v=>v
theorem NC (T:Txt K mg Ac Aa XC)(F:Fun K "unsealed" "unsealed" Du f fd)(D9:Def P w K mg base 1 "mark_of" ["words"] (FO K))(AA:Def P w K mg base 2 "is_between" ["thing","least","most"] (Bg K)):FnOk P w K mg base Dp 3 f fd ["row"] (Gn K):=by
 exists JI
 ·obtain⟨a,ns,rfl,_⟩:=h
  rfl
 obtain⟨a,ns,rfl,hS,hlen,q0,q1⟩:=h
 refine⟨_,(!Af (!AL (@PW.pt _ _ _ (!GU (!AI B3 (!AB AN (by rfl) T.b_len B5 (!Ab (pv 0) (!Ag) (by rfl)) (by decide) (by decide) (by rfl) (by rfl)) (!Ae) (AJ _)) (!EY (!BA (!Bt (!AB (GH rfl) (by rfl) T.b_all KD (!Ab (@Bq _ ["word"] _ _ _ _ _ _ _ _ _ _ rfl (!Dk (pv 0)) (by decide +kernel) (fun C s H fp=>⟨(@Az _ _ (0) _ (show(["word"]:List Str).Nodup by decide +kernel) rfl (by trivial) (by trivial)),(!A5),(!AK AA (by trivial) rfl (!Ab (pv 0) (!Ab (!Ae) (!Ab (!Am HP (!AH rfl T.c_MARK_RESTS (by decide)) (!Ae)) (!Ag) (by rfl)) (by rfl)) (by rfl)) (by decide) (by rfl) (by rfl))⟩) (by intro _;rfl)) (!Ag) (by rfl)) (by decide) (by decide) (by rfl) (by rfl)) (by intro _;rfl)))))) (!Aj (!An (!Dm))) (!As)) (!Af (@Ax _ _ (1) _ _ _ _ JI.nd rfl (by trivial) (!Dg FN (pv 0) (!II) (!CD (!T8 OY (!Ae)))) (by rfl) (by trivial)) (!Af (!AL (!AI QV (!Ay AY (pv 0) (!T8 OY (!Ae)) (fun _ _=>rfl)) (!AK D9 (by trivial) rfl (!Ab (pv 1) (!Ag) (by rfl)) (by decide) (by rfl) (by rfl)) (AJ _)) (!Aj (!An (!Dm))) (!As)) (!Aj (!An (pv 1)))))),?_⟩
 dsimp only[B9,Cx.nox,Cx.wish]
 refine⟨_,rfl,a,_,rfl,.inl (AM.of hS),rfl,_,rfl,?_⟩
 refine Cs (fun c=>?_) (fun c=>?_)
 ·have hn:ns=[]:=by simpa using c
  subst hn
  exact YO (q0 (by decide) _ (Al.refl _))
 have hne:ns≠[]:=by simpa using c
 refine⟨_,rfl,a,rfl,⟨_,AM.of hS⟩,?_⟩
 refine comp_map fB (Fh (AM.of hS)) (by rw[List.length_map];omega) (fun x H' R hx s' hR=>?_) fun l H1 nl s1 hl=>?_
 ·obtain⟨u,_,rfl⟩:=List.mem_map.mp hx
  exact⟨_,rfl,_,_,rfl,rfl,.int u,0,_,rfl,trivial,hR H' (Al.refl _)⟩
 have el:(ns.map V.int).map fB=(ns.map RU).map V.bl:=by rw[List.map_map,List.map_map];rfl
 rw[el] at hl
 refine⟨l,ns.map RU,rfl,AM.of hl,_,rfl,?_⟩
 have ea:(ns.map RU).all id=ns.all RU:=by rw[List.all_map];rfl
 rw[ea]
 refine Cs (fun c2=>?_) (fun c2=>?_)
 ·have hf:sound ns=false:=by
   unfold sound
   have:ns.all RU=false:=by simpa using c2
   rw[this];simp
  exact q0 hf _ s1
 have hal:ns.all RU=true:=by
  cases e:ns.all RU with
  |true=>rfl
  |false=>rw[e] at c2;exact absurd rfl c2
 refine⟨_,rfl,_,rfl,_,rfl,a,_,rfl,AM.of (s1.get hS),fun p hp=>?_⟩
 have ec:GI (ns.map V.int) none (some (-1))=ns.dropLast.map V.int:=by rw[Tz,List.map_dropLast]
 have s2:=s1.trans (Ak hp (.lst (ns.dropLast.map V.int)))
 have eH:upd H1 p (.lst (GI (ns.map V.int) none (some (-1))))=upd H1 p (.lst (ns.dropLast.map V.int)):=by rw[ec]
 rw[show(-(1:Int)) = -1 from rfl,eH]
 have at1:He (ns.map V.int) (-1)=some (.int (ns.getLastD 0)):=by
  have e1:ns=ns.dropLast++[ns.getLast hne]:=(List.dropLast_concat_getLast hne).symm
  have e2:ns.getLastD 0=ns.getLast hne:=by rw[List.getLastD_eq_getLast?,List.getLast?_eq_some_getLast hne];rfl
  rw[e2]
  conv=>lhs;rw[e1]
  rw[List.map_append]
  exact Tn _ _
 refine⟨_,rfl,_,rfl,a,_,_,_,rfl,rfl,AM.of (s2.get hS),at1,_,rfl,p,_,rfl,Ad,by rw[List.length_dropLast];omega,fun H3 s3=>?_⟩
 refine⟨rfl,_,rfl,?_⟩
 refine Cs (fun c3=>?_) (fun c3=>?_)
 ·have hf:sound ns=false:=by
   unfold sound
   have:¬ns.getLastD 0=mk ns.dropLast:=by simpa using c3
   rw[decide_eq_false this];simp
  exact q0 hf _ (s2.trans s3)
 ·have he:ns.getLastD 0=mk ns.dropLast:=by simpa using c3
  have ht:sound ns=true:=by
   unfold sound
   rw[hal,decide_eq_true he,decide_eq_false hne];rfl
  exact⟨_,rfl,q1 ht p _ (s2.trans s3) (s1.free hp) (s3.get Ad)⟩
theorem Ku {g:Array Nat}(hg:g.toList=[]):∀(xs:List Str) (acc:Array Nat),(xs.foldl (fun acc p=>acc++g++p.cps) acc).toList=acc.toList++(xs.map Do).flatten
 |[],acc=>by simp
 |x::xs,acc=>by
  rw[List.foldl_cons,Ku hg xs,Array.toList_append,Array.toList_append,hg,List.append_nil,List.map_cons,List.flatten_cons,List.append_assoc]
theorem NU {g:Str}(hg:Do g=[])(ys:List Str):Do (PySem.Txt.join g ys)=(ys.map Do).flatten:=by
 unfold PySem.Txt.join PySem.Builtin.Str.glued
 change Array.toList (List.foldl _ _ _)=_
 rw[Ku (g:=g.cps) hg]
 cases ys with
 |nil=>rfl
 |cons y ys=>simp
abbrev Fz:Str:=PySem.Str.ofString ""
def NI (g:List Int→Option (Tr×List Int)):Nat→List Int→Option (List Tr×List Int)
 |0,ws=>some ([],ws)
 |i+1,ws=>match NI g i ws with
  |none=>none
  |some (ts,r)=>match g r with
   |none=>none
   |some (t,r')=>some (ts++[t],r')
def FI (x:Int):Nat:=SG.cps.toList.getD x.toNat 0
def Lm:Nat→List Int→Option (List Nat×List Int)
 |0,ws=>some ([],ws)
 |i+1,ws=>match Lm i ws with
  |some (cs,x::r)=>if 0≤x∧x≤93 then some (cs++[FI x],r) else none
  |_=>none
def rd:Nat→List Int→Option (Tr×List Int)
 |0,_=>none
 |n+1,ws=>match ws with
  |[]=>none
  |x::ws1=>if 0≤x∧x≤2 then match ws1 with
    |[]=>none
    |m::r=>if x=0 then(if 0≤m∧m≤999999999 then some (.int m,r) else none)
     else if x=1 then(if 0≤m∧m≤400 then(match Lm m.toNat r with|some (cs,r')=>some (.str ⟨cs.toArray⟩,r')|none=>none) else none)
     else(if 0≤m∧m≤100 then(match NI (rd n) m.toNat r with|some (ts,r')=>some (.tup ts,r')|none=>none) else none)
   else none
theorem Pf {c:Nat}(h:c∈Do SG):FI (idx c)=c:=(GW h).2.2
theorem PM {x:Int}(h0:0≤x)(h1:x≤93):idx (FI x)=x∧FI x∈Do SG:=by
 have hk:x.toNat<SG.cps.toList.length:=by rw[OV];omega
 have:=QP x.toNat (by omega)
 have e:(x.toNat:Int)=x:=by omega
 constructor
 ·rw[e] at this;exact this
 ·unfold FI
  simp only[List.getD,List.getElem?_eq_getElem hk,Option.getD_some]
  exact List.getElem_mem hk
theorem Jk:∀(i:Nat) (ws:List Int) {cs:List Nat} {r:List Int},Lm i ws=some (cs,r)→cs.length=i∧(∀c∈cs,c∈Do SG)∧cs.map idx++r=ws
 |0,ws,cs,r,h=>by
  cases(Option.some.inj h)
  exact⟨rfl,(fun _ z=>nomatch z),rfl⟩
 |i+1,ws,cs,r,h=>by
  unfold Lm at h
  split at h
  ·rename_i cs1 x r1 e1
   split at h
   ·rename_i hx
    cases(Option.some.inj h)
    obtain⟨a1,a2,a3⟩:=Jk i ws e1
    obtain⟨b1,b2⟩:=PM hx.1 hx.2
    refine⟨by rw[List.length_append,a1];rfl,fun c hc=>?_,?_⟩
    ·rcases List.mem_append.mp hc with hc|hc
     ·exact a2 c hc
     ·rw[List.mem_singleton.mp hc];exact b2
    ·rw[List.map_append,List.append_assoc]
     show cs1.map idx++(idx (FI x)::r)=ws
     rw[b1];exact a3
   ·cases h
  ·cases h
theorem ND:∀(cs:List Nat) (r:List Int),(∀c∈cs,c∈Do SG)→∀i,i≤cs.length→Lm i (cs.map idx++r)=some (cs.take i,(cs.drop i).map idx++r)
 |cs,r,h,0,_=>rfl
 |cs,r,h,i+1,hi=>by
  have ih:=ND cs r h i (by omega)
  obtain⟨c,hc⟩:∃c,cs[i]?=some c:=⟨cs[i],List.getElem?_eq_getElem _⟩
  have hd:cs.drop i=c::cs.drop (i+1):=by rw[List.drop_eq_getElem_cons (by omega)];congr 1;rw[List.getElem?_eq_getElem (by omega)] at hc;exact Option.some.inj hc
  obtain⟨b1,b2,b3⟩:=GW (h c (List.mem_of_getElem? hc))
  unfold Lm
  rw[ih,hd]
  show(if 0≤idx c∧idx c≤93 then _ else _)=_
  rw[if_pos ⟨b1,by omega⟩,List.take_add_one,hc,Pf (h c (List.mem_of_getElem? hc))]
  rfl
theorem Lz {n:Nat}{g:List Int→Option (Tr×List Int)}(hg:∀ws t r,g ws=some (t,r)→CT n t=true∧wT t++r=ws):∀(i:Nat) (ws:List Int) {ts:List Tr} {r:List Int},NI g i ws=some (ts,r)→ts.length=i∧(∀t∈ts,CT n t=true)∧wTs ts++r=ws
 |0,ws,ts,r,h=>by
  cases(Option.some.inj h)
  exact⟨rfl,(fun _ z=>nomatch z),rfl⟩
 |i+1,ws,ts,r,h=>by
  unfold NI at h
  split at h
  ·cases h
  ·rename_i ts1 r1 e1
   split at h
   ·cases h
   ·rename_i t r' e2
    cases(Option.some.inj h)
    obtain⟨a1,a2,a3⟩:=Lz hg i ws e1
    obtain⟨b1,b2⟩:=hg _ _ _ e2
    refine⟨by rw[List.length_append,a1];rfl,fun t' ht'=>?_,?_⟩
    ·rcases List.mem_append.mp ht' with ht'|ht'
     ·exact a2 t' ht'
     ·rw[List.mem_singleton.mp ht'];exact b1
    ·rw[Ka,List.append_assoc]
     show wTs ts1++((wT t++[])++r)=ws
     rw[List.append_nil,b2];exact a3
theorem Oc:∀(n:Nat) (ws:List Int) (t:Tr) (r:List Int),rd n ws=some (t,r)→CT n t=true∧wT t++r=ws
 |0,_,_,_,h=>nomatch h
 |n+1,ws,t,r,h=>by
  unfold rd at h
  split at h
  ·cases h
  ·rename_i x ws1
   split at h
   ·rename_i hx
    split at h
    ·cases h
    ·rename_i m r1
     split at h
     ·rename_i x0
      split at h
      ·rename_i hm
       cases(Option.some.inj h)
       subst x0
       exact⟨by show(decide (0≤m)&&decide (m≤999999999))=true;rw[decide_eq_true hm.1,decide_eq_true hm.2];rfl,rfl⟩
      ·cases h
     ·split at h
      ·rename_i x1
       split at h
       ·rename_i hm
        split at h
        ·rename_i cs r' e
         cases(Option.some.inj h)
         obtain⟨a1,a2,a3⟩:=Jk _ _ e
         subst x1
         have lz:(⟨cs.toArray⟩:Str).length=m.toNat:=by rw[←a1];rfl
         refine⟨?_,?_⟩
         ·show(decide (((⟨cs.toArray⟩:Str).length:Int)≤400)&&Bn SG ⟨cs.toArray⟩)=true
          rw[decide_eq_true (by rw[lz];omega),Bool.true_and]
          unfold Bn
          rw[List.all_eq_true]
          intro c hc
          exact decide_eq_true (a2 c hc)
         ·show 1::((⟨cs.toArray⟩:Str).length:Int)::(cs.map idx++r)=_
          rw[lz,a3]
          congr 2
          omega
        ·cases h
       ·cases h
      ·rename_i x0 x1
       split at h
       ·rename_i hm
        split at h
        ·rename_i ts r' e
         cases(Option.some.inj h)
         obtain⟨a1,a2,a3⟩:=Lz (Oc n) _ _ e
         have x2:x=2:=by omega
         subst x2
         refine⟨?_,?_⟩
         ·show(decide (ts.length≤100)&&ts.all (CT n))=true
          rw[decide_eq_true (by omega),Bool.true_and,List.all_eq_true]
          exact a2
         ·show 2::(ts.length:Int)::(wTs ts++r)=_
          rw[a3,a1]
          congr 2
          omega
        ·cases h
       ·cases h
   ·cases h
theorem Of {g:List Int→Option (Tr×List Int)}(ts:List Tr)(r:List Int)(hg:∀t∈ts,∀r,g (wT t++r)=some (t,r)):∀i,i≤ts.length→NI g i (wTs ts++r)=some (ts.take i,wTs (ts.drop i)++r)
 |0,_=>rfl
 |i+1,hi=>by
  have ih:=Of ts r hg i (by omega)
  obtain⟨t,ht⟩:∃t,ts[i]?=some t:=⟨ts[i],List.getElem?_eq_getElem _⟩
  have hd:ts.drop i=t::ts.drop (i+1):=by rw[List.drop_eq_getElem_cons (by omega)];congr 1;rw[List.getElem?_eq_getElem (by omega)] at ht;exact Option.some.inj ht
  unfold NI
  rw[ih,hd]
  show(match g ((wT t++wTs (ts.drop (i+1)))++r) with|none=>none|some (t,r')=>some (ts.take i++[t],r'))=_
  rw[List.append_assoc,hg t (List.mem_of_getElem? ht),List.take_add_one,ht]
  rfl
theorem Kd:∀(n:Nat) (t:Tr) (r:List Int),CT n t=true→rd n (wT t++r)=some (t,r)
 |0,_,_,h=>nomatch h
 |n+1,.non,_,h=>nomatch h
 |n+1,.bl _,_,h=>nomatch h
 |n+1,.lst _,_,h=>nomatch h
 |n+1,.int i,r,h=>by
  have h':(decide (0≤i)&&decide (i≤999999999))=true:=h
  rw[Bool.and_eq_true,decide_eq_true_eq,decide_eq_true_eq] at h'
  show rd (n+1) (0::i::r)=_
  unfold rd
  dsimp only
  rw[if_pos ⟨by decide,by decide⟩,if_pos rfl,if_pos h']
 |n+1,.str z,r,h=>by
  obtain⟨zl,zs⟩:=MC h
  have zc:=BJ z
  show rd (n+1) (1::(z.length:Int)::((Do z).map idx++r))=_
  unfold rd
  dsimp only
  rw[if_pos ⟨by decide,by decide⟩]
  rw[if_neg (by decide),if_pos rfl,if_pos ⟨by omega,by omega⟩,ND (Do z) r zs _ (by omega),List.take_of_length_le (by omega),List.drop_eq_nil_of_le (by omega)]
  have:(⟨(Do z).toArray⟩:Str)=z:=QJ rfl
  show some (Tr.str ⟨(Do z).toArray⟩,r)=_
  rw[this]
 |n+1,.tup ts,r,h=>by
  obtain⟨tl,tt⟩:=Cz h
  have hg:∀t∈ts,∀r,rd n (wT t++r)=some (t,r):=fun t ht r=>by
   obtain⟨i,hi⟩:=List.getElem?_of_mem ht
   exact Kd n t r (tt i t hi)
  show rd (n+1) (2::(ts.length:Int)::(wTs ts++r))=_
  unfold rd
  dsimp only
  rw[if_pos ⟨by decide,by decide⟩]
  rw[if_neg (by decide),if_neg (by decide),if_pos ⟨by omega,by omega⟩,Of ts r hg _ (by omega),List.take_of_length_le (by omega),List.drop_eq_nil_of_le (by omega)]
  rfl
def XG (ws:List Int):Option (List Nat×List Int):=match ws with
 |[]=>none
 |m::r=>if 0≤m∧m≤400 then Lm m.toNat r else none
theorem ON {i:Nat}{ws:List Int}(h:Lm i ws=none):∀j,i≤j→Lm j ws=none
 |0,hj=>by
  have:i=0:=by omega
  rw[←this];exact h
 |j+1,hj=>by
  by_cases e:i=j+1
  ·rw[←e];exact h
  ·have:=ON h j (by omega)
   unfold Lm
   rw[this]
theorem OO {g:List Int→Option (Tr×List Int)}{i:Nat}{ws:List Int}(h:NI g i ws=none):∀j,i≤j→NI g j ws=none
 |0,hj=>by
  have:i=0:=by omega
  rw[←this];exact h
 |j+1,hj=>by
  by_cases e:i=j+1
  ·rw[←e];exact h
  ·have:=OO h j (by omega)
   unfold NI
   rw[this]
theorem Ue {i:Nat}{ws:List Int}{cs:List Nat}{x:Int}{r:List Int}(h:Lm i ws=some (cs,x::r))(hx:0≤x∧x≤93):Lm (i+1) ws=some (cs++[FI x],r):=by
 unfold Lm
 rw[h]
 exact if_pos hx
theorem Vm {i:Nat}{ws:List Int}{cs:List Nat}{r:List Int}(h:Lm i ws=some (cs,r))(hn:∀x r',r=x::r'→¬(0≤x∧x≤93)):Lm (i+1) ws=none:=by
 unfold Lm
 rw[h]
 cases r with
 |nil=>rfl
 |cons x r'=>exact if_neg (hn x r' rfl)
theorem SH {g:List Int→Option (Tr×List Int)}{i:Nat}{ws:List Int}{ts:List Tr}{r r':List Int}{t:Tr}(h:NI g i ws=some (ts,r))(hg:g r=some (t,r')):NI g (i+1) ws=some (ts++[t],r'):=by
 unfold NI
 rw[h]
 show(match g r with|none=>_|some (t,r')=>_)=_
 rw[hg]
theorem VB {g:List Int→Option (Tr×List Int)}{i:Nat}{ws:List Int}{ts:List Tr}{r:List Int}(h:NI g i ws=some (ts,r))(hg:g r=none):NI g (i+1) ws=none:=by
 unfold NI
 rw[h]
 show(match g r with|none=>_|some (t,r')=>_)=_
 rw[hg]
def Kp (H H':Hp)(p:Addr):Prop:=∀b o,H b=some o→b≠p→H' b=some o
theorem Kp.refl (H:Hp)(p:Addr):Kp H H p:=fun _ _ e _=>e
theorem Kp.trans {H H1 H2:Hp}{p:Addr}(a:Kp H H1 p)(b:Kp H1 H2 p):Kp H H2 p:=fun c o e n=>b c o (a c o e n) n
theorem Kp.put {H:Hp}{p:Addr}(o:HO):Kp H (upd H p o) p:=fun c u e n=>by rw[Ai n];exact e
theorem Al.kp {H H':Hp}(s:Al H H')(p:Addr):Kp H H' p:=fun c o e _=>s c o e
theorem Kp.new {H H':Hp}{p l:Addr}(a:Kp H H' p)(h:H l=none)(o:HO):Kp H (upd H' l o) p:=fun c u e n=>by rw[Ai (Ar e h)];exact a c u e n
def Q5 (wl:Addr)(k:Int):List (Str×V):=[("words",.ref wl),("place",.int k)]
def CV (K:W.Frag)(Ac:Addr):Sp:=fun vs H Q _=>∃(p dx wl:Addr),vs=[.ref p,.ref wl]∧H p=some (.ins Ac dx [])∧Q .non (upd H p (.ins Ac dx (Q5 wl 0)))
def Bi (K:W.Frag)(Ac:Addr):Sp:=fun vs H Q _=>∃(p dx wl:Addr) (ws:List Int) (k:Nat),vs=[.ref p]∧H p=some (.ins Ac dx (Q5 wl k))∧H wl=some (.lst (ws.map V.int))∧Q (.bl (decide (k=ws.length))) H
theorem HU (T:Txt K mg Ac Aa XC)(F:Fun K "__init__" "WordReader.__init__" Bo f fd):FnOk P w K mg base Dp 1 f fd ["self","words"] (CV K Ac):=by
 exists HA
 ·obtain⟨p,dx,wl,rfl,_⟩:=h
  rfl
 obtain⟨p,dx,wl,rfl,h1,q⟩:=h
 refine⟨_,(!Af (!KC (pv 0) (pv 1) rfl) (!Aj (!KC (pv 0) (!Ae) rfl))),?_⟩
 refine⟨_,rfl,_,rfl,p,Ac,dx,[],rfl,h1,T.cl_WordReader,T.n_WordReader_words,(by show 0<1000;decide),?_⟩
 refine⟨_,rfl,p,Ac,dx,_,rfl,Ad,T.cl_WordReader,T.n_WordReader_place,(by show 1<1000;decide),?_⟩
 rw[FV]
 exact q
theorem EO (T:Txt K mg Ac Aa XC)(F:Fun K "is_through" "WordReader.is_through" AU f fd):FnOk P w K mg base Dp 1 f fd ["self"] (Bi K Ac):=by
 exists ET
 ·obtain⟨p,dx,wl,ws,k,rfl,_⟩:=h
  rfl
 obtain⟨p,dx,wl,ws,k,rfl,h1,h2,q⟩:=h
 refine⟨_,(!Aj (!An (!C7 B3 (!Fb (pv 0) rfl) (!AB AN (by rfl) T.b_len B5 (!Ab (!Fb (pv 0) rfl) (!Ag) (by rfl)) (by decide) (by decide) (by rfl) (by rfl)) (AJ _)))),?_⟩
 refine⟨_,rfl,p,Ac,dx,_,_,rfl,h1,T.cl_WordReader,T.n_WordReader_place,rfl,_,rfl,p,Ac,dx,_,_,rfl,h1,T.cl_WordReader,T.n_WordReader_words,rfl,wl,_,rfl,.inl (AM.of h2),rfl,?_⟩
 have e:decide (V.int (k:Int)=V.int ((ws.map V.int).length:Int))=decide (k=ws.length):=by
  rw[G8,List.length_map]
  rw[Bool.eq_iff_iff]
  simp
  omega
 rw[e]
 exact q
theorem Fv {ws:List Int}{k:Nat}{x:Int}{r:List Int}(h:ws.drop k=x::r):ws[k]?=some x∧ws.drop (k+1)=r:=by
 constructor
 ·have:(ws.drop k)[0]?=some x:=by rw[h];rfl
  rw[List.getElem?_drop] at this
  simpa using this
 ·have:(ws.drop k).drop 1=r:=by rw[h];rfl
  rw[List.drop_drop] at this
  exact this
theorem VS:∀cs:List Nat,(cs.map fun c=>[c]).flatten=cs
 |[]=>rfl
 |c::cs=>by rw[List.map_cons,List.flatten_cons,VS cs];rfl
def A4 (K:W.Frag)(Ac:Addr)(XC:Nat→Addr):Sp:=fun vs H Q E=>∃(p dx wl:Addr) (ws:List Int) (k:Nat) (m:Int),vs=[.ref p,.int m]∧H p=some (.ins Ac dx (Q5 wl k))∧H wl=some (.lst (ws.map V.int))∧k≤ws.length∧
 (∀x r,ws.drop k=x::r→0≤x→x≤m→Q (.int x) (upd H p (.ins Ac dx (Q5 wl ((k+1:Nat):Int)))))∧((∀x r,ws.drop k=x::r→¬(0≤x∧x≤m))→E (.ref (XC 0)) none H)
theorem Ge (T:Txt K mg Ac Aa XC)(F:Fun K "word_to" "WordReader.word_to" A7 f fd)(AV:DI P w K mg base 1 Ac "is_through" ["self"] (Bi K Ac))(AA:Def P w K mg base 2 "is_between" ["thing","least","most"] (Bg K)):FnOk P w K mg base (IK P w) 3 f fd ["self","most"] (A4 K Ac XC):=by
 refine F.okX Gc (fun vs H Q E h=>?_) (fun cdv A outer s H vs Q E hr h=>?_)
 ·obtain⟨p,dx,wl,ws,k,m,rfl,_⟩:=h
  rfl
 obtain⟨p,dx,wl,ws,k,m,rfl,h1,h2,hk,q,qE⟩:=h
 have nwp:wl≠p:=Av h2 h1 (by intro z;cases z)
 refine⟨_,(!Af (!AL (@PW.pt _ _ _ (!GU (!Bt (!Hh (pv 0) T.cl_WordReader AV (by trivial) (by rfl)) (by intro _;rfl)) (!EY (!BA (!Bt (!AK AA (by trivial) rfl (!Ab (!Ay AY (!Fb (pv 0) rfl) (!Fb (pv 0) rfl) (fun _ _=>rfl)) (!Ab (!Ae) (!Ab (pv 1) (!Ag) (by rfl)) (by rfl)) (by rfl)) (by decide) (by rfl) (by rfl)) (by intro _;rfl)))))) (!Aj (!Hj Im rfl T.x_NoThing T.q_NoThing rfl (by decide))) (!As)) (!Af (!Jb (pv 0) (!Ae) Qz) (!Aj (!An (!Ay AY (!Fb (pv 0) rfl) (!Am HP (!Fb (pv 0) rfl) (!Ae)) (fun _ _=>rfl)))))),?_⟩
 try dsimp only[B9]
 cases hd:ws.drop k with
 |nil=>
  have ek:k=ws.length:=by
   have:=congrArg List.length hd
   rw[List.length_drop] at this
   simp at this
   omega
  refine Tj true true (fun R q=>⟨_,rfl,p,dx,_,rfl,h1,rfl,p,dx,wl,ws,k,rfl,h1,h2,_,rfl,?_⟩) (fun z=>nomatch z) ?_
  ·rw[decide_eq_true ek];exact q
  refine AQ rfl ?_
  exact qE fun x r z=>by rw[hd] at z;cases z
 |cons x r=>
  obtain⟨hx,_⟩:=Fv hd
  have hkl:k<ws.length:=(List.getElem?_eq_some_iff.mp hx).1
  have ax:He (ws.map V.int) (k:Int)=some (V.int x):=CP (by rw[List.getElem?_map,hx];rfl)
  have eb:Cn 0 m (V.int x)=(decide (0≤x)&&decide (x≤m)):=rfl
  refine Tj false (!(decide (0≤x)&&decide (x≤m))) (fun R q=>⟨_,rfl,p,dx,_,rfl,h1,rfl,p,dx,wl,ws,k,rfl,h1,h2,_,rfl,?_⟩) (fun _ R q=>?_) ?_
  ·rw[decide_eq_false (by omega)];exact q
  ·exact⟨_,rfl,p,Ac,dx,_,_,rfl,h1,T.cl_WordReader,T.n_WordReader_words,rfl,_,rfl,p,Ac,dx,_,_,rfl,h1,T.cl_WordReader,T.n_WordReader_place,rfl,wl,_,_,_,rfl,rfl,AM.of h2,ax,_,rfl,V.int x,0,m,rfl,trivial,_,rfl,q⟩
  by_cases hb:0≤x∧x≤m
  ·refine AS (by rw[decide_eq_true hb.1,decide_eq_true hb.2];rfl) ?_
   refine⟨_,rfl,p,Ac,dx,_,_,rfl,h1,T.cl_WordReader,T.n_WordReader_place,rfl,_,_,rfl,rfl,dx,_,h1,(by show 2<1000;decide),?_⟩
   have q':Q (.int x) (upd H p (.ins Ac dx (DT "place" (V.int ((k:Int)+1)) (Q5 wl k)))):=q x r hd hb.1 hb.2
   refine⟨_,rfl,p,Ac,dx,_,_,rfl,Ad,T.cl_WordReader,T.n_WordReader_words,rfl,_,rfl,p,Ac,dx,_,_,rfl,Ad,T.cl_WordReader,T.n_WordReader_place,rfl,_,_,rfl,rfl,wl,_,_,_,rfl,rfl,AM.of (by rw[Ai nwp];exact h2),?_,q'⟩
   have:(k:Int)+1-1=(k:Int):=by omega
   show He (ws.map V.int) ((k:Int)+1-1)=_
   rw[this]
   exact ax
  ·refine AQ ?_ ?_
   ·rw[Bool.false_or,Bool.not_eq_true',Bool.and_eq_false_iff]
    by_cases h0:0≤x
    ·exact .inr (decide_eq_false fun z=>hb ⟨h0,z⟩)
    ·exact .inl (decide_eq_false h0)
   ·exact qE fun x' r' z=>by
     rw[hd] at z
     cases z
     exact hb
def Di (K:W.Frag)(Ac:Addr)(XC:Nat→Addr):Sp:=fun vs H Q E=>∃(p dx wl:Addr) (ws:List Int) (k:Nat),vs=[.ref p]∧H p=some (.ins Ac dx (Q5 wl k))∧H wl=some (.lst (ws.map V.int))∧k≤ws.length∧
 (∀cs r' (k':Nat) H',XG (ws.drop k)=some (cs,r')→ws.drop k'=r'→k'≤ws.length→Kp H H' p→H' p=some (.ins Ac dx (Q5 wl (k':Int)))→Q (.str ⟨cs.toArray⟩) H')∧(XG (ws.drop k)=none→∀H',Kp H H' p→E (.ref (XC 0)) none H')
theorem QK:(SG.length:Int)-1=93:=by decide +kernel
theorem MK (T:Txt K mg Ac Aa XC)(F:Fun K "read_text" "read_text" C2 f fd)(Au:Js P w K mg base 3 Ac "word_to" ["self","most"] (A4 K Ac XC))(IP:Def P w K mg base 1 "sign_of" ["number"] (HB K)):FnOk P w K mg base (IK P w) 4 f fd ["reader"] (Di K Ac XC):=by
 refine F.okX IB (fun vs H Q E h=>?_) (fun cdv A outer s H vs Q E hr h=>?_)
 ·obtain⟨p,dx,wl,ws,k,rfl,_⟩:=h
  rfl
 obtain⟨p,dx,wl,ws,k,rfl,h1,h2,hk,q,qE⟩:=h
 have nwp:wl≠p:=Av h2 h1 (by intro z;cases z)
 refine⟨_,(!Af (@Ax _ _ (1) _ _ _ _ IB.nd rfl (by trivial) (!G6 (pv 0) T.cl_WordReader Au (by trivial) FR (!Ab (!AH rfl T.c_MOST_SIGNS (by decide)) (!Ag) (by rfl)) (by rfl) (by rfl) (by rfl)) (by rfl) (by trivial)) (!Aj (!An (!Gk PySem.F.plainAttrs_str PySem.F.slot_str_join PySem.F.type_str_join (Mh rfl) (!IW) (!Ab (@Ox _ _ _ _ _ _ _ _ _ _ _ _ _ _ _ _ rfl ["sign","reader"] [none,some 0] _ _ _ _ _ _ _ _ _ _ _ rfl (!Ec rfl T.b_range (!Ab (pv 1) (!Ag) (by rfl)) (by rfl)) (by rfl) rfl (by repeat (first|exact trivial|refine⟨rfl,?_⟩)) (by repeat (first|exact trivial|refine⟨fun h=>(by first|exact⟨_,rfl⟩|cases h),?_⟩)) (fun C s H fp=>⟨(@Az _ _ (0) _ (show(["sign","reader"]:List Str).Nodup by decide +kernel) rfl (by trivial) (by trivial)),(!A5),(!AK IP (by trivial) rfl (!Ab (!G6 (pv 1) T.cl_WordReader Au (by trivial) OH (!Ab (!Am HP (!AB FE (by rfl) T.b_len B5 (!Ab (!GE rfl T.c_SIGNS (by decide)) (!Ag) (by rfl)) (by decide) (by decide) (by rfl) (by rfl)) (!Ae)) (!Ag) (by rfl)) (by rfl) (by rfl) (by rfl)) (!Ag) (by rfl)) (by decide) (by rfl) (by rfl))⟩) (by intro _;rfl)) (!Ag) (by rfl)) (by rfl) (by rfl) (by rfl) (by rfl) (by rfl))))),?_⟩
 try dsimp only[B9]
 refine⟨_,rfl,p,dx,_,rfl,h1,rfl,p,dx,wl,ws,k,400,rfl,h1,h2,hk,fun m r hd m0 m1=>?_,fun no=>?_⟩
 ·obtain⟨g1,g2⟩:=Fv hd
  have hkl:k<ws.length:=(List.getElem?_eq_some_iff.mp g1).1
  have eT:XG (ws.drop k)=Lm m.toNat r:=by rw[hd];show(if 0≤m∧m≤400 then Lm m.toNat r else none)=_;rw[if_pos ⟨m0,m1⟩]
  rw[eT] at q qE
  refine⟨rfl,_,rfl,m,rfl,by omega,by omega,?_⟩
  refine MQ (xs:=(List.range m.toNat).map fun(i:Nat)=>V.int (0+(i:Int))) (fun i ys l H'=>Kp (upd H p (.ins Ac dx (Q5 wl ((k+1:Nat):Int)))) H' p∧∃(cs:List Nat) (r1:List Int) (k1:Nat),Lm i r=some (cs,r1)∧ws.drop k1=r1∧k1≤ws.length∧H' p=some (.ins Ac dx (Q5 wl (k1:Int)))∧ys=cs.map fun c=>V.str ⟨#[c]⟩) (by rw[List.length_map,List.length_range];omega) (fun i ys l H' _=>PQ) (fun l hl=>⟨(Kp.refl _ p).new hl _,[],r,k+1,rfl,g2,by omega,by rw[Ai (Ar Ad hl)];exact Ad,rfl⟩) (fun i x ys l H' R hx hl hl' hlen hI hR=>?_) fun l H1 ys n1 hl1 ly hI=>?_
  ·obtain⟨kp,cs,r1,k1,e1,d1,kl1,hp,hy⟩:=hI
   have hi:i<m.toNat:=by
    have:=(List.getElem?_eq_some_iff.mp hx).1
    rw[List.length_map,List.length_range] at this
    exact this
   have hw':H' wl=some (.lst (ws.map V.int)):=kp wl _ (by rw[Ai nwp];exact h2) nwp
   have npl:l≠p:=Av hl' hp (by intro z;cases z)
   refine⟨_,rfl,p,dx,_,rfl,hp,rfl,SG,rfl,Qg,_,_,rfl,rfl,p,dx,wl,ws,k1,_,rfl,hp,hw',kl1,fun y r2 hd2 y0 y1=>?_,fun no=>?_⟩
   ·have y1':y≤93:=by rw[QK] at y1;exact y1
    have er:r1=y::r2:=d1.symm.trans hd2
    obtain⟨gy,d2⟩:=Fv hd2
    have kl2:k1<ws.length:=(List.getElem?_eq_some_iff.mp gy).1
    have st':Lm (i+1) r=some (cs++[FI y],r2):=Ue (er▸e1) ⟨y0,y1'⟩
    refine⟨y,rfl,y0,by omega,hR _ _ (by rw[Ai npl];exact hl') ⟨(kp.trans (Kp.put _)).new hl _,cs++[FI y],r2,k1+1,st',d2,by omega,by rw[Ai npl.symm,Ad],?_⟩⟩
    rw[hy,List.map_append];rfl
   ·have st':Lm (i+1) r=none:=Vm e1 fun y r2 er=>by
     have:=no y r2 (d1.trans er)
     rw[QK] at this
     exact this
    exact qE (ON st' _ (by omega)) H' ((Kp.put _).trans kp)
  ·obtain⟨kp,cs,r1,k1,e1,d1,kl1,hp,hy⟩:=hI
   have ez:m.toNat=((List.range m.toNat).map fun(i:Nat)=>V.int (0+(i:Int))).length:=by rw[List.length_map,List.length_range]
   rw[←ez] at e1
   obtain⟨lc,_,_⟩:=Jk _ _ e1
   have hy':ys=(cs.map fun c=>(⟨#[c]⟩:Str)).map V.str:=by rw[hy,List.map_map];rfl
   rw[hy'] at hl1
   refine⟨l,Fz,_,rfl,rfl,AM.of hl1,?_,?_⟩
   ·have es:∀cs:List Nat,((cs.map fun c=>(⟨#[c]⟩:Str)).map (·.length)).sum=cs.length:=by
     intro cs
     induction cs with
     |nil=>rfl
     |cons c cs ih=>rw[List.map_cons,List.map_cons,List.sum_cons,ih];show 1+_=_;rw[List.length_cons];omega
    rw[es]
    have e0:Fz.length=0:=rfl
    rw[e0]
    omega
   ·have ej:PySem.Txt.join Fz (cs.map fun c=>(⟨#[c]⟩:Str))=⟨cs.toArray⟩:=by
     refine QJ ?_
     rw[NU rfl,List.map_map]
     exact VS cs
    rw[ej]
    exact q cs r1 k1 H1 e1 d1 kl1 ((Kp.put _).trans kp) hp
 ·refine qE ?_ H (Kp.refl _ _)
  cases hd:ws.drop k with
  |nil=>rfl
  |cons m r=>
   exact if_neg (no m r hd)
theorem XR {n:Nat}{ws:List Int}(h:∀x r,ws=x::r→¬(0≤x∧x≤2)):rd (n+1) ws=none:=by
 cases ws with
 |nil=>rfl
 |cons x r=>exact if_neg (h x r rfl)
theorem XY {n:Nat}{m:Int}{r:List Int}:rd (n+1) (0::m::r)=if 0≤m∧m≤999999999 then some (.int m,r) else none:=by
 unfold rd
 dsimp only
 rw[if_pos ⟨by decide,by decide⟩,if_pos rfl]
theorem XF {n:Nat}{ws:List Int}:rd (n+1) (1::ws)=match XG ws with|some (cs,r')=>some (.str ⟨cs.toArray⟩,r')|none=>none:=by
 cases ws with
 |nil=>rfl
 |cons m r=>
  unfold rd XG
  dsimp only
  rw[if_pos ⟨by decide,by decide⟩,if_neg (by decide),if_pos rfl]
  by_cases h:0≤m∧m≤400
  ·rw[if_pos h,if_pos h]
  ·rw[if_neg h,if_neg h]
theorem Y3 {n:Nat}{m:Int}{r:List Int}(h:0≤m∧m≤100):rd (n+1) (2::m::r)=match NI (rd n) m.toNat r with|some (ts,r')=>some (.tup ts,r')|none=>none:=by
 unfold rd
 dsimp only
 rw[if_pos ⟨by decide,by decide⟩,if_neg (by decide),if_neg (by decide),if_pos h]
theorem XI {n:Nat}{ws:List Int}(h:∀m r,ws=m::r→¬(0≤m∧m≤100)):rd (n+1) (2::ws)=none:=by
 cases ws with
 |nil=>rfl
 |cons m r=>
  unfold rd
  dsimp only
  rw[if_pos ⟨by decide,by decide⟩,if_neg (by decide),if_neg (by decide),if_neg (h m r rfl)]
theorem XX {n:Nat}{ws:List Int}(h:∀m r,ws=m::r→¬(0≤m∧m≤999999999)):rd (n+1) (0::ws)=none:=by
 cases ws with
 |nil=>rfl
 |cons m r=>rw[XY,if_neg (h m r rfl)]
def Qj (n:Nat)(K:W.Frag)(Ac:Addr)(XC:Nat→Addr):Sp:=fun vs H Q E=>∃(d:Nat) (p dx wl:Addr) (ws:List Int) (k:Nat),n=d+1∧vs=[.ref p,.int (d:Int)]∧H p=some (.ins Ac dx (Q5 wl k))∧H wl=some (.lst (ws.map V.int))∧k≤ws.length∧
 (∀t r' (k':Nat) v H',rd d (ws.drop k)=some (t,r')→ws.drop k'=r'→k'≤ws.length→Kp H H' p→H' p=some (.ins Ac dx (Q5 wl (k':Int)))→Rep NL H' t v→Q v H')∧(rd d (ws.drop k)=none→∀H',Kp H H' p→E (.ref (XC 0)) none H')
def Ff (K:W.Frag)(Ac:Addr)(XC:Nat→Addr):Sp:=Qj 9 K Ac XC
theorem VC (T:Txt K mg Ac Aa XC)(F:Fun K "read_thing" "read_thing" BI f fd)(Au:Js P w K mg base 3 Ac "word_to" ["self","most"] (A4 K Ac XC))(B0:Iy P w K mg base 4 "read_text" ["reader"] (Di K Ac XC))(n:Nat)(Da:Iy P w K mg base (4+n) "read_thing" ["reader","deep"] (Qj n K Ac XC)):FnOk P w K mg base (IK P w) (4+n+1) f fd ["reader","deep"] (Qj (n+1) K Ac XC):=by
 refine F.okX DG (fun vs H Q E h=>?_) (fun cdv A outer s H vs Q E hr h=>?_)
 ·obtain⟨d,p,dx,wl,ws,k,_,rfl,_⟩:=h
  rfl
 obtain⟨d,p,dx,wl,ws,k,hn,rfl,h1,h2,hk,q,qE⟩:=h
 have ed0:n=d:=by omega
 subst ed0
 have nwp:wl≠p:=Av h2 h1 (by intro z;cases z)
 have hw1:∀o,upd H p o wl=some (.lst (ws.map V.int)):=fun o=>by rw[Ai nwp];exact h2
 refine⟨_,(!Af (!AL (!AI B3 (pv 1) (!Ae) (AJ _)) (!Aj (!Hj Im rfl T.x_NoThing T.q_NoThing rfl (by decide))) (!As)) (!Af (@Ax _ _ (2) _ _ _ _ DG.nd rfl (by trivial) (!G6 (pv 0) T.cl_WordReader Au (hr.mono (by omega)) FR (!Ab (!AH rfl T.c_TUPLE_WORD (by decide)) (!Ag) (by rfl)) (by rfl) (by rfl) (by rfl)) (by rfl) (by trivial)) (!Af (!AL (!AI B3 (pv 2) (!AH rfl T.c_NUMBER_WORD (by decide)) (AJ _)) (!Aj (!An (!G6 (pv 0) T.cl_WordReader Au (hr.mono (by omega)) FR (!Ab (!AH rfl T.c_MOST_NUMBER (by decide)) (!Ag) (by rfl)) (by rfl) (by rfl) (by rfl)))) (!As)) (!Af (!AL (!AI B3 (pv 2) (!AH rfl T.c_TEXT_WORD (by decide)) (AJ _)) (!Aj (!An (!K5 B0 (hr.mono (by omega)) rfl FR (!Ab (pv 0) (!Ag) (by rfl)) (by decide) (by rfl) (by rfl)))) (!As)) (!Af (@Ax _ _ (3) _ _ _ _ DG.nd rfl (by trivial) (!G6 (pv 0) T.cl_WordReader Au (hr.mono (by omega)) FR (!Ab (!AH rfl T.c_MOST_PARTS (by decide)) (!Ag) (by rfl)) (by rfl) (by rfl) (by rfl)) (by rfl) (by trivial)) (!Aj (!An (!BG E8 (by rfl) T.b_tuple Er (!Ab (@Ox _ _ _ _ _ _ _ _ _ _ _ _ _ _ _ _ rfl ["part","reader","deep"] [none,some 0,some 1] _ _ _ _ _ _ _ _ _ _ _ rfl (!Ec rfl T.b_range (!Ab (pv 3) (!Ag) (by rfl)) (by rfl)) (by rfl) rfl (by repeat (first|exact trivial|refine⟨rfl,?_⟩)) (by repeat (first|exact trivial|refine⟨fun h=>(by first|exact⟨_,rfl⟩|cases h),?_⟩)) (fun C s H fp=>⟨(@Az _ _ (0) _ (show(["part","reader","deep"]:List Str).Nodup by decide +kernel) rfl (by trivial) (by trivial)),(!A5),(!K5 Da (hr.mono (by omega)) rfl OH (!Ab (pv 1) (!Ab (!Am HP (pv 2) (!Ae)) (!Ag) (by rfl)) (by rfl)) (by decide) (by rfl) (by rfl))⟩) (by intro _;rfl)) (!Ag) (by rfl)) (by decide) (by decide) (by rfl) (by rfl))))))))),?_⟩
 try dsimp only[B9]
 cases n with
 |zero=>exact⟨_,rfl,rfl,_,rfl,AQ rfl (qE rfl H (Kp.refl _ _))⟩
 |succ e=>
  refine⟨_,rfl,rfl,_,rfl,AS ?_ ?_⟩
  ·rw[G8];simp;omega
  refine⟨_,rfl,p,dx,_,rfl,h1,rfl,p,dx,wl,ws,k,2,rfl,h1,h2,hk,fun x r hd x0 x1=>?_,fun no=>qE (XR fun x r z=>no x r z) H (Kp.refl _ _)⟩
  obtain⟨gx,g2⟩:=Fv hd
  have hkl:k<ws.length:=(List.getElem?_eq_some_iff.mp gx).1
  rw[hd] at q qE
  refine⟨_,rfl,rfl,_,rfl,Cs (fun c=>?_) (fun c=>?_)⟩
  ·have c0:x=0:=by simpa using c
   subst c0
   refine⟨_,rfl,p,dx,_,rfl,Ad,rfl,p,dx,wl,ws,k+1,999999999,rfl,Ad,hw1 _,by omega,fun m r2 hd2 m0 m1=>?_,fun no=>qE (XX fun m r2 z=>no m r2 (g2.trans z)) _ (Kp.put _)⟩
   obtain⟨gm,g3⟩:=Fv hd2
   have hkl2:k+1<ws.length:=(List.getElem?_eq_some_iff.mp gm).1
   have er:r=m::r2:=g2.symm.trans hd2
   exact q (.int m) r2 (k+1+1) _ _ (by rw[er,XY,if_pos ⟨m0,m1⟩]) g3 (by omega) ((Kp.put _).trans (Kp.put _)) Ad rfl
  ·have c0:¬x=0:=by simpa using c
   refine⟨_,rfl,rfl,_,rfl,Cs (fun c=>?_) (fun c=>?_)⟩
   ·have c1:x=1:=by simpa using c
    subst c1
    refine⟨_,rfl,p,dx,wl,ws,k+1,rfl,Ad,hw1 _,by omega,fun cs r' k' H' e1 d1 l1 kp hp=>?_,fun e1 H' kp=>?_⟩
    ·rw[g2] at e1
     exact q (.str ⟨cs.toArray⟩) r' k' _ _ (by rw[XF,e1]) d1 l1 ((Kp.put _).trans kp) hp rfl
    ·rw[g2] at e1
     exact qE (by rw[XF,e1]) H' ((Kp.put _).trans kp)
   ·have c1:¬x=1:=by simpa using c
    have c2:x=2:=by omega
    subst c2
    refine⟨_,rfl,p,dx,_,rfl,Ad,rfl,p,dx,wl,ws,k+1,100,rfl,Ad,hw1 _,by omega,fun m r2 hd2 m0 m1=>?_,fun no=>qE (XI fun m r2 z=>no m r2 (g2.trans z)) _ (Kp.put _)⟩
    obtain⟨gm,g3⟩:=Fv hd2
    have hkl2:k+1<ws.length:=(List.getElem?_eq_some_iff.mp gm).1
    have er:r=m::r2:=g2.symm.trans hd2
    rw[er,Y3 ⟨m0,m1⟩] at q qE
    rw[FV]
    refine⟨_,rfl,m,rfl,by omega,by omega,?_⟩
    refine MQ (xs:=(List.range m.toNat).map fun(i:Nat)=>V.int (0+(i:Int))) (fun i ys l H'=>Kp (upd H p (.ins Ac dx (Q5 wl ((k+1+1:Nat):Int)))) H' p∧∃(ts:List Tr) (r1:List Int) (k1:Nat),NI (rd e) i r2=some (ts,r1)∧ws.drop k1=r1∧k1≤ws.length∧H' p=some (.ins Ac dx (Q5 wl (k1:Int)))∧AD NL H' ts ys) (by rw[List.length_map,List.length_range];omega) (fun i ys l H' _=>PQ) (fun l hl=>⟨(Kp.refl _ p).new hl _,[],r2,k+1+1,rfl,g3,by omega,by rw[Ai (Ar Ad hl)];exact Ad,rfl⟩) (fun i x ys l H' R hx hl hl' hlen hI hR=>?_) fun l H1 ys n1 hl1 ly hI=>?_
    ·obtain⟨kp,ts,r1,k1,e1,d1,kl1,hp,hrs⟩:=hI
     have hi:i<m.toNat:=by
      have:=(List.getElem?_eq_some_iff.mp hx).1
      rw[List.length_map,List.length_range] at this
      exact this
     have hw':H' wl=some (.lst (ws.map V.int)):=kp wl _ (hw1 _) nwp
     have npl:l≠p:=Av hl' hp (by intro z;cases z)
     have ed:((e+1:Nat):Int)-1=(e:Int):=by omega
     refine⟨_,rfl,_,rfl,_,_,rfl,rfl,e,p,dx,wl,ws,k1,rfl,?_,hp,hw',kl1,fun t r3 k3 v H'' e3 d3 kl3 kp2 hp2 rv=>?_,fun e3 H'' kp2=>?_⟩
     ·show[V.ref p,V.int (((e+1:Nat):Int)-1)]=_
      rw[ed]
     ·rw[d1] at e3
      have hl2:H'' l=some (.lst ys):=kp2 l _ hl' npl
      have keepT:∀c xs,H'' c=some (.tup xs)→upd H'' l (.lst (ys++[v])) c=some (.tup xs):=fun c xs e=>by rw[Ai (Av e hl2 (by intro z;cases z))];exact e
      refine hR v H'' hl2 ⟨(kp.trans kp2).new hl _,ts++[t],r3,k3,SH e1 e3,d3,kl3,by rw[Ai npl.symm];exact hp2,?_⟩
      exact AD.append (Il keepT _ _ (Il (fun c xs e=>kp2 c _ e (Av e hp (by intro z;cases z))) _ _ hrs)) (AD.one (EK keepT _ _ rv))
     ·rw[d1] at e3
      refine qE ?_ H'' (((Kp.put _).trans kp).trans kp2)
      rw[OO (VB e1 e3) _ (by omega)]
    ·obtain⟨kp,ts,r1,k1,e1,d1,kl1,hp,hrs⟩:=hI
     have ez:m.toNat=((List.range m.toNat).map fun(i:Nat)=>V.int (0+(i:Int))).length:=by rw[List.length_map,List.length_range]
     rw[←ez] at e1
     refine⟨l,ys,rfl,.inl ⟨AM.of hl1,fun u hu=>?_⟩⟩
     have su:=Ak hu (.tup ys)
     exact q (.tup ts) r1 k1 _ _ (by rw[e1]) d1 kl1 (((Kp.put _).trans kp).trans (Al.kp su p)) (su _ _ hp) ⟨u,ys,rfl,Ad,AD.same su _ _ hrs⟩
theorem Sn (T:Txt K mg Ac Aa XC)(F:Fun K "read_thing" "read_thing" BI f fd)(Au:Js P w K mg base 3 Ac "word_to" ["self","most"] (A4 K Ac XC))(B0:Iy P w K mg base 4 "read_text" ["reader"] (Di K Ac XC))(hm:mg "read_thing"=some (.ref f))(hk:W.keepIn K (.ref f)=true)(hb:Binds K fd ["reader","deep"] []):∀n,FnOk P w K mg base (IK P w) (4+n) f fd ["reader","deep"] (Qj n K Ac XC)
 |0=>by
  refine F.okX DG (fun vs H Q E h=>?_) (fun cdv A outer s H vs Q E hr h=>?_)
  ·obtain⟨d,p,dx,wl,ws,k,hn,_⟩:=h
   cases hn
  ·obtain⟨d,p,dx,wl,ws,k,hn,_⟩:=h
   cases hn
 |n+1=>VC T F Au B0 n ⟨f,fd,Sn T F Au B0 hm hk hb n,hm,hk,hb⟩
theorem Lj (T:Txt K mg Ac Aa XC)(F:Fun K "read_thing" "read_thing" BI f fd)(Au:Js P w K mg base 3 Ac "word_to" ["self","most"] (A4 K Ac XC))(B0:Iy P w K mg base 4 "read_text" ["reader"] (Di K Ac XC))(hm:mg "read_thing"=some (.ref f))(hk:W.keepIn K (.ref f)=true)(hb:Binds K fd ["reader","deep"] []):FnOk P w K mg base (IK P w) 13 f fd ["reader","deep"] (Ff K Ac XC):=
 Sn T F Au B0 hm hk hb 9
def G0 (K:W.Frag)(XC:Nat→Addr):Sp:=fun vs H Q E=>∃(wl:Addr) (ws:List Int),vs=[.ref wl]∧H wl=some (.lst (ws.map V.int))∧(∀t v H',rd 8 ws=some (t,[])→Al H H'→Rep NL H' t v→Q v H')∧((∀t,rd 8 ws≠some (t,[]))→∀H',Al H H'→E (.ref (XC 0)) none H')
theorem Nv (T:Txt K mg Ac Aa XC)(F:Fun K "thing_of" "thing_of" Dr f fd)(Df:T7 P w K mg base 1 Ac "WordReader" ["self","words"] (CV K Ac))(Da:Iy P w K mg base 13 "read_thing" ["reader","deep"] (Ff K Ac XC))(AV:DI P w K mg base 1 Ac "is_through" ["self"] (Bi K Ac)):FnOk P w K mg base (IK P w) 14 f fd ["words"] (G0 K XC):=by
 refine F.okX G2 (fun vs H Q E h=>?_) (fun cdv A outer s H vs Q E hr h=>?_)
 ·obtain⟨wl,ws,rfl,_⟩:=h
  rfl
 obtain⟨wl,ws,rfl,hw,q,qE⟩:=h
 refine⟨_,(!Af (@Ax _ _ (1) _ _ _ _ G2.nd rfl (by trivial) (!Td Df (by trivial) rfl (!Ab (pv 0) (!Ag) (by rfl)) (by decide) (by rfl) (by rfl)) (by rfl) (by trivial)) (!Af (@Ax _ _ (2) _ _ _ _ G2.nd rfl (by trivial) (!K5 Da (by trivial) rfl FR (!Ab (pv 1) (!Ab (!AH rfl T.c_MOST_DEEP (by decide)) (!Ag) (by rfl)) (by rfl)) (by decide) (by rfl) (by rfl)) (by rfl) (by trivial)) (!Af (!AL (!BA (!Bt (!Hh (pv 1) T.cl_WordReader AV (by trivial) (by rfl)) (by intro _;rfl))) (!Aj (!Hj Im rfl T.x_NoThing T.q_NoThing rfl (by decide))) (!As)) (!Aj (!An (pv 2)))))),?_⟩
 try dsimp only[B9]
 refine⟨_,rfl,?_⟩
 intro x dx nx ndx _
 have nwx:wl≠x:=Ar hw nx
 have nwd:wl≠dx:=Ar hw ndx
 refine⟨x,dx,wl,rfl,Ad,rfl,?_⟩
 rw[FV]
 have hw1:∀o,upd (upd H dx (.own x)) x o wl=some (.lst (ws.map V.int)):=fun o=>by rw[Ai nwx,Ai nwd];exact hw
 have sm:∀{o:HO} {H':Hp},Kp (upd (upd H dx (.own x)) x o) H' x→Al H H':=fun{o H'} kp b u e=>by
  have n1:=Ar e nx
  exact kp b u (by rw[Ai n1,Ai (Ar e ndx)];exact e) n1
 refine⟨_,rfl,8,x,dx,wl,ws,0,rfl,rfl,Ad,hw1 _,Nat.zero_le _,fun t r' k' v H' e1 d1 l1 kp hp rv=>?_,fun e1 H' kp=>?_⟩
 ·have hw':H' wl=some (.lst (ws.map V.int)):=kp wl _ (hw1 _) nwx
  rw[List.drop_zero] at e1
  refine⟨_,rfl,x,dx,_,rfl,hp,rfl,x,dx,wl,ws,k',rfl,hp,hw',_,rfl,?_⟩
  by_cases hk:k'=ws.length
  ·refine AS (by rw[decide_eq_true hk];rfl) ?_
   have er:r'=[]:=by rw[←d1,hk,List.drop_length]
   subst er
   exact⟨_,rfl,q t v H' e1 (sm kp) rv⟩
  ·refine AQ (by rw[decide_eq_false hk];rfl) ?_
   refine qE (fun t' z=>?_) H' (sm kp)
   rw[e1] at z
   cases z
   have:=congrArg List.length d1
   rw[List.length_drop] at this
   simp at this
   omega
 ·rw[List.drop_zero] at e1
  exact qE (fun t z=>by rw[e1] at z;cases z) H' (sm kp)
theorem Kr {n:Nat}{t u:Tr}(ht:CT n t=true)(hu:CT n u=true)(h:wT t=wT u):t=u:=by
 have e1:=Kd n t [] ht
 rw[h,Kd n u [] hu] at e1
 exact(Prod.mk.inj (Option.some.inj e1)).1.symm
theorem QB {H:Hp}:∀(n:Nat) (t u:Tr) (v:V),CT n t=true→CT n u=true→Rep NL H t v→Rep NL H u v→t=u
 |0,_,_,_,h,_,_,_=>nomatch h
 |n+1,.int i,.int j,v,_,_,h1,h2=>by
  have e1:v=V.int i:=h1
  have e2:v=V.int j:=h2
  rw[e1] at e2;cases e2;rfl
 |n+1,.int i,.str z,v,_,_,h1,h2=>by
  have e1:v=V.int i:=h1
  have e2:v=V.str z:=h2
  rw[e1] at e2;cases e2
 |n+1,.int i,.tup ts,v,_,_,h1,⟨a,vs,e2,_⟩=>by
  have e1:v=V.int i:=h1
  rw[e1] at e2;cases e2
 |n+1,.str z,.int j,v,_,_,h1,h2=>by
  have e1:v=V.str z:=h1
  have e2:v=V.int j:=h2
  rw[e1] at e2;cases e2
 |n+1,.str z,.str y,v,_,_,h1,h2=>by
  have e1:v=V.str z:=h1
  have e2:v=V.str y:=h2
  rw[e1] at e2;cases e2;rfl
 |n+1,.str z,.tup ts,v,_,_,h1,⟨a,vs,e2,_⟩=>by
  have e1:v=V.str z:=h1
  rw[e1] at e2;cases e2
 |n+1,.tup ts,.int j,v,_,_,⟨a,vs,e1,_⟩,h2=>by
  have e2:v=V.int j:=h2
  rw[e1] at e2;cases e2
 |n+1,.tup ts,.str y,v,_,_,⟨a,vs,e1,_⟩,h2=>by
  have e2:v=V.str y:=h2
  rw[e1] at e2;cases e2
 |n+1,.tup ts,.tup us,v,ht,hu,⟨a,vs,e1,ha,r1⟩,⟨b,ws,e2,hb,r2⟩=>by
  subst e1
  cases e2
  rw[ha] at hb
  cases hb
  obtain⟨_,tt⟩:=Cz ht
  obtain⟨_,tu⟩:=Cz hu
  have l1:=AD.len ts vs r1
  have l2:=AD.len us vs r2
  have:ts=us:=by
   refine List.ext_getElem? fun i=>?_
   by_cases hi:i<vs.length
   ·obtain⟨t1,g1,p1⟩:=AD.get r1 (List.getElem?_eq_getElem hi)
    obtain⟨t2,g2,p2⟩:=AD.get r2 (List.getElem?_eq_getElem hi)
    rw[g1,g2,QB n t1 t2 _ (tt i t1 g1) (tu i t2 g2) p1 p2]
   ·rw[List.getElem?_eq_none (by omega),List.getElem?_eq_none (by omega)]
  rw[this]
 |n+1,.non,_,_,h,_,_,_=>nomatch h
 |n+1,.bl _,_,_,h,_,_,_=>nomatch h
 |n+1,.lst _,_,_,h,_,_,_=>nomatch h
 |n+1,.int _,.non,_,_,h,_,_=>nomatch h
 |n+1,.int _,.bl _,_,_,h,_,_=>nomatch h
 |n+1,.int _,.lst _,_,_,h,_,_=>nomatch h
 |n+1,.str _,.non,_,_,h,_,_=>nomatch h
 |n+1,.str _,.bl _,_,_,h,_,_=>nomatch h
 |n+1,.str _,.lst _,_,_,h,_,_=>nomatch h
 |n+1,.tup _,.non,_,_,h,_,_=>nomatch h
 |n+1,.tup _,.bl _,_,_,h,_,_=>nomatch h
 |n+1,.tup _,.lst _,_,_,h,_,_=>nomatch h
theorem B7 {n:Nat}{t u:Tr}(ht:CT n t=true)(hu:CT n u=true){b:Bool}(h:b=true↔t=u):decide (wT t=wT u)=b:=by
 rw[Bool.eq_iff_iff,decide_eq_true_eq,h]
 exact⟨Kr ht hu,fun e=>by rw[e]⟩
theorem KG {n:Nat}{ts us:List Tr}(ht:CT (n+1) (.tup ts)=true)(hu:CT (n+1) (.tup us)=true):decide (wT (.tup ts)=wT (.tup us))=((List.range (min ts.length us.length)).all (fun j=>decide (wT (ts.getD j .non)=wT (us.getD j .non)))&&ts.length == us.length):=by
 obtain⟨_,tt⟩:=Cz ht
 obtain⟨_,tu⟩:=Cz hu
 refine B7 ht hu ?_
 rw[Bool.and_eq_true,List.all_eq_true,beq_iff_eq]
 constructor
 ·rintro⟨h1,h2⟩
  congr 1
  refine List.ext_getElem? fun i=>?_
  by_cases hi:i<ts.length
  ·have e:=h1 i (List.mem_range.mpr (by omega))
   obtain⟨t1,g1⟩:∃t1,ts[i]?=some t1:=⟨ts[i],List.getElem?_eq_getElem hi⟩
   obtain⟨t2,g2⟩:∃t2,us[i]?=some t2:=⟨us[i]'(by omega),List.getElem?_eq_getElem _⟩
   simp only[List.getD,g1,g2,Option.getD_some,decide_eq_true_eq] at e
   rw[g1,g2,Kr (tt i t1 g1) (tu i t2 g2) e]
  ·rw[List.getElem?_eq_none (by omega),List.getElem?_eq_none (by omega)]
 ·intro h
  cases h
  exact⟨fun i _=>decide_eq_true rfl,rfl⟩
section
variable {X:Cx}{pins:List (Addr×Obj)}{σ:St}{H:Hp}{s:Shared}
theorem Sy (I:Inv X pins σ H s):∀(n:Nat) (t u:Tr) (A:Around) (v w:V) (vv ww:Value),CT n t=true→CT n u=true→A.units+n<cLine→Rep NL H t v→Rep NL H u w→RelV v vv→RelV w ww→SeqAt.EqAt A s vv ww (decide (wT t=wT u))
 |0,_,_,_,_,_,_,_,h,_,_,_,_,_,_=>nomatch h
 |n+1,t,u,A,v,w,vv,ww,ht,hu,hA,h1,h2,r1,r2=>by
  cases t with
  |int i=>
   cases(show v=V.int i from h1)
   obtain⟨t1,rfl⟩:=r1
   cases u with
   |int j=>
    cases(show w=V.int j from h2)
    obtain⟨t2,rfl⟩:=r2
    rw[B7 ht hu (b:=i == j) (by rw[beq_iff_eq];exact⟨fun e=>by rw[e],fun e=>by cases e;rfl⟩)]
    exact SeqAt.EqAt.int_int i t1 j t2
   |str z=>
    cases(show w=V.str z from h2)
    obtain⟨t2,rfl⟩:=r2
    rw[B7 ht hu (b:=false) ⟨(fun e=>nomatch e),(fun e=>nomatch e)⟩]
    exact SeqAt.EqAt.int_str i t1 z t2
   |tup us=>
    obtain⟨b,ws,rfl,hb,_⟩:=h2
    cases r2
    obtain⟨its,_,p,_⟩:=I.tuple (AW.of (K:=X.K) hb)
    rw[B7 ht hu (b:=false) ⟨(fun e=>nomatch e),(fun e=>nomatch e)⟩]
    exact SeqAt.EqAt.int_tuple i t1 p (by omega)
   |non=>cases hu
   |bl _=>cases hu
   |lst _=>cases hu
  |str y=>
   cases(show v=V.str y from h1)
   obtain⟨t1,rfl⟩:=r1
   cases u with
   |int j=>
    cases(show w=V.int j from h2)
    obtain⟨t2,rfl⟩:=r2
    rw[B7 ht hu (b:=false) ⟨(fun e=>nomatch e),(fun e=>nomatch e)⟩]
    exact SeqAt.EqAt.str_int y t1 j t2
   |str z=>
    cases(show w=V.str z from h2)
    obtain⟨t2,rfl⟩:=r2
    rw[B7 ht hu (b:=y == z) (by rw[beq_iff_eq];exact⟨fun e=>by rw[e],fun e=>by cases e;rfl⟩)]
    exact SeqAt.EqAt.str_str y t1 z t2
   |tup us=>
    obtain⟨b,ws,rfl,hb,_⟩:=h2
    cases r2
    obtain⟨its,_,p,_⟩:=I.tuple (AW.of (K:=X.K) hb)
    rw[B7 ht hu (b:=false) ⟨(fun e=>nomatch e),(fun e=>nomatch e)⟩]
    exact SeqAt.EqAt.str_tuple y t1 p (by omega)
   |non=>cases hu
   |bl _=>cases hu
   |lst _=>cases hu
  |tup ts=>
   obtain⟨a,vs,rfl,ha,hr1⟩:=h1
   cases r1
   obtain⟨its,rv1,p1,_⟩:=I.tuple (AW.of (K:=X.K) ha)
   cases u with
   |int j=>
    cases(show w=V.int j from h2)
    obtain⟨t2,rfl⟩:=r2
    rw[B7 ht hu (b:=false) ⟨(fun e=>nomatch e),(fun e=>nomatch e)⟩]
    exact SeqAt.EqAt.tuple_int j t2 p1 (by omega)
   |str z=>
    cases(show w=V.str z from h2)
    obtain⟨t2,rfl⟩:=r2
    rw[B7 ht hu (b:=false) ⟨(fun e=>nomatch e),(fun e=>nomatch e)⟩]
    exact SeqAt.EqAt.tuple_str z t2 p1 (by omega)
   |tup us=>
    obtain⟨b,ws,rfl,hb,hr2⟩:=h2
    cases r2
    obtain⟨its2,rv2,p2,_⟩:=I.tuple (AW.of (K:=X.K) hb)
    by_cases hab:a=b
    ·subst hab
     have:=QB (n+1) (.tup ts) (.tup us) (.ref a) ht hu ⟨a,vs,rfl,ha,hr1⟩ ⟨a,ws,rfl,hb,hr2⟩
     rw[this,decide_eq_true rfl]
     exact SeqAt.EqAt.same _
    obtain⟨_,tt⟩:=Cz ht
    obtain⟨_,tu⟩:=Cz hu
    have l1:=rv1.length.symm.trans (AD.len ts vs hr1)
    have l2:=rv2.length.symm.trans (AD.len us ws hr2)
    have q:=SeqAt.RcAt.tuples (A:=A) (s:=s) (e:=fun j=>decide (wT (ts.getD j .non)=wT (us.getD j .non))) p1 p2 (by omega) (fun j g1 g2=>by
     have g1':j<its.length:=by simpa using g1
     have g2':j<its2.length:=by simpa using g2
     have lv1:=rv1.length
     have lv2:=rv2.length
     obtain⟨x1,hx1⟩:∃x1,vs[j]?=some x1:=⟨vs[j]'(by omega),List.getElem?_eq_getElem _⟩
     obtain⟨x2,hx2⟩:∃x2,ws[j]?=some x2:=⟨ws[j]'(by omega),List.getElem?_eq_getElem _⟩
     obtain⟨y1,hy1,ry1⟩:=rv1.get hx1
     obtain⟨y2,hy2,ry2⟩:=rv2.get hx2
     obtain⟨t1,e1,p1'⟩:=AD.get hr1 hx1
     obtain⟨t2,e2,p2'⟩:=AD.get hr2 hx2
     have:=Sy I n t1 t2 A.in1 x1 x2 y1 y2 (tt j t1 e1) (tu j t2 e2) (by show A.units+1+n<cLine;omega) p1' p2' ry1 ry2
     rw[List.getElem?_eq_getElem g1'] at hy1
     rw[List.getElem?_eq_getElem g2'] at hy2
     cases hy1
     cases hy2
     simp only[List.getD,e1,e2,Option.getD_some]
     simpa using this)
    rw[KG ht hu]
    simp only[List.size_toArray,l1,l2] at q
    exact SeqAt.EqAt.of_refs hab q
   |non=>cases hu
   |bl _=>cases hu
   |lst _=>cases hu
  |non=>cases ht
  |bl _=>cases ht
  |lst _=>cases ht
end
section
variable {X:Cx}
def WQ (neg:Bool):R2:=fun x y H Q=>∃t u,CT 8 t=true∧CT 8 u=true∧Rep NL H t x∧Rep NL H u y∧Q (.bl (if neg then !decide (wT t=wT u) else decide (wT t=wT u))) H
theorem N3 {pins:List (Addr×Obj)} {σ:St} {H:Hp} {s:Shared} (I:Inv X pins σ H s) {n:Nat} {A:Around} {ts us:List Tr} {vs ws:List V} {its its2:List Value} (hA:A.units+1+n<cLine) (tt:∀(i:Nat) t,ts[i]?=some t→CT n t=true) (tu:∀(i:Nat) t,us[i]?=some t→CT n t=true)
  (hr1:AD NL H ts vs) (hr2:AD NL H us ws) (rv1:AC vs its) (rv2:AC ws its2) (j:Nat) (g1:j<its.toArray.size) (g2:j<its2.toArray.size):SeqAt.EqAt A.in1 s its.toArray[j] its2.toArray[j] (decide (wT (ts.getD j .non)=wT (us.getD j .non))):=by
 have g1':j<its.length:=by simpa using g1
 have g2':j<its2.length:=by simpa using g2
 have lv1:=rv1.length
 have lv2:=rv2.length
 obtain⟨x1,hx1⟩:∃x1,vs[j]?=some x1:=⟨vs[j]'(by omega),List.getElem?_eq_getElem _⟩
 obtain⟨x2,hx2⟩:∃x2,ws[j]?=some x2:=⟨ws[j]'(by omega),List.getElem?_eq_getElem _⟩
 obtain⟨y1,hy1,ry1⟩:=rv1.get hx1
 obtain⟨y2,hy2,ry2⟩:=rv2.get hx2
 obtain⟨t1,e1,p1'⟩:=AD.get hr1 hx1
 obtain⟨t2,e2,p2'⟩:=AD.get hr2 hx2
 have:=Sy I n t1 t2 A.in1 x1 x2 y1 y2 (tt j t1 e1) (tu j t2 e2) (by show A.units+1+n<cLine;omega) p1' p2' ry1 ry2
 rw[List.getElem?_eq_getElem g1'] at hy1
 rw[List.getElem?_eq_getElem g2'] at hy2
 cases hy1
 cases hy2
 simp only[List.getD,e1,e2,Option.getD_some]
 simpa using this
theorem Xe (hu9:X.A.units+150<cLine):Gd X (compareOp .Eq) (WQ false):=by
 intro pins s σ H x y v u Q I rx ry h
 obtain⟨t,w,ht,hw,h1,h2,q⟩:=h
 have fin:∀b:Bool,decide (wT t=wT w)=b→SeqAt.RcAt X.A s v u b→wpAny (model X.prog X.w) X.A (compareOp .Eq v u) (EP X pins σ Q) X.xe s:=fun b e r=>by
  rw[e] at q
  exact r _ _ _ _ ⟨.bl _,H,I,rfl,q⟩
 cases t with
 |int i=>
  cases(show x=V.int i from h1)
  obtain⟨t1,rfl⟩:=rx
  cases w with
  |int j=>
   cases(show y=V.int j from h2)
   obtain⟨t2,rfl⟩:=ry
   exact fin (i == j) (B7 ht hw (by rw[beq_iff_eq];exact⟨fun e=>by rw[e],fun e=>by cases e;rfl⟩)) (SeqAt.RcAt.int_int i t1 j t2)
  |str z=>
   cases(show y=V.str z from h2)
   obtain⟨t2,rfl⟩:=ry
   exact fin false (B7 ht hw ⟨(fun e=>nomatch e),(fun e=>nomatch e)⟩) (SeqAt.RcAt.int_str i t1 z t2)
  |tup us=>
   obtain⟨b,ws,rfl,hb,_⟩:=h2
   cases ry
   obtain⟨its,_,p,_⟩:=I.tuple (AW.of (K:=X.K) hb)
   exact fin false (B7 ht hw ⟨(fun e=>nomatch e),(fun e=>nomatch e)⟩) (SeqAt.RcAt.int_tuple i t1 p (by omega))
  |non=>cases hw
  |bl _=>cases hw
  |lst _=>cases hw
 |str a=>
  cases(show x=V.str a from h1)
  obtain⟨t1,rfl⟩:=rx
  cases w with
  |int j=>
   cases(show y=V.int j from h2)
   obtain⟨t2,rfl⟩:=ry
   exact fin false (B7 ht hw ⟨(fun e=>nomatch e),(fun e=>nomatch e)⟩) (SeqAt.RcAt.str_int a t1 j t2)
  |str z=>
   cases(show y=V.str z from h2)
   obtain⟨t2,rfl⟩:=ry
   exact fin (a == z) (B7 ht hw (by rw[beq_iff_eq];exact⟨fun e=>by rw[e],fun e=>by cases e;rfl⟩)) (SeqAt.RcAt.str_str a t1 z t2)
  |tup us=>
   obtain⟨b,ws,rfl,hb,_⟩:=h2
   cases ry
   obtain⟨its,_,p,_⟩:=I.tuple (AW.of (K:=X.K) hb)
   exact fin false (B7 ht hw ⟨(fun e=>nomatch e),(fun e=>nomatch e)⟩) (SeqAt.RcAt.str_tuple a t1 p (by omega))
  |non=>cases hw
  |bl _=>cases hw
  |lst _=>cases hw
 |tup ts=>
  obtain⟨a,vs,rfl,ha,hr1⟩:=h1
  cases rx
  obtain⟨its,rv1,p1,_⟩:=I.tuple (AW.of (K:=X.K) ha)
  cases w with
  |int j=>
   cases(show y=V.int j from h2)
   obtain⟨t2,rfl⟩:=ry
   exact fin false (B7 ht hw ⟨(fun e=>nomatch e),(fun e=>nomatch e)⟩) (SeqAt.RcAt.tuple_int j t2 p1 (by omega))
  |str z=>
   cases(show y=V.str z from h2)
   obtain⟨t2,rfl⟩:=ry
   exact fin false (B7 ht hw ⟨(fun e=>nomatch e),(fun e=>nomatch e)⟩) (SeqAt.RcAt.tuple_str z t2 p1 (by omega))
  |tup us=>
   obtain⟨b,ws,rfl,hb,hr2⟩:=h2
   cases ry
   obtain⟨its2,rv2,p2,_⟩:=I.tuple (AW.of (K:=X.K) hb)
   have l1:=rv1.length.symm.trans (AD.len ts vs hr1)
   have l2:=rv2.length.symm.trans (AD.len us ws hr2)
   have r:=SeqAt.RcAt.tuples (A:=X.A) (s:=s) (e:=fun j=>decide (wT (ts.getD j .non)=wT (us.getD j .non))) p1 p2 (by omega) (fun j g1 g2=>N3 I (n:=7) (by omega) (Cz ht).2 (Cz hw).2 hr1 hr2 rv1 rv2 j g1 g2)
   simp only[List.size_toArray,l1,l2] at r
   exact fin _ (KG ht hw) r
  |non=>cases hw
  |bl _=>cases hw
  |lst _=>cases hw
 |non=>cases ht
 |bl _=>cases ht
 |lst _=>cases ht
theorem Uq (hu9:X.A.units+150<cLine):Gd X (compareOp .NotEq) (WQ true):=by
 intro pins s σ H x y v u Q I rx ry h
 obtain⟨t,w,ht,hw,h1,h2,q⟩:=h
 have fin:∀b:Bool,decide (wT t=wT w)=b→SeqAt.RcNeAt X.A s v u (!b)→wpAny (model X.prog X.w) X.A (compareOp .NotEq v u) (EP X pins σ Q) X.xe s:=fun b e r=>by
  rw[e] at q
  exact r _ _ _ _ ⟨.bl _,H,I,rfl,q⟩
 cases t with
 |int i=>
  cases(show x=V.int i from h1)
  obtain⟨t1,rfl⟩:=rx
  cases w with
  |int j=>
   cases(show y=V.int j from h2)
   obtain⟨t2,rfl⟩:=ry
   exact fin (i == j) (B7 ht hw (by rw[beq_iff_eq];exact⟨fun e=>by rw[e],fun e=>by cases e;rfl⟩)) (SeqAt.RcNeAt.int_int i t1 j t2)
  |str z=>
   cases(show y=V.str z from h2)
   obtain⟨t2,rfl⟩:=ry
   exact fin false (B7 ht hw ⟨(fun e=>nomatch e),(fun e=>nomatch e)⟩) (SeqAt.RcNeAt.int_str i t1 z t2)
  |tup us=>
   obtain⟨b,ws,rfl,hb,_⟩:=h2
   cases ry
   obtain⟨its,_,p,_⟩:=I.tuple (AW.of (K:=X.K) hb)
   exact fin false (B7 ht hw ⟨(fun e=>nomatch e),(fun e=>nomatch e)⟩) (SeqAt.RcNeAt.int_tuple i t1 p (by omega))
  |non=>cases hw
  |bl _=>cases hw
  |lst _=>cases hw
 |str a=>
  cases(show x=V.str a from h1)
  obtain⟨t1,rfl⟩:=rx
  cases w with
  |int j=>
   cases(show y=V.int j from h2)
   obtain⟨t2,rfl⟩:=ry
   exact fin false (B7 ht hw ⟨(fun e=>nomatch e),(fun e=>nomatch e)⟩) (SeqAt.RcNeAt.str_int a t1 j t2)
  |str z=>
   cases(show y=V.str z from h2)
   obtain⟨t2,rfl⟩:=ry
   exact fin (a == z) (B7 ht hw (by rw[beq_iff_eq];exact⟨fun e=>by rw[e],fun e=>by cases e;rfl⟩)) (SeqAt.RcNeAt.str_str a t1 z t2)
  |tup us=>
   obtain⟨b,ws,rfl,hb,_⟩:=h2
   cases ry
   obtain⟨its,_,p,_⟩:=I.tuple (AW.of (K:=X.K) hb)
   exact fin false (B7 ht hw ⟨(fun e=>nomatch e),(fun e=>nomatch e)⟩) (SeqAt.RcNeAt.str_tuple a t1 p (by omega))
  |non=>cases hw
  |bl _=>cases hw
  |lst _=>cases hw
 |tup ts=>
  obtain⟨a,vs,rfl,ha,hr1⟩:=h1
  cases rx
  obtain⟨its,rv1,p1,_⟩:=I.tuple (AW.of (K:=X.K) ha)
  cases w with
  |int j=>
   cases(show y=V.int j from h2)
   obtain⟨t2,rfl⟩:=ry
   exact fin false (B7 ht hw ⟨(fun e=>nomatch e),(fun e=>nomatch e)⟩) (SeqAt.RcNeAt.tuple_int j t2 p1 (by omega))
  |str z=>
   cases(show y=V.str z from h2)
   obtain⟨t2,rfl⟩:=ry
   exact fin false (B7 ht hw ⟨(fun e=>nomatch e),(fun e=>nomatch e)⟩) (SeqAt.RcNeAt.tuple_str z t2 p1 (by omega))
  |tup us=>
   obtain⟨b,ws,rfl,hb,hr2⟩:=h2
   cases ry
   obtain⟨its2,rv2,p2,_⟩:=I.tuple (AW.of (K:=X.K) hb)
   have l1:=rv1.length.symm.trans (AD.len ts vs hr1)
   have l2:=rv2.length.symm.trans (AD.len us ws hr2)
   have r:=SeqAt.RcNeAt.tuples (A:=X.A) (s:=s) (e:=fun j=>decide (wT (ts.getD j .non)=wT (us.getD j .non))) p1 p2 (by omega) (fun j g1 g2=>N3 I (n:=7) (by omega) (Cz ht).2 (Cz hw).2 hr1 hr2 rv1 rv2 j g1 g2)
   simp only[List.size_toArray,l1,l2] at r
   exact fin _ (KG ht hw) r
  |non=>cases hw
  |bl _=>cases hw
  |lst _=>cases hw
 |non=>cases ht
 |bl _=>cases ht
 |lst _=>cases ht
end
end
section
variable {P:Program}{w:World}{K:W.Frag}{mg:Str→Option Value}{base:Heap}{f Ac Aa:Addr}{XC:Nat→Addr}{fd:FuncData}
abbrev Bz:=List (Int×List Int)
def Fq (b:Bz)(k:Int)(row:List Int):Bz:=if(b.any fun x=>decide (x.1=k))=true then b.map (fun x=>if x.1=k then(x.1,row) else x) else b++[(k,row)]
def Bl (b:Bz)(k:Int):Option (List Int):=(b.find? fun x=>decide (x.1=k)).map (·.2)
def YB (H:Hp):Key×V→Int×List Int→Prop:=fun kv x=>kv.1=Sum.inl x.1∧∃r,kv.2=.ref r∧H r=some (.lst (x.2.map V.int))
def Bw (H:Hp)(kvs:List (Key×V))(b:Bz):Prop:=Paired (YB H) kvs b
theorem Bw.same {H H':Hp}{kvs:List (Key×V)}{b:Bz}(r:Bw H kvs b)(s:∀a xs,H a=some (.lst xs)→H' a=some (.lst xs)):Bw H' kvs b:=Paired.mapP r fun _ _ ⟨h1,a,h2,h3⟩=>⟨h1,a,h2,s _ _ h3⟩
theorem VL (a k:Int):decide ((Sum.inl a:Key)=Sum.inl k)=decide (a=k):=by
 by_cases e:a=k
 ·rw[e];simp
 ·rw[decide_eq_false e,decide_eq_false fun z=>e (Sum.inl.inj z)]
theorem Bw.any {H:Hp}{kvs:List (Key×V)}{b:Bz}(r:Bw H kvs b)(k:Int):(kvs.any fun kv=>decide (kv.1=Sum.inl k))=(b.any fun x=>decide (x.1=k)):=by
 unfold Bw at r
 induction r with
 |nil=>rfl
 |cons h t ih=>rw[List.any_cons,List.any_cons,ih,h.1,VL]
theorem Bw.put {H:Hp}{kvs:List (Key×V)}{b:Bz}(r:Bw H kvs b)(k:Int){l:Addr}{row:List Int}(hl:H l=some (.lst (row.map V.int))):Bw H (putK kvs (Sum.inl k) (.ref l)) (Fq b k row):=by
 unfold putK Fq
 rw[r.any k]
 by_cases hc:(b.any fun x=>decide (x.1=k))=true
 ·rw[if_pos hc,if_pos hc]
  clear hc
  unfold Bw at r ⊢
  induction r with
  |nil=>exact .nil
  |@cons kv x ps qs h t ih=>
   rw[List.map_cons,List.map_cons]
   refine .cons ?_ ih
   by_cases e:x.1=k
   ·rw[if_pos (by rw[h.1,e]),if_pos e]
    exact⟨h.1,l,rfl,hl⟩
   ·rw[if_neg (by rw[h.1];exact fun z=>e (Sum.inl.inj z)),if_neg e]
    exact h
 ·rw[if_neg hc,if_neg hc]
  exact Paired.snoc r ⟨rfl,l,rfl,hl⟩
theorem Bw.get {H:Hp}{kvs:List (Key×V)}{b:Bz}(r:Bw H kvs b)(k:Int):(CL kvs (Sum.inl k)=none∧Bl b k=none)∨∃a row,CL kvs (Sum.inl k)=some (.ref a)∧Bl b k=some row∧H a=some (.lst (row.map V.int)):=by
 unfold Bw at r
 induction r with
 |nil=>exact .inl ⟨rfl,rfl⟩
 |@cons kv x ps qs h t ih=>
  obtain⟨h1,a,h2,h3⟩:=h
  by_cases e:x.1=k
  ·refine .inr ⟨a,x.2,?_,?_,h3⟩
   ·rw[GR (by rw[h1,e]),h2]
   ·unfold Bl;rw[List.find?_cons,decide_eq_true e];rfl
  ·have g1:Bl (x::qs) k=Bl qs k:=by unfold Bl;rw[List.find?_cons,decide_eq_false e]
   have g2:CL (kv::ps) (Sum.inl k)=CL ps (Sum.inl k):=Gu (by rw[h1];exact fun z=>e (Sum.inl.inj z))
   rw[g1,g2];exact ih
theorem Bw.len {H:Hp}{kvs:List (Key×V)}{b:Bz}(r:Bw H kvs b):kvs.length=b.length:=Paired.length r
theorem NA (b:Bz)(k:Int)(row:List Int):(Fq b k row).length≤b.length+1:=by
 unfold Fq
 split
 ·rw[List.length_map];omega
 ·rw[List.length_append];show b.length+1≤_;omega
theorem GY {α β:Type}{F G:α→β→Prop}:∀{l₁:List α} {l₂:List β},Paired F l₁ l₂→(∀a∈l₁,∀b,F a b→G a b)→Paired G l₁ l₂
 |_,_,.nil,_=>.nil
 |_,_,.cons r t,f=>.cons (f _ List.mem_cons_self _ r) (GY t fun a ha=>f a (List.mem_cons_of_mem _ ha))
theorem BF {α β:Type}{F:α→β→Prop}:∀{l₁:List α} {l₂:List β} {i:Nat} {a:α},Paired F l₁ l₂→l₁[i]?=some a→∃b,l₂[i]?=some b∧F a b
 |_,_,_,_,.nil,e=>by simp at e
 |_,_,0,_,.cons r _,e=>by simp at e;subst e;exact⟨_,rfl,r⟩
 |_,_,i+1,a,.cons _ t,e=>by
  obtain⟨b,h1,h2⟩:=BF (i:=i) (a:=a) t (by simpa using e)
  exact⟨b,by simpa using h1,h2⟩
theorem Ri {b:Bz}{k:Int}{row:List Int}(h:(b.any fun x=>decide (x.1=k))=true):(Fq b k row).map (·.1)=b.map (·.1):=by
 unfold Fq
 rw[if_pos h,List.map_map]
 refine List.map_congr_left fun x _=>?_
 show(if x.1=k then(x.1,row) else x).1=x.1
 split<;>rfl
theorem TQ {b:Bz}{k:Int}{row:List Int}(h:k∉b.map (·.1)):Fq b k row=b++[(k,row)]:=by
 unfold Fq
 rw[if_neg]
 intro z
 obtain⟨x,hx,e⟩:=List.any_eq_true.mp z
 exact h (List.mem_map.mpr ⟨x,hx,of_decide_eq_true e⟩)
theorem PH {b:Bz}{k:Int}{row:List Int}(h:(b.map (·.1)).Nodup):((Fq b k row).map (·.1)).Nodup:=by
 by_cases c:k∈b.map (·.1)
 ·rw[Ri]
  ·exact h
  ·obtain⟨x,hx,e⟩:=List.mem_map.mp c
   exact List.any_eq_true.mpr ⟨x,hx,decide_eq_true e⟩
 ·rw[TQ c,List.map_append,List.nodup_append]
  refine⟨h,by simp,fun e he g hg=>?_⟩
  rw[show g=k by simpa using hg]
  intro z
  exact c (z▸he)
def Qh (H:Hp)(ds:List Addr)(bs:List Bz):Prop:=Paired (fun d b=>∃kvs,H d=some (.dK kvs)∧Bw H kvs b∧(b.map (·.1)).Nodup) ds bs
theorem Qh.same {H H':Hp}{ds:List Addr}{bs:List Bz}(r:Qh H ds bs)(s:∀a xs,H a=some (.lst xs)→H' a=some (.lst xs))(k:∀d∈ds,∀kvs,H d=some (.dK kvs)→H' d=some (.dK kvs)):Qh H' ds bs:=
 GY r fun d hd _ ⟨kvs,h1,h2,h3⟩=>⟨kvs,k d hd kvs h1,h2.same s,h3⟩
theorem Qh.set {H H':Hp}{d:Addr}{b':Bz}(s:∀a xs,H a=some (.lst xs)→H' a=some (.lst xs))(hd:∃kvs,H' d=some (.dK kvs)∧Bw H' kvs b'∧(b'.map (·.1)).Nodup):∀{ds:List Addr} {bs:List Bz},Qh H ds bs→ds.Nodup→(∀e∈ds,e≠d→∀kvs,H e=some (.dK kvs)→H' e=some (.dK kvs))→∀{i:Nat},ds[i]?=some d→Qh H' ds (bs.set i b')
 |_,_,.nil,_,_,i,hi=>by simp at hi
 |_,_,.cons h t,nd,k,0,hi=>by
  simp at hi
  subst hi
  refine .cons hd (GY t fun e he _ ⟨kvs,h1,h2,h3⟩=>⟨kvs,k e (List.mem_cons_of_mem _ he) (fun z=>(List.nodup_cons.mp nd).1 (z▸he)) kvs h1,h2.same s,h3⟩)
 |e::es,_,.cons h t,nd,k,i+1,hi=>by
  have hi':es[i]?=some d:=by simpa using hi
  obtain⟨kvs,h1,h2,h3⟩:=h
  refine .cons ⟨kvs,k e List.mem_cons_self (fun z=>(List.nodup_cons.mp nd).1 (by rw[z];exact List.mem_of_getElem? hi')) kvs h1,h2.same s,h3⟩ ?_
  exact Qh.set s hd t (List.nodup_cons.mp nd).2 (fun e' he'=>k e' (List.mem_cons_of_mem _ he')) hi'
def CG (s:Addr)(n:Int)(lf:V):List (Str×V):=[("shelves",.ref s),("writes",.int n),("writes_left",lf)]
theorem WY (s:Addr)(n y:Int)(lf:V):DT "writes" (.int y) (CG s n lf)=CG s y lf:=by
 unfold CG
 simp only[DT]
 rfl
theorem V4 (s:Addr)(n:Int)(lf v:V):DT "writes_left" v (CG s n lf)=CG s n v:=by
 unfold CG
 simp only[DT]
 rfl
def Cp (Aa:Addr)(H:Hp)(p:Addr)(ds:List Addr)(bs:List Bz)(n:Int)(lf:V):Prop:=∃dx s,H p=some (.ins Aa dx (CG s n lf))∧H s=some (.lst (ds.map V.ref))∧ds.Nodup∧Qh H ds bs
theorem Cp.len {Aa:Addr}{H:Hp}{p:Addr}{ds:List Addr}{bs:List Bz}{n:Int}{lf:V}(h:Cp Aa H p ds bs n lf):ds.length=bs.length:=by
 obtain⟨_,_,_,_,_,r⟩:=h
 exact Paired.length r
def Kb (H H':Hp)(p:Addr)(ds:List Addr):Prop:=∀b o,H b=some o→b≠p→b∉ds→H' b=some o
theorem Cp.kept {Aa:Addr}{H H':Hp}{p q:Addr}{ds es:List Addr}{bs:List Bz}{n:Int}{lf:V}{m:Int}{lf2:V}{cs:List Bz}(h:Cp Aa H q es bs n lf)(g:Cp Aa H p ds cs m lf2)(k:Kb H H' p ds)(hq:q≠p)(ha:∀e∈es,e∉ds):Cp Aa H' q es bs n lf:=by
 obtain⟨dx,s,h1,h2,h3,h4⟩:=h
 obtain⟨dx2,s2,g1,g2,g3,g4⟩:=g
 have nd:∀{b:Addr} {o:HO},H b=some o→(∀kvs,o≠.dK kvs)→b∉ds:=fun{b o} e z hb=>by
  obtain⟨i,hi,ei⟩:=List.getElem_of_mem hb
  obtain⟨c,_,kvs,q1,_⟩:=BF (i:=i) g4 (by rw[List.getElem?_eq_getElem hi,ei])
  rw[e] at q1
  exact z kvs (Option.some.inj q1)
 refine⟨dx,s,k q _ h1 hq (nd h1 (by intro kvs z;cases z)),k s _ h2 (Av h2 g1 (by intro z;cases z)) (nd h2 (by intro kvs z;cases z)),h3,h4.same (fun a xs e=>k a _ e (Av e g1 (by intro z;cases z)) (nd e (by intro kvs z;cases z))) fun d hd kvs e=>k d _ e (Av e g1 (by intro z;cases z)) (ha d hd)⟩
theorem Cp.same {Aa:Addr}{H H':Hp}{p:Addr}{ds:List Addr}{bs:List Bz}{n:Int}{lf:V}(h:Cp Aa H p ds bs n lf)(s:Al H H'):Cp Aa H' p ds bs n lf:=by
 obtain⟨dx,s0,h1,h2,h3,h4⟩:=h
 exact⟨dx,s0,s.get h1,s.get h2,h3,h4.same (fun a xs e=>s.get e) fun d _ kvs e=>s.get e⟩
theorem Al.kb {H H':Hp}(s:Al H H')(p:Addr)(ds:List Addr):Kb H H' p ds:=fun b o e _ _=>s b o e
theorem Kb.trans {H H1 H2:Hp}{p:Addr}{ds:List Addr}(a:Kb H H1 p ds)(b:Kb H1 H2 p ds):Kb H H2 p ds:=fun c o e h1 h2=>b c o (a c o e h1 h2) h1 h2
theorem Cp.notin {Aa:Addr}{H:Hp}{p:Addr}{ds:List Addr}{bs:List Bz}{n:Int}{lf:V}(g:Cp Aa H p ds bs n lf){b:Addr}{o:HO}(e:H b=some o)(z:∀kvs,o≠.dK kvs):b∉ds:=fun hb=>by
 obtain⟨_,_,_,_,_,g4⟩:=g
 obtain⟨i,hi,ei⟩:=List.getElem_of_mem hb
 obtain⟨c,_,kvs,q1,_⟩:=BF (i:=i) g4 (by rw[List.getElem?_eq_getElem hi,ei])
 rw[e] at q1
 exact z kvs (Option.some.inj q1)
theorem Cp.there {Aa:Addr}{H:Hp}{p:Addr}{ds:List Addr}{bs:List Bz}{n:Int}{lf:V}(g:Cp Aa H p ds bs n lf):∀d∈ds,∃kvs,H d=some (.dK kvs):=fun d hb=>by
 obtain⟨_,_,_,_,_,g4⟩:=g
 obtain⟨i,hi,ei⟩:=List.getElem_of_mem hb
 obtain⟨c,_,kvs,q1,_⟩:=BF (i:=i) g4 (by rw[List.getElem?_eq_getElem hi,ei])
 exact⟨kvs,q1⟩
def Ei (K:W.Frag)(Aa:Addr):Sp:=fun vs H Q _=>∃(p dx:Addr) (m:Nat),vs=[.ref p,.int m]∧2≤m∧m≤4∧H p=some (.ins Aa dx [])∧∀H' ds,Cp Aa H' p ds (List.replicate m []) 0 .non→(∀d∈ds,H d=none)→(∀b o,H b=some o→b≠p→H' b=some o)→Q .non H'
def Cq (K:W.Frag)(Aa:Addr):Sp:=fun vs H Q _=>∃p ds bs n lf,vs=[.ref p]∧Cp Aa H p ds bs n lf∧Q (.int (bs.length:Int)) H
def BD (K:W.Frag)(Aa:Addr):Sp:=fun vs H Q _=>∃p ds bs n lf,∃(b:Nat),vs=[.ref p,.int (b:Int)]∧Cp Aa H p ds bs n lf∧b<bs.length∧∀d,ds[b]?=some d→Q (.ref d) H
def KN:V→V
 | .int k=>.int (k-1)
 |v=>v
def TC (lf:V):Prop:=lf=.non∨∃k:Nat,lf=.int (k:Int)
def DU (K:W.Frag)(Aa:Addr)(XC:Nat→Addr):Sp:=fun vs H Q E=>∃p ds bs n lf,∃(b:Nat) (z:Int) (a:Addr) (row:List Int),vs=[.ref p,.int (b:Int),.int z,.ref a]∧Cp Aa H p ds bs n lf∧TC lf∧b<bs.length∧(∀c∈bs,c.length<1000)∧H a=some (.lst (row.map V.int))∧
 (lf=.int 0→E (.ref (XC 1)) none H)∧(lf≠.int 0→∀H',Cp Aa H' p ds (bs.set b (Fq (bs.getD b []) z row)) (n+1) (KN lf)→Kb H H' p ds→Q .non H')
def Dh (K:W.Frag)(Aa:Addr):Sp:=fun vs H Q _=>∃p ds bs n lf,∃(b:Nat) (z:Int),vs=[.ref p,.int (b:Int),.int z]∧Cp Aa H p ds bs n lf∧b<bs.length∧(Bl (bs.getD b []) z=none→Q .non H)∧
 ∀row,Bl (bs.getD b []) z=some row→∀l,H l=none→Q (.ref l) (upd H l (.lst (row.map V.int)))
def Ez (K:W.Frag)(Aa:Addr):Sp:=fun vs H Q _=>∃p ds bs n lf,∃(b:Nat),vs=[.ref p,.int (b:Int)]∧Cp Aa H p ds bs n lf∧b<bs.length∧∀H',Cp Aa H' p ds (bs.set b []) n lf→Kb H H' p ds→Q .non H'
theorem KJ (T:Txt K mg Ac Aa XC)(F:Fun K "many" "Boards.many" Cd f fd):FnOk P w K mg base Dp 1 f fd ["self"] (Cq K Aa):=by
 exists KB
 ·obtain⟨p,ds,bs,n,lf,rfl,_⟩:=h
  rfl
 obtain⟨p,ds,bs,n,lf,rfl,hB,q⟩:=h
 have hl:=hB.len
 obtain⟨dx,s0,h1,h2,h3,h4⟩:=hB
 refine⟨_,(!Aj (!An (!AB AN (by rfl) T.b_len B5 (!Ab (!Fb (pv 0) rfl) (!Ag) (by rfl)) (by decide) (by decide) (by rfl) (by rfl)))),?_⟩
 refine⟨_,rfl,p,Aa,dx,_,_,rfl,h1,T.cl_Boards,T.n_Boards_shelves,rfl,s0,_,rfl,.inl (AM.of h2),?_⟩
 rw[List.length_map,hl]
 exact q
theorem JQ (T:Txt K mg Ac Aa XC)(F:Fun K "shelf" "Boards.shelf" BO f fd)(AA:Def P w K mg base 2 "is_between" ["thing","least","most"] (Bg K))(A8:DI P w K mg base 1 Aa "many" ["self"] (Cq K Aa)):FnOk P w K mg base Dp 3 f fd ["self","board"] (BD K Aa):=by
 exists JZ
 ·obtain⟨p,ds,bs,n,lf,b,rfl,_⟩:=h
  rfl
 obtain⟨p,ds,bs,n,lf,b,rfl,hB,b1,q⟩:=h
 have hl:=hB.len
 obtain⟨dx,s0,h1,h2,h3,h4⟩:=id hB
 refine⟨_,(!Af (!AL (!BA (!Bt (!AK AA (by trivial) rfl (!Ab (pv 1) (!Ab (!Ae) (!Ab (!Am HP (!Hh (pv 0) T.cl_Boards A8 (by trivial) (by rfl)) (!Ae)) (!Ag) (by rfl)) (by rfl)) (by rfl)) (by decide) (by rfl) (by rfl)) (by intro _;rfl))) (!Aj (!Oz)) (!As)) (!Aj (!An (!Ay AY (!Fb (pv 0) rfl) (pv 1) (fun _ _=>rfl))))),?_⟩
 refine⟨_,rfl,_,rfl,p,dx,_,rfl,h1,rfl,p,ds,bs,n,lf,rfl,hB,_,_,rfl,rfl,.int (b:Int),0,_,rfl,trivial,_,rfl,AS ?_ ?_⟩
 ·show(!(decide ((0:Int)≤(b:Int))&&decide ((b:Int)≤(bs.length:Int)-1)))=false
  rw[decide_eq_true (show(0:Int)≤(b:Int) by omega),decide_eq_true (show(b:Int)≤(bs.length:Int)-1 by omega)];rfl
 have hk:b<ds.length:=by omega
 exact⟨_,rfl,p,Aa,dx,_,_,rfl,h1,T.cl_Boards,T.n_Boards_shelves,rfl,_,rfl,s0,_,_,_,rfl,rfl,AM.of h2,CP (j:=b) (by rw[List.getElem?_map,List.getElem?_eq_getElem hk];rfl),q _ (List.getElem?_eq_getElem hk)⟩
theorem MP {H H':Hp} {p dx s0 l:Addr} {ds:List Addr} {bs:List Bz} {n y:Int} {lf lf2:V} {b:Nat} {d:Addr} {z:Int} {row:List Int} {kvs:List (Key×V)} (h1:H p=some (.ins Aa dx (CG s0 n lf))) (h2:H s0=some (.lst (ds.map V.ref))) (h3:ds.Nodup) (h4:Qh H ds bs) (hb:ds[b]?=some d) (hd:H d=some (.dK kvs))
  (hl:H l=none) (e:H'=upd (upd (upd H p (.ins Aa dx (CG s0 y lf2))) l (.lst (row.map V.int))) d (.dK (putK kvs (Sum.inl z) (.ref l)))):Cp Aa H' p ds (bs.set b (Fq (bs.getD b []) z row)) y lf2∧Kb H H' p ds:=by
 have npd:p≠d:=Av h1 hd (by intro z;cases z)
 have nld:l≠d:=fun z=>by rw[z,hd] at hl;cases hl
 have nlp:l≠p:=fun z=>by rw[z,h1] at hl;cases hl
 have lists:∀a xs,H a=some (.lst xs)→H' a=some (.lst xs):=fun a xs q=>by
  rw[e,Ai (Av q hd (by intro z;cases z)),Ai (Ar q hl),Ai (Av q h1 (by intro z;cases z))];exact q
 have hl':H' l=some (.lst (row.map V.int)):=by rw[e,Ai nld,Ad]
 obtain⟨b0,g1,kvs0,g2,g3,g5⟩:=BF h4 hb
 rw[hd] at g2
 cases g2
 have eb:bs.getD b []=b0:=by simp[List.getD,g1]
 refine⟨⟨dx,s0,?_,lists _ _ h2,h3,?_⟩,fun c o q hc hcd=>?_⟩
 ·rw[e,Ai npd,Ai nlp.symm,Ad]
 ·rw[eb]
  refine Qh.set lists ⟨_,by rw[e,Ad],(g3.same lists).put z hl',PH g5⟩ h4 h3 (fun e' he' ne' kvs' q=>?_) hb
  rw[e,Ai ne',Ai (Ar q hl),Ai (Av q h1 (by intro z;cases z))];exact q
 ·rw[e,Ai (fun z=>hcd (by rw[z];exact List.mem_of_getElem? hb)),Ai (Ar q hl),Ai hc];exact q
theorem JV (T:Txt K mg Ac Aa XC)(F:Fun K "write" "Boards.write" BU f fd)(AO:DI P w K mg base 3 Aa "shelf" ["self","board"] (BD K Aa)):FnOk P w K mg base (IK P w) 4 f fd ["self","board","number","row"] (DU K Aa XC):=by
 refine F.okX FZ (fun vs H Q E h=>?_) (fun cdv A outer s H vs Q E hr h=>?_)
 ·obtain⟨p,ds,bs,n,lf,b,z,a,row,rfl,_⟩:=h
  rfl
 obtain⟨p,ds,bs,n,lf,b,z,a,row,rfl,hB,lok,b1,b2,ha,qE,q⟩:=h
 have hl:=hB.len
 obtain⟨dx,s0,h1,h2,h3,h4⟩:=id hB
 have hu:=IA hr
 refine⟨_,(!Af (@Ax _ _ (4) _ _ _ _ FZ.nd rfl (by trivial) (!DP (pv 0) T.cl_Boards AO (by trivial) (!Ab (pv 1) (!Ag) (by rfl)) (by rfl) (by rfl) (by rfl)) (by rfl) (by trivial)) (!Af (!AL (!AI B3 (!Fb (pv 0) rfl) (!Ae) (AJ _)) (!Aj (!Hj Im rfl T.x_Stopped T.q_Stopped rfl (by decide))) (!As)) (!Af (!AL (!G1 (!J3 (!Fb (pv 0) rfl)) (by first|exact Dj _ (by decide) (by decide)|rfl)) (!Aj (!Jb (pv 0) (!Ae) U2)) (!As)) (!Af (!Jb (pv 0) (!Ae) Qz) (!Aj (!D5 hu (pv 4) (pv 2) (!BG Dd (by rfl) T.b_list FW (!Ab (pv 3) (!Ag) (by rfl)) (by decide) (by decide) (by rfl) (by rfl)) rfl)))))),?_⟩
 dsimp only[B9]
 refine⟨_,rfl,p,dx,_,rfl,h1,rfl,_,rfl,p,ds,bs,n,lf,b,rfl,hB,b1,fun d hd=>?_⟩
 obtain⟨c0,g1,kvs,e1,g3,g5⟩:=BF h4 hd
 have npd:p≠d:=Av h1 e1 (by intro z;cases z)
 have npa:a≠p:=Av ha h1 (by intro z;cases z)
 have kl:kvs.length<1000:=by rw[g3.len];exact b2 _ (List.mem_of_getElem? g1)
 dsimp only
 refine Hf (fun σ' H'=>σ'=[some (.ref p),some (.int (b:Int)),some (.int z),some (.ref a),some (.ref d)]∧H'=H∧lf≠.int 0) (fun N hN=>?_) ?_
 ·refine⟨_,rfl,p,Aa,dx,_,_,rfl,h1,T.cl_Boards,T.n_Boards_writes_left,rfl,?_⟩
  rcases lok with rfl|⟨k,rfl⟩
  ·exact⟨rfl,_,rfl,AS rfl (hN _ _ ⟨rfl,rfl,by intro z;cases z⟩)⟩
  ·refine⟨rfl,_,rfl,Cs (fun c=>?_) (fun c=>?_)⟩
   ·have c':V.int (k:Int)=V.int 0:=dec_true c
    exact qE c'
   ·exact hN _ _ ⟨rfl,rfl,dec_false c⟩
 rintro σ' H' ⟨rfl,rfl,lne⟩
 refine Hf (fun σ' H2=>σ'=[some (.ref p),some (.int (b:Int)),some (.int z),some (.ref a),some (.ref d)]∧H2=upd H' p (.ins Aa dx (CG s0 n (KN lf)))) (fun N hN=>?_) ?_
 ·refine⟨_,rfl,p,Aa,dx,_,_,rfl,h1,T.cl_Boards,T.n_Boards_writes_left,rfl,?_⟩
  rcases lok with rfl|⟨k,rfl⟩
  ·refine⟨_,rfl,AS rfl (hN _ _ ⟨rfl,?_⟩)⟩
   funext c
   by_cases e:c=p
   ·rw[e,Ad];exact h1
   ·rw[Ai e]
  ·refine⟨_,rfl,AQ rfl ?_⟩
   refine⟨_,rfl,p,Aa,dx,_,_,rfl,h1,T.cl_Boards,T.n_Boards_writes_left,rfl,_,_,rfl,rfl,dx,_,h1,(by show 3<1000;decide),hN _ _ ⟨rfl,?_⟩⟩
   rw[V4];rfl
 rintro σ' H2 ⟨rfl,rfl⟩
 have ap:upd H' p (.ins Aa dx (CG s0 n (KN lf))) p=some (.ins Aa dx (CG s0 n (KN lf))):=Ad
 refine⟨_,rfl,p,Aa,dx,_,_,rfl,ap,T.cl_Boards,T.n_Boards_writes,rfl,_,_,rfl,rfl,dx,_,ap,(by show 3<1000;decide),?_⟩
 rw[FV,WY]
 refine⟨_,rfl,a,_,rfl,.inl (AM.of (by rw[Ai npa];exact ha)),fun l hl0=>?_⟩
 have nlp:l≠p:=fun z=>by rw[z,Ad] at hl0;cases hl0
 have hlH:H' l=none:=by rw[Ai nlp] at hl0;exact hl0
 have ndl:d≠l:=Ar e1 hlH
 refine⟨_,rfl,_,rfl,d,_,rfl,HQ.k (k:=Sum.inl z) (by rw[Ai ndl,Ai npd.symm];exact e1) (L1 (by omega)),?_⟩
 obtain⟨x1,x2⟩:=MP (Aa:=Aa) (y:=n+1) (lf2:=KN lf) (row:=row) (z:=z) h1 h2 h3 h4 hd e1 hlH rfl
 exact q lne _ x1 x2
theorem Kl (T:Txt K mg Ac Aa XC)(F:Fun K "cell" "Boards.cell" Ce f fd)(AO:DI P w K mg base 3 Aa "shelf" ["self","board"] (BD K Aa)):FnOk P w K mg base Dp 4 f fd ["self","board","number"] (Dh K Aa):=by
 exists GZ
 ·obtain⟨p,ds,bs,n,lf,b,z,rfl,_⟩:=h
  rfl
 obtain⟨p,ds,bs,n,lf,b,z,rfl,hB,b1,q0,q1⟩:=h
 obtain⟨dx,s0,h1,h2,h3,h4⟩:=id hB
 have hu:=IA hr
 refine⟨_,(!Af (@Ax _ _ (3) _ _ _ _ GZ.nd rfl (by trivial) (!SJ hu (!DP (pv 0) T.cl_Boards AO (by trivial) (!Ab (pv 1) (!Ag) (by rfl)) (by rfl) (by rfl) (by rfl)) (pv 2) ⟨rfl,rfl,rfl,rfl⟩) (by rfl) (by trivial)) (!Af (!AL (!G1 (!Na (pv 3)) (by first|exact Dj _ (by decide) (by decide)|rfl)) (!Aj (!An (!Dm))) (!As)) (!Aj (!An (!BG Dd (by rfl) T.b_list FW (!Ab (pv 3) (!Ag) (by rfl)) (by decide) (by decide) (by rfl) (by rfl)))))),?_⟩
 try dsimp only[B9,Cx.nox,Cx.wish]
 refine⟨_,rfl,p,dx,_,rfl,h1,rfl,_,rfl,p,ds,bs,n,lf,b,rfl,hB,b1,fun d hd=>?_⟩
 obtain⟨c0,g1,kvs,e1,g3,g5⟩:=BF h4 hd
 have eb:bs.getD b []=c0:=by simp[List.getD,g1]
 rw[eb] at q0 q1
 refine⟨d,rfl,.inl ⟨kvs,.inl e1⟩,_,rfl,_,Dl.k (k:=Sum.inl z) e1,?_⟩
 rcases g3.get z with⟨v1,v2⟩|⟨a,row,v1,v2,v3⟩
 ·rw[v1]
  exact⟨_,rfl,_,rfl,AQ rfl (q0 v2)⟩
 ·rw[v1]
  refine⟨_,rfl,_,rfl,AS rfl ?_⟩
  exact⟨_,rfl,a,_,rfl,.inl (AM.of v3),fun l hl=>q1 row v2 l hl⟩
theorem KO (T:Txt K mg Ac Aa XC)(F:Fun K "lose" "Boards.lose" Ci f fd)(AO:DI P w K mg base 3 Aa "shelf" ["self","board"] (BD K Aa)):FnOk P w K mg base Dp 4 f fd ["self","board"] (Ez K Aa):=by
 exists Lf
 ·obtain⟨p,ds,bs,n,lf,b,rfl,_⟩:=h
  rfl
 obtain⟨p,ds,bs,n,lf,b,rfl,hB,b1,q⟩:=h
 obtain⟨dx,s0,h1,h2,h3,h4⟩:=id hB
 refine⟨_,(!Aj (!Co (!Ru (!DP (pv 0) T.cl_Boards AO (by trivial) (!Ab (pv 1) (!Ag) (by rfl)) (by rfl) (by rfl) (by rfl)) ⟨rfl,rfl,rfl,rfl⟩) (by rfl))),?_⟩
 try dsimp only[B9,Cx.nox,Cx.wish]
 refine⟨_,rfl,p,dx,_,rfl,h1,rfl,_,rfl,p,ds,bs,n,lf,b,rfl,hB,b1,fun d hd=>?_⟩
 obtain⟨c0,g1,kvs,e1,g3,g5⟩:=BF h4 hd
 refine⟨d,kvs,rfl,e1,?_⟩
 have lists:∀a xs,H a=some (.lst xs)→upd H d (.dK []) a=some (.lst xs):=fun a xs q=>by
  rw[Ai (Av q e1 (by intro z;cases z))];exact q
 refine q _ ⟨dx,s0,by rw[Ai (Av h1 e1 (by intro z;cases z))];exact h1,lists _ _ h2,h3,Qh.set lists ⟨[],Ad,.nil,List.nodup_nil⟩ h4 h3 (fun e' _ ne' kvs' q=>by rw[Ai ne'];exact q) hd⟩ fun c o q hc hcd=>?_
 rw[Ai (fun z=>hcd (by rw[z];exact List.mem_of_getElem? hd))];exact q
theorem K9 (T:Txt K mg Ac Aa XC)(F:Fun K "__init__" "Boards.__init__" Cm f fd)(AA:Def P w K mg base 2 "is_between" ["thing","least","most"] (Bg K)):FnOk P w K mg base Dp 3 f fd ["self","many"] (Ei K Aa):=by
 exists Kq
 ·obtain⟨p,dx,m,rfl,_⟩:=h
  rfl
 obtain⟨p,dx,m,rfl,m1,m2,h1,q⟩:=h
 refine⟨_,(!Af (!AL (!BA (!Bt (!AK AA (by trivial) rfl (!Ab (pv 1) (!Ab (!AH rfl T.c_LEAST_BOARDS (by decide)) (!Ab (!AH rfl T.c_MOST_BOARDS (by decide)) (!Ag) (by rfl)) (by rfl)) (by rfl)) (by decide) (by rfl) (by rfl)) (by intro _;rfl))) (!Aj (!Oz)) (!As)) (!Af (!KC (pv 0) (@Bq _ ["board"] _ _ _ _ _ _ _ _ _ _ rfl (!Ec rfl T.b_range (!Ab (pv 1) (!Ag) (by rfl)) (by rfl)) (by decide +kernel) (fun C s H fp=>⟨(@Az _ _ (0) _ (show(["board"]:List Str).Nodup by decide +kernel) rfl (by trivial) (by trivial)),(!A5),(!OA)⟩) (by intro _;rfl)) rfl) (!Af (!KC (pv 0) (!Ae) rfl) (!Aj (!KC (pv 0) (!Dm) rfl))))),?_⟩
 try dsimp only[B9,Cx.nox,Cx.wish]
 refine⟨_,rfl,.int m,2,4,rfl,trivial,_,rfl,AS ?_ ?_⟩
 ·show(!(decide ((2:Int)≤(m:Int))&&decide ((m:Int)≤4)))=false
  rw[decide_eq_true (show(2:Int)≤(m:Int) by omega),decide_eq_true (show(m:Int)≤4 by omega)];rfl
 refine⟨_,rfl,m,rfl,by omega,by omega,?_⟩
 refine MQ (xs:=(List.range (m:Int).toNat).map fun(i:Nat)=>V.int (0+(i:Int))) (fun i ys l H'=>Al H H'∧∃ds:List Addr,ys=ds.map V.ref∧ds.Nodup∧∀d∈ds,H' d=some (.dK [])∧H d=none) (by rw[List.length_map,List.length_range];omega) (fun i ys l H' _=>PQ) (fun l hl=>⟨Ak hl _,[],rfl,List.nodup_nil,fun _ h=>nomatch h⟩) (fun i x ys l H' R hx hl hl' hlen hI hR d hd=>?_) fun l H1 ys hl hl1 ly hI=>?_
 ·obtain⟨s',ds,rfl,nd,hds⟩:=hI
  have nld:l≠d:=Ar hl' hd
  refine hR _ _ (by rw[Ai nld];exact hl') ⟨Br (Br s' (s'.free hd) _) hl _,ds++[d],by rw[List.map_append];rfl,?_,fun e he=>?_⟩
  ·rw[List.nodup_append]
   refine⟨nd,by simp,fun e he g hg=>?_⟩
   rw[List.mem_singleton.mp hg]
   intro z
   have:=(hds e he).1
   rw[z,hd] at this
   cases this
  ·have nel:∀{o},H' e=some (.dK o)→e≠l:=fun q=>Av q hl' (by intro z;cases z)
   rcases List.mem_append.mp he with he|he
   ·obtain⟨g1,g2⟩:=hds e he
    exact⟨by rw[Ai (nel g1),Ai (Ar g1 hd)];exact g1,g2⟩
   ·rw[List.mem_singleton.mp he]
    exact⟨by rw[Ai nld.symm,Ad],s'.free hd⟩
 obtain⟨s1,ds,rfl,nd,hds⟩:=hI
 have lds:ds.length=m:=by rw[List.length_map,List.length_map,List.length_range] at ly;omega
 have p1:=s1.get h1
 have npl:l≠p:=Av hl1 p1 (by intro z;cases z)
 refine⟨_,rfl,p,Aa,dx,[],rfl,p1,T.cl_Boards,T.n_Boards_shelves,(by show 0<1000;decide),?_⟩
 refine⟨_,rfl,p,Aa,dx,_,rfl,Ad,T.cl_Boards,T.n_Boards_writes,(by show 1<1000;decide),?_⟩
 refine⟨_,rfl,p,Aa,dx,_,rfl,Ad,T.cl_Boards,T.n_Boards_writes_left,(by show 2<1000;decide),?_⟩
 rw[FV,FV]
 refine q _ ds ⟨dx,l,Ad,by rw[Ai npl];exact hl1,nd,?_⟩ (fun d hd=>(hds d hd).2) fun b o e hb=>?_
 ·have all:∀(es:List Addr),(∀d∈es,d∈ds)→Qh (upd H1 p (.ins Aa dx (DT "writes_left" V.non (DT "writes" (V.int 0) (DT "shelves" (V.ref l) []))))) es (List.replicate es.length []):=by
   intro es
   induction es with
   |nil=>intro _;exact .nil
   |cons d es ih=>
    intro hm
    refine .cons ⟨[],?_,.nil,List.nodup_nil⟩ (ih fun e he=>hm e (List.mem_cons_of_mem _ he))
    have:=(hds d (hm d List.mem_cons_self)).1
    rw[Ai (Av this p1 (by intro z;cases z))];exact this
  have:=all ds fun _ h=>h
  rw[lds] at this
  exact this
 ·rw[Ai hb];exact s1.get e
theorem Ir {H:Hp}{x y:Addr}{u v:HO}(h:x≠y):upd (upd H x u) y v=upd (upd H y v) x u:=by
 funext c
 by_cases h1:c=y
 ·subst h1;rw[Ad,Ai (Ne.symm h),Ad]
 ·rw[Ai h1]
  by_cases h2:c=x
  ·subst h2;rw[Ad,Ad]
  ·rw[Ai h2,Ai h2,Ai h1]
def IC (b:Bz)(k:Int):Bz:=b.filter fun x=>!decide (x.1=k)
theorem Bw.drop {H:Hp}:∀{kvs:List (Key×V)} {b:Bz} (_:Bw H kvs b) (k:Int),Bw H (Jz kvs (Sum.inl k)) (IC b k)
 |_,_,.nil,_=>.nil
 |_,_,.cons (a:=kv) (b:=x) h t,k=>by
  have ih:=Bw.drop t k
  have e:decide (kv.1≠Sum.inl k) = !decide (x.1=k):=by
   rw[h.1,Bool.eq_iff_iff]
   simp
  show Bw H (List.filter _ _) (List.filter _ _)
  rw[List.filter_cons,List.filter_cons,e]
  by_cases hx:x.1=k
  ·rw[decide_eq_true hx];exact ih
  ·rw[decide_eq_false hx];exact .cons h ih
theorem Ou {b:Bz}{k:Int}(h:(b.map (·.1)).Nodup):((IC b k).map (·.1)).Nodup:=h.sublist (List.filter_sublist.map _)
theorem Qb {H:Hp}{kvs:List (Key×V)}{b:Bz}(r:Bw H kvs b){k:Int}(h:CL kvs (Sum.inl k)=none):IC b k=b:=by
 rcases r.get k with⟨_,g⟩|⟨a,row,g,_⟩
 ·unfold IC
  rw[List.filter_eq_self]
  intro x hx
  cases e:decide (x.1=k) with
  |false=>rfl
  |true=>
   unfold Bl at g
   rw[Option.map_eq_none_iff,List.find?_eq_none] at g
   exact absurd e (g x hx)
 ·rw[h] at g;cases g
theorem Tp {H H':Hp} {p dx s0 l a:Addr} {ds:List Addr} {bs:List Bz} {n y:Int} {lf lf2:V} {b:Nat} {d:Addr} {z:Int} {row:List Int} {xs:List V} {kvs:List (Key×V)} (hB:Cp Aa H p ds bs n lf) (ha:H a=some (.lst xs)) (hN:∀ys,Cp Aa (upd H a (.lst ys)) p ds bs n lf)
  (h1:H p=some (.ins Aa dx (CG s0 n lf))) (h2:H s0=some (.lst (ds.map V.ref))) (h3:ds.Nodup) (hb:ds[b]?=some d) (hd:H d=some (.dK kvs)) (hl:H l=none)
  (e:H'=upd (upd (upd H p (.ins Aa dx (CG s0 y lf2))) l (.lst (row.map V.int))) d (.dK (putK kvs (Sum.inl z) (.ref l)))) (ys:List V):Cp Aa (upd H' a (.lst ys)) p ds (bs.set b (Fq (bs.getD b []) z row)) y lf2:=by
 have nap:a≠p:=Av ha h1 (by intro z;cases z)
 have nad:a≠d:=Av ha hd (by intro z;cases z)
 have nal:a≠l:=Ar ha hl
 obtain⟨dx',s0',g1,g2,g3,g4⟩:=hN ys
 have g1':=g1
 rw[Ai nap.symm,h1] at g1'
 obtain⟨rfl,e0⟩:dx=dx'∧CG s0 n lf=CG s0' n lf:=by cases g1';exact⟨rfl,rfl⟩
 obtain rfl:s0=s0':=by
  unfold CG at e0
  cases e0
  rfl
 refine(MP (Aa:=Aa) (H:=upd H a (.lst ys)) (y:=y) (lf2:=lf2) (row:=row) (z:=z) (l:=l) g1 g2 g3 g4 hb (by rw[Ai nad.symm];exact hd) (by rw[Ai nal.symm];exact hl) ?_).1
 rw[e,Ir nad.symm,Ir nal.symm,Ir nap.symm]
def DM (c:Bz)(z:Int):Option (List Int)→Bz
 |none=>IC c z
 |some row=>Fq c z row
def Tb (H:Hp):Option (List Int)→V→Prop
 |none,v=>v=.non
 |some row,v=>∃a,v=.ref a∧H a=some (.lst (row.map V.int))
def B8 (K:W.Frag)(Aa:Addr):Sp:=fun vs H Q _=>∃p ds bs n lf,∃(b:Nat) (z:Int) (v:V) (o:Option (List Int)),vs=[.ref p,.int (b:Int),.int z,v]∧Cp Aa H p ds bs n lf∧b<bs.length∧(∀c∈bs,c.length<1000)∧Tb H o v∧
 ∀H',Cp Aa H' p ds (bs.set b (DM (bs.getD b []) z o)) n lf→Kb H H' p ds→(∀a xs,H a=some (.lst xs)→(∀ys,Cp Aa (upd H a (.lst ys)) p ds bs n lf)→∀ys,Cp Aa (upd H' a (.lst ys)) p ds (bs.set b (DM (bs.getD b []) z o)) n lf)→Q .non H'
theorem Nu {H:Hp}{p dx s0:Addr}{ds:List Addr}{bs:List Bz}{n:Int}{lf:V}{b:Nat}{d:Addr}{z:Int}{kvs:List (Key×V)}(h1:H p=some (.ins Aa dx (CG s0 n lf)))(h2:H s0=some (.lst (ds.map V.ref)))(h3:ds.Nodup)(h4:Qh H ds bs)(hd:ds[b]?=some d)(e1:H d=some (.dK kvs)) :
  Cp Aa (upd H d (.dK (Jz kvs (Sum.inl z)))) p ds (bs.set b (IC (bs.getD b []) z)) n lf:=by
 obtain⟨c0,g1,kvs',e1',g3,g5⟩:=BF h4 hd
 rw[e1] at e1'
 cases e1'
 have eb:bs.getD b []=c0:=by simp[List.getD,g1]
 have lists:∀a xs,H a=some (.lst xs)→upd H d (.dK (Jz kvs (Sum.inl z))) a=some (.lst xs):=fun a xs q=>by
  rw[Ai (Av q e1 (by intro z;cases z))];exact q
 refine⟨dx,s0,by rw[Ai (Av h1 e1 (by intro z;cases z))];exact h1,lists _ _ h2,h3,?_⟩
 rw[eb]
 exact Qh.set lists ⟨_,Ad,(g3.same lists).drop z,Ou g5⟩ h4 h3 (fun e' _ ne' kvs' q=>by rw[Ai ne'];exact q) hd
theorem JW (T:Txt K mg Ac Aa XC)(F:Fun K "spoil" "Boards.spoil" BY f fd)(AO:DI P w K mg base 3 Aa "shelf" ["self","board"] (BD K Aa)):FnOk P w K mg base Dp 4 f fd ["self","board","number","row"] (B8 K Aa):=by
 exists Gb
 ·obtain⟨p,ds,bs,n,lf,b,z,v,o,rfl,_⟩:=h
  rfl
 obtain⟨p,ds,bs,n,lf,b,z,v,o,rfl,hB,b1,b2,hv,q⟩:=h
 have hl:=hB.len
 obtain⟨dx,s0,h1,h2,h3,h4⟩:=id hB
 have hu:=IA hr
 refine⟨_,(!Af (@Ax _ _ (4) _ _ _ _ Gb.nd rfl (by trivial) (!DP (pv 0) T.cl_Boards AO (by trivial) (!Ab (pv 1) (!Ag) (by rfl)) (by rfl) (by rfl) (by rfl)) (by rfl) (by trivial)) (!Aj (!AL (!G1 (!Na (pv 3)) (by first|exact Dj _ (by decide) (by decide)|rfl)) (!Aj (!Co (!TL (pv 4) (pv 2) (!Dm) ⟨rfl,rfl,rfl,rfl⟩) (by rfl))) (!Aj (!D5 hu (pv 4) (pv 2) (!BG Dd (by rfl) T.b_list FW (!Ab (pv 3) (!Ag) (by rfl)) (by decide) (by decide) (by rfl) (by rfl)) rfl))))),?_⟩
 try dsimp only[B9,Cx.nox,Cx.wish]
 refine⟨_,rfl,p,dx,_,rfl,h1,rfl,_,rfl,p,ds,bs,n,lf,b,rfl,hB,b1,fun d hd=>?_⟩
 obtain⟨c0,g1,kvs,e1,g3,g5⟩:=BF h4 hd
 have eb:bs.getD b []=c0:=by simp[List.getD,g1]
 have kl:kvs.length<1000:=by rw[g3.len];exact b2 _ (List.mem_of_getElem? g1)
 have eH:upd H p (.ins Aa dx (CG s0 n lf))=H:=by
  funext c
  by_cases e:c=p
  ·rw[e,Ad];exact h1.symm
  ·rw[Ai e]
 match o,hv,q with
 |some row,⟨a,ev,ha⟩,q=>
  subst ev
  refine⟨_,rfl,_,rfl,AS rfl ?_⟩
  refine⟨_,rfl,a,_,rfl,.inl (AM.of ha),fun l hl0=>?_⟩
  have ndl:d≠l:=Ar e1 hl0
  refine⟨_,rfl,_,rfl,d,_,rfl,HQ.k (k:=Sum.inl z) (by rw[Ai ndl];exact e1) (L1 (by omega)),?_⟩
  obtain⟨x1,x2⟩:=MP (Aa:=Aa) (y:=n) (lf2:=lf) (row:=row) (z:=z) h1 h2 h3 h4 hd e1 hl0 rfl
  have x3:∀a xs,H a=some (.lst xs)→(∀ys,Cp Aa (upd H a (.lst ys)) p ds bs n lf)→∀ys,Cp Aa (upd (upd (upd (upd H p (.ins Aa dx (CG s0 n lf))) l (.lst (row.map V.int))) d (.dK (putK kvs (Sum.inl z) (.ref l)))) a (.lst ys)) p ds (bs.set b (Fq (bs.getD b []) z row)) n lf:=fun a xs ha hN ys=>Tp (Aa:=Aa) (y:=n) (lf2:=lf) (row:=row) (z:=z) hB ha hN h1 h2 h3 hd e1 hl0 rfl ys
  rw[eH] at x1 x2 x3
  exact q _ x1 x2 x3
 |none,hv,q=>
  have ev:v=.non:=hv
  subst ev
  refine⟨_,rfl,_,rfl,AQ rfl ?_⟩
  refine⟨_,rfl,d,rfl,.inl ⟨kvs,.inl e1⟩,_,rfl,kvs,Sum.inl z,e1,rfl,fun v' hv'=>?_,fun hv'=>?_⟩
  ·refine q _ (Nu h1 h2 h3 h4 hd e1) (fun c o q hc hcd=>?_) (fun a xs ha hN ys=>?_)
   ·rw[Ai (fun z=>hcd (by rw[z];exact List.mem_of_getElem? hd))];exact q
   ·have nap:a≠p:=Av ha h1 (by intro z;cases z)
    have nad:a≠d:=Av ha e1 (by intro z;cases z)
    obtain⟨dx',s0',g1,g2,g3,g4⟩:=hN ys
    rw[Ir nad.symm]
    exact Nu g1 g2 g3 g4 hd (by rw[Ai nad.symm];exact e1)
  ·have:bs.set b (IC (bs.getD b []) z)=bs:=by
    rw[eb,Qb g3 hv']
    refine List.ext_getElem? fun i=>?_
    rw[List.getElem?_set]
    by_cases hi:b=i
    ·subst hi;rw[if_pos rfl,if_pos b1,g1]
    ·rw[if_neg hi]
   have e2:bs.set b (DM (bs.getD b []) z none)=bs:=this
   refine q H (by rw[e2];exact hB) (fun c o q _ _=>q) (fun a xs ha hN ys=>by rw[e2];exact hN ys)
abbrev Tg:=Int×Int×Int
structure En where
 nm:Str
 kd:Int
 tg:Tg
inductive Bk where
 |piece (z:Str)
 |row (lv:Int) (ts:List Tg)
 |folder (es:List En)
def IL (t:Tg):Tr:=.tup [.int t.1,.int t.2.1,.int t.2.2]
def IV (e:En):Tr:=.tup [.str e.nm,.int e.kd,IL e.tg]
def Gh:Bk→Tr
 | .piece z=>.tup [.int 0,.str z]
 | .row lv ts=>.tup [.int 1,.int lv,.tup (ts.map IL)]
 | .folder es=>.tup [.int 2,.tup (es.map IV)]
def Jf (t:Tg):Prop:=(1≤t.1∧t.1≤999999)∧(0≤t.2.1∧t.2.1≤999999999)∧0≤t.2.2∧t.2.2≤996
def Ov (e:En):Prop:=DH (.str e.nm)=true∧(1≤e.kd∧e.kd≤2)∧Jf e.tg
def XZ (lv:Int)(ts:List Tg):Prop:=ts.length≤8∧(1<lv→ts≠[])∧∀t∈ts,Jf t
def Xt (es:List En):Prop:=es.length≤16∧(∀e∈es,Ov e)∧PyProof.Rows.sortedS (es.map (·.nm))=true∧(es.map (·.nm)).Nodup
def Hn:Bk→Prop
 | .piece z=>Ga 1 8 (.str z)=true
 | .row lv ts=>(1≤lv∧lv≤9)∧XZ lv ts
 | .folder es=>Xt es
theorem M3 {H:Hp}{t:Tg}{v:V}(h:Rep NL H (IL t) v):∃a,v=.ref a∧H a=some (.tup [.int t.1,.int t.2.1,.int t.2.2]):=by
 obtain⟨a,vs,rfl,e,x1,u1,rfl,rfl,x2,u2,rfl,rfl,x3,u3,rfl,rfl,rfl⟩:=h
 exact⟨a,rfl,e⟩
theorem S2 {H:Hp}{t:Tg}{a:Addr}(e:H a=some (.tup [.int t.1,.int t.2.1,.int t.2.2])):Rep NL H (IL t) (.ref a):=⟨a,_,rfl,e,_,_,rfl,rfl,_,_,rfl,rfl,_,_,rfl,rfl,rfl⟩
theorem Ta {H:Hp}{x:En}{v:V}(h:Rep NL H (IV x) v):∃a b,v=.ref a∧H a=some (.tup [.str x.nm,.int x.kd,.ref b])∧H b=some (.tup [.int x.tg.1,.int x.tg.2.1,.int x.tg.2.2]):=by
 obtain⟨a,vs,rfl,e,x1,u1,rfl,rfl,x2,u2,rfl,rfl,x3,u3,rfl,r3,rfl⟩:=h
 obtain⟨b,rfl,e2⟩:=M3 r3
 exact⟨a,b,rfl,e,e2⟩
theorem Xg {H:Hp}{x:En}{a b:Addr}(e:H a=some (.tup [.str x.nm,.int x.kd,.ref b]))(e2:H b=some (.tup [.int x.tg.1,.int x.tg.2.1,.int x.tg.2.2])):Rep NL H (IV x) (.ref a):=⟨a,_,rfl,e,_,_,rfl,rfl,_,_,rfl,rfl,_,_,rfl,S2 e2,rfl⟩
theorem Jc {H:Hp}{z:Str}{v:V}(h:Rep NL H (Gh (.piece z)) v):∃a,v=.ref a∧H a=some (.tup [.int 0,.str z]):=by
 obtain⟨a,vs,rfl,e,x1,u1,rfl,rfl,x2,u2,rfl,rfl,rfl⟩:=h
 exact⟨a,rfl,e⟩
theorem Mn {H:Hp}{lv:Int}{ts:List Tg}{v:V}(h:Rep NL H (Gh (.row lv ts)) v):∃a b vs,v=.ref a∧H a=some (.tup [.int 1,.int lv,.ref b])∧H b=some (.tup vs)∧AD NL H (ts.map IL) vs:=by
 obtain⟨a,vs,rfl,e,x1,u1,rfl,rfl,x2,u2,rfl,rfl,x3,u3,rfl,⟨b,us,rfl,e2,r⟩,rfl⟩:=h
 exact⟨a,b,us,rfl,e,e2,r⟩
theorem HN {H:Hp}{es:List En}{v:V}(h:Rep NL H (Gh (.folder es)) v):∃a b vs,v=.ref a∧H a=some (.tup [.int 2,.ref b])∧H b=some (.tup vs)∧AD NL H (es.map IV) vs:=by
 obtain⟨a,vs,rfl,e,x1,u1,rfl,rfl,x2,u2,rfl,⟨b,us,rfl,e2,r⟩,rfl⟩:=h
 exact⟨a,b,us,rfl,e,e2,r⟩
theorem QA {α:Type}{g:α→Tr}{H:Hp}{xs:List α}{vs:List V}(h:AD NL H (xs.map g) vs){v:V}(hv:v∈vs):∃x∈xs,Rep NL H (g x) v:=by
 obtain⟨i,hi,e⟩:=List.getElem_of_mem hv
 obtain⟨t,ht,r⟩:=AD.get h (show vs[i]?=some v by rw[List.getElem?_eq_getElem hi,e])
 rw[List.getElem?_map] at ht
 cases z:xs[i]? with
 |none=>rw[z] at ht;cases ht
 |some x=>
  rw[z] at ht
  cases ht
  exact⟨x,List.mem_of_getElem? z,r⟩
theorem PL {t:Tg}(h:Jf t)(n:Nat):CT (n+2) (IL t)=true:=by
 obtain⟨⟨a1,a2⟩,⟨b1,b2⟩,c1,c2⟩:=h
 simp only[IL,CT,List.all_cons,List.all_nil,List.length_cons,List.length_nil,Bool.and_true,Bool.and_eq_true,decide_eq_true_eq]
 omega
theorem Et {z:Str}(h:DH (.str z)=true):1≤z.length∧z.length≤8∧Bn SG z=true∧∀c∈Do z,c∈Do SG:=by
 have h':(decide ((1:Int)≤z.length)&&decide ((z.length:Int)≤8)&&Bn LN z)=true:=h
 simp only[Bool.and_eq_true,decide_eq_true_eq] at h'
 have a:Bn SG z=true:=by
  have:=h'.2
  rw[←Md,Bool.and_eq_true] at this
  exact this.1
 refine⟨by omega,by omega,a,fun c hc=>?_⟩
 have:=List.all_eq_true.mp a c hc
 simpa using this
theorem Ts {x:En}(h:Ov x)(n:Nat):CT (n+3) (IV x)=true:=by
 obtain⟨a,b,c⟩:=h
 obtain⟨n1,n2,n3,_⟩:=Et a
 have d:=PL c n
 simp only[IV,CT,List.all_cons,List.all_nil,List.length_cons,List.length_nil,Bool.and_true,Bool.and_eq_true,decide_eq_true_eq,n3,d,and_true]
 omega
theorem Wv {b:Bk}(h:Hn b):CT 8 (Gh b)=true:=by
 cases b with
 |piece z=>
  have h':(decide ((1:Int)≤(z.length:Int))&&decide ((z.length:Int)≤8)&&Bn SG z)=true:=h
  simp only[Bool.and_eq_true,decide_eq_true_eq] at h'
  simp only[Gh,CT,List.all_cons,List.all_nil,List.length_cons,List.length_nil,Bool.and_true,Bool.and_eq_true,decide_eq_true_eq,h'.2,and_true]
  omega
 |row lv ts=>
  obtain⟨l,n,_,o⟩:=h
  have d:(ts.map IL).all (CT 6)=true:=List.all_eq_true.mpr fun t ht=>by
   obtain⟨x,hx,rfl⟩:=List.mem_map.mp ht
   exact PL (o x hx) 4
  simp only[Gh,CT,List.all_cons,List.all_nil,List.length_cons,List.length_nil,List.length_map,Bool.and_true,Bool.and_eq_true,decide_eq_true_eq,d,and_true]
  omega
 |folder es=>
  obtain⟨n,o,_⟩:=h
  have d:(es.map IV).all (CT 6)=true:=List.all_eq_true.mpr fun t ht=>by
   obtain⟨x,hx,rfl⟩:=List.mem_map.mp ht
   exact Ts (o x hx) 3
  simp only[Gh,CT,List.all_cons,List.all_nil,List.length_cons,List.length_nil,List.length_map,Bool.and_true,Bool.and_eq_true,decide_eq_true_eq,d,and_true]
  omega
theorem Vc {a b:List Nat}(h1:¬b<a)(h2:¬a<b):a=b:=List.le_antisymm h1 h2
theorem Hv:∀{p:Str} {l:List Str},PyProof.Rows.risingS p l=true→∀x∈l,¬x.cps.toList<p.cps.toList
 |p,y::r,h,x,hx=>by
  have h':=h
  rw[PyProof.Rows.risingS,Bool.and_eq_true,PyProof.Rows.ltCps_eq] at h'
  have h1:¬y.cps.toList<p.cps.toList:=by simpa using h'.1
  rcases List.mem_cons.mp hx with rfl|hx
  ·exact h1
  ·exact List.le_trans h1 (Hv h'.2 x hx)
theorem JE {x:Str}{l:List Str}(h:PyProof.Rows.sortedS (x::l)=true):PyProof.Rows.sortedS l=true:=by
 cases l with
 |nil=>rfl
 |cons y r=>
  have h':=h
  rw[PyProof.Rows.sortedS,PyProof.Rows.risingS,Bool.and_eq_true] at h'
  exact h'.2
theorem Ks:∀{a b:List Str},a.Perm b→PyProof.Rows.sortedS a=true→PyProof.Rows.sortedS b=true→a=b
 |[],b,p,_,_=>(List.nil_perm.mp p).symm
 |x::a,[],p,_,_=>absurd p.length_eq (by simp)
 |x::a,y::b,p,ha,hb=>by
  have e:x=y:=by
   have m1:x∈y::b:=p.mem_iff.mp List.mem_cons_self
   have m2:y∈x::a:=p.mem_iff.mpr List.mem_cons_self
   rcases List.mem_cons.mp m1 with e|m1
   ·exact e
   rcases List.mem_cons.mp m2 with e|m2
   ·exact e.symm
   have l1:=Hv (p:=x) (l:=a) ha y m2
   have l2:=Hv (p:=y) (l:=b) hb x m1
   have:=Vc l1 l2
   cases x;cases y
   simp only[PySem.Str.mk.injEq]
   exact Array.toList_inj.mp this
  subst e
  rw[Ks p.cons_inv (JE ha) (JE hb)]
theorem OD:∀(l ks:List Str),(ks++l).Nodup→l.foldl (fun ks k=>if k∈ks then ks else ks++[k]) ks=ks++l
 |[],ks,_=>(List.append_nil _).symm
 |k::r,ks,h=>by
  have nk:k∉ks:=fun z=>by
   have:=(List.nodup_append.mp h).2.2 k z k List.mem_cons_self
   exact this rfl
  have e:(if k∈ks then ks else ks++[k])=ks++[k]:=if_neg nk
  rw[List.foldl_cons,e,OD r (ks++[k]) (by rw[List.append_assoc];exact h),List.append_assoc]
  rfl
theorem Ve {a:List Str}(h:a.Nodup):D1 a=a:=OD a [] h
theorem RZ {J:It} {xs:List V} {te:TE} {Q:VK} {σ:St} {H:Hp} (f:V→V) (hJ:Kz J H xs) (hn:xs.length≤1000000) (htg:∀x∈xs,∃a x1 x2 x3,x=.ref a∧H a=some (.tup [x1,x2,x3]))
  (helt:∀a x1 x2 x3 (H':Hp) (R:VK),V.ref a∈xs→H a=some (.tup [x1,x2,x3])→Al H H'→(∀H'',Al H' H''→R (f (.ref a)) H'')→te [some x1,some x2,some x3] H' R)
  (hQ:∀l H',H l=none→Al H H'→H' l=some (.lst (xs.map f))→Q (.ref l) H') :
  E6 [none,none,none] (Vg K 3 (LK (D2 0) (LK (D2 1) (LK (D2 2) Wa)))) Oq te σ Q J H:=by
 intro l hl
 refine⟨fun i m σ' H'=>m=xs.length-i∧i≤xs.length∧(∃y0 y1 y2,σ'=[y0,y1,y2])∧Al H H'∧H' l=some (.lst ((xs.take i).map f)),⟨xs.length,by simp,Nat.zero_le _,⟨_,_,_,rfl⟩,Ak hl _,by rw[Ad,List.take_zero,List.map_nil]⟩,?_⟩
 rintro i m σ' H' ⟨rfl,hi,⟨y0,y1,y2,rfl⟩,hs,hl'⟩
 obtain⟨h1,h2,h3⟩:=hJ H' hs i
 by_cases hlt:i<xs.length
 ·refine .inr ⟨h1 hlt,fun x H'' y=>?_⟩
  obtain⟨rfl,hx⟩:=h2 x H'' y
  have hx:=hx hlt
  obtain⟨a,x1,x2,x3,rfl,ha⟩:=htg x (List.mem_of_getElem? hx)
  refine⟨a,_,rfl,AW.of (hs.get ha),rfl,_,_,rfl,_,_,rfl,_,_,rfl,rfl,?_⟩
  refine helt a x1 x2 x3 H'' _ (List.mem_of_getElem? hx) ha hs fun H4 s4=>?_
  refine⟨_,s4.get hl',BL (by rw[List.length_map,List.length_take];omega),xs.length-(i+1),by omega,rfl,hlt,⟨_,_,_,rfl⟩,Br (hs.trans s4) hl _,?_⟩
  rw[Ad,List.take_add_one,hx]
  simp
 ·have e:i=xs.length:=by omega
  subst e
  exact .inl ⟨h3 (Nat.le_refl _),hQ l H' hl hs (by rw[hl',List.take_of_length_le (Nat.le_refl _)])⟩
def itemsOk (H:Hp)(v:V):Prop:=∀a xs,v=.ref a→H a=some (.tup xs)→∀x∈xs,Ok H x
def RI (H:Hp)(v:V):Bool:=match v with
 | .ref a=>match H a with
  |some (.tup [x,y,z])=>Cn 1 999999 x&&Cn 0 999999999 y&&Cn 0 996 z
  |_=>false
 |_=>false
theorem SY {xs:List V}(h:(xs.length:Int)=3):∃x y z,xs=[x,y,z]:=by
 match xs,h with
 |[x,y,z],_=>exact⟨x,y,z,rfl⟩
 |[],h=>simp at h
 |[_],h=>simp at h
 |[_,_],h=>simp at h
 |_::_::_::_::_,h=>simp at h;omega
theorem Qn {H:Hp}{v:V}(h:JT H v 3=false):RI H v=false:=by
 unfold RI
 split
 ·rename_i a
  split
  ·rename_i x y z e
   rw[C6 e] at h
   exact absurd h (by simp)
  ·rfl
 ·rfl
theorem KM {H:Hp}{a:Addr}{x y z:V}(e:H a=some (.tup [x,y,z])):RI H (.ref a)=(Cn 1 999999 x&&Cn 0 999999999 y&&Cn 0 996 z):=by simp only[RI,e]
theorem Xj {x y z:V}:He [x,y,z] 0=some x∧He [x,y,z] 1=some y∧He [x,y,z] 2=some z:=⟨rfl,rfl,rfl⟩
def Hg (K:W.Frag):Sp:=fun vs H Q _=>∃v,vs=[v]∧Ok H v∧itemsOk H v∧Q (.bl (RI H v)) H
theorem RH (T:Txt K mg Ac Aa XC)(F:Fun K "is_tag" "is_tag" Ft f fd)(AA:Def P w K mg base 2 "is_between" ["thing","least","most"] (Bg K))(Bh:Def P w K mg base 1 "is_tuple_of" ["thing","many"] (Cr K)):FnOk P w K mg base Dp 3 f fd ["thing"] (Hg K):=by
 exists RW
 ·obtain⟨v,rfl,_⟩:=h
  rfl
 obtain⟨v,rfl,ok,iok,q⟩:=h
 refine⟨_,(!Af (!AL (!BA (!Bt (!AK Bh (by trivial) rfl (!Ab (pv 0) (!Ab (!Ae) (!Ag) (by rfl)) (by rfl)) (by decide) (by rfl) (by rfl)) (by intro _;rfl))) (!Aj (!An (!D0))) (!As)) (!Af (!AL (@PW.pt _ _ _ (!GU (!BA (!Bt (!AK AA (by trivial) rfl (!Ab (!Ay AF (pv 0) (!Ae) (fun _ _=>rfl)) (!Ab (!Ae) (!Ab (!AH rfl T.c_MOST_CELL (by decide)) (!Ag) (by rfl)) (by rfl)) (by rfl)) (by decide) (by rfl) (by rfl)) (by intro _;rfl))) (!EY (!BA (!Bt (!AK AA (by trivial) rfl (!Ab (!Ay AF (pv 0) (!Ae) (fun _ _=>rfl)) (!Ab (!Ae) (!Ab (!AH rfl T.c_MOST_BIRTH (by decide)) (!Ag) (by rfl)) (by rfl)) (by rfl)) (by decide) (by rfl) (by rfl)) (by intro _;rfl)))))) (!Aj (!An (!D0))) (!As)) (!Aj (!An (!AK AA (by trivial) rfl (!Ab (!Ay AF (pv 0) (!Ae) (fun _ _=>rfl)) (!Ab (!Ae) (!Ab (!Am HP (!AH rfl T.c_SUM_RESTS (by decide)) (!Ae)) (!Ag) (by rfl)) (by rfl)) (by rfl)) (by decide) (by rfl) (by rfl)))))),?_⟩
 refine⟨_,rfl,v,3,rfl,ok,_,rfl,?_⟩
 cases hw:JT H v 3 with
 |false=>
  refine AQ rfl ?_
  rw[Qn hw] at q
  exact q
 |true=>
  refine AS rfl ?_
  obtain⟨a,xs,rfl,e,hl⟩:=UV hw
  obtain⟨x,y,z,rfl⟩:=SY hl
  have i1:=iok a _ rfl e
  have ox:Ok H x:=i1 x (by simp)
  have oy:Ok H y:=i1 y (by simp)
  have oz:Ok H z:=i1 z (by simp)
  rw[KM e] at q
  dsimp only[SS,We,XE]
  refine Tj (!Cn 1 999999 x) (!Cn 0 999999999 y) (fun R q=>⟨_,rfl,a,_,_,_,rfl,rfl,AW.of e,Xj.1,x,1,999999,rfl,ox,_,rfl,q⟩) (fun _ R q=>⟨_,rfl,a,_,_,_,rfl,rfl,AW.of e,Xj.2.1,y,0,999999999,rfl,oy,_,rfl,q⟩) ?_
  refine Cs (fun c=>?_) (fun c=>?_)
  ·have:(Cn 1 999999 x&&Cn 0 999999999 y&&Cn 0 996 z)=false:=by
    cases h1:Cn 1 999999 x<;>cases h2:Cn 0 999999999 y<;>simp_all
   rw[this] at q
   exact q
  ·have:(Cn 1 999999 x&&Cn 0 999999999 y&&Cn 0 996 z)=Cn 0 996 z:=by
    cases h1:Cn 1 999999 x<;>cases h2:Cn 0 999999999 y<;>simp_all
   rw[this] at q
   exact⟨_,rfl,a,_,_,_,rfl,rfl,AW.of e,Xj.2.2,_,_,rfl,rfl,z,0,996,rfl,oz,q⟩
def fv:Tr→V
 | .bl b=>.bl b
 | .int i=>.int i
 | .str z=>.str z
 |_=>.non
theorem Pe {F:Addr→Prop}{H:Hp}{t:Tr}{v:V}(h:Rep F H t v):v=fv t∨(fv t=.non∧∃a,v=.ref a):=by
 cases t with
 |tup ts=>obtain⟨a,vs,rfl,_⟩:=h;exact .inr ⟨rfl,a,rfl⟩
 |lst ts=>obtain⟨a,vs,rfl,_⟩:=h;exact .inr ⟨rfl,a,rfl⟩
 |non=>exact .inl h
 |bl b=>exact .inl h
 |int i=>exact .inl h
 |str z=>exact .inl h
theorem Gi {F:Addr→Prop}{H:Hp}{t:Tr}{v:V}{a b:Int}(h:Rep F H t v):Cn a b v=Cn a b (fv t):=by
 rcases Pe h with e|⟨e,c,rfl⟩
 ·rw[e]
 ·rw[e];rfl
theorem TY {F:Addr→Prop}{H:Hp}{t:Tr}{v:V}{a b:Int}(h:Rep F H t v):Ga a b v=Ga a b (fv t):=by
 rcases Pe h with e|⟨e,c,rfl⟩
 ·rw[e]
 ·rw[e];rfl
theorem Sd {F:Addr→Prop}{H:Hp}{t:Tr}{v:V}(h:Rep F H t v):DH v=DH (fv t):=by
 rcases Pe h with e|⟨e,c,rfl⟩
 ·rw[e]
 ·rw[e];rfl
def Hm:Tr→Bool
 | .tup [x,y,z]=>Cn 1 999999 (fv x)&&Cn 0 999999999 (fv y)&&Cn 0 996 (fv z)
 |_=>false
def Gw:Tr→Bool
 | .tup [x,y,z]=>DH (fv x)&&Cn 1 2 (fv y)&&Hm z
 |_=>false
theorem G3 {H:Hp}{t:Tr}{v:V}(h:Rep All H t v)(ok:t.ok):(JT H v 3=false∧Hm t=false∧Gw t=false)∨
  ∃a x y z u1 u2 u3,v=.ref a∧t=.tup [x,y,z]∧H a=some (.tup [u1,u2,u3])∧(Rep All H x u1∧x.ok)∧(Rep All H y u2∧y.ok)∧Rep All H z u3∧z.ok:=by
 cases t with
 |non=>cases(show v=V.non from h);exact .inl ⟨rfl,rfl,rfl⟩
 |bl b=>cases(show v=V.bl b from h);exact .inl ⟨rfl,rfl,rfl⟩
 |int i=>cases(show v=V.int i from h);exact .inl ⟨rfl,rfl,rfl⟩
 |str z=>cases(show v=V.str z from h);exact .inl ⟨rfl,rfl,rfl⟩
 |lst ts=>obtain⟨a,vs,rfl,_,e,_⟩:=h;exact .inl ⟨by simp only[JT,e],rfl,rfl⟩
 |tup ts=>
  obtain⟨a,vs,rfl,e,r⟩:=h
  have l:=AD.len _ _ r
  obtain⟨_,oks⟩:=ok
  match ts,r,oks,l with
  |[x,y,z],r,oks,_=>
   obtain⟨u1,_,rfl,r1,u2,_,rfl,r2,u3,_,rfl,r3,rfl⟩:=r
   obtain⟨o1,o2,o3,_⟩:=oks
   exact .inr ⟨a,x,y,z,u1,u2,u3,rfl,rfl,e,⟨r1,o1⟩,⟨r2,o2⟩,r3,o3⟩
  |[],_,_,l=>exact .inl ⟨by rw[C6 e,l];rfl,rfl,rfl⟩
  |[_],_,_,l=>exact .inl ⟨by rw[C6 e,l];rfl,rfl,rfl⟩
  |[_,_],_,_,l=>exact .inl ⟨by rw[C6 e,l];rfl,rfl,rfl⟩
  |_::_::_::_::r,_,_,l=>exact .inl ⟨by rw[C6 e,l];exact decide_eq_false (by simp only[List.length_cons];omega),rfl,rfl⟩
theorem IU {H:Hp}{t:Tr}{v:V}(h:Rep All H t v)(ok:t.ok):itemsOk H v:=fun a xs e ha x hx=>by
 cases t with
 |tup ts=>
  obtain⟨b,vs,e2,hb,r⟩:=h
  subst e2
  cases e
  rw[ha] at hb
  cases hb
  obtain⟨i,hi,ei⟩:=List.getElem_of_mem hx
  obtain⟨t',ht,rt⟩:=AD.get r (show xs[i]?=some x by rw[List.getElem?_eq_getElem hi,ei])
  exact rt.ok (Tr.oks_get ok.2 ht)
 |lst ts=>obtain⟨b,vs,e2,_,hb,r⟩:=h;subst e2;cases e;rw[ha] at hb;cases hb
 |non=>cases(show v=V.non from h);cases e
 |bl b=>cases(show v=V.bl b from h);cases e
 |int i=>cases(show v=V.int i from h);cases e
 |str z=>cases(show v=V.str z from h);cases e
theorem Ms {H:Hp}{t:Tr}{v:V}(h:Rep All H t v)(ok:t.ok):RI H v=Hm t:=by
 rcases G3 h ok with⟨h1,h2,_⟩|⟨a,x,y,z,u1,u2,u3,rfl,rfl,e,r1,r2,r3⟩
 ·rw[Qn h1,h2]
 ·rw[KM e,Gi r1.1,Gi r2.1,Gi r3.1];rfl
def Gm (K:W.Frag):Sp:=fun vs H Q _=>∃v t,vs=[v]∧Rep All H t v∧t.ok∧∀H',Al H H'→Q (.bl (Gw t)) H'
theorem NT (T:Txt K mg Ac Aa XC)(F:Fun K "is_entry" "is_entry" Dy f fd)(AA:Def P w K mg base 2 "is_between" ["thing","least","most"] (Bg K))(Fo:Def P w K mg base 3 "is_tag" ["thing"] (Hg K))(Bh:Def P w K mg base 1 "is_tuple_of" ["thing","many"] (Cr K))(IY:Def P w K mg base 2 "is_name" ["thing"] (HJ K)):FnOk P w K mg base Dp 4 f fd ["thing"] (Gm K):=by
 exists NY
 ·obtain⟨v,t,rfl,_⟩:=h
  rfl
 obtain⟨v,t,rfl,hv,ok,q⟩:=h
 have okv:=hv.ok ok
 refine⟨_,(!Af (!AL (@PW.pt _ _ _ (!GU (!BA (!Bt (!AK Bh (by trivial) rfl (!Ab (pv 0) (!Ab (!Ae) (!Ag) (by rfl)) (by rfl)) (by decide) (by rfl) (by rfl)) (by intro _;rfl))) (!EY (!BA (!Bt (!AK IY (by trivial) rfl (!Ab (!Ay AF (pv 0) (!Ae) (fun _ _=>rfl)) (!Ag) (by rfl)) (by decide) (by rfl) (by rfl)) (by intro _;rfl)))))) (!Aj (!An (!D0))) (!As)) (!Aj (!An (!E2 (!AK AA (by trivial) rfl (!Ab (!Ay AF (pv 0) (!Ae) (fun _ _=>rfl)) (!Ab (!AH rfl T.c_FILE_ENTRY (by decide)) (!Ab (!AH rfl T.c_FOLDER_ENTRY (by decide)) (!Ag) (by rfl)) (by rfl)) (by rfl)) (by decide) (by rfl) (by rfl)) (!Gq (!AK Fo (by trivial) rfl (!Ab (!Ay AF (pv 0) (!Ae) (fun _ _=>rfl)) (!Ag) (by rfl)) (by decide) (by rfl) (by rfl))))))),?_⟩
 refine⟨_,rfl,v,3,rfl,okv,_,rfl,?_⟩
 rcases G3 hv ok with⟨h1,_,h2⟩|⟨a,x,y,z,u1,u2,u3,rfl,rfl,e,⟨r1,o1⟩,⟨r2,o2⟩,r3,o3⟩
 ·rw[h2] at q
  exact AQ (by rw[h1];rfl) (q H (Al.refl _))
 ·refine AS (by rw[C6 e];rfl) ?_
  have eT:Gw (.tup [x,y,z])=(DH u1&&Cn 1 2 u2&&Hm z):=by rw[Sd r1,Gi r2];rfl
  rw[eT] at q
  refine⟨_,rfl,a,_,_,_,rfl,rfl,AW.of e,Xj.1,u1,rfl,r1.ok o1,fun H1 s1=>⟨_,rfl,?_⟩⟩
  have q1:=q H1 s1
  cases h1:DH u1 with
  |false=>rw[h1] at q1;exact AQ rfl q1
  |true=>
   rw[h1] at q1
   refine AS rfl ?_
   dsimp only[SS,Ya]
   refine Ke _ _ (fun R q=>⟨_,rfl,a,_,_,_,rfl,rfl,AW.of (s1.get e),Xj.2.1,u2,1,2,rfl,(r2.ok o2).same s1,q⟩) (fun _ R q=>?_) q1
   have r3':=Rep.same s1 _ _ r3
   exact⟨_,rfl,a,_,_,_,rfl,rfl,AW.of (s1.get e),Xj.2.2,u3,rfl,r3'.ok o3,IU r3' o3,by rw[Ms r3' o3];exact q⟩
theorem OI:∀{a b:List Str},a.map V.str=b.map V.str→a=b
 |[],[],_=>rfl
 |[],_::_,h=>nomatch h
 |_::_,[],h=>nomatch h
 |x::a,y::b,h=>by
  rw[List.map_cons,List.map_cons] at h
  injection h with h1 h2
  injection h1 with h1
  rw[h1,OI h2]
theorem OW (a:List Str):(D1 a).Nodup:=by
 have z:∀(l ks:List Str),ks.Nodup→(l.foldl (fun ks k=>if k∈ks then ks else ks++[k]) ks).Nodup:=fun l=>by
  induction l with
  |nil=>intro ks h;exact h
  |cons k r ih=>
   intro ks h
   refine ih _ ?_
   dsimp only
   split
   ·exact h
   ·rename_i nk
    refine List.nodup_append.mpr ⟨h,by simp,fun a ha b hb=>?_⟩
    rw[List.mem_singleton] at hb
    subst hb
    intro e
    subst e
    exact nk ha
 exact z a [] List.nodup_nil
theorem KA {J:It} {us:List V} {ts:List Tr} {fr:List (Option Nat)} {k:Nat} {te:TE} {Q:VK} {σ:St} {H:Hp} (p:Tr→Bool) (hJ:Kz J H us) (r:AD All H ts us) (ok:Tr.oks ts) (hn:us.length≤1000000)
  (helt:∀(t:Tr) (x:V) (H':Hp) (R:VK),Rep All H' t x→t.ok→(∀H'',Al H' H''→R (.bl (p t)) H'')→te ((stC fr σ).set k (some x)) H' R)
  (hQ:∀l H',Al H H'→H' l=some (.lst ((ts.map p).map V.bl))→Q (.ref l) H'):E6 fr (D2 k) Oq te σ Q J H:=by
 have lu:=AD.len _ _ r
 refine Ui (fun i _ y _=>y=.bl (p (ts.getD i .non))) (fun _ _ _ _ _ h _=>h) (fun _ _ _ _ _ _ _ _ h _ _=>h) hJ hn (fun i x H' R hx s' hR=>?_) fun l H' ys _ s7 h7 ly hy=>?_
 ·obtain⟨t,ht,rt⟩:=AD.get r hx
  exact helt t x H' R (Rep.same s' _ _ rt) (Tr.oks_get ok ht) fun H'' s''=>hR _ H'' s'' (by simp[List.getD,ht])
 ·have e:ys=(ts.map p).map V.bl:=by
   refine List.ext_getElem (by rw[List.length_map,List.length_map];omega) fun i h1 h2=>?_
   obtain⟨_,_,e⟩:=hy i ys[i] (List.getElem?_eq_getElem h1)
   have hi:i<ts.length:=by omega
   rw[e,List.getElem_map,List.getElem_map]
   simp[List.getD,List.getElem?_eq_getElem hi]
  rw[e] at h7
  exact hQ l H' s7 h7
def Re:Tr→Str
 | .tup (.str z::_)=>z
 |_=>Fz
def Oy (ns:List Str):Bool:=decide (PyProof.Rows.sortedS ns=true∧ns.Nodup)
def VN (lv:Int):Tr→Bool
 | .tup ts=>decide (ts.length≤8) && !(decide (ts.length=0)&&decide (1<lv))&&ts.all Hm
 |_=>false
def Tq:Tr→Bool
 | .tup ts=>decide (ts.length≤16)&&ts.all Gw&&Oy (ts.map Re)
 |_=>false
def UJ (H:Hp):V→V:=fun v=>match v with | .ref x=>(match H x with|some (.tup (y::_))=>y|_=>.non)|_=>.non
theorem LW {H:Hp}{t:Tr}{v:V}(h:Rep All H t v)(ok:t.ok)(e:Gw t=true):∃a u2 u3,v=.ref a∧H a=some (.tup [.str (Re t),u2,u3]):=by
 rcases G3 h ok with⟨_,_,h2⟩|⟨a,x,y,z,u1,u2,u3,rfl,rfl,ea,⟨r1,o1⟩,_⟩
 ·rw[h2] at e;cases e
 ·have e':(DH (fv x)&&Cn 1 2 (fv y)&&Hm z)=true:=e
  rw[Bool.and_eq_true,Bool.and_eq_true] at e'
  cases x with
  |str zz=>cases(show u1=V.str zz from r1);exact⟨a,u2,u3,rfl,ea⟩
  |non=>cases e'.1.1
  |bl b=>cases e'.1.1
  |int i=>cases e'.1.1
  |tup xs=>cases e'.1.1
  |lst xs=>cases e'.1.1
theorem Kk:∀{ts:List Tr} {us:List V} {H:Hp},AD All H ts us→Tr.oks ts→ts.all Gw=true→us.map (UJ H)=(ts.map Re).map V.str
 |[],us,H,r,_,_=>by rw[show us=[] from r];rfl
 |t::ts,us,H,r,ok,h=>by
  obtain⟨v,us',rfl,r1,r2⟩:=r
  rw[List.all_cons,Bool.and_eq_true] at h
  obtain⟨a,u2,u3,rfl,e⟩:=LW r1 ok.1 h.1
  rw[List.map_cons,List.map_cons,List.map_cons,Kk r2 ok.2 h.2]
  simp only[UJ,e]
theorem WE {ns ts:List Str}(pt:ts.Perm (D1 ns))(st:PyProof.Rows.sortedS ts=true):decide (ns.map V.str=ts.map V.str)=Oy ns∧decide (ts.map V.str=ns.map V.str)=Oy ns:=by
 have key:ns.map V.str=ts.map V.str↔PyProof.Rows.sortedS ns=true∧ns.Nodup:=by
  constructor
  ·intro e
   have e':ns=ts:=OI e
   refine⟨by rw[e'];exact st,?_⟩
   rw[e']
   exact pt.nodup_iff.mpr (OW _)
  ·rintro⟨h1,h2⟩
   rw[Ve h2] at pt
   rw[Ks pt st h1]
 unfold Oy
 constructor
 ·rw[Bool.eq_iff_iff,decide_eq_true_eq,decide_eq_true_eq];exact key
 ·rw[Bool.eq_iff_iff,decide_eq_true_eq,decide_eq_true_eq,eq_comm];exact key
def DY (K:W.Frag):Sp:=fun vs H Q _=>∃v lv t,vs=[v,.int lv]∧Rep All H t v∧t.ok∧∀H',Al H H'→Q (.bl (VN lv t)) H'
theorem JK (T:Txt K mg Ac Aa XC)(F:Fun K "are_row_tags" "are_row_tags" BX f fd)(Fo:Def P w K mg base 3 "is_tag" ["thing"] (Hg K)):FnOk P w K mg base Dp 4 f fd ["thing","level"] (DY K):=by
 exists JY
 ·obtain⟨v,lv,t,rfl,_⟩:=h
  rfl
 obtain⟨v,lv,t,rfl,hv,ok,q⟩:=h
 have okv:=hv.ok ok
 have ety:=hv.tyN
 refine⟨_,(!Af (!AL (@PW.pt _ _ _ (!GU (!BA (!Bt (!AB B2 (by rfl) T.b_isinstance Bv (!Ab (pv 0) (!Ab (!JH rfl T.b_tuple Er (by decide) (by decide)) (!Ag) (by rfl)) (by rfl)) (by decide) (by decide) (by rfl) (by rfl)) (by intro _;rfl))) (!EY (!AI Oi (!AB AN (by rfl) T.b_len B5 (!Ab (pv 0) (!Ag) (by rfl)) (by decide) (by decide) (by rfl) (by rfl)) (!AH rfl T.c_MOST_TAGS (by decide)) (AJ _))))) (!Aj (!An (!D0))) (!As)) (!Af (!AL (@PW.pt _ _ _ (!S8 (!AI B3 (!AB AN (by rfl) T.b_len B5 (!Ab (pv 0) (!Ag) (by rfl)) (by decide) (by decide) (by rfl) (by rfl)) (!Ae) (AJ _)) (!QH (!AI Oi (pv 1) (!Ae) (AJ _))))) (!Aj (!An (!D0))) (!As)) (!Aj (!An (!AB (GH rfl) (by rfl) T.b_all KD (!Ab (@Bq _ ["tag"] _ _ _ _ _ _ _ _ _ _ rfl (!Ek (pv 0)) (by decide +kernel) (fun C s H fp=>⟨(@Az _ _ (0) _ (show(["tag"]:List Str).Nodup by decide +kernel) rfl (by trivial) (by trivial)),(!A5),(!AK Fo (by trivial) rfl (!Ab (pv 0) (!Ag) (by rfl)) (by decide) (by rfl) (by rfl))⟩) (by intro _;rfl)) (!Ag) (by rfl)) (by decide) (by decide) (by rfl) (by rfl)))))),?_⟩
 refine⟨_,rfl,_,_,_,_,rfl,okv.ty K,okv.kit K,_,rfl,?_⟩
 rw[ety]
 cases t with
 |tup ts=>
  obtain⟨a,us,rfl,e,r⟩:=hv
  have lu:=AD.len _ _ r
  have eR:VN lv (.tup ts)=(decide (ts.length≤8) && !(decide (ts.length=0)&&decide (1<lv))&&ts.all Hm):=rfl
  rw[eR] at q
  refine AS (by show(!isA "tuple" "tuple")=false;decide) ?_
  refine⟨_,rfl,a,_,rfl,.inr (AW.of e),_,_,rfl,rfl,_,rfl,Cs (fun c=>?_) (fun c=>?_)⟩
  ·have c':=dec_true c
   have:=q H (Al.refl _)
   rw[decide_eq_false (show ¬ts.length≤8 by omega)] at this
   exact this
  have c':=dec_false c
  rw[decide_eq_true (show ts.length≤8 by omega)] at q
  refine⟨_,rfl,a,_,rfl,.inr (AW.of e),rfl,_,rfl,Cs (fun c2=>?_) (fun c2=>?_)⟩
  ·have z:V.int (us.length:Int)=V.int 0:=dec_true c2
   have z0:ts.length=0:=by injection z with z;omega
   rw[decide_eq_true z0] at q
   refine⟨_,rfl,_,_,rfl,rfl,_,rfl,Cs (fun c3=>?_) (fun c3=>?_)⟩
   ·have:=q H (Al.refl _)
    rw[c3] at this
    exact this
   ·rw[Bool.eq_false_iff.mpr c3] at q
    refine⟨_,rfl,a,rfl,⟨_,AW.of e⟩,KA Hm (Es e) r ok.2 (by omega) (fun t x H' R rt ot hR=>?_) fun l H7 s7 h7=>?_⟩
    ·exact⟨_,rfl,x,rfl,rt.ok ot,IU rt ot,by rw[Ms rt ot];exact hR H' (Al.refl _)⟩
    ·refine⟨l,_,rfl,AM.of h7,?_⟩
     have:=q H7 s7
     rw[List.all_map]
     exact this
  ·have z:¬V.int (us.length:Int)=V.int 0:=dec_false c2
   have z0:¬ts.length=0:=fun y=>z (by rw[lu,y];rfl)
   rw[decide_eq_false z0] at q
   refine AS rfl ?_
   refine⟨_,rfl,a,rfl,⟨_,AW.of e⟩,KA Hm (Es e) r ok.2 (by omega) (fun t x H' R rt ot hR=>?_) fun l H7 s7 h7=>?_⟩
   ·exact⟨_,rfl,x,rfl,rt.ok ot,IU rt ot,by rw[Ms rt ot];exact hR H' (Al.refl _)⟩
   ·refine⟨l,_,rfl,AM.of h7,?_⟩
    have:=q H7 s7
    rw[List.all_map]
    exact this
 |non=>exact AQ (by decide) (q H (Al.refl _))
 |bl b=>exact AQ (by show(!isA "bool" "tuple")=true;decide) (q H (Al.refl _))
 |int i=>exact AQ (by show(!isA "int" "tuple")=true;decide) (q H (Al.refl _))
 |str z=>exact AQ (by show(!isA "str" "tuple")=true;decide) (q H (Al.refl _))
 |lst ts=>exact AQ (by show(!isA "list" "tuple")=true;decide) (q H (Al.refl _))
def Eo (K:W.Frag):Sp:=fun vs H Q _=>∃v t,vs=[v]∧Rep All H t v∧t.ok∧∀H',Al H H'→Q (.bl (Tq t)) H'
theorem Kw (T:Txt K mg Ac Aa XC)(F:Fun K "are_entries" "are_entries" Ck f fd)(HE:Def P w K mg base 4 "is_entry" ["thing"] (Gm K)):FnOk P w K mg base Dp 5 f fd ["thing"] (Eo K):=by
 exists GQ
 ·obtain⟨v,t,rfl,_⟩:=h
  rfl
 obtain⟨v,t,rfl,hv,ok,q⟩:=h
 have okv:=hv.ok ok
 have ety:=hv.tyN
 have hu:=IA hr
 refine⟨_,(!Af (!AL (@PW.pt _ _ _ (!GU (!BA (!Bt (!AB B2 (by rfl) T.b_isinstance Bv (!Ab (pv 0) (!Ab (!JH rfl T.b_tuple Er (by decide) (by decide)) (!Ag) (by rfl)) (by rfl)) (by decide) (by decide) (by rfl) (by rfl)) (by intro _;rfl))) (!EY (!AI Oi (!AB AN (by rfl) T.b_len B5 (!Ab (pv 0) (!Ag) (by rfl)) (by decide) (by decide) (by rfl) (by rfl)) (!AH rfl T.c_MOST_ENTRIES (by decide)) (AJ _))))) (!Aj (!An (!D0))) (!As)) (!Af (!AL (!BA (!Bt (!AB (GH rfl) (by rfl) T.b_all KD (!Ab (@Bq _ ["entry"] _ _ _ _ _ _ _ _ _ _ rfl (!Ek (pv 0)) (by decide +kernel) (fun C s H fp=>⟨(@Az _ _ (0) _ (show(["entry"]:List Str).Nodup by decide +kernel) rfl (by trivial) (by trivial)),(!A5),(!AK HE (by trivial) rfl (!Ab (pv 0) (!Ag) (by rfl)) (by decide) (by rfl) (by rfl))⟩) (by intro _;rfl)) (!Ag) (by rfl)) (by decide) (by decide) (by rfl) (by rfl)) (by intro _;rfl))) (!Aj (!An (!D0))) (!As)) (!Af (@SA _ ["name","kind","tag"] (1) _ _ _ _ _ _ _ _ _ _ _ _ _ GQ.nd rfl (by trivial) rfl (!Ek (pv 0)) (by decide +kernel) (fun C s H fp=>⟨(@Qf _ (K) _ _ _ _ (3) (by rfl) rfl (!By (@Az _ _ (0) _ (show(["name","kind","tag"]:List Str).Nodup by decide +kernel) rfl (by trivial) (by trivial)) (!By (@Az _ _ (1) _ (show(["name","kind","tag"]:List Str).Nodup by decide +kernel) rfl (by trivial) (by trivial)) (!By (@Az _ _ (2) _ (show(["name","kind","tag"]:List Str).Nodup by decide +kernel) rfl (by trivial) (by trivial)) (!G7) (by rfl)) (by rfl)) (by rfl)) (by rfl) (by rfl)),(!A5),(pv 0)⟩) (by intro _;rfl) (by rfl) (by trivial)) (!Aj (!An (!C7 (WU hu) (pv 1) (!AB (PZ (P:=P) (w:=w) (by rfl) (by rfl) rfl) (by rfl) T.b_sorted Hd (!Ab (!BG (RL (P:=P) (w:=w) (K:=K) (by rfl) (by rfl) (by rfl) rfl) (by rfl) T.b_set Wg (!Ab (pv 1) (!Ag) (by rfl)) (by decide) (by decide) (by rfl) (by rfl)) (!Ag) (by rfl)) (by decide) (by decide) (by rfl) (by rfl)) (AJ _))))))),?_⟩
 refine⟨_,rfl,_,_,_,_,rfl,okv.ty K,okv.kit K,_,rfl,?_⟩
 rw[ety]
 cases t with
 |tup ts=>
  obtain⟨a,us,rfl,e,r⟩:=hv
  have lu:=AD.len _ _ r
  have eR:Tq (.tup ts)=(decide (ts.length≤16)&&ts.all Gw&&Oy (ts.map Re)):=rfl
  rw[eR] at q
  refine AS (by show(!isA "tuple" "tuple")=false;decide) ?_
  refine⟨_,rfl,a,_,rfl,.inr (AW.of e),_,_,rfl,rfl,_,rfl,Cs (fun c=>?_) (fun c=>?_)⟩
  ·have c':=dec_true c
   have:=q H (Al.refl _)
   rw[decide_eq_false (show ¬ts.length≤16 by omega)] at this
   exact this
  have c':=dec_false c
  rw[decide_eq_true (show ts.length≤16 by omega)] at q
  refine⟨_,rfl,a,rfl,⟨_,AW.of e⟩,KA Gw (Es e) r ok.2 (by omega) (fun t x H' R rt ot hR=>?_) fun l H7 s7 h7=>?_⟩
  ·exact⟨_,rfl,x,t,rfl,rt,ot,hR⟩
  refine⟨l,_,rfl,AM.of h7,_,rfl,?_⟩
  have e7:=s7.get e
  have r7:=AD.same s7 _ _ r
  rw[List.all_map]
  have ea:(ts.all (id∘Gw))=ts.all Gw:=rfl
  rw[ea]
  cases hall:ts.all Gw with
  |false=>
   rw[hall] at q
   exact AQ rfl (q H7 s7)
  |true=>
   rw[hall] at q
   refine AS rfl ?_
   refine⟨_,rfl,a,rfl,⟨_,AW.of e7⟩,RZ (UJ H7) (Es e7) (by omega) (fun x hx=>?_) (fun x x1 x2 x3 H' R hx hx2 s' hR=>?_) fun l2 H8 n8 s8 h8=>?_⟩
   ·obtain⟨i,hi,ei⟩:=List.getElem_of_mem hx
    obtain⟨t,ht,rt⟩:=AD.get r7 (show us[i]?=some x by rw[List.getElem?_eq_getElem hi,ei])
    obtain⟨c,u2,u3,rfl,ec⟩:=LW rt (Tr.oks_get ok.2 ht) (List.all_eq_true.mp hall t (List.mem_of_getElem? ht))
    exact⟨c,_,_,_,rfl,ec⟩
   ·refine⟨_,rfl,?_⟩
    have:=hR H' (Al.refl _)
    simp only[UJ,hx2] at this
    exact this
   rw[Kk r7 ok.2 hall] at h8
   have ln:(ts.map Re).length≤16:=by rw[List.length_map];omega
   refine⟨_,rfl,_,rfl,l2,_,rfl,AM.of h8,by omega,fun p hp=>?_⟩
   have sp:=Ak hp (Uh P w p (D1 (ts.map Re)))
   have lo:=NP (ts.map Re)
   refine⟨p,_,rfl,Ad,by omega,fun zs p2 pt st hp2=>?_⟩
   have s2:=Ak hp2 (.lst (zs.map V.str))
   refine⟨l2,p2,_,_,rfl,rfl,AM.of (s2.get (sp.get h8)),AM.of Ad,Ik _,Ik _,?_⟩
   rw[if_neg Bool.false_ne_true]
   have:=q _ (((s7.trans s8).trans sp).trans s2)
   rw[(WE pt st).1]
   exact this
 |non=>exact AQ (by decide) (q H (Al.refl _))
 |bl b=>exact AQ (by show(!isA "bool" "tuple")=true;decide) (q H (Al.refl _))
 |int i=>exact AQ (by show(!isA "int" "tuple")=true;decide) (q H (Al.refl _))
 |str z=>exact AQ (by show(!isA "str" "tuple")=true;decide) (q H (Al.refl _))
 |lst ts=>exact AQ (by show(!isA "list" "tuple")=true;decide) (q H (Al.refl _))
def YM:Tr→Int
 | .int i=>i
 |_=>0
def Yq:List Tr→Bool
 |[t]=>Ga 1 8 (fv t)
 |_=>false
def XJ:List Tr→Bool
 |[l,t]=>Cn 1 9 (fv l)&&VN (YM l) t
 |_=>false
def Yx:List Tr→Bool
 |[t]=>Tq t
 |_=>false
def Rg:Tr→Bool
 | .tup (.int k::r)=>if k=0 then Yq r else if k=1 then XJ r else if k=2 then Yx r else false
 |_=>false
def Zj:Tr→Bool
 | .int _=>true
 |_=>false
theorem Yw {x:V}{xs:List V}:He (x::xs) 0=some x:=CP (show(x::xs)[0]?=some x from rfl)
theorem RN {H:Hp}{t:Tr}{v:V}(h:Rep All H t v):ER H v=Zj t:=by
 unfold ER
 rw[h.tyN]
 cases t with
 |non=>decide
 |bl b=>show(isA "bool" "int" && !isA "bool" "bool")=false;decide
 |int i=>show(isA "int" "int" && !isA "int" "bool")=true;decide
 |str z=>show(isA "str" "int" && !isA "str" "bool")=false;decide
 |tup ts=>show(isA "tuple" "int" && !isA "tuple" "bool")=false;decide
 |lst ts=>show(isA "list" "int" && !isA "list" "bool")=false;decide
theorem Si {H:Hp}{r:List Tr}{us:List V}(h:AD All H r us)(l:us.length=1):∃t u,r=[t]∧us=[u]∧Rep All H t u:=by
 have l2:=AD.len _ _ h
 match r,h,l2 with
 |[t],h,_=>
  obtain⟨u,_,rfl,r1,rfl⟩:=h
  exact⟨t,u,rfl,rfl,r1⟩
 |[],_,l2=>rw[l] at l2;cases l2
 |_::_::_,_,l2=>rw[l] at l2;simp at l2
theorem W9 {H:Hp}{r:List Tr}{us:List V}(h:AD All H r us)(l:us.length=2):∃t t' u u',r=[t,t']∧us=[u,u']∧Rep All H t u∧Rep All H t' u':=by
 have l2:=AD.len _ _ h
 match r,h,l2 with
 |[t,t'],h,_=>
  obtain⟨u,_,rfl,r1,u',_,rfl,r2,rfl⟩:=h
  exact⟨t,t',u,u',rfl,rfl,r1,r2⟩
 |[],_,l2=>rw[l] at l2;cases l2
 |[_],_,l2=>rw[l] at l2;simp at l2
 |_::_::_::_,_,l2=>rw[l] at l2;simp at l2
theorem V3 {r:List Tr}(h:¬r.length=1):Yq r=false∧Yx r=false:=by
 match r,h with
 |[],_=>exact⟨rfl,rfl⟩
 |[_],h=>exact absurd rfl h
 |_::_::_,_=>exact⟨rfl,rfl⟩
theorem Xz {r:List Tr}(h:¬r.length=2):XJ r=false:=by
 match r,h with
 |[],_=>rfl
 |[_],_=>rfl
 |[_,_],h=>exact absurd rfl h
 |_::_::_::_,_=>rfl
theorem MR {n:Nat}{k:Int}(h:decide (V.int (n:Int)=V.int k)=true):(n:Int)=k:=V.int.inj (of_decide_eq_true h)
def Gr (K:W.Frag):Sp:=fun vs H Q _=>∃v t,vs=[v]∧Rep All H t v∧t.ok∧∀H',Al H H'→Q (.bl (Rg t)) H'
theorem NH (T:Txt K mg Ac Aa XC)(F:Fun K "is_block" "is_block" Ds f fd)(EL:Def P w K mg base 5 "are_entries" ["thing"] (Eo K))(A9:Def P w K mg base 1 "is_whole" ["thing"] (Cu K))(Eh:Def P w K mg base 1 "is_text" ["thing","least","most"] (FL K))(AA:Def P w K mg base 2 "is_between" ["thing","least","most"] (Bg K))(ED:Def P w K mg base 4 "are_row_tags" ["thing","level"] (DY K)):FnOk P w K mg base Dp 6 f fd ["thing"] (Gr K):=by
 exists OP
 ·obtain⟨v,t,rfl,_⟩:=h
  rfl
 obtain⟨v,t,rfl,hv,ok,q⟩:=h
 have okv:=hv.ok ok
 have ety:=hv.tyN
 refine⟨_,(!Af (!AL (@PW.pt _ _ _ (!GU (!BA (!Bt (!AB B2 (by rfl) T.b_isinstance Bv (!Ab (pv 0) (!Ab (!JH rfl T.b_tuple Er (by decide) (by decide)) (!Ag) (by rfl)) (by rfl)) (by decide) (by decide) (by rfl) (by rfl)) (by intro _;rfl))) (!GU (!AI B3 (!AB AN (by rfl) T.b_len B5 (!Ab (pv 0) (!Ag) (by rfl)) (by decide) (by decide) (by rfl) (by rfl)) (!Ae) (AJ _)) (!EY (!BA (!Bt (!AK A9 (by trivial) rfl (!Ab (!Ay AF (pv 0) (!Ae) (fun _ _=>rfl)) (!Ag) (by rfl)) (by decide) (by rfl) (by rfl)) (by intro _;rfl))))))) (!Aj (!An (!D0))) (!As)) (!Af (!AL (!AI B3 (!Ay AF (pv 0) (!Ae) (fun _ _=>rfl)) (!AH rfl T.c_PIECE (by decide)) (AJ _)) (!Aj (!An (!E2 (!C7 B3 (!AB AN (by rfl) T.b_len B5 (!Ab (pv 0) (!Ag) (by rfl)) (by decide) (by decide) (by rfl) (by rfl)) (!Ae) (AJ _)) (!Gq (!AK Eh (by trivial) rfl (!Ab (!Ay AF (pv 0) (!Ae) (fun _ _=>rfl)) (!Ab (!Ae) (!Ab (!AH rfl T.c_MOST_PIECE_SIGNS (by decide)) (!Ag) (by rfl)) (by rfl)) (by rfl)) (by decide) (by rfl) (by rfl)))))) (!As)) (!Af (!AL (!AI B3 (!Ay AF (pv 0) (!Ae) (fun _ _=>rfl)) (!AH rfl T.c_ROW (by decide)) (AJ _)) (!Aj (!An (!E2 (!C7 B3 (!AB AN (by rfl) T.b_len B5 (!Ab (pv 0) (!Ag) (by rfl)) (by decide) (by decide) (by rfl) (by rfl)) (!Ae) (AJ _)) (!E2 (!AK AA (by trivial) rfl (!Ab (!Ay AF (pv 0) (!Ae) (fun _ _=>rfl)) (!Ab (!Ae) (!Ab (!AH rfl T.c_MOST_LEVEL (by decide)) (!Ag) (by rfl)) (by rfl)) (by rfl)) (by decide) (by rfl) (by rfl)) (!Gq (!AK ED (by trivial) rfl (!Ab (!Ay AF (pv 0) (!Ae) (fun _ _=>rfl)) (!Ab (!Ay AF (pv 0) (!Ae) (fun _ _=>rfl)) (!Ag) (by rfl)) (by rfl)) (by decide) (by rfl) (by rfl))))))) (!As)) (!Aj (!An (!E2 (!C7 B3 (!Ay AF (pv 0) (!Ae) (fun _ _=>rfl)) (!AH rfl T.c_FOLDER (by decide)) (AJ _)) (!E2 (!C7 B3 (!AB AN (by rfl) T.b_len B5 (!Ab (pv 0) (!Ag) (by rfl)) (by decide) (by decide) (by rfl) (by rfl)) (!Ae) (AJ _)) (!Gq (!AK EL (by trivial) rfl (!Ab (!Ay AF (pv 0) (!Ae) (fun _ _=>rfl)) (!Ag) (by rfl)) (by decide) (by rfl) (by rfl)))))))))),?_⟩
 refine⟨_,rfl,_,_,_,_,rfl,okv.ty K,okv.kit K,_,rfl,?_⟩
 rw[ety]
 cases t with
 |non=>exact AQ (by decide) (q H (Al.refl _))
 |bl b=>exact AQ (by show(!isA "bool" "tuple")=true;decide) (q H (Al.refl _))
 |int i=>exact AQ (by show(!isA "int" "tuple")=true;decide) (q H (Al.refl _))
 |str z=>exact AQ (by show(!isA "str" "tuple")=true;decide) (q H (Al.refl _))
 |lst ts=>exact AQ (by show(!isA "list" "tuple")=true;decide) (q H (Al.refl _))
 |tup ts=>
  obtain⟨a,us,rfl,e,r⟩:=hv
  refine AS (by show(!isA "tuple" "tuple")=false;decide) ?_
  cases ts with
  |nil=>
   cases(show us=[] from r)
   exact⟨_,rfl,a,_,rfl,.inr (AW.of e),rfl,_,rfl,AQ rfl (q H (Al.refl _))⟩
  |cons t0 r0=>
   obtain⟨u0,us,rfl,r1,r2⟩:=r
   obtain⟨_,o1,o2⟩:=ok
   have l2:=AD.len _ _ r2
   refine⟨_,rfl,a,_,rfl,.inr (AW.of e),rfl,_,rfl,AS (decide_eq_false fun z=>absurd (V.int.inj z) (by simp only[List.length_cons];omega)) ?_⟩
   refine⟨_,rfl,a,_,_,_,rfl,rfl,AW.of e,Yw,_,rfl,r1.ok o1,_,rfl,?_⟩
   rw[RN r1]
   cases t0 with
   |non=>exact AQ rfl (q H (Al.refl _))
   |bl b=>exact AQ rfl (q H (Al.refl _))
   |str z=>exact AQ rfl (q H (Al.refl _))
   |tup xs=>exact AQ rfl (q H (Al.refl _))
   |lst xs=>exact AQ rfl (q H (Al.refl _))
   |int k=>
    cases(show u0=V.int k from r1)
    refine AS rfl ?_
    have eB:Rg (.tup (.int k::r0))=if k=0 then Yq r0 else if k=1 then XJ r0 else if k=2 then Yx r0 else false:=rfl
    rw[eB] at q
    refine⟨_,rfl,a,_,_,_,rfl,rfl,AW.of e,Yw,rfl,_,rfl,Cs (fun c=>?_) (fun c=>?_)⟩
    ·have k0:k=0:=V.int.inj (of_decide_eq_true c)
     rw[if_pos k0] at q
     refine⟨_,rfl,a,_,rfl,.inr (AW.of e),rfl,_,rfl,Cs (fun c2=>?_) (fun c2=>?_)⟩
     ·have c3:=MR c2
      obtain⟨t1,u1,rfl,rfl,rt⟩:=Si r2 (by simp only[List.length_cons] at c3;omega)
      refine⟨_,rfl,a,_,_,_,rfl,rfl,AW.of e,rfl,_,1,8,rfl,rt.ok o2.1,fun H1 s1=>?_⟩
      rw[TY rt]
      exact q H1 s1
     ·have c3:¬r0.length=1:=fun z=>c2 (decide_eq_true (by simp only[List.length_cons,l2,z];rfl))
      rw[(V3 c3).1] at q
      exact q H (Al.refl _)
    ·have k0:¬k=0:=fun z=>c (decide_eq_true (by rw[z]))
     rw[if_neg k0] at q
     refine⟨_,rfl,a,_,_,_,rfl,rfl,AW.of e,Yw,rfl,_,rfl,Cs (fun c1=>?_) (fun c1=>?_)⟩
     ·have k1:k=1:=V.int.inj (of_decide_eq_true c1)
      rw[if_pos k1] at q
      refine⟨_,rfl,a,_,rfl,.inr (AW.of e),rfl,_,rfl,Cs (fun c2=>?_) (fun c2=>?_)⟩
      ·have c3:=MR c2
       obtain⟨t1,t2,u1,u2,rfl,rfl,rt1,rt2⟩:=W9 r2 (by simp only[List.length_cons] at c3;omega)
       have eW:XJ [t1,t2]=(Cn 1 9 u1&&VN (YM t1) t2):=by rw[Gi rt1];rfl
       rw[eW] at q
       refine⟨_,rfl,a,_,_,_,rfl,rfl,AW.of e,rfl,_,1,9,rfl,rt1.ok o2.1,_,rfl,?_⟩
       cases hb:Cn 1 9 u1 with
       |false=>rw[hb] at q;exact AS rfl (q H (Al.refl _))
       |true=>
        rw[hb] at q
        refine AQ rfl ?_
        have:∃lv,u1=.int lv∧YM t1=lv:=by
         cases t1 with
         |int i=>cases(show u1=V.int i from rt1);exact⟨i,rfl,rfl⟩
         |non=>cases(show u1=V.non from rt1);cases hb
         |bl b=>cases(show u1=V.bl b from rt1);cases hb
         |str z=>cases(show u1=V.str z from rt1);cases hb
         |tup xs=>obtain⟨_,_,rfl,_⟩:=rt1;cases hb
         |lst xs=>obtain⟨_,_,rfl,_⟩:=rt1;cases hb
        obtain⟨lv,rfl,el⟩:=this
        rw[el] at q
        exact⟨_,rfl,a,_,_,_,rfl,rfl,AW.of e,rfl,_,rfl,a,_,_,_,rfl,rfl,AW.of e,rfl,_,lv,t2,rfl,rt2,o2.2.1,q⟩
      ·have c3:¬r0.length=2:=fun z=>c2 (decide_eq_true (by simp only[List.length_cons,l2,z];rfl))
       rw[Xz c3] at q
       exact q H (Al.refl _)
     ·have k1:¬k=1:=fun z=>c1 (decide_eq_true (by rw[z]))
      rw[if_neg k1] at q
      refine⟨_,rfl,a,_,_,_,rfl,rfl,AW.of e,Yw,rfl,_,rfl,Cs (fun c4=>?_) (fun c4=>?_)⟩
      ·have k2:k=2:=V.int.inj (of_decide_eq_true c4)
       rw[if_pos k2] at q
       refine⟨_,rfl,a,_,rfl,.inr (AW.of e),rfl,_,rfl,Cs (fun c2=>?_) (fun c2=>?_)⟩
       ·have c3:=MR c2
        obtain⟨t1,u1,rfl,rfl,rt⟩:=Si r2 (by simp only[List.length_cons] at c3;omega)
        exact⟨_,rfl,a,_,_,_,rfl,rfl,AW.of e,rfl,_,t1,rfl,rt,o2.1,q⟩
       ·have c3:¬r0.length=1:=fun z=>c2 (decide_eq_true (by simp only[List.length_cons,l2,z];rfl))
        rw[(V3 c3).2] at q
        exact q H (Al.refl _)
      ·have k2:¬k=2:=fun z=>c4 (decide_eq_true (by rw[z]))
       rw[if_neg k2] at q
       exact q H (Al.refl _)
def CH (x:En):List Int:=(Do x.nm).map idx++[x.kd,x.tg.2.2]
def told:Bk→List Int
 | .piece z=>(Do z).map idx
 | .row lv ts=>lv::ts.map (·.2.2)
 | .folder es=>es.flatMap CH
theorem idx_map (z:Str):((z.cps.toList.map fun c=>V.str ⟨#[c]⟩).map fun v=>match v with|V.str y=>V.int (PySem.Txt.find SG y)|_=>V.non)=((Do z).map idx).map V.int:=by
 rw[List.map_map,List.map_map];rfl
theorem Ki:∀{ts:List Tg} {us:List V} {H:Hp},AD NL H (ts.map IL) us→(us.map fun v=>match v with | .ref x=>(match H x with|some (.tup [_,_,y])=>y|_=>.non)|_=>.non)=(ts.map (·.2.2)).map V.int
 |[],us,H,r=>by rw[show us=[] from r];rfl
 |e::es,us,H,r=>by
  obtain⟨v,us',rfl,r1,r2⟩:=r
  obtain⟨a,rfl,e1⟩:=M3 r1
  rw[List.map_cons,List.map_cons,List.map_cons,Ki r2]
  simp only[e1]
theorem LS {es:List En}{i:Nat}{x:En}(h:es[i]?=some x):(es.take (i+1)).flatMap CH=(es.take i).flatMap CH++CH x:=by
 rw[List.take_add_one,h,List.flatMap_append]
 simp
theorem N6 {es:List En}(h:∀x∈es,(CH x).length≤10):(es.flatMap CH).length≤10*es.length:=by
 induction es with
 |nil=>exact Nat.le_refl _
 |cons x r ih=>
  rw[List.flatMap_cons,List.length_append,List.length_cons]
  have:=h x List.mem_cons_self
  have:=ih fun y hy=>h y (List.mem_cons_of_mem _ hy)
  omega
theorem Te {x:En}(h:Ov x):(CH x).length≤10:=by
 have:=(Et h.1).2.1
 unfold CH
 rw[List.length_append,List.length_map,BJ]
 show x.nm.length+2≤10
 omega
def DW (K:W.Frag):Sp:=fun vs H Q _=>∃v b,vs=[v]∧Rep NL H (Gh b) v∧Hn b∧∀l H',Al H H'→H l=none→H' l=some (.lst ((told b).map V.int))→Q (.ref l) H'
theorem JL (T:Txt K mg Ac Aa XC)(F:Fun K "numbers_told" "numbers_told" BW f fd)(Bb:Def P w K mg base 1 "number_of" ["sign"] (CB K)):FnOk P w K mg base Dp 2 f fd ["block"] (DW K):=by
 exists Cb
 ·obtain⟨v,b,rfl,_⟩:=h
  rfl
 obtain⟨v,b,rfl,hv,ok,q⟩:=h
 refine⟨_,(!Af (!AL (!AI B3 (!Ay AF (pv 0) (!Ae) (fun _ _=>rfl)) (!AH rfl T.c_PIECE (by decide)) (AJ _)) (!Aj (!An (@Bq _ ["sign"] _ _ _ _ _ _ _ _ _ _ rfl (!HR (!Ay AF (pv 0) (!Ae) (fun _ _=>rfl))) (by decide +kernel) (fun C s H fp=>⟨(@Az _ _ (0) _ (show(["sign"]:List Str).Nodup by decide +kernel) rfl (by trivial) (by trivial)),(!A5),(!AK Bb (by trivial) rfl (!Ab (pv 0) (!Ag) (by rfl)) (by decide) (by rfl) (by rfl))⟩) (by intro _;rfl)))) (!As)) (!Af (!AL (!AI B3 (!Ay AF (pv 0) (!Ae) (fun _ _=>rfl)) (!AH rfl T.c_ROW (by decide)) (AJ _)) (!Aj (!An (!Am FT (!BS (!Ab (!Ay AF (pv 0) (!Ae) (fun _ _=>rfl)) (!Ag) (by rfl))) (@Bq _ ["tag"] _ _ _ _ _ _ _ _ _ _ rfl (!Ek (!Ay AF (pv 0) (!Ae) (fun _ _=>rfl))) (by decide +kernel) (fun C s H fp=>⟨(@Az _ _ (0) _ (show(["tag"]:List Str).Nodup by decide +kernel) rfl (by trivial) (by trivial)),(!A5),(!Ay (QL (K:=K) (by rfl)) (pv 0) (!Ae) (fun _ _=>rfl))⟩) (by intro _;rfl))))) (!As)) (!Af (@Ax _ _ (1) _ _ _ _ Cb.nd rfl (by trivial) (!BS (!Ag)) (by rfl) (by trivial)) (!Af (!CJ PassesOwn.never rfl (!Ek (!Ay AF (pv 0) (!Ae) (fun _ _=>rfl))) (!KE rfl (!By (@Az _ _ (2) _ Cb.nd rfl (by trivial) (by trivial)) (!By (@Az _ _ (3) _ Cb.nd rfl (by trivial) (by trivial)) (!By (@Az _ _ (4) _ Cb.nd rfl (by trivial) (by trivial)) (!G7) (by rfl)) (by rfl)) (by rfl)) (by rfl) (by rfl)) (!Af (!Co (!Gk PySem.F.plainAttrs_list PySem.F.slot_list_extend PySem.F.type_list_extend I0 (pv 1) (!Ab (@Bq _ ["sign"] _ _ _ _ _ _ _ _ _ _ rfl (!HR (pv 2)) (by decide +kernel) (fun C s H fp=>⟨(@Az _ _ (0) _ (show(["sign"]:List Str).Nodup by decide +kernel) rfl (by trivial) (by trivial)),(!A5),(!AK Bb (by trivial) rfl (!Ab (pv 0) (!Ag) (by rfl)) (by decide) (by rfl) (by rfl))⟩) (by intro _;rfl)) (!Ag) (by rfl)) (by rfl) (by rfl) (by rfl) (by rfl) (by rfl)) (by rfl)) (!Aj (!Co (!Gk PySem.F.plainAttrs_list PySem.F.slot_list_extend PySem.F.type_list_extend I0 (pv 1) (!Ab (!BS (!Ab (pv 3) (!Ab (!Ay AF (pv 4) (!Ae) (fun _ _=>rfl)) (!Ag) (by rfl)) (by rfl))) (!Ag) (by rfl)) (by rfl) (by rfl) (by rfl) (by rfl) (by rfl)) (by rfl)))) (by intro _;rfl)) (!Aj (!An (pv 1))))))),?_⟩
 cases b with
 |piece z=>
  obtain⟨a,rfl,e⟩:=Jc hv
  have h':(decide ((1:Int)≤(z.length:Int))&&decide ((z.length:Int)≤8)&&Bn SG z)=true:=ok
  simp only[Bool.and_eq_true,decide_eq_true_eq] at h'
  have zs:∀c∈Do z,c∈Do SG:=fun c hc=>by simpa using List.all_eq_true.mp h'.2 c hc
  refine⟨_,rfl,a,_,_,_,rfl,rfl,AW.of e,rfl,rfl,_,rfl,AQ rfl ?_⟩
  refine⟨_,rfl,a,_,_,_,rfl,rfl,AW.of e,rfl,z,rfl,?_⟩
  refine comp_map (fun v=>match v with | .str y=>.int (PySem.Txt.find SG y)|_=>.non) EE (by rw[List.length_map];exact Nat.le_trans (Nat.le_of_eq (BJ z)) (by omega)) (fun x H' R hx s' hR=>?_) fun l H7 n7 s7 h7=>?_
  ·obtain⟨u,hu,rfl⟩:=List.mem_map.mp hx
   exact⟨_,rfl,_,rfl,(GW (zs u hu)).1,hR H' (Al.refl _)⟩
  rw[idx_map] at h7
  exact q l H7 s7 n7 h7
 |row lv ts=>
  obtain⟨a,b,us,rfl,e,e2,r⟩:=Mn hv
  have lu:=AD.len _ _ r
  rw[List.length_map] at lu
  have l8:=ok.2.1
  refine⟨_,rfl,a,_,_,_,rfl,rfl,AW.of e,rfl,rfl,_,rfl,AS rfl ?_⟩
  refine⟨_,rfl,a,_,_,_,rfl,rfl,AW.of e,rfl,rfl,_,rfl,AQ rfl ?_⟩
  refine⟨_,rfl,a,_,_,_,rfl,rfl,AW.of e,rfl,RS,fun p1 hp1=>?_⟩
  have s1:=Ak hp1 (.lst [V.int lv])
  have e2':=s1.get e2
  have r':=AD.same s1 _ _ r
  refine⟨_,rfl,a,_,_,_,rfl,rfl,AW.of (s1.get e),rfl,b,rfl,⟨_,AW.of e2'⟩,comp_map (fun v=>match v with | .ref x=>(match(upd H p1 (.lst [V.int lv])) x with|some (.tup [_,_,y])=>y|_=>.non)|_=>.non) (Es e2') (by omega) (fun x H' R hx s' hR=>?_) fun l H7 n7 s7 h7=>?_⟩
  ·obtain⟨t,ht,rt⟩:=QA r' hx
   obtain⟨c,rfl,ec⟩:=M3 rt
   have:=hR H' (Al.refl _)
   simp only[ec] at this
   exact⟨_,rfl,c,_,_,_,rfl,rfl,AW.of (s'.get ec),rfl,this⟩
  rw[Ki r'] at h7
  refine⟨p1,l,_,_,rfl,rfl,AM.of (s7.get Ad),AM.of h7,small (by rw[List.length_map,List.length_map];show 1+ts.length≤1000000;omega),fun p hp=>?_⟩
  exact q p _ ((s1.trans s7).trans (Ak hp _)) ((s1.trans s7).free hp) Ad
 |folder es=>
  obtain⟨a,b,us,rfl,e,e2,r⟩:=HN hv
  have lu:=AD.len _ _ r
  rw[List.length_map] at lu
  obtain⟨o1,o2,_⟩:=ok
  refine⟨_,rfl,a,_,_,_,rfl,rfl,AW.of e,rfl,rfl,_,rfl,AS rfl ?_⟩
  refine⟨_,rfl,a,_,_,_,rfl,rfl,AW.of e,rfl,rfl,_,rfl,AS rfl ?_⟩
  refine⟨Sm,fun g hg=>?_⟩
  have sg:=Ak hg (.lst [])
  refine⟨_,rfl,a,_,_,_,rfl,rfl,AW.of (sg.get e),rfl,b,rfl,⟨_,AW.of (sg.get e2)⟩,Iw (K:=K) (a:=b) (xs:=us) (fun i σ H2=>∃v2 v3 v4,σ=[some (.ref a),some (.ref g),v2,v3,v4]∧Al H H2∧H2 g=some (.lst (((es.take i).flatMap CH).map V.int))) ⟨none,none,none,rfl,sg,Ad⟩ (fun i σ H2 _ ⟨_,_,_,_,s2,_⟩=>AW.of (s2.get e2)) ?_ ?_⟩
  ·rintro i y σ H2 hi ⟨v2,v3,v4,rfl,s2,hg2⟩
   obtain⟨t,ht,ry⟩:=AD.get r hi
   rw[List.getElem?_map] at ht
   cases z:es[i]? with
   |none=>rw[z] at ht;cases ht
   |some x=>
    rw[z] at ht
    cases ht
    obtain⟨c,d,rfl,ec,ed⟩:=Ta ry
    have ox:=o2 x (List.mem_of_getElem? z)
    obtain⟨n1,n2,_,n4⟩:=Et ox.1
    have tl:((es.take i).flatMap CH).length≤160:=by
     have:=N6 (es:=es.take i) fun y hy=>Te (o2 y (List.mem_of_mem_take hy))
     rw[List.length_take] at this
     omega
    refine⟨c,_,rfl,AW.of (s2.get ec),rfl,_,_,rfl,_,_,rfl,_,_,rfl,rfl,?_⟩
    refine⟨_,rfl,.inl ⟨rfl,_,AM.of hg2⟩,_,rfl,x.nm,rfl,?_⟩
    refine comp_map (fun v=>match v with | .str y=>.int (PySem.Txt.find SG y)|_=>.non) EE (by rw[List.length_map];exact Nat.le_trans (Nat.le_of_eq (BJ x.nm)) (by omega)) (fun u H' R hu s' hR=>?_) fun l H7 n7 s7 h7=>?_
    ·obtain⟨k,hk,rfl⟩:=List.mem_map.mp hu
     exact⟨_,rfl,_,rfl,(GW (n4 k hk)).1,hR H' (Al.refl _)⟩
    rw[idx_map] at h7
    refine⟨g,l,_,_,rfl,rfl,s7.get hg2,h7,small (by rw[List.length_map,List.length_map,List.length_map,BJ];omega),?_⟩
    have t7:=Br (s2.trans s7) hg (.lst (((es.take i).flatMap CH).map V.int++((Do x.nm).map idx).map V.int))
    refine⟨_,rfl,.inl ⟨rfl,_,AM.of Ad⟩,_,rfl,_,rfl,d,_,_,_,rfl,rfl,AW.of (t7.get ed),rfl,Jn,fun p hp=>?_⟩
    have t8:=Ak hp (.lst [V.int x.kd,V.int x.tg.2.2])
    refine⟨g,p,_,_,rfl,rfl,t8.get Ad,Ad,small (by rw[List.length_append,List.length_map,List.length_map,List.length_map,BJ];show _+_+2≤_;omega),?_⟩
    refine⟨_,_,_,rfl,Br (t7.trans t8) hg _,?_⟩
    rw[Ad,LS z,List.map_append]
    unfold CH
    rw[List.map_append,List.append_assoc]
    rfl
  ·rintro σ H2 ⟨v2,v3,v4,rfl,s2,hg2⟩
   rw[lu,List.take_of_length_le (Nat.le_refl _)] at hg2
   exact⟨_,rfl,q g H2 s2 hg hg2⟩
def kindB:Bk→Int
 | .piece _=>0
 | .row _ _=>1
 | .folder _=>2
def DJ (b:Bk):Int:=(told b).foldl (fun t n=>(31*t+n+1)%997) (1+kindB b)
theorem Ih {H:Hp}{b:Bk}{v:V}(h:Rep NL H (Gh b) v):∃a xs,v=.ref a∧H a=some (.tup (.int (kindB b)::xs)):=by
 cases b with
 |piece z=>obtain⟨a,rfl,e⟩:=Jc h;exact⟨a,_,rfl,e⟩
 |row lv ts=>obtain⟨a,b,us,rfl,e,_⟩:=Mn h;exact⟨a,_,rfl,e⟩
 |folder es=>obtain⟨a,b,us,rfl,e,_⟩:=HN h;exact⟨a,_,rfl,e⟩
theorem OR {x:V}{xs:List V}:He (x::xs) 0=some x:=by
 unfold He R4
 simp
theorem ints_get {ns:List Int}{i:Nat}{y:V}(h:(ns.map V.int)[i]?=some y):∃n,y=.int n∧ns[i]?=some n:=by
 rw[List.getElem?_map] at h
 cases z:ns[i]? with
 |none=>rw[z] at h;cases h
 |some n=>rw[z] at h;cases h;exact⟨n,rfl,rfl⟩
theorem Lx {f:Int→Int→Int}{z:Int}{ns:List Int}{i:Nat}{n:Int}(h:ns[i]?=some n):(ns.take (i+1)).foldl f z=f ((ns.take i).foldl f z) n:=by
 rw[List.take_add_one,h,List.foldl_append]
 rfl
def Jj (K:W.Frag):Sp:=fun vs H Q _=>∃v b,vs=[v]∧Rep NL H (Gh b) v∧Hn b∧∀H',Al H H'→Q (.int (DJ b)) H'
theorem Q8 (T:Txt K mg Ac Aa XC)(F:Fun K "sum_of" "sum_of" Fu f fd)(Em:Def P w K mg base 2 "numbers_told" ["block"] (DW K)):FnOk P w K mg base Dp 3 f fd ["block"] (Jj K):=by
 exists Hc
 ·obtain⟨v,b,rfl,_⟩:=h
  rfl
 obtain⟨v,b,rfl,hv,ok,q⟩:=h
 obtain⟨a,xs,rfl,e⟩:=Ih hv
 refine⟨_,(!Af (@Ax _ _ (1) _ _ _ _ Hc.nd rfl (by trivial) (!Am Be (!Ae) (!Ay AF (pv 0) (!Ae) (fun _ _=>rfl))) (by rfl) (by trivial)) (!Af (!CJ PassesOwn.never rfl (!Dk (!AK Em (by trivial) rfl (!Ab (pv 0) (!Ag) (by rfl)) (by decide) (by rfl) (by rfl))) (@Az _ _ (2) _ Hc.nd rfl (by trivial) (by trivial)) (!Aj (@Ax _ _ (1) _ _ _ _ Hc.nd rfl (by trivial) (!Am AG (!Am Be (!Am Be (!Am EM (!Ae) (pv 1)) (pv 2)) (!Ae)) (!AH rfl T.c_SUM_RESTS (by decide))) (by rfl) (by trivial))) (by intro _;rfl)) (!Aj (!An (pv 1))))),?_⟩
 refine⟨_,rfl,a,_,_,_,rfl,rfl,AW.of e,OR,_,_,rfl,rfl,?_⟩
 refine⟨_,rfl,_,b,rfl,hv,ok,fun l H1 s1 n1 h1=>?_⟩
 refine⟨l,rfl,⟨_,AM.of h1⟩,Fk (K:=K) (a:=l) (xs:=(told b).map V.int) (fun i σ H2=>∃v2,σ=[some (.ref a),some (.int (((told b).take i).foldl (fun t n=>(31*t+n+1)%997) (1+kindB b))),v2]∧Al H1 H2) ⟨none,rfl,Al.refl _⟩ (fun i σ H2 _ ⟨_,_,s2⟩=>AM.of (s2.get h1)) ?_ ?_⟩
 ·rintro i y σ H2 hi ⟨v2,rfl,s2⟩
  obtain⟨n,rfl,hn⟩:=ints_get hi
  refine⟨_,rfl,_,_,rfl,rfl,.inl ⟨by decide,by decide⟩,_,rfl,_,_,rfl,rfl,_,_,rfl,rfl,_,_,rfl,rfl,(show(0:Int)<997 by decide),?_⟩
  refine⟨some (.int n),?_,s2⟩
  rw[Lx hn]
  rfl
 ·rintro σ H2 ⟨v2,rfl,s2⟩
  rw[List.length_map,List.take_length]
  exact⟨_,rfl,q H2 (s1.trans s2)⟩
theorem Q3 (ts:List Tg):(wTs (ts.map IL)).length=8*ts.length:=by
 induction ts with
 |nil=>rfl
 |cons t r ih=>
  rw[List.map_cons]
  show(wT (IL t)++wTs (r.map IL)).length=_
  rw[List.length_append,ih,List.length_cons]
  have:(wT (IL t)).length=8:=rfl
  omega
def VZ:Bk→Nat
 | .piece z=>6+z.length
 | .row _ ts=>8+8*ts.length
 | .folder es=>6+(es.map fun x=>14+x.nm.length).sum
theorem SL (es:List En):(wTs (es.map IV)).length=(es.map fun x=>14+x.nm.length).sum:=by
 induction es with
 |nil=>rfl
 |cons x r ih=>
  rw[List.map_cons,List.map_cons,List.sum_cons,←ih]
  show(wT (IV x)++wTs (r.map IV)).length=_
  rw[List.length_append]
  have:(wT (IV x)).length=14+x.nm.length:=by
   show(2::((3:Int))::((1::(x.nm.length:Int)::(Do x.nm).map idx)++([0,x.kd]++(wT (IL x.tg)++[])))).length=_
   have t8:(wT (IL x.tg)).length=8:=rfl
   simp only[List.length_cons,List.length_append,List.length_map,BJ,List.length_nil,t8]
   omega
  omega
theorem U6 (b:Bk):(wT (Gh b)).length=VZ b:=by
 cases b with
 |piece z=>
  show(2::(2:Int)::([0,0]++((1::(z.length:Int)::(Do z).map idx)++[]))).length=6+z.length
  simp only[List.length_cons,List.length_append,List.length_map,BJ,List.length_nil]
  omega
 |row lv ts=>
  show(2::(3:Int)::([0,1]++([0,lv]++((2::((ts.map IL).length:Int)::wTs (ts.map IL))++[])))).length=8+8*ts.length
  simp only[List.length_cons,List.length_append,List.length_nil,Q3]
  omega
 |folder es=>
  show(2::(2:Int)::([0,2]++((2::((es.map IV).length:Int)::wTs (es.map IV))++[]))).length=6+(es.map fun x=>14+x.nm.length).sum
  simp only[List.length_cons,List.length_append,List.length_nil,SL]
  omega
theorem size_le {b:Bk}(h:Hn b):VZ b≤500:=by
 cases b with
 |piece z=>
  have h':(decide ((1:Int)≤(z.length:Int))&&decide ((z.length:Int)≤8)&&Bn SG z)=true:=h
  simp only[Bool.and_eq_true,decide_eq_true_eq] at h'
  show 6+z.length≤500
  omega
 |row lv ts=>
  have:=h.2.1
  show 8+8*ts.length≤500
  omega
 |folder es=>
  have n:=h.1
  have s0:∀l:List En,(∀x∈l,Ov x)→(l.map fun x=>14+x.nm.length).sum≤22*l.length:=fun l=>by
   induction l with
   |nil=>intro _;exact Nat.le_refl _
   |cons x r ih=>
    intro hx
    rw[List.map_cons,List.sum_cons,List.length_cons]
    have:=ih fun y hy=>hx y (List.mem_cons_of_mem _ hy)
    have:=(Et (hx x List.mem_cons_self).1).2.1
    omega
  have:=s0 es h.2.1
  show 6+_≤500
  omega
def GV (K:W.Frag):Sp:=fun vs H Q _=>∃n:Int,vs=[.int n]∧0≤n∧n<2147483647∧∀a t H',Al H H'→H a=none→Jf t→H' a=some (.tup [.int t.1,.int t.2.1,.int t.2.2])→Q (.ref a) H'
theorem NK (T:Txt K mg Ac Aa XC)(F:Fun K "_law_tag" "_law_tag" Dz f fd):FnOk P w K mg base Dp 1 f fd ["_law_number"] (GV K):=by
 exists EJ
 ·obtain⟨n,rfl,_⟩:=h
  rfl
 obtain⟨n,rfl,n0,n1,q⟩:=h
 refine⟨_,(!Af (@Ax _ _ (1) _ _ _ _ EJ.nd rfl (by trivial) (!El (!Ab (!Am Be (!Ae) (!Am AG (pv 0) (!Ae))) (!Ab (!Am AG (!Am EM (pv 0) (!Ae)) (!Am Pj (!Ae) (!Ae))) (!Ab (!Am AG (!Am Dc (pv 0) (!Ae)) (!Ae)) (!Ag) (by rfl)) (by rfl)) (by rfl))) (by rfl) (by trivial)) (!Af (!AL (!AI B3 (!Am AG (pv 0) (!Ae)) (!Ae) (AJ _)) (!Aj (@Ax _ _ (1) _ _ _ _ EJ.nd rfl (by trivial) (!El (!Ab (!Ae) (!Ab (!Ae) (!Ab (!Ay AY (!BS (!Ab (!Ae) (!Ab (!Ae) (!Ag) (by rfl)) (by rfl))) (!Am AG (!Am Dc (pv 0) (!Ae)) (!Ae)) (fun _ _=>rfl)) (!Ag) (by rfl)) (by rfl)) (by rfl))) (by rfl) (by trivial))) (!As)) (!Af (!AL (!AI B3 (!Am AG (pv 0) (!Ae)) (!Ae) (AJ _)) (!Aj (@Ax _ _ (1) _ _ _ _ EJ.nd rfl (by trivial) (!El (!Ab (!Am Be (!Ae) (!Am AG (pv 0) (!Ae))) (!Ab (!Am AG (!Am Dc (pv 0) (!Ae)) (!Ae)) (!Ab (!Am AG (!Am Dc (pv 0) (!Ae)) (!Ae)) (!Ag) (by rfl)) (by rfl)) (by rfl))) (by rfl) (by trivial))) (!As)) (!Aj (!An (pv 1)))))),?_⟩
 refine Hf (fun σ H1=>∃a t,σ=[some (.int n),some (.ref a)]∧Al H H1∧H a=none∧Jf t∧H1 a=some (.tup [.int t.1,.int t.2.1,.int t.2.2])) (fun N hN=>?_) ?_
 ·refine⟨_,rfl,_,_,rfl,rfl,(show(0:Int)<999999 by decide),_,_,rfl,rfl,_,rfl,_,_,rfl,rfl,.inr ⟨by decide,by decide⟩,_,_,rfl,rfl,⟨by decide,by decide,by decide⟩,_,_,rfl,rfl,(show(0:Int)<10^9 by decide),_,rfl,_,_,rfl,rfl,⟨by decide,by decide⟩,_,_,rfl,rfl,(show(0:Int)<997 by decide),Rl,fun p hp=>?_⟩
  refine hN _ _ ⟨p,(1+n%999999,n*48271%1000000000,n/5%997),rfl,Ak hp _,hp,⟨by dsimp only;omega,by dsimp only;omega,by dsimp only;omega⟩,Ad⟩
 rintro σ H1 ⟨a,t,rfl,s1,na,ot,ha⟩
 refine Hf (fun σ H2=>∃a t,σ=[some (.int n),some (.ref a)]∧Al H H2∧H a=none∧Jf t∧H2 a=some (.tup [.int t.1,.int t.2.1,.int t.2.2])) (fun N hN=>?_) ?_
 ·refine⟨_,rfl,_,_,rfl,rfl,(show(0:Int)<7 by decide),rfl,_,rfl,Cs (fun c=>?_) (fun c=>hN _ _ ⟨a,t,rfl,s1,na,ot,ha⟩)⟩
  refine⟨Jn,fun p hp=>?_⟩
  have s2:=Ak hp (.lst [V.int 996,V.int 0])
  obtain⟨k,hk,k0,k1⟩:∃k:Int,He [V.int 996,V.int 0] (n/7%2)=some (.int k)∧0≤k∧k≤996:=by
   rcases(show n/7%2=0∨n/7%2=1 by omega) with e|e
   ·rw[e];exact⟨996,rfl,by decide,by decide⟩
   ·rw[e];exact⟨0,rfl,by decide,by decide⟩
  refine⟨_,rfl,_,_,rfl,rfl,⟨by decide,by decide⟩,_,_,rfl,rfl,(show(0:Int)<2 by decide),p,_,_,_,rfl,rfl,AM.of Ad,hk,Rl,fun p2 hp2=>?_⟩
  exact hN _ _ ⟨p2,(999999,999999999,k),rfl,(s1.trans s2).trans (Ak hp2 _),(s1.trans s2).free hp2,⟨⟨show(1:Int)≤999999 by decide,show(999999:Int)≤999999 by decide⟩,⟨show(0:Int)≤999999999 by decide,show(999999999:Int)≤999999999 by decide⟩,k0,k1⟩,Ad⟩
 rintro σ H2 ⟨a,t,rfl,s2,na,ot,ha⟩
 refine Hf (fun σ H3=>∃a t,σ=[some (.int n),some (.ref a)]∧Al H H3∧H a=none∧Jf t∧H3 a=some (.tup [.int t.1,.int t.2.1,.int t.2.2])) (fun N hN=>?_) ?_
 ·refine⟨_,rfl,_,_,rfl,rfl,(show(0:Int)<7 by decide),rfl,_,rfl,Cs (fun c=>?_) (fun c=>hN _ _ ⟨a,t,rfl,s2,na,ot,ha⟩)⟩
  refine⟨_,rfl,_,_,rfl,rfl,(show(0:Int)<9 by decide),_,_,rfl,rfl,_,rfl,_,_,rfl,rfl,⟨by decide,by decide⟩,_,_,rfl,rfl,(show(0:Int)<2 by decide),_,rfl,_,_,rfl,rfl,⟨by decide,by decide⟩,_,_,rfl,rfl,(show(0:Int)<997 by decide),Rl,fun p hp=>?_⟩
  exact hN _ _ ⟨p,(1+n%9,n/9%2,n/18%997),rfl,s2.trans (Ak hp _),s2.free hp,⟨by dsimp only;omega,by dsimp only;omega,by dsimp only;omega⟩,Ad⟩
 rintro σ H3 ⟨a,t,rfl,s3,na,ot,ha⟩
 exact⟨_,rfl,q a t H3 s3 na ot ha⟩
theorem WK:(Do LN).length=36:=by decide +kernel
theorem Sl {z:Str}{i:Int}(h0:0≤i)(h1:i<(Do z).length):∃c,He z.cps.toList i=some c∧c∈Do z:=by
 obtain⟨k,rfl⟩:=Int.eq_ofNat_of_zero_le h0
 have hk:k<z.cps.toList.length:=by have:((k:Nat):Int)<(Do z).length:=h1;exact_mod_cast this
 refine⟨z.cps.toList[k],?_,List.getElem_mem hk⟩
 have hk2:k<z.cps.size:=by simpa using hk
 unfold He R4
 rw[if_pos h0]
 simp[hk2]
theorem MB {T:List Nat}:∀(ys:List V),(∀y∈ys,∃c,y=.str ⟨#[c]⟩∧c∈T)→∃cs:List Nat,ys=(cs.map fun c=>(⟨#[c]⟩:Str)).map V.str∧∀c∈cs,c∈T
 |[],_=>⟨[],rfl,fun _ h=>nomatch h⟩
 |y::ys,h=>by
  obtain⟨c,rfl,hc⟩:=h y List.mem_cons_self
  obtain⟨cs,e,hs⟩:=MB ys fun y hy=>h y (List.mem_cons_of_mem _ hy)
  exact⟨c::cs,by rw[e];rfl,fun d hd=>(List.mem_cons.mp hd).elim (fun z=>z▸hc) (hs d)⟩
theorem Ju (cs:List Nat):Do (PySem.Txt.join Fz (cs.map fun c=>(⟨#[c]⟩:Str)))=cs:=by
 rw[NU (g:=Fz) (by decide +kernel),List.map_map]
 induction cs with
 |nil=>rfl
 |cons c r ih=>rw[List.map_cons,List.flatten_cons,ih];rfl
theorem Ic (cs:List Nat)(h:cs.length≤100):((cs.map fun c=>(⟨#[c]⟩:Str)).map (·.length)).sum+(cs.map fun c=>(⟨#[c]⟩:Str)).length*Fz.length≤16777216:=by
 have e:Fz.length=0:=by decide +kernel
 have e2:((cs.map fun c=>(⟨#[c]⟩:Str)).map (·.length)).sum=cs.length:=by
  clear h
  induction cs with
  |nil=>rfl
  |cons c r ih=>
   rw[List.map_cons,List.map_cons,List.sum_cons,ih,List.length_cons]
   show 1+r.length=_
   omega
 rw[e,e2]
 omega
def FH (K:W.Frag):Sp:=fun vs H Q _=>∃n:Int,vs=[.int n]∧0≤n∧∀z H',Al H H'→DH (.str z)=true→Q (.str z) H'
theorem Mg (T:Txt K mg Ac Aa XC)(F:Fun K "_law_name" "_law_name" C3 f fd):FnOk P w K mg base Dp 1 f fd ["_law_number"] (FH K):=by
 exists FG
 ·obtain⟨n,rfl,_⟩:=h
  rfl
 obtain⟨n,rfl,n0,q⟩:=h
 refine⟨_,(!Af (@Ax _ _ (1) _ _ _ _ FG.nd rfl (by trivial) (!Am Be (!Ae) (!Am AG (pv 0) (!Ae))) (by rfl) (by trivial)) (!Af (@Ax _ _ (2) _ _ _ _ FG.nd rfl (by trivial) (!IW) (by rfl) (by trivial)) (!Aj (!An (!Gk PySem.F.plainAttrs_str PySem.F.slot_str_join PySem.F.type_str_join (Mh rfl) (!IW) (!Ab (@IF _ ["_law_k","_law_signs_here","_law_number"] [none,some 2,some 0] _ _ _ _ _ _ _ _ _ _ _ rfl (!Ec rfl T.b_range (!Ab (pv 1) (!Ag) (by rfl)) (by rfl)) (by rfl) rfl (by repeat (first|exact trivial|refine⟨rfl,?_⟩)) (by repeat (first|exact trivial|refine⟨fun h=>(by first|exact⟨_,rfl⟩|cases h),?_⟩)) (fun C s H fp=>⟨(@Az _ _ (0) _ (show(["_law_k","_law_signs_here","_law_number"]:List Str).Nodup by decide +kernel) rfl (by trivial) (by trivial)),(!A5),(!Ay Qa (pv 1) (!Am AG (!Am Be (!Am Dc (pv 2) (!Ae)) (!Am EM (pv 0) (!Am AG (!Am Dc (pv 2) (!Ae)) (!Ae)))) (!Ae)) (fun _ _=>rfl))⟩) (by intro _;rfl)) (!Ag) (by rfl)) (by rfl) (by rfl) (by rfl) (by rfl) (by rfl)))))),?_⟩
 refine⟨_,rfl,_,_,rfl,rfl,(show(0:Int)<8 by decide),_,_,rfl,rfl,?_⟩
 obtain⟨m,hm⟩:∃m:Nat,1+n%8=(m:Int):=⟨(1+n%8).toNat,by omega⟩
 have m1:1≤m:=by omega
 have m8:m≤8:=by omega
 dsimp only
 rw[hm]
 refine⟨rfl,_,rfl,(m:Int),rfl,by omega,by omega,?_⟩
 refine Iv (xs:=(List.range (m:Int).toNat).map fun(i:Nat)=>V.int (0+(i:Int))) (fun _ y _=>∃c,y=.str ⟨#[c]⟩∧c∈Do LN) (fun _ _ _ _ h _=>h) (fun _ _ _ _ _ _ h _ _=>h) Pi (by rw[List.length_map,List.length_range];omega) (fun x H' R hx s' hR=>?_) fun l H7 ys n7 s7 h7 l7 hy=>?_
 ·obtain⟨k,hk,rfl⟩:=List.mem_map.mp hx
  obtain⟨c,hc,mc⟩:=Sl (z:=LN) (i:=(n/8+(0+(k:Int))*(n/288%36))%36) (Int.emod_nonneg _ (by decide)) (by rw[WK];exact Int.emod_lt_of_pos _ (by decide))
  refine⟨_,rfl,_,rfl,_,_,rfl,rfl,⟨by decide,by decide⟩,_,rfl,_,rfl,_,_,rfl,rfl,⟨by decide,by decide⟩,_,_,rfl,rfl,(show(0:Int)<36 by decide),_,_,rfl,rfl,.inr ⟨by omega,by omega⟩,_,_,rfl,rfl,_,_,rfl,rfl,(show(0:Int)<36 by decide),LN,_,c,rfl,rfl,small (by show LN.length≤1000000;decide +kernel),hc,?_⟩
  exact hR _ H' (Al.refl _) (fun _ z=>nomatch z) ⟨c,rfl,mc⟩
 obtain⟨cs,rfl,hcs⟩:=MB (T:=Do LN) ys fun y hy'=>by
  obtain⟨i,hi,e⟩:=List.getElem_of_mem hy'
  have lx:i<((List.range (m:Int).toNat).map fun(i:Nat)=>V.int (0+(i:Int))).length:=by rw[←l7];exact hi
  exact(hy i _ y (List.getElem?_eq_getElem lx) (by rw[List.getElem?_eq_getElem hi,e])).1
 have lc:cs.length=m:=by
  rw[List.length_map,List.length_map,List.length_map,List.length_range] at l7
  omega
 refine⟨l,Fz,_,rfl,rfl,AM.of h7,Ic cs (by omega),q _ H7 s7 ?_⟩
 have ec:=Ju cs
 have el:(PySem.Txt.join Fz (cs.map fun c=>(⟨#[c]⟩:Str))).length=m:=by rw[←BJ,ec,lc]
 show(decide ((1:Int)≤((PySem.Txt.join Fz (cs.map fun c=>(⟨#[c]⟩:Str))).length:Int))&&decide (((PySem.Txt.join Fz (cs.map fun c=>(⟨#[c]⟩:Str))).length:Int)≤8)&&Bn LN (PySem.Txt.join Fz (cs.map fun c=>(⟨#[c]⟩:Str))))=true
 unfold Bn
 rw[el,ec,Bool.and_eq_true,Bool.and_eq_true,decide_eq_true_eq,decide_eq_true_eq,List.all_eq_true]
 exact⟨⟨by omega,by omega⟩,fun c hc=>decide_eq_true (hcs c hc)⟩
theorem MT (ns:List Int){lo hi:Int}(h0:0≤lo)(h1:0≤hi):GI (ns.map V.int) (some lo) (some hi)=((ns.drop lo.toNat).take (hi.toNat-lo.toNat)).map V.int:=by
 rw[Og h0 h1,←List.map_drop,←List.map_take]
theorem Uy:(Do SG).length=94:=by decide +kernel
theorem K6 {H:Hp}:∀(ys:List V),(∀y∈ys,∃a t,y=.ref a∧Jf t∧H a=some (.tup [.int t.1,.int t.2.1,.int t.2.2]))→∃ts:List Tg,ts.length=ys.length∧(∀t∈ts,Jf t)∧AD NL H (ts.map IL) ys
 |[],_=>⟨[],rfl,(fun _ h=>nomatch h),rfl⟩
 |y::ys,h=>by
  obtain⟨a,t,rfl,ot,e⟩:=h y List.mem_cons_self
  obtain⟨ts,l,o,r⟩:=K6 ys fun y hy=>h y (List.mem_cons_of_mem _ hy)
  exact⟨t::ts,by rw[List.length_cons,List.length_cons,l],fun u hu=>(List.mem_cons.mp hu).elim (fun z=>z▸ot) (o u),⟨.ref a,ys,rfl,S2 e,r⟩⟩
theorem Qy {Pr:V→Prop}{xs ys:List V}{n:Nat}(l7:ys.length=xs.length)(h:∀(i:Nat) x y,xs[i]?=some x→ys[i]?=some y→Pr y):∀y∈ys,Pr y:=fun y hy=>by
 obtain⟨i,hi,e⟩:=List.getElem_of_mem hy
 have lx:i<xs.length:=by rw[←l7];exact hi
 exact h i _ y (List.getElem?_eq_getElem lx) (by rw[List.getElem?_eq_getElem hi,e])
def UR (H:Hp)(y:V):Prop:=∃a t,y=.ref a∧Jf t∧H a=some (.tup [.int t.1,.int t.2.1,.int t.2.2])
theorem UR.upd {H:Hp}{y:V}{l:Addr}{us us':List V}(h:UR H y)(hl:H l=some (.lst us)):UR (upd H l (.lst us')) y:=by
 obtain⟨a,t,rfl,ot,e⟩:=h
 exact⟨a,t,rfl,ot,by rw[Ai (fun z=>by rw[z,hl] at e;cases e)];exact e⟩
def Ti (H:Hp)(e:Key×V):Prop:=∃z p b kd t,e=(.inr z,.ref p)∧DH (.str z)=true∧H p=some (.tup [.int kd,.ref b])∧(1≤kd∧kd≤2)∧Jf t∧H b=some (.tup [.int t.1,.int t.2.1,.int t.2.2])
theorem Ti.keep {H H':Hp}{e:Key×V}(h:Ti H e)(k:∀c xs,H c=some (.tup xs)→H' c=some (.tup xs)):Ti H' e:=by
 obtain⟨z,p,b,kd,t,e1,e2,e3,e4,e5,e6⟩:=h
 exact⟨z,p,b,kd,t,e1,e2,k _ _ e3,e4,e5,k _ _ e6⟩
theorem UQ {kvs:List (Key×V)}{k:Key}{v:V}{e:Key×V}(h:e∈putK kvs k v):e∈kvs∨e=(k,v):=by
 unfold putK at h
 split at h
 ·obtain⟨x,hx,rfl⟩:=List.mem_map.mp h
  by_cases c:x.1=k
  ·rw[if_pos c,c];exact .inr rfl
  ·rw[if_neg c];exact .inl hx
 ·rcases List.mem_append.mp h with h|h
  ·exact .inl h
  ·exact .inr (List.mem_singleton.mp h)
theorem Rj {kvs:List (Key×V)}{k:Key}{v:V}(h:(kvs.map (·.1)).Nodup):((putK kvs k v).map (·.1)).Nodup:=by
 unfold putK
 split
 ·rw[List.map_map]
  have e:(kvs.map ((fun x:Key×V=>x.1)∘fun kv=>if kv.1=k then(kv.1,v) else kv))=kvs.map (·.1):=List.map_congr_left fun x _=>by
   show(if x.1=k then(x.1,v) else x).1=x.1
   split<;>rfl
  rw[e];exact h
 ·rename_i c
  rw[List.map_append,List.nodup_append]
  refine⟨h,by simp,fun a ha b hb=>?_⟩
  rw[List.map_cons,List.map_nil,List.mem_singleton] at hb
  subst hb
  intro z
  subst z
  obtain⟨x,hx,e⟩:=List.mem_map.mp ha
  exact c (List.any_eq_true.mpr ⟨x,hx,decide_eq_true e⟩)
theorem Wb {kvs:List (Key×V)}{k:Key}(h:k∈kvs.map (·.1)):∃v,CL kvs k=some v∧(k,v)∈kvs:=by
 obtain⟨x,hx,e⟩:=List.mem_map.mp h
 have a:(CL kvs k).isSome=true:=by
  rw[←Kg]
  exact List.any_eq_true.mpr ⟨x,hx,decide_eq_true e⟩
 obtain⟨v,hv⟩:=Option.isSome_iff_exists.mp a
 refine⟨v,hv,?_⟩
 unfold CL at hv
 cases z:kvs.find? fun kv=>decide (kv.1=k) with
 |none=>rw[z] at hv;cases hv
 |some y=>
  rw[z] at hv
  injection hv with hv
  have h1:=List.find?_some z
  have h2:=List.mem_of_find?_eq_some z
  have e1:y.1=k:=of_decide_eq_true h1
  rw[←e1,←hv]
  exact h2
theorem LX {H:Hp}:∀(kvs:List (Key×V)),(∀e∈kvs,Ti H e)→∃ss:List Str,kvs.map (·.1)=ss.map Sum.inr
 |[],_=>⟨[],rfl⟩
 |e::r,h=>by
  obtain⟨z,p,b,kd,t,rfl,_⟩:=h e List.mem_cons_self
  obtain⟨ss,es⟩:=LX r fun x hx=>h x (List.mem_cons_of_mem _ hx)
  exact⟨z::ss,by rw[List.map_cons,es];rfl⟩
def Um (H:Hp)(z y:V):Prop:=∃(x:En) (p b:Addr),z=.str x.nm∧y=.ref p∧Ov x∧H p=some (.tup [.str x.nm,.int x.kd,.ref b])∧H b=some (.tup [.int x.tg.1,.int x.tg.2.1,.int x.tg.2.2])
theorem Um.keep {H H':Hp}{z y:V}(h:Um H z y)(k:∀c xs,H c=some (.tup xs)→H' c=some (.tup xs)):Um H' z y:=by
 obtain⟨x,p,b,e1,e2,e3,e4,e5⟩:=h
 exact⟨x,p,b,e1,e2,e3,k _ _ e4,k _ _ e5⟩
theorem L8 {H:Hp}:∀(ts:List Str) (ys:List V),ys.length=(ts.map V.str).length→(∀(i:Nat) x y,(ts.map V.str)[i]?=some x→ys[i]?=some y→Um H x y)→∃es:List En,es.map (·.nm)=ts∧(∀x∈es,Ov x)∧AD NL H (es.map IV) ys
 |[],[],_,_=>⟨[],rfl,(fun _ h=>nomatch h),rfl⟩
 |[],_::_,h,_=>absurd h (by simp)
 |_::_,[],h,_=>absurd h (by simp)
 |t::ts,y::ys,h,f=>by
  obtain⟨x,p,b,e1,rfl,o,e2,e3⟩:=f 0 _ _ rfl rfl
  obtain⟨es,n,os,r⟩:=L8 ts ys (by simpa using h) fun i x y h1 h2=>f (i+1) x y h1 h2
  injection e1 with e1
  subst e1
  exact⟨x::es,by rw[List.map_cons,n],fun u hu=>(List.mem_cons.mp hu).elim (fun z=>z▸o) (os u),⟨.ref p,ys,rfl,Xg e2 e3,r⟩⟩
theorem LQ:∀(ss:List Str),(ss.map (Sum.inr:Str→Key)).Nodup→ss.Nodup
 |[],_=>List.nodup_nil
 |x::r,h=>by
  rw[List.map_cons,List.nodup_cons] at h
  exact List.nodup_cons.mpr ⟨fun z=>h.1 (List.mem_map.mpr ⟨x,z,rfl⟩),LQ r h.2⟩
def E3 (K:W.Frag):Sp:=fun vs H Q _=>∃(a:Addr) (ns:List Int),vs=[.ref a]∧H a=some (.lst (ns.map V.int))∧24≤ns.length∧(∀x∈ns,0≤x∧x<2147483647)∧∀v b H',Al H H'→Hn b→Rep NL H' (Gh b) v→Q v H'
theorem Ln (T:Txt K mg Ac Aa XC)(F:Fun K "_law_block" "_law_block" CF f fd)(Gs:Def P w K mg base 1 "_law_name" ["_law_number"] (FH K))(FC:Def P w K mg base 1 "_law_tag" ["_law_number"] (GV K))(B4:Def P w K mg base 1 "_law_signs" [] (DD K)):FnOk P w K mg base Dp 2 f fd ["_law_some"] (E3 K):=by
 exists CN
 ·obtain⟨a,ns,rfl,_⟩:=h
  rfl
 obtain⟨a,ns,rfl,ha,ln,nb,q⟩:=h
 have hu:=IA hr
 have nn:∀k:Nat,k<24→0≤ns.getD k 0:=fun k hk=>by
  have hk':k<ns.length:=by omega
  simp only[List.getD,List.getElem?_eq_getElem hk',Option.getD_some]
  exact(nb _ (List.getElem_mem hk')).1
 have p0:=nn 0 (by decide)
 have p1:=nn 1 (by decide)
 have p2:=nn 2 (by decide)
 have A0:He (ns.map V.int) 0=some (.int (ns.getD 0 0)):=M9 (by decide) (by omega)
 have A1:He (ns.map V.int) 1=some (.int (ns.getD 1 0)):=M9 (by decide) (by omega)
 have A2:He (ns.map V.int) 2=some (.int (ns.getD 2 0)):=M9 (by decide) (by omega)
 generalize ns.getD 0 0=r0 at p0 A0
 generalize ns.getD 1 0=r1 at p1 A1
 generalize ns.getD 2 0=r2 at p2 A2
 refine⟨_,(!Af (!AL (!AI B3 (!Am AG (!Ay AY (pv 0) (!Ae) (fun _ _=>rfl)) (!Ae)) (!Ae) (AJ _)) (!Aj (!An (!El (!Ab (!Ae) (!Ab (!Gk PySem.F.plainAttrs_str PySem.F.slot_str_join PySem.F.type_str_join (Mh rfl) (!IW) (!Ab (@Bq _ ["_law_number"] _ _ _ _ _ _ _ _ _ _ rfl (!Dk (!Dg FN (pv 0) (!CD (!Ae)) (!CD (!Am Be (!Ae) (!Am AG (!Ay AY (pv 0) (!Ae) (fun _ _=>rfl)) (!Ae)))))) (by decide +kernel) (fun C s H fp=>⟨(@Az _ _ (0) _ (show(["_law_number"]:List Str).Nodup by decide +kernel) rfl (by trivial) (by trivial)),(!A5),(!Ay Qa (!O5 B4 (by trivial) rfl (by decide)) (!Am AG (pv 0) (!Ae)) (fun _ _=>rfl))⟩) (by intro _;rfl)) (!Ag) (by rfl)) (by rfl) (by rfl) (by rfl) (by rfl) (by rfl)) (!Ag) (by rfl)) (by rfl))))) (!As)) (!Af (!AL (!AI B3 (!Am AG (!Ay AY (pv 0) (!Ae) (fun _ _=>rfl)) (!Ae)) (!Ae) (AJ _)) (!Af (@Ax _ _ (1) _ _ _ _ CN.nd rfl (by trivial) (!Am Be (!Ae) (!Am AG (!Ay AY (pv 0) (!Ae) (fun _ _=>rfl)) (!Ae))) (by rfl) (by trivial)) (!Af (@Ax _ _ (2) _ _ _ _ CN.nd rfl (by trivial) (!AB (Rf rfl) (by rfl) T.b_max Xd (!Ab (!BG Rz (by rfl) T.b_int Uo (!Ab (!C7 Oi (pv 1) (!Ae) (AJ _)) (!Ag) (by rfl)) (by decide) (by decide) (by rfl) (by rfl)) (!Ab (!Am AG (!Ay AY (pv 0) (!Ae) (fun _ _=>rfl)) (!Ae)) (!Ag) (by rfl)) (by rfl)) (by decide) (by decide) (by rfl) (by rfl)) (by rfl) (by trivial)) (!Aj (!An (!El (!Ab (!Ae) (!Ab (pv 1) (!Ab (!BG E8 (by rfl) T.b_tuple Er (!Ab (@Bq _ ["_law_number"] _ _ _ _ _ _ _ _ _ _ rfl (!Dk (!Dg FN (pv 0) (!CD (!Ae)) (!CD (!Am Be (!Ae) (pv 2))))) (by decide +kernel) (fun C s H fp=>⟨(@Az _ _ (0) _ (show(["_law_number"]:List Str).Nodup by decide +kernel) rfl (by trivial) (by trivial)),(!A5),(!AK FC (by trivial) rfl (!Ab (pv 0) (!Ag) (by rfl)) (by decide) (by rfl) (by rfl))⟩) (by intro _;rfl)) (!Ag) (by rfl)) (by decide) (by decide) (by rfl) (by rfl)) (!Ag) (by rfl)) (by rfl)) (by rfl))))))) (!As)) (!Af (@Ax _ _ (3) _ _ _ _ CN.nd rfl (by trivial) (!OA) (by rfl) (by trivial)) (!Af (!CJ PassesOwn.never rfl (!Dk (!Dg FN (pv 0) (!CD (!Ae)) (!CD (!Am Be (!Ae) (!Am AG (!Ay AY (pv 0) (!Ae) (fun _ _=>rfl)) (!Ae)))))) (@Az _ _ (4) _ CN.nd rfl (by trivial) (by trivial)) (!Aj (!D5 hu (pv 3) (!AK Gs (by trivial) rfl (!Ab (pv 4) (!Ag) (by rfl)) (by decide) (by rfl) (by rfl)) (!El (!Ab (!Am Be (!Ae) (!Am AG (!Am Dc (pv 4) (!Ae)) (!Ae))) (!Ab (!AK FC (by trivial) rfl (!Ab (!Am AG (!Am EM (pv 4) (!Ae)) (!Ae)) (!Ag) (by rfl)) (by decide) (by rfl) (by rfl)) (!Ag) (by rfl)) (by rfl))) rfl)) (by intro _;rfl)) (!Aj (!An (!El (!Ab (!Ae) (!Ab (!BG E8 (by rfl) T.b_tuple Er (!Ab (@IF _ ["_law_name_here","_law_entries"] [none,some 3] _ _ _ _ _ _ _ _ _ _ _ rfl (!Dk (!AB (O3 rfl) (by rfl) T.b_sorted Hd (!Ab (pv 3) (!Ag) (by rfl)) (by decide) (by decide) (by rfl) (by rfl))) (by rfl) rfl (by repeat (first|exact trivial|refine⟨rfl,?_⟩)) (by repeat (first|exact trivial|refine⟨fun h=>(by first|exact⟨_,rfl⟩|cases h),?_⟩)) (fun C s H fp=>⟨(@Az _ _ (0) _ (show(["_law_name_here","_law_entries"]:List Str).Nodup by decide +kernel) rfl (by trivial) (by trivial)),(!A5),(!Am (Ra (K:=K) (by rfl)) (!El (!Ab (pv 0) (!Ag) (by rfl))) (!DE hu (pv 1) (pv 0) (fun _ _=>rfl)))⟩) (by intro _;rfl)) (!Ag) (by rfl)) (by decide) (by decide) (by rfl) (by rfl)) (!Ag) (by rfl)) (by rfl))))))))),?_⟩
 refine⟨_,rfl,a,_,_,_,rfl,rfl,AM.of ha,A0,_,_,rfl,rfl,(show(0:Int)<3 by decide),rfl,_,rfl,Cs (fun c=>?_) (fun c=>?_)⟩
 ·refine⟨rfl,_,rfl,2,rfl,_,rfl,a,_,_,_,rfl,rfl,AM.of ha,A1,_,_,rfl,rfl,(show(0:Int)<8 by decide),_,_,rfl,rfl,_,rfl,a,_,rfl,AM.of ha,fun p hp=>?_⟩
  rw[MT ns (by decide) (by omega)]
  have s1:=Ak hp (.lst (((ns.drop (2:Int).toNat).take ((3+r1%8).toNat-(2:Int).toNat)).map V.int))
  have lm:((ns.drop (2:Int).toNat).take ((3+r1%8).toNat-(2:Int).toNat)).length=(1+r1%8).toNat:=by
   rw[List.length_take,List.length_drop]
   show min ((3+r1%8).toNat-2) (ns.length-2)=_
   omega
  refine⟨p,rfl,⟨_,AM.of Ad⟩,Iv (xs:=((ns.drop (2:Int).toNat).take ((3+r1%8).toNat-(2:Int).toNat)).map V.int) (fun _ y _=>∃c,y=.str ⟨#[c]⟩∧c∈Do SG) (fun _ _ _ _ h _=>h) (fun _ _ _ _ _ _ h _ _=>h) (Fh (AM.of Ad)) (by rw[List.length_map,lm];omega) (fun x H' R hx s' hR=>?_) fun l H7 ys n7 s7 h7 l7 hy=>?_⟩
  ·obtain⟨k,hk,rfl⟩:=List.mem_map.mp hx
   obtain⟨c,hc,mc⟩:=Sl (z:=SG) (i:=k%94) (Int.emod_nonneg _ (by decide)) (by rw[Uy];exact Int.emod_lt_of_pos _ (by decide))
   exact⟨rfl,_,rfl,_,_,rfl,rfl,(show(0:Int)<94 by decide),SG,_,c,rfl,rfl,small (by show SG.length≤1000000;decide +kernel),hc,hR _ H' (Al.refl _) (fun _ z=>nomatch z) ⟨c,rfl,mc⟩⟩
  obtain⟨cs,rfl,hcs⟩:=MB (T:=Do SG) ys (Qy (n:=0) l7 fun i x y h1 h2=>(hy i x y h1 h2).1)
  have lc:cs.length=(1+r1%8).toNat:=by
   rw[List.length_map,List.length_map,List.length_map,lm] at l7
   exact l7
  have ec:=Ju cs
  have el:(PySem.Txt.join Fz (cs.map fun c=>(⟨#[c]⟩:Str))).length=(1+r1%8).toNat:=by rw[←BJ,ec,lc]
  refine⟨l,Fz,_,rfl,rfl,AM.of h7,Ic cs (by omega),Jn,fun p2 hp2=>?_⟩
  refine q _ (.piece (PySem.Txt.join Fz (cs.map fun c=>(⟨#[c]⟩:Str)))) _ ((s1.trans s7).trans (Ak hp2 _)) ?_ ⟨p2,_,rfl,Ad,_,_,rfl,rfl,_,_,rfl,rfl,rfl⟩
  show(decide ((1:Int)≤((PySem.Txt.join Fz (cs.map fun c=>(⟨#[c]⟩:Str))).length:Int))&&decide (((PySem.Txt.join Fz (cs.map fun c=>(⟨#[c]⟩:Str))).length:Int)≤8)&&Bn SG (PySem.Txt.join Fz (cs.map fun c=>(⟨#[c]⟩:Str))))=true
  unfold Bn
  rw[el,ec,Bool.and_eq_true,Bool.and_eq_true,decide_eq_true_eq,decide_eq_true_eq,List.all_eq_true]
  exact⟨⟨by omega,by omega⟩,fun c hc=>decide_eq_true (hcs c hc)⟩
 refine⟨_,rfl,a,_,_,_,rfl,rfl,AM.of ha,A0,_,_,rfl,rfl,(show(0:Int)<3 by decide),rfl,_,rfl,Cs (fun c=>?_) (fun c=>?_)⟩
 ·refine⟨_,rfl,a,_,_,_,rfl,rfl,AM.of ha,A1,_,_,rfl,rfl,(show(0:Int)<9 by decide),_,_,rfl,rfl,?_⟩
  refine⟨_,rfl,_,_,rfl,rfl,.inr ⟨_,rfl,_,rfl,a,_,_,_,rfl,rfl,AM.of ha,A2,_,_,rfl,rfl,(show(0:Int)<9 by decide),_,_,rfl,?_⟩⟩
  dsimp only
  obtain⟨m,hm,m8,m1⟩:∃m:Nat,(if r2%9>(if decide (1<1+r1%9)=true then(1:Int) else 0) then r2%9 else(if decide (1<1+r1%9)=true then(1:Int) else 0))=(m:Int)∧m≤8∧(1<1+r1%9→1≤m):=by
   by_cases c1:1<1+r1%9
   ·rw[decide_eq_true c1,if_pos rfl]
    by_cases c2:r2%9>1
    ·rw[if_pos c2];exact⟨(r2%9).toNat,by omega,by omega,by omega⟩
    ·rw[if_neg c2];exact⟨1,rfl,by decide,fun _=>Nat.le_refl _⟩
   ·rw[decide_eq_false c1,if_neg Bool.false_ne_true]
    by_cases c2:r2%9>0
    ·rw[if_pos c2];exact⟨(r2%9).toNat,by omega,by omega,by omega⟩
    ·rw[if_neg c2];exact⟨0,rfl,by decide,fun z=>absurd z c1⟩
  rw[hm]
  refine⟨_,rfl,_,rfl,3,rfl,_,rfl,_,_,rfl,rfl,_,rfl,a,_,rfl,AM.of ha,fun p hp=>?_⟩
  rw[MT ns (by decide) (by omega)]
  have s1:=Ak hp (.lst (((ns.drop (3:Int).toNat).take ((3+(m:Int)).toNat-(3:Int).toNat)).map V.int))
  have lm:((ns.drop (3:Int).toNat).take ((3+(m:Int)).toNat-(3:Int).toNat)).length=m:=by
   rw[List.length_take,List.length_drop]
   show min ((3+(m:Int)).toNat-3) (ns.length-3)=_
   omega
  refine⟨p,rfl,⟨_,AM.of Ad⟩,Iv (xs:=((ns.drop (3:Int).toNat).take ((3+(m:Int)).toNat-(3:Int).toNat)).map V.int) (fun _ y H=>UR H y) (fun _ y _ _ h s=>let⟨a,t,e1,e2,e3⟩:=h;⟨a,t,e1,e2,s.get e3⟩) (fun _ _ _ _ _ _ h hl _=>h.upd hl) (Fh (AM.of Ad)) (by rw[List.length_map,lm];omega) (fun x H' R hx s' hR=>?_) fun l H7 ys n7 s7 h7 l7 hy=>?_⟩
  ·obtain⟨k,hk,rfl⟩:=List.mem_map.mp hx
   have bk:=nb k (List.mem_of_mem_drop (List.mem_of_mem_take hk))
   exact⟨_,rfl,k,rfl,bk.1,bk.2,fun b t H3 s3 nb3 ot hb=>hR _ H3 s3 (fun x e=>by cases e;exact nb3) ⟨b,t,rfl,ot,hb⟩⟩
  obtain⟨ts,lt,ot,rt⟩:=K6 ys (Qy (n:=0) l7 fun i x y h1 h2=>(hy i x y h1 h2).1)
  rw[List.length_map,lm] at l7
  refine⟨l,ys,rfl,.inl ⟨AM.of h7,fun p2 hp2=>?_⟩⟩
  have s2:=Ak hp2 (.tup ys)
  refine⟨Rl,fun p3 hp3=>?_⟩
  have s3:=Ak hp3 (.tup [V.int 1,V.int (1+r1%9),V.ref p2])
  refine q _ (.row (1+r1%9) ts) _ (((s1.trans s7).trans s2).trans s3) ⟨⟨by omega,by omega⟩,by omega,fun z y=>?_,ot⟩ ⟨p3,_,rfl,Ad,_,_,rfl,rfl,_,_,rfl,rfl,_,_,rfl,⟨p2,ys,rfl,s3.get Ad,AD.same (s2.trans s3) _ _ rt⟩,rfl⟩
  rw[y] at lt
  have:=m1 z
  simp at lt
  omega
 refine fun d hd=>?_
 have sd:=Ak hd (.dK [])
 refine⟨_,rfl,2,rfl,_,rfl,a,_,_,_,rfl,rfl,AM.of (sd.get ha),A1,_,_,rfl,rfl,(show(0:Int)<17 by decide),_,_,rfl,rfl,_,rfl,a,_,rfl,AM.of (sd.get ha),fun p hp=>?_⟩
 rw[MT ns (by decide) (by omega)]
 have lm:((ns.drop (2:Int).toNat).take ((2+r1%17).toNat-(2:Int).toNat)).length≤16:=by
  rw[List.length_take,List.length_drop]
  show min ((2+r1%17).toNat-2) (ns.length-2)≤_
  omega
 have bm:∀k∈(ns.drop (2:Int).toNat).take ((2+r1%17).toNat-(2:Int).toNat),0≤k∧k<2147483647:=fun k hk=>nb k (List.mem_of_mem_drop (List.mem_of_mem_take hk))
 generalize (ns.drop (2:Int).toNat).take ((2+r1%17).toNat-(2:Int).toNat)=ms at lm bm
 have sp:=Ak hp (.lst (ms.map V.int))
 have pd:p≠d:=fun z=>by rw[z] at hp;rw[Ad] at hp;cases hp
 refine⟨p,rfl,⟨_,AM.of Ad⟩,Fk (K:=K) (a:=p) (xs:=ms.map V.int) (fun i σ H2=>∃v4 kvs,σ=[some (.ref a),none,none,some (.ref d),v4]∧Al H H2∧H2 d=some (.dK kvs)∧H2 p=some (.lst (ms.map V.int))∧kvs.length≤i∧(kvs.map (·.1)).Nodup∧∀e∈kvs,Ti H2 e) ⟨none,[],rfl,sd.trans sp,sp.get Ad,Ad,Nat.le_refl _,List.nodup_nil,fun _ h=>nomatch h⟩ (fun i σ H2 _ ⟨_,_,_,_,_,h,_⟩=>AM.of h) ?_ ?_⟩
 ·rintro i y σ H2 hi ⟨v4,kvs,rfl,s2,hd2,hp2,lk,nk,ek⟩
  obtain⟨n,rfl,hn⟩:=ints_get hi
  have bn:=bm n (List.mem_of_getElem? hn)
  have il:=(List.getElem?_eq_some_iff.mp hn).1
  refine⟨_,rfl,_,_,rfl,rfl,⟨by decide,by decide⟩,_,_,rfl,rfl,(show(0:Int)<2 by decide),_,_,rfl,rfl,_,rfl,_,_,rfl,rfl,.inr ⟨by decide,by decide⟩,_,_,rfl,rfl,(show(0:Int)<2147483647 by decide),_,rfl,by omega,by omega,fun b t H3 s3 nb3 ot hb=>?_⟩
  refine⟨Jn,fun pp hpp=>?_⟩
  have s4:=Ak hpp (.tup [V.int (1+n/7%2),V.ref b])
  refine⟨_,rfl,_,rfl,n,rfl,bn.1,fun z H5 s5 nz=>?_⟩
  have s25:=(s3.trans s4).trans s5
  have hd5:=s25.get hd2
  refine⟨d,_,rfl,HQ.k (k:=Sum.inr z) hd5 (by rw[PySem.sizeLine_eq];omega),?_⟩
  have keepT:∀c xs,H5 c=some (.tup xs)→(upd H5 d (.dK (putK kvs (Sum.inr z) (V.ref pp)))) c=some (.tup xs):=fun c xs e=>by rw[Ai (fun y=>by rw[y,hd5] at e;cases e)];exact e
  refine⟨_,_,rfl,Br (s2.trans s25) hd _,Ad,?_,?_,Rj nk,fun e he=>?_⟩
  ·rw[Ai pd];exact s25.get hp2
  ·exact Nat.le_trans (GM ..) (by omega)
  ·rcases UQ he with he|rfl
   ·exact(ek e he).keep fun c xs h=>keepT c xs (s25.get h)
   ·exact⟨z,pp,b,1+n/7%2,t,rfl,nz,keepT _ _ (s5.get Ad),by omega,ot,keepT _ _ (s5.get (s4.get hb))⟩
 rintro σ H2 ⟨v4,kvs,rfl,s2,hd2,hp2,lk,nk,ek⟩
 obtain⟨ss,es⟩:=LX kvs ek
 have lss:ss.length≤16:=by
  have:=congrArg List.length es
  rw[List.length_map,List.length_map] at this
  rw[List.length_map] at lk
  omega
 refine⟨_,rfl,d,kvs,ss,rfl,hd2,es,by omega,fun ts p2 pt st hp2'=>?_⟩
 have s3:=Ak hp2' (.lst (ts.map V.str))
 have hd3:=s3.get hd2
 have lts:=pt.length_eq
 refine⟨p2,rfl,⟨_,AM.of Ad⟩,Iv (xs:=ts.map V.str) (fun x y H=>Um H x y) (fun _ y _ _ h s=>h.keep fun c xs e=>s.get e) (fun _ _ _ _ _ _ h hl _=>h.keep fun c xs e=>by rw[Ai (fun z=>by rw[z,hl] at e;cases e)];exact e) (Fh (AM.of Ad)) (by rw[List.length_map];omega) (fun x H' R hx s' hR=>?_) fun l H7 ys n7 s7 h7 l7 hy=>?_⟩
 ·obtain⟨z,hz,rfl⟩:=List.mem_map.mp hx
  obtain⟨v,hv,mv⟩:=Wb (kvs:=kvs) (k:=Sum.inr z) (by rw[es];exact List.mem_map.mpr ⟨z,pt.mem_iff.mp hz,rfl⟩)
  obtain⟨z',p',b,kd,t,e1,e2,e3,e4,e5,e6⟩:=ek _ mv
  cases e1
  refine⟨_,rfl,RS,fun p1 hp1=>?_⟩
  have t1:=Ak hp1 (.tup [V.str z])
  have dg:=Dl.k (k:=Sum.inr z) (t1.get (s'.get hd3))
  rw[hv] at dg
  have u:=(s3.trans s').trans t1
  refine⟨_,rfl,_,rfl,d,_,rfl,dg,p1,p',_,_,rfl,rfl,AW.of Ad,AW.of (u.get e3),small (by show 1+2≤1000000;decide),(fun z=>nomatch z),(fun _ z=>nomatch z),fun _ _ p3 hp3=>?_⟩
  have t2:=Ak hp3 (.tup [V.str z,V.int kd,V.ref b])
  exact hR _ _ (t1.trans t2) (fun x e=>by cases e;exact t1.free hp3) ⟨⟨z,kd,t⟩,p3,b,rfl,rfl,⟨e2,e4,e5⟩,Ad,t2.get (u.get e6)⟩
 obtain⟨es2,nm,oe,re⟩:=L8 ts ys l7 fun i x y h1 h2=>(hy i x y h1 h2).1
 refine⟨l,ys,rfl,.inl ⟨AM.of h7,fun p3 hp3=>?_⟩⟩
 have s4:=Ak hp3 (.tup ys)
 refine⟨Jn,fun p4 hp4=>?_⟩
 have s5:=Ak hp4 (.tup [V.int 2,V.ref p3])
 have nss:ss.Nodup:=by
  rw[es] at nk
  exact LQ ss nk
 refine q _ (.folder es2) _ ((((s2.trans s3).trans s7).trans s4).trans s5) ⟨?_,oe,by rw[nm];exact st,by rw[nm];exact pt.nodup_iff.mpr nss⟩ ⟨p4,_,rfl,Ad,_,_,rfl,rfl,_,_,rfl,⟨p3,ys,rfl,s5.get Ad,AD.same (s4.trans s5) _ _ re⟩,rfl⟩
 have:=congrArg List.length nm
 rw[List.length_map] at this
 omega
def FF (K:W.Frag):Sp:=fun vs H Q _=>∃v b,vs=[v]∧Rep NL H (Gh b) v∧Hn b∧∀l H',Al H H'→H l=none→H' l=some (.lst ((told b).map V.int))→Q (.ref l) H'
theorem MS (T:Txt K mg Ac Aa XC)(F:Fun K "_law_told" "_law_told" C1 f fd)(B4:Def P w K mg base 1 "_law_signs" [] (DD K)):FnOk P w K mg base Dp 2 f fd ["_law_block_here"] (FF K):=by
 exists Cy
 ·obtain⟨v,b,rfl,_⟩:=h
  rfl
 obtain⟨v,b,rfl,hv,ok,q⟩:=h
 refine⟨_,(!Af (!AL (!AI B3 (!Ay AF (pv 0) (!Ae) (fun _ _=>rfl)) (!Ae) (AJ _)) (!Aj (!An (@Bq _ ["_law_sign"] _ _ _ _ _ _ _ _ _ _ rfl (!HR (!Ay AF (pv 0) (!Ae) (fun _ _=>rfl))) (by decide +kernel) (fun C s H fp=>⟨(@Az _ _ (0) _ (show(["_law_sign"]:List Str).Nodup by decide +kernel) rfl (by trivial) (by trivial)),(!A5),(@Tx _ (K) _ _ _ _ _ _ _ _ _ _ _ rfl PySem.F.plainAttrs_str PySem.F.slot_str_index PySem.F.type_str_index (KS rfl) (!O5 B4 (by trivial) rfl (by decide)) (!Ab (pv 0) (!Ag) (by rfl)) (by rfl) (by rfl) (by rfl) (by rfl) (by rfl))⟩) (by intro _;rfl)))) (!As)) (!Af (!AL (!AI B3 (!Ay AF (pv 0) (!Ae) (fun _ _=>rfl)) (!Ae) (AJ _)) (!Aj (!An (!Am FT (!BS (!Ab (!Ay AF (pv 0) (!Ae) (fun _ _=>rfl)) (!Ag) (by rfl))) (@Bq _ ["_law_tag_here"] _ _ _ _ _ _ _ _ _ _ rfl (!Ek (!Ay AF (pv 0) (!Ae) (fun _ _=>rfl))) (by decide +kernel) (fun C s H fp=>⟨(@Az _ _ (0) _ (show(["_law_tag_here"]:List Str).Nodup by decide +kernel) rfl (by trivial) (by trivial)),(!A5),(!Ay (QL (K:=K) (by rfl)) (pv 0) (!Ae) (fun _ _=>rfl))⟩) (by intro _;rfl))))) (!As)) (!Af (@Ax _ _ (1) _ _ _ _ Cy.nd rfl (by trivial) (!BS (!Ag)) (by rfl) (by trivial)) (!Af (!CJ PassesOwn.never rfl (!Ek (!Ay AF (pv 0) (!Ae) (fun _ _=>rfl))) (!KE rfl (!By (@Az _ _ (2) _ Cy.nd rfl (by trivial) (by trivial)) (!By (@Az _ _ (3) _ Cy.nd rfl (by trivial) (by trivial)) (!By (@Az _ _ (4) _ Cy.nd rfl (by trivial) (by trivial)) (!G7) (by rfl)) (by rfl)) (by rfl)) (by rfl) (by rfl)) (!Aj (@Ax _ _ (1) _ _ _ _ Cy.nd rfl (by trivial) (!Am FT (!Am FT (pv 1) (@Bq _ ["_law_sign"] _ _ _ _ _ _ _ _ _ _ rfl (!HR (pv 2)) (by decide +kernel) (fun C s H fp=>⟨(@Az _ _ (0) _ (show(["_law_sign"]:List Str).Nodup by decide +kernel) rfl (by trivial) (by trivial)),(!A5),(@Tx _ (K) _ _ _ _ _ _ _ _ _ _ _ rfl PySem.F.plainAttrs_str PySem.F.slot_str_index PySem.F.type_str_index (KS rfl) (!O5 B4 (by trivial) rfl (by decide)) (!Ab (pv 0) (!Ag) (by rfl)) (by rfl) (by rfl) (by rfl) (by rfl) (by rfl))⟩) (by intro _;rfl))) (!BS (!Ab (pv 3) (!Ab (!Ay AF (pv 4) (!Ae) (fun _ _=>rfl)) (!Ag) (by rfl)) (by rfl)))) (by rfl) (by trivial))) (by intro _;rfl)) (!Aj (!An (pv 1))))))),?_⟩
 cases b with
 |piece z=>
  obtain⟨a,rfl,e⟩:=Jc hv
  have h':(decide ((1:Int)≤(z.length:Int))&&decide ((z.length:Int)≤8)&&Bn SG z)=true:=ok
  simp only[Bool.and_eq_true,decide_eq_true_eq] at h'
  have zs:∀c∈Do z,c∈Do SG:=fun c hc=>by simpa using List.all_eq_true.mp h'.2 c hc
  refine⟨_,rfl,a,_,_,_,rfl,rfl,AW.of e,rfl,rfl,_,rfl,AQ rfl ?_⟩
  refine⟨_,rfl,a,_,_,_,rfl,rfl,AW.of e,rfl,z,rfl,?_⟩
  refine comp_map (fun v=>match v with | .str y=>.int (PySem.Txt.find SG y)|_=>.non) EE (by rw[List.length_map];exact Nat.le_trans (Nat.le_of_eq (BJ z)) (by omega)) (fun x H' R hx s' hR=>?_) fun l H7 n7 s7 h7=>?_
  ·obtain⟨u,hu,rfl⟩:=List.mem_map.mp hx
   exact⟨rfl,rfl,_,rfl,_,_,rfl,rfl,(GW (zs u hu)).1,hR H' (Al.refl _)⟩
  rw[idx_map] at h7
  exact q l H7 s7 n7 h7
 |row lv ts=>
  obtain⟨a,b,us,rfl,e,e2,r⟩:=Mn hv
  have lu:=AD.len _ _ r
  rw[List.length_map] at lu
  have l8:=ok.2.1
  refine⟨_,rfl,a,_,_,_,rfl,rfl,AW.of e,rfl,rfl,_,rfl,AS rfl ?_⟩
  refine⟨_,rfl,a,_,_,_,rfl,rfl,AW.of e,rfl,rfl,_,rfl,AQ rfl ?_⟩
  refine⟨_,rfl,a,_,_,_,rfl,rfl,AW.of e,rfl,RS,fun p1 hp1=>?_⟩
  have s1:=Ak hp1 (.lst [V.int lv])
  have e2':=s1.get e2
  have r':=AD.same s1 _ _ r
  refine⟨_,rfl,a,_,_,_,rfl,rfl,AW.of (s1.get e),rfl,b,rfl,⟨_,AW.of e2'⟩,comp_map (fun v=>match v with | .ref x=>(match(upd H p1 (.lst [V.int lv])) x with|some (.tup [_,_,y])=>y|_=>.non)|_=>.non) (Es e2') (by omega) (fun x H' R hx s' hR=>?_) fun l H7 n7 s7 h7=>?_⟩
  ·obtain⟨t,ht,rt⟩:=QA r' hx
   obtain⟨c,rfl,ec⟩:=M3 rt
   have:=hR H' (Al.refl _)
   simp only[ec] at this
   exact⟨_,rfl,c,_,_,_,rfl,rfl,AW.of (s'.get ec),rfl,this⟩
  rw[Ki r'] at h7
  refine⟨p1,l,_,_,rfl,rfl,AM.of (s7.get Ad),AM.of h7,small (by rw[List.length_map,List.length_map];show 1+ts.length≤1000000;omega),fun p hp=>?_⟩
  exact q p _ ((s1.trans s7).trans (Ak hp _)) ((s1.trans s7).free hp) Ad
 |folder es=>
  obtain⟨a,b,us,rfl,e,e2,r⟩:=HN hv
  have lu:=AD.len _ _ r
  rw[List.length_map] at lu
  obtain⟨o1,o2,_⟩:=ok
  refine⟨_,rfl,a,_,_,_,rfl,rfl,AW.of e,rfl,rfl,_,rfl,AS rfl ?_⟩
  refine⟨_,rfl,a,_,_,_,rfl,rfl,AW.of e,rfl,rfl,_,rfl,AS rfl ?_⟩
  refine⟨Sm,fun g hg=>?_⟩
  have sg:=Ak hg (.lst [])
  refine⟨_,rfl,a,_,_,_,rfl,rfl,AW.of (sg.get e),rfl,b,rfl,⟨_,AW.of (sg.get e2)⟩,Iw (K:=K) (a:=b) (xs:=us) (fun i σ H2=>∃g2 v2 v3 v4,σ=[some (.ref a),some (.ref g2),v2,v3,v4]∧Al H H2∧H g2=none∧H2 g2=some (.lst (((es.take i).flatMap CH).map V.int))) ⟨g,none,none,none,rfl,sg,hg,Ad⟩ (fun i σ H2 _ ⟨_,_,_,_,_,s2,_⟩=>AW.of (s2.get e2)) ?_ ?_⟩
  ·rintro i y σ H2 hi ⟨g2,v2,v3,v4,rfl,s2,ng2,hg2⟩
   obtain⟨t,ht,ry⟩:=AD.get r hi
   rw[List.getElem?_map] at ht
   cases z:es[i]? with
   |none=>rw[z] at ht;cases ht
   |some x=>
    rw[z] at ht
    cases ht
    obtain⟨c,d,rfl,ec,ed⟩:=Ta ry
    have ox:=o2 x (List.mem_of_getElem? z)
    obtain⟨n1,n2,_,n4⟩:=Et ox.1
    have tl:((es.take i).flatMap CH).length≤160:=by
     have:=N6 (es:=es.take i) fun y hy=>Te (o2 y (List.mem_of_mem_take hy))
     rw[List.length_take] at this
     omega
    refine⟨c,_,rfl,AW.of (s2.get ec),rfl,_,_,rfl,_,_,rfl,_,_,rfl,rfl,?_⟩
    refine⟨_,rfl,_,rfl,x.nm,rfl,?_⟩
    refine comp_map (fun v=>match v with | .str y=>.int (PySem.Txt.find SG y)|_=>.non) EE (by rw[List.length_map];exact Nat.le_trans (Nat.le_of_eq (BJ x.nm)) (by omega)) (fun u H' R hu s' hR=>?_) fun l H7 n7 s7 h7=>?_
    ·obtain⟨k,hk,rfl⟩:=List.mem_map.mp hu
     exact⟨rfl,rfl,_,rfl,_,_,rfl,rfl,(GW (n4 k hk)).1,hR H' (Al.refl _)⟩
    rw[idx_map] at h7
    refine⟨g2,l,_,_,rfl,rfl,AM.of (s7.get hg2),AM.of h7,small (by rw[List.length_map,List.length_map,List.length_map,BJ];omega),fun p1 hp1=>?_⟩
    have t8:=Ak hp1 (.lst (((es.take i).flatMap CH).map V.int++((Do x.nm).map idx).map V.int))
    have t78:=(s2.trans s7).trans t8
    refine⟨_,rfl,_,rfl,d,_,_,_,rfl,rfl,AW.of (t78.get ed),rfl,Jn,fun p2 hp2=>?_⟩
    have t9:=Ak hp2 (.lst [V.int x.kd,V.int x.tg.2.2])
    refine⟨p1,p2,_,_,rfl,rfl,AM.of (t9.get Ad),AM.of Ad,small (by rw[List.length_append,List.length_map,List.length_map,List.length_map,BJ];show _+_+2≤_;omega),fun p3 hp3=>?_⟩
    refine⟨p3,_,_,_,rfl,(t78.trans t9).trans (Ak hp3 _),(t78.trans t9).free hp3,?_⟩
    rw[Ad,LS z,List.map_append]
    unfold CH
    rw[List.map_append,List.append_assoc]
    rfl
  ·rintro σ H2 ⟨g2,v2,v3,v4,rfl,s2,ng2,hg2⟩
   rw[lu,List.take_of_length_le (Nat.le_refl _)] at hg2
   exact⟨_,rfl,q g2 H2 s2 ng2 hg2⟩
def GD (K:W.Frag):Sp:=fun vs H Q _=>∃v b,vs=[v]∧Rep NL H (Gh b) v∧Hn b∧∀H',Al H H'→Q (.int (DJ b)) H'
theorem Os (T:Txt K mg Ac Aa XC)(F:Fun K "_law_sum" "_law_sum" Dt f fd)(Gv:Def P w K mg base 2 "_law_told" ["_law_block_here"] (FF K)):FnOk P w K mg base Dp 3 f fd ["_law_block_here"] (GD K):=by
 exists EI
 ·obtain⟨v,b,rfl,_⟩:=h
  rfl
 obtain⟨v,b,rfl,hv,ok,q⟩:=h
 obtain⟨a,xs,rfl,e⟩:=Ih hv
 refine⟨_,(!Af (@Ax _ _ (1) _ _ _ _ EI.nd rfl (by trivial) (!Am Be (!Ae) (!Ay AF (pv 0) (!Ae) (fun _ _=>rfl))) (by rfl) (by trivial)) (!Af (!CJ PassesOwn.never rfl (!Dk (!AK Gv (by trivial) rfl (!Ab (pv 0) (!Ag) (by rfl)) (by decide) (by rfl) (by rfl))) (@Az _ _ (2) _ EI.nd rfl (by trivial) (by trivial)) (!Aj (@Ax _ _ (1) _ _ _ _ EI.nd rfl (by trivial) (!Am AG (!Am Be (!Am Be (!Am EM (!Ae) (pv 1)) (pv 2)) (!Ae)) (!Ae)) (by rfl) (by trivial))) (by intro _;rfl)) (!Aj (!An (pv 1))))),?_⟩
 refine⟨_,rfl,a,_,_,_,rfl,rfl,AW.of e,OR,_,_,rfl,rfl,?_⟩
 refine⟨_,rfl,_,b,rfl,hv,ok,fun l H1 s1 n1 h1=>?_⟩
 refine⟨l,rfl,⟨_,AM.of h1⟩,Fk (K:=K) (a:=l) (xs:=(told b).map V.int) (fun i σ H2=>∃v2,σ=[some (.ref a),some (.int (((told b).take i).foldl (fun t n=>(31*t+n+1)%997) (1+kindB b))),v2]∧Al H1 H2) ⟨none,rfl,Al.refl _⟩ (fun i σ H2 _ ⟨_,_,s2⟩=>AM.of (s2.get h1)) ?_ ?_⟩
 ·rintro i y σ H2 hi ⟨v2,rfl,s2⟩
  obtain⟨n,rfl,hn⟩:=ints_get hi
  refine⟨_,rfl,_,_,rfl,rfl,.inl ⟨by decide,by decide⟩,_,rfl,_,_,rfl,rfl,_,_,rfl,rfl,_,_,rfl,rfl,(show(0:Int)<997 by decide),?_⟩
  refine⟨some (.int n),?_,s2⟩
  rw[Lx hn]
  rfl
 ·rintro σ H2 ⟨v2,rfl,s2⟩
  rw[List.length_map,List.take_length]
  exact⟨_,rfl,q H2 (s1.trans s2)⟩
end
open M06
section
variable {P:Program}{w:World}{K:W.Frag}{mg:Str→Option Value}{base:Heap}{f Ac Aa:Addr}{XC:Nat→Addr}{fd:FuncData}
theorem Mr (T:Txt K mg Ac Aa XC)(F:Fun K "__init__" "Lost.__init__" CW f fd):FnOk P w K mg base Dp 1 f fd ["self","number"] (SX (XC 2) "number"):=by
 exists Mx
 ·obtain⟨e,y,rfl,_⟩:=h
  rfl
 obtain⟨e,y,rfl,he,q⟩:=h
 refine⟨_,(!Aj (!Vs (pv 0) (pv 1) rfl)),?_⟩
 exact⟨_,rfl,_,rfl,e,XC 2,rfl,he,T.i_Lost,T.f_Lost,q⟩
def Ca (K:W.Frag)(C:Addr):Sp:=fun vs H Q _=>∃p ds bs n lf z,vs=[.ref p,.int z]∧Cp C H p ds bs n lf∧0<bs.length∧∀a,H a=none→Q (.ref a) (upd H a (.tup [.int (z%(bs.length:Int)),.int ((z+1)%(bs.length:Int))]))
theorem JS (T:Txt K mg Ac Aa XC)(F:Fun K "twins" "Boards.twins" BQ f fd)(A8:DI P w K mg base 1 Aa "many" ["self"] (Cq K Aa)):FnOk P w K mg base Dp 2 f fd ["self","number"] (Ca K Aa):=by
 exists JP
 ·obtain⟨p,ds,bs,n,lf,z,rfl,_⟩:=h
  rfl
 obtain⟨p,ds,bs,n,lf,z,rfl,hB,b0,q⟩:=h
 obtain⟨dx,s0,h1,h2,h3,h4⟩:=id hB
 refine⟨_,(!Aj (!An (!El (!Ab (!Am AG (pv 1) (!Hh (pv 0) T.cl_Boards A8 (by trivial) (by rfl))) (!Ab (!Am AG (!Am Be (pv 1) (!Ae)) (!Hh (pv 0) T.cl_Boards A8 (by trivial) (by rfl))) (!Ag) (by rfl)) (by rfl))))),?_⟩
 refine⟨_,rfl,_,rfl,p,dx,_,rfl,h1,rfl,p,ds,bs,n,lf,rfl,hB,_,_,rfl,rfl,(by omega),_,rfl,_,_,rfl,rfl,_,rfl,p,dx,_,rfl,h1,rfl,p,ds,bs,n,lf,rfl,hB,_,_,rfl,rfl,(by omega),Jn,fun a ha=>q a ha⟩
def Bp (t:Tr):List Int:=wT t++[mk (wT t)]
def DV (z y:Int)(b:Bk):Tr:=.tup [.int z,.int y,Gh b]
theorem Uz {b:Bk}(h:Hn b):CT 7 (Gh b)=true:=by
 cases b with
 |piece z=>
  have h':(decide ((1:Int)≤(z.length:Int))&&decide ((z.length:Int)≤8)&&Bn SG z)=true:=h
  simp only[Bool.and_eq_true,decide_eq_true_eq] at h'
  simp only[Gh,CT,List.all_cons,List.all_nil,List.length_cons,List.length_nil,Bool.and_true,Bool.and_eq_true,decide_eq_true_eq,h'.2,and_true]
  omega
 |row lv ts=>
  obtain⟨l,n,_,o⟩:=h
  have d:(ts.map IL).all (CT 5)=true:=List.all_eq_true.mpr fun t ht=>by
   obtain⟨x,hx,rfl⟩:=List.mem_map.mp ht
   exact PL (o x hx) 3
  simp only[Gh,CT,List.all_cons,List.all_nil,List.length_cons,List.length_nil,List.length_map,Bool.and_true,Bool.and_eq_true,decide_eq_true_eq,d,and_true]
  omega
 |folder es=>
  obtain⟨n,o,_⟩:=h
  have d:(es.map IV).all (CT 5)=true:=List.all_eq_true.mpr fun t ht=>by
   obtain⟨x,hx,rfl⟩:=List.mem_map.mp ht
   exact Ts (o x hx) 2
  simp only[Gh,CT,List.all_cons,List.all_nil,List.length_cons,List.length_nil,List.length_map,Bool.and_true,Bool.and_eq_true,decide_eq_true_eq,d,and_true]
  omega
def HL (z y:Int):Prop:=(0≤z∧z≤999999999)∧0≤y∧y≤999999999
theorem D6 {z y:Int}{b:Bk}(n:HL z y)(h:Hn b):CT 8 (DV z y b)=true:=by
 have d:=Uz h
 obtain⟨⟨a1,a2⟩,a3,a4⟩:=n
 show(decide (3≤100)&&((decide (0≤z)&&decide (z≤999999999))&&((decide (0≤y)&&decide (y≤999999999))&&(CT 7 (Gh b)&&true))))=true
 simp only[d,Bool.and_true,Bool.and_eq_true,decide_eq_true_eq]
 omega
theorem J9 {z y:Int}{b:Bk}(h:Hn b):(wT (DV z y b)).length≤600:=by
 have l:=U6 b
 have s:=size_le h
 show(2::(3:Int)::([0,z]++([0,y]++(wT (Gh b)++[])))).length≤600
 simp only[List.length_cons,List.length_append,List.length_nil]
 omega
mutual
theorem VX:∀(n:Nat) (t:Tr),CT n t=true→∀x∈wT t,0≤x∧x≤2147483646
 |0,_,h=>nomatch h
 |n+1,.non,h=>nomatch h
 |n+1,.bl _,h=>nomatch h
 |n+1,.int i,h=>fun x hx=>by
  have h':(decide (0≤i)&&decide (i≤999999999))=true:=h
  simp only[Bool.and_eq_true,decide_eq_true_eq] at h'
  rcases List.mem_cons.mp hx with rfl|hx
  ·omega
  ·rw[List.mem_singleton.mp hx];omega
 |n+1,.str z,h=>fun x hx=>by
  obtain⟨zl,zs⟩:=MC h
  rcases List.mem_cons.mp hx with rfl|hx
  ·omega
  rcases List.mem_cons.mp hx with rfl|hx
  ·omega
  obtain⟨c,hc,rfl⟩:=List.mem_map.mp hx
  have:=GW (zs c hc)
  omega
 |n+1,.tup ts,h=>fun x hx=>by
  have h':(decide (ts.length≤100)&&ts.all (CT n))=true:=h
  rw[Bool.and_eq_true,decide_eq_true_eq] at h'
  rcases List.mem_cons.mp hx with rfl|hx
  ·omega
  rcases List.mem_cons.mp hx with rfl|hx
  ·omega
  exact Sj n ts h'.2 x hx
 |n+1,.lst _,h=>nomatch h
theorem Sj:∀(n:Nat) (ts:List Tr),ts.all (CT n)=true→∀x∈wTs ts,0≤x∧x≤2147483646
 |_,[],_=>fun x hx=>nomatch hx
 |n,t::ts,h=>fun x hx=>by
  rw[List.all_cons,Bool.and_eq_true] at h
  rcases List.mem_append.mp hx with hx|hx
  ·exact VX n t h.1 x hx
  ·exact Sj n ts h.2 x hx
end
theorem GL {t:Tr}{n:Nat}(h:CT n t=true):sound (Bp t)=true:=MG (VX n t h)
theorem HS (t:Tr):(Bp t).dropLast=wT t:=by unfold Bp;rw[List.dropLast_concat]
theorem Fn (t:Tr):(Bp t).length=(wT t).length+1:=by unfold Bp;rw[List.length_append];rfl
theorem Rp {J:It} {xs:List V} {fr:List (Option Nat)} {k:Nat} {tt:TT} {te:TE} {Q:VK} {σ:St} {H:Hp} (p:V→Bool) (hJ:Kz J H xs) (hn:xs.length≤1000000)
  (htest:∀(x:V) (H':Hp) (R:Bool→Hp→Prop),x∈xs→Al H H'→(∀H'',Al H' H''→R (p x) H'')→tt ((stC fr σ).set k (some x)) H' R)
  (helt:∀(x:V) (H':Hp) (R:VK),Al H H'→(∀H'',Al H' H''→R x H'')→te ((stC fr σ).set k (some x)) H' R)
  (hQ:∀l H',H l=none→Al H H'→H' l=some (.lst (xs.filter p))→Q (.ref l) H'):E6 fr (D2 k) tt te σ Q J H:=by
 intro l hl
 refine⟨fun i m σ' H'=>m=xs.length-i∧i≤xs.length∧(∀y,σ'.set k y=(stC fr σ).set k y)∧Al H H'∧H' l=some (.lst ((xs.take i).filter p)),⟨xs.length,by simp,Nat.zero_le _,fun _=>rfl,Ak hl _,Ad⟩,?_⟩
 rintro i m σ' H' ⟨rfl,hi,hσ,hs,hl'⟩
 obtain⟨h1,h2,h3⟩:=hJ H' hs i
 by_cases hlt:i<xs.length
 ·refine .inr ⟨h1 hlt,fun x H'' y=>?_⟩
  obtain⟨rfl,hx⟩:=h2 x H'' y
  have hx:=hx hlt
  have hf:(xs.take i).filter p++[x].filter p=(xs.take (i+1)).filter p:=by rw[List.take_add_one,hx,List.filter_append];rfl
  have hle:((xs.take i).filter p).length≤i:=Nat.le_trans (List.length_filter_le ..) (by rw[List.length_take];omega)
  show tt (σ'.set k (some x)) H'' _
  rw[hσ]
  refine htest x H'' _ (List.mem_of_getElem? hx) hs fun H3 s3=>Cs (fun c=>?_) (fun c=>?_)
  ·refine helt x H3 _ (hs.trans s3) fun H4 s4=>?_
   refine⟨_,s4.get (s3.get hl'),BL (by omega),xs.length-(i+1),by omega,rfl,hlt,fun y=>by rw[List.set_set],Br ((hs.trans s3).trans s4) hl _,?_⟩
   rw[Ad,←hf,List.filter_cons_of_pos c];rfl
  ·refine⟨xs.length-(i+1),by omega,rfl,hlt,fun y=>by rw[List.set_set],hs.trans s3,?_⟩
   rw[s3.get hl',←hf,List.filter_cons_of_neg c,List.filter_nil,List.append_nil]
 ·have e:i=xs.length:=by omega
  subst e
  exact .inl ⟨h3 (Nat.le_refl _),hQ l H' hl hs (by rw[hl',List.take_of_length_le (Nat.le_refl _)])⟩
def BK (bs:List Bz)(z:Int):List Int:=[z%(bs.length:Int),(z+1)%(bs.length:Int)]
theorem CK {bs:List Bz}{z:Int}(h:0<bs.length):∀x∈BK bs z,0≤x∧x<(bs.length:Int):=fun x hx=>by
 have e:x=z%(bs.length:Int)∨x=(z+1)%(bs.length:Int):=by simpa [BK] using hx
 rcases e with rfl|rfl
 ·exact⟨Int.emod_nonneg _ (by omega),Int.emod_lt_of_pos _ (by omega)⟩
 ·exact⟨Int.emod_nonneg _ (by omega),Int.emod_lt_of_pos _ (by omega)⟩
def wr (bs:List Bz)(z:Int)(row:List Int)(l:List Int):List Bz:=l.foldl (fun bs x=>bs.set x.toNat (Fq (bs.getD x.toNat []) z row)) bs
theorem Hw (z:Int)(row:List Int):∀(l:List Int) (bs:List Bz),(wr bs z row l).length=bs.length
 |[],_=>rfl
 |x::l,bs=>by
  show(wr (bs.set _ _) z row l).length=_
  rw[Hw z row l,List.length_set]
theorem Vu (bs:List Bz)(z:Int)(row:List Int)(l:List Int)(x:Int):wr bs z row (l++[x])=(wr bs z row l).set x.toNat (Fq ((wr bs z row l).getD x.toNat []) z row):=by
 unfold wr;rw[List.foldl_append];rfl
theorem OB {z:Int}{row:List Int}{M:Nat}:∀(l:List Int) {bs:List Bz},(∀c∈bs,c.length≤M)→∀c∈wr bs z row l,c.length≤M+l.length:=fun l=>by
 induction l generalizing M with
 |nil=>intro bs h;exact h
 |cons x l ih=>
  intro bs h c hc
  have:∀c∈bs.set x.toNat (Fq (bs.getD x.toNat []) z row),c.length≤M+1:=fun c hc=>by
   rcases List.mem_or_eq_of_mem_set hc with hc|rfl
   ·have:=h c hc;omega
   ·have:=NA (bs.getD x.toNat []) z row
    have:(bs.getD x.toNat []).length≤M:=by
     unfold List.getD
     cases e:bs[x.toNat]? with
     |none=>exact Nat.zero_le _
     |some c=>exact h c (List.mem_of_getElem? e)
    omega
  have:=ih this c hc
  rw[List.length_cons]
  omega
def Vp (lf:V):Nat→V
 |0=>lf
 |i+1=>KN (Vp lf i)
theorem SO {lf:V}(h:TC lf)(n:lf≠.int 0):TC (KN lf):=by
 rcases h with rfl|⟨k,rfl⟩
 ·exact .inl rfl
 ·have:k≠0:=fun z=>n (by rw[z];rfl)
  exact .inr ⟨k-1,by show V.int ((k:Int)-1)=_;rw[show(k:Int)-1=((k-1:Nat):Int) by omega]⟩
def Nf (K:W.Frag)(C:Addr)(XC:Nat→Addr):Sp:=fun vs H Q E=>∃p ds bs n lf,∃(z y:Int) (bv:V) (bk:Bk),vs=[.ref p,.int z,.int y,bv]∧Cp C H p ds bs n lf∧TC lf∧0<bs.length∧(∀c∈bs,c.length≤900)∧Rep NL H (Gh bk) bv∧Hn bk∧HL z y∧
 (∀i,i<2→(∀j,j<i→Vp lf j≠.int 0)→Vp lf i=.int 0→∀H',Cp C H' p ds (wr bs z (Bp (DV z y bk)) ((BK bs z).take i)) (n+(i:Int)) (Vp lf i)→Kb H H' p ds→E (.ref (XC 1)) none H')∧
 ((∀j,j<2→Vp lf j≠.int 0)→∀H',Cp C H' p ds (wr bs z (Bp (DV z y bk)) (BK bs z)) (n+2) (Vp lf 2)→Kb H H' p ds→Q .non H')
theorem Wd (T:Txt K mg Ac Aa XC)(F:Fun K "lay" "lay" LC f fd)(KZ:Def P w K mg base 2 "sealed" ["words"] (IM K))(Ba:DI P w K mg base 2 Aa "twins" ["self","number"] (Ca K Aa))(EC:Def P w K mg base 9 "words_of" ["thing"] (GA K))(EG:Js P w K mg base 4 Aa "write" ["self","board","number","row"] (DU K Aa XC)):FnOk P w K mg base (IK P w) 10 f fd ["boards","number","birth","block"] (Nf K Aa XC):=by
 refine F.okX O6 (fun vs H Q E h=>?_) (fun cdv A outer s H vs Q E hr h=>?_)
 ·obtain⟨p,ds,bs,n,lf,z,y,bv,bk,rfl,_⟩:=h
  rfl
 obtain⟨p,ds,bs,n,lf,z,y,bv,bk,rfl,hB,lok,b0,bb,hv,ok,nb,qE,q⟩:=h
 refine⟨_,(!Af (@Ax _ _ (4) _ _ _ _ O6.nd rfl (by trivial) (!AK KZ (by trivial) rfl (!Ab (!AK EC (by trivial) rfl (!Ab (!El (!Ab (pv 1) (!Ab (pv 2) (!Ab (pv 3) (!Ag) (by rfl)) (by rfl)) (by rfl))) (!Ag) (by rfl)) (by decide) (by rfl) (by rfl)) (!Ag) (by rfl)) (by decide) (by rfl) (by rfl)) (by rfl) (by trivial)) (!Aj (!CJ PassesOwn.leaving rfl (!Ek (!DP (pv 0) T.cl_Boards Ba (by trivial) (!Ab (pv 1) (!Ag) (by rfl)) (by rfl) (by rfl) (by rfl))) (@Az _ _ (5) _ O6.nd rfl (by trivial) (by trivial)) (!Aj (!Co (!G6 (pv 0) T.cl_Boards EG (by trivial) FR (!Ab (pv 5) (!Ab (pv 1) (!Ab (pv 4) (!Ag) (by rfl)) (by rfl)) (by rfl)) (by rfl) (by rfl) (by rfl)) (by rfl))) (by intro _;rfl)))),?_⟩
 dsimp only[B9]
 refine⟨_,rfl,_,rfl,_,rfl,Rl,fun tr htr=>?_⟩
 have s1:=Ak htr (.tup [V.int z,V.int y,bv])
 have hrec:Rep NL (upd H tr (.tup [V.int z,V.int y,bv])) (DV z y bk) (.ref tr):=⟨tr,_,rfl,Ad,_,_,rfl,rfl,_,_,rfl,rfl,_,_,rfl,Rep.same s1 _ _ hv,rfl⟩
 have rl:=J9 (z:=z) (y:=y) ok
 refine⟨.ref tr,DV z y bk,rfl,hrec,D6 nb ok,by omega,fun wl H2 s2 nw hw=>?_⟩
 refine⟨wl,_,rfl,hw,by omega,fun rw_ H3 s3 nr hrw=>?_⟩
 have s03:=(s1.trans s2).trans s3
 have hB3:=hB.same s03
 obtain⟨dx,sh,h1,h2,h3,h4⟩:=id hB3
 refine⟨_,rfl,p,dx,_,rfl,h1,rfl,_,rfl,p,ds,bs,n,lf,z,rfl,hB3,b0,fun tp htp=>?_⟩
 have s4:=Ak htp (.tup [V.int (z%(bs.length:Int)),V.int ((z+1)%(bs.length:Int))])
 have etp:(upd H3 tp (.tup [V.int (z%(bs.length:Int)),V.int ((z+1)%(bs.length:Int))])) tp=some (.tup ((BK bs z).map V.int)):=Ad
 have hB4:=hB3.same s4
 have hrw4:=s4.get hrw
 have s04:=s03.trans s4
 generalize upd H3 tp (.tup [V.int (z%(bs.length:Int)),V.int ((z+1)%(bs.length:Int))])=H4 at s4 etp hB4 hrw4 s04
 obtain⟨dx4,sh4,g1,_,_,_⟩:=id hB4
 have ntp:tp≠p:=Av etp g1 (by intro z;cases z)
 have ndp:tp∉ds:=hB4.notin etp (by intro kvs z;cases z)
 have nrp:rw_≠p:=Av hrw4 g1 (by intro z;cases z)
 have ndr:rw_∉ds:=hB4.notin hrw4 (by intro kvs z;cases z)
 refine⟨tp,rfl,⟨_,AW.of etp⟩,Iw (K:=K) (a:=tp) (xs:=(BK bs z).map V.int) (fun i σ H2=>∃v5,σ=[some (.ref p),some (.int z),some (.int y),some bv,some (.ref rw_),v5]∧Cp Aa H2 p ds (wr bs z (Bp (DV z y bk)) ((BK bs z).take i)) (n+(i:Int)) (Vp lf i)∧Kb H4 H2 p ds∧TC (Vp lf i)∧∀j,j<i→Vp lf j≠.int 0) ⟨none,rfl,by rw[List.take_zero,show n+((0:Nat):Int)=n by omega];exact hB4,fun _ _ e _ _=>e,lok,fun _ h=>nomatch h⟩ (fun i σ H2 _ ⟨_,_,_,k2,_⟩=>AW.of (k2 _ _ etp ntp ndp)) ?_ ?_⟩
 ·rintro i x σ H5 hi ⟨v5,rfl,hB5,k5,l5,nz⟩
  obtain⟨k,rfl,hk⟩:=ints_get hi
  obtain⟨k0,k1⟩:=CK b0 k (List.mem_of_getElem? hk)
  have i2:i<2:=(List.getElem?_eq_some_iff.mp hk).1
  have ek:((k.toNat:Nat):Int)=k:=by omega
  obtain⟨dx5,sh5,e1,e2,e3,e4⟩:=id hB5
  refine⟨_,rfl,p,dx5,_,rfl,e1,rfl,_,rfl,_,rfl,_,rfl,p,ds,_,_,_,k.toNat,z,rw_,Bp (DV z y bk),by rw[ek];rfl,hB5,l5,by rw[Hw];omega,fun c hc=>?_,k5 _ _ hrw4 nrp ndr,fun e0=>?_,fun ne H6 hB6 k6=>?_⟩
  ·have:=OB _ bb c hc
   have:((BK bs z).take i).length≤2:=by rw[List.length_take];exact Nat.le_trans (Nat.min_le_right _ _) (Nat.le_refl 2)
   omega
  ·exact qE i i2 nz e0 H5 hB5 ((Al.kb s04 p ds).trans k5)
  ·refine⟨_,rfl,?_,k5.trans k6,SO l5 ne,fun j hj=>?_⟩
   ·rw[List.take_add_one,hk]
    show Cp _ _ _ _ (wr bs z _ ((BK bs z).take i++[k])) _ _
    rw[Vu,show n+((i+1:Nat):Int)=n+(i:Int)+1 by omega]
    exact hB6
   ·rcases Nat.lt_succ_iff_lt_or_eq.mp hj with hj|rfl
    ·exact nz j hj
    ·exact ne
 ·rintro σ H5 ⟨v5,rfl,hB5,k5,l5,nz⟩
  rw[List.take_of_length_le (by rw[List.length_map];exact Nat.le_refl _)] at hB5
  exact q nz H5 hB5 ((Al.kb s04 p ds).trans k5)
end
section
variable {P:Program}{w:World}{K:W.Frag}{mg:Str→Option Value}{base:Heap}{f Ac Aa:Addr}{XC:Nat→Addr}{fd:FuncData}
theorem IE {a b:Int}{t:Tr}(h:Cn a b (fv t)=true):∃i,t=.int i∧a≤i∧i≤b:=by
 cases t with
 |int i=>
  have h':(decide (a≤i)&&decide (i≤b))=true:=h
  simp only[Bool.and_eq_true,decide_eq_true_eq] at h'
  exact⟨i,rfl,h'.1,h'.2⟩
 |non=>cases h
 |bl b=>cases h
 |str z=>cases h
 |tup ts=>cases h
 |lst ts=>cases h
theorem QO {t:Tr}(h:Hm t=true):∃g,t=IL g∧Jf g:=by
 unfold Hm at h
 split at h
 ·rename_i x y z
  rw[Bool.and_eq_true,Bool.and_eq_true] at h
  obtain⟨i,rfl,i1,i2⟩:=IE h.1.1
  obtain⟨j,rfl,j1,j2⟩:=IE h.1.2
  obtain⟨k,rfl,k1,k2⟩:=IE h.2
  exact⟨(i,j,k),rfl,⟨i1,i2⟩,⟨j1,j2⟩,k1,k2⟩
 ·cases h
theorem SZ {t:Tr}(h:DH (fv t)=true):∃z,t=.str z∧DH (.str z)=true:=by
 cases t with
 |str z=>exact⟨z,rfl,h⟩
 |non=>cases h
 |bl b=>cases h
 |int i=>cases h
 |tup ts=>cases h
 |lst ts=>cases h
theorem UM {t:Tr}(h:Gw t=true):∃x,t=IV x∧Ov x:=by
 unfold Gw at h
 split at h
 ·rename_i x y z
  rw[Bool.and_eq_true,Bool.and_eq_true] at h
  obtain⟨nm,rfl,n1⟩:=SZ h.1.1
  obtain⟨j,rfl,j1,j2⟩:=IE h.1.2
  obtain⟨g,rfl,go⟩:=QO h.2
  exact⟨⟨nm,j,g⟩,rfl,n1,⟨j1,j2⟩,go⟩
 ·cases h
theorem MU {α:Type}{p:Tr→Bool}{g:α→Tr}{ok:α→Prop}(h:∀t,p t=true→∃x,t=g x∧ok x):∀{ts:List Tr},ts.all p=true→∃xs:List α,ts=xs.map g∧∀x∈xs,ok x
 |[],_=>⟨[],rfl,fun _ h=>nomatch h⟩
 |t::ts,ht=>by
  rw[List.all_cons,Bool.and_eq_true] at ht
  obtain⟨x,rfl,hx⟩:=h t ht.1
  obtain⟨xs,rfl,hxs⟩:=MU h ht.2
  exact⟨x::xs,rfl,fun y hy=>(List.mem_cons.mp hy).elim (fun e=>e▸hx) (hxs y)⟩
theorem Vb {t:Tr}(h:Rg t=true):∃b,t=Gh b∧Hn b:=by
 unfold Rg at h
 split at h
 ·rename_i k r
  by_cases k0:k=0
  ·rw[if_pos k0] at h
   unfold Yq at h
   split at h
   ·rename_i t
    cases t with
    |str z=>exact⟨.piece z,by rw[k0];rfl,h⟩
    |non=>cases h
    |bl b=>cases h
    |int i=>cases h
    |tup ts=>cases h
    |lst ts=>cases h
   ·cases h
  rw[if_neg k0] at h
  by_cases k1:k=1
  ·rw[if_pos k1] at h
   unfold XJ at h
   split at h
   ·rename_i l t
    rw[Bool.and_eq_true] at h
    obtain⟨lv,rfl,l1,l2⟩:=IE h.1
    have h2:=h.2
    cases t with
    |tup ts=>
     have h2':(decide (ts.length≤8) && !(decide (ts.length=0)&&decide (1<lv))&&ts.all Hm)=true:=h2
     rw[Bool.and_eq_true,Bool.and_eq_true,decide_eq_true_eq] at h2'
     obtain⟨gs,rfl,hg⟩:=MU (fun t=>QO) h2'.2
     refine⟨.row lv gs,by rw[k1];rfl,⟨l1,l2⟩,by rw[List.length_map] at h2';exact h2'.1.1,fun hl e=>?_,hg⟩
     have:=h2'.1.2
     rw[e,List.map_nil,decide_eq_true hl] at this
     cases this
    |non=>cases h2
    |bl b=>cases h2
    |int i=>cases h2
    |str z=>cases h2
    |lst ts=>cases h2
   ·cases h
  rw[if_neg k1] at h
  by_cases k2:k=2
  ·rw[if_pos k2] at h
   unfold Yx at h
   split at h
   ·rename_i t
    cases t with
    |tup ts=>
     have h2':(decide (ts.length≤16)&&ts.all Gw&&Oy (ts.map Re))=true:=h
     rw[Bool.and_eq_true,Bool.and_eq_true,decide_eq_true_eq] at h2'
     obtain⟨es,rfl,he⟩:=MU (fun t=>UM) h2'.1.2
     have en:(es.map IV).map Re=es.map (·.nm):=by rw[List.map_map];rfl
     have r:=of_decide_eq_true (show decide (PyProof.Rows.sortedS ((es.map IV).map Re)=true∧((es.map IV).map Re).Nodup)=true from h2'.2)
     rw[en] at r
     exact⟨.folder es,by rw[k2];rfl,by rw[List.length_map] at h2';exact h2'.1.1,he,r.1,r.2⟩
    |non=>cases h
    |bl b=>cases h
    |int i=>cases h
    |str z=>cases h
    |lst ts=>cases h
   ·cases h
  ·rw[if_neg k2] at h;cases h
 ·cases h
theorem SI {t:Tg}(h:Jf t):Hm (IL t)=true:=by
 obtain⟨⟨a1,a2⟩,⟨b1,b2⟩,c1,c2⟩:=h
 show((decide (1≤t.1)&&decide (t.1≤999999))&&(decide (0≤t.2.1)&&decide (t.2.1≤999999999))&&(decide (0≤t.2.2)&&decide (t.2.2≤996)))=true
 simp only[Bool.and_eq_true,decide_eq_true_eq]
 omega
theorem WM {x:En}(h:Ov x):Gw (IV x)=true:=by
 obtain⟨a,⟨b1,b2⟩,c⟩:=h
 show(DH (.str x.nm)&&(decide (1≤x.kd)&&decide (x.kd≤2))&&Hm (IL x.tg))=true
 rw[a,SI c,decide_eq_true b1,decide_eq_true b2]
 rfl
theorem Xc {b:Bk}(h:Hn b):Rg (Gh b)=true:=by
 cases b with
 |piece z=>exact h
 |row lv ts=>
  obtain⟨⟨l1,l2⟩,n,o1,o2⟩:=h
  show((decide (1≤lv)&&decide (lv≤9))&&(decide ((ts.map IL).length≤8) && !(decide ((ts.map IL).length=0)&&decide (1<lv))&&(ts.map IL).all Hm))=true
  have ha:(ts.map IL).all Hm=true:=List.all_eq_true.mpr fun t ht=>by
   obtain⟨x,hx,rfl⟩:=List.mem_map.mp ht
   exact SI (o2 x hx)
  rw[ha,decide_eq_true l1,decide_eq_true l2,List.length_map,decide_eq_true n]
  by_cases z:ts.length=0
  ·rw[decide_eq_true z,decide_eq_false fun y=>o1 y (List.length_eq_zero_iff.mp z)];rfl
  ·rw[decide_eq_false z];rfl
 |folder es=>
  obtain⟨n,o,s,d⟩:=h
  show(decide ((es.map IV).length≤16)&&(es.map IV).all Gw&&Oy ((es.map IV).map Re))=true
  have ha:(es.map IV).all Gw=true:=List.all_eq_true.mpr fun t ht=>by
   obtain⟨x,hx,rfl⟩:=List.mem_map.mp ht
   exact WM (o x hx)
  have en:(es.map IV).map Re=es.map (·.nm):=by rw[List.map_map];rfl
  rw[ha,en,List.length_map,decide_eq_true n,show Oy (es.map (·.nm))=true from decide_eq_true ⟨s,d⟩]
  rfl
theorem Jo {t u:Tr}(ht:CT 8 t=true)(hu:CT 8 u=true)(e:Bp t=Bp u):t=u:=by
 have:=congrArg List.dropLast e
 rw[HS,HS] at this
 exact Kr ht hu this
theorem Q7 {row:List Int}(h:sound row=true):row=row.dropLast++[mk row.dropLast]:=by
 obtain⟨ne,_,el⟩:=Fs.mp h
 have e2:row.getLastD 0=row.getLast ne:=by rw[List.getLastD_eq_getLast?,List.getLast?_eq_some_getLast ne];rfl
 rw[e2] at el
 rw[←el]
 exact(List.dropLast_concat_getLast ne).symm
def GB (K:W.Frag)(C:Addr):Sp:=fun vs H Q _=>∃p ds bs n lf,∃(b:Nat) (z:Int),vs=[.ref p,.int (b:Int),.int z]∧Cp C H p ds bs n lf∧b<bs.length∧(∀row,Bl (bs.getD b []) z=some row→row.length≤1000)∧
 (∀t,Bl (bs.getD b []) z=some (Bp t)→CT 8 t=true→∀v H',Al H H'→Rep NL H' t v→Q v H')∧((∀t,CT 8 t=true→Bl (bs.getD b []) z≠some (Bp t))→∀H',Al H H'→Q .non H')
theorem OL (T:Txt K mg Ac Aa XC)(F:Fun K "thing_on" "thing_on" Dq f fd)(Cg:DI P w K mg base 4 Aa "cell" ["self","board","number"] (Dh K Aa))(HH:Def P w K mg base 3 "unsealed" ["row"] (Gn K))(Hx:Iy P w K mg base 14 "thing_of" ["words"] (G0 K XC)):FnOk P w K mg base Dp 15 f fd ["boards","board","number"] (GB K Aa):=by
 exists GN
 ·obtain⟨p,ds,bs,n,lf,b,z,rfl,_⟩:=h
  rfl
 obtain⟨p,ds,bs,n,lf,b,z,rfl,hB,b1,rl,q,q0⟩:=h
 obtain⟨dx,s0,h1,h2,h3,h4⟩:=id hB
 refine⟨_,(!Af (@Ax _ _ (3) _ _ _ _ GN.nd rfl (by trivial) (!DP (pv 0) T.cl_Boards Cg (by trivial) (!Ab (pv 1) (!Ab (pv 2) (!Ag) (by rfl)) (by rfl)) (by rfl) (by rfl) (by rfl)) (by rfl) (by trivial)) (!Af (!AL (!G1 (!Na (pv 3)) (by first|exact Dj _ (by decide) (by decide)|rfl)) (!Aj (!An (!Dm))) (!As)) (!Af (@Ax _ _ (4) _ _ _ _ GN.nd rfl (by trivial) (!AK HH (by trivial) rfl (!Ab (pv 3) (!Ag) (by rfl)) (by decide) (by rfl) (by rfl)) (by rfl) (by trivial)) (!Af (!AL (!G1 (!Na (pv 4)) (by first|exact Dj _ (by decide) (by decide)|rfl)) (!Aj (!An (!Dm))) (!As)) (!Aj (!WH ⟨rfl,rfl⟩ T.x_NoThing rfl (!Vt (!WC (!V6 Hx (by trivial) rfl (!Ab (pv 4) (!Ag) (by rfl)) (by decide) (by rfl) (by rfl)))) (!As) (fun e=>(!Aj (!An (!Dm)))) (by decide))))))),?_⟩
 refine⟨_,rfl,p,dx,_,rfl,h1,rfl,_,rfl,_,rfl,p,ds,bs,n,lf,b,z,rfl,hB,b1,fun e=>?_,fun row e l hl=>?_⟩
 ·exact⟨_,rfl,_,rfl,AQ rfl (q0 (fun t _=>by rw[e];intro z;cases z) H (Al.refl _))⟩
 have s1:=Ak hl (.lst (row.map V.int))
 refine⟨_,rfl,_,rfl,AS rfl ?_⟩
 refine⟨_,rfl,l,row,rfl,Ad,rl row e,fun hs H2 s2=>?_,fun hs r H2 s2 nr hr2=>?_⟩
 ·refine⟨_,rfl,_,rfl,AQ rfl (q0 (fun t it ee=>?_) H2 (s1.trans s2))⟩
  rw[e] at ee
  have:row=Bp t:=by injection ee
  rw[this,GL it] at hs
  cases hs
 ·refine⟨_,rfl,_,rfl,AS rfl ?_⟩
  refine⟨_,rfl,r,row.dropLast,rfl,hr2,fun t v H3 er s3 rv=>?_,fun er H3 s3=>?_⟩
  ·obtain⟨it,ew⟩:=Oc 8 _ t [] er
   rw[List.append_nil] at ew
   have es:row=Bp t:=by
    unfold Bp
    rw[ew]
    exact Q7 hs
   exact q t (by rw[e,es]) it v H3 ((s1.trans s2).trans s3) rv
  ·refine⟨T.m_NoThing_NoThing,?_⟩
   refine q0 (fun t it ee=>?_) H3 ((s1.trans s2).trans s3)
   rw[e] at ee
   have:row=Bp t:=by injection ee
   have:=Kd 8 t [] it
   rw[List.append_nil] at this
   rw[‹row=Bp t›,HS] at er
   exact er t this
theorem map_one {α β:Type}{g:α→β}(hg:∀a b,g a=g b→a=b):∀{l l':List α},l.map g=l'.map g→l=l'
 |[],[],_=>rfl
 |[],_::_,h=>nomatch h
 |_::_,[],h=>nomatch h
 |x::l,y::l',h=>by
  rw[List.map_cons,List.map_cons] at h
  injection h with h1 h2
  rw[hg x y h1,map_one hg h2]
theorem Qp (a b:Tg)(h:IL a=IL b):a=b:=by
 obtain⟨a1,a2,a3⟩:=a
 obtain⟨b1,b2,b3⟩:=b
 injection h with h
 injection h with h1 h
 injection h with h2 h
 injection h with h3 _
 injection h1 with h1
 injection h2 with h2
 injection h3 with h3
 dsimp only at h1 h2 h3
 rw[h1,h2,h3]
theorem UG (a b:En)(h:IV a=IV b):a=b:=by
 obtain⟨a1,a2,a3⟩:=a
 obtain⟨b1,b2,b3⟩:=b
 injection h with h
 injection h with h1 h
 injection h with h2 h
 injection h with h3 _
 injection h1 with h1
 injection h2 with h2
 have h3:=Qp _ _ h3
 dsimp only at h1 h2 h3
 rw[h1,h2,h3]
theorem QD {a b:Bk}(h:Gh a=Gh b):a=b:=by
 cases a with
 |piece z=>
  cases b with
  |piece z'=>injection h with h;injection h with _ h;injection h with h _;injection h with h;rw[h]
  |row lv ts=>injection h with h;injection h with h _;injection h with h;cases h
  |folder es=>injection h with h;injection h with h _;injection h with h;cases h
 |row lv ts=>
  cases b with
  |piece z'=>injection h with h;injection h with h _;injection h with h;cases h
  |row lv' ts'=>
   injection h with h;injection h with _ h;injection h with h1 h;injection h with h2 _
   injection h1 with h1
   injection h2 with h2
   rw[h1,map_one Qp h2]
  |folder es=>injection h with h;injection h with h _;injection h with h;cases h
 |folder es=>
  cases b with
  |piece z'=>injection h with h;injection h with h _;injection h with h;cases h
  |row lv ts=>injection h with h;injection h with h _;injection h with h;cases h
  |folder es'=>injection h with h;injection h with _ h;injection h with h _;injection h with h;rw[map_one UG h]
def Ho (o:Option (List Int))(z y k:Int)(bk:Bk):Prop:=o=some (Bp (DV z y bk))∧Hn bk∧DJ bk=k
theorem QN {z y:Int}(n:HL z y):CT 8 (.tup [.int z,.int y])=true:=by
 obtain⟨⟨a1,a2⟩,a3,a4⟩:=n
 show(decide (2≤100)&&((decide (0≤z)&&decide (z≤999999999))&&((decide (0≤y)&&decide (y≤999999999))&&true)))=true
 simp only[Bool.and_true,Bool.and_eq_true,decide_eq_true_eq]
 omega
def DL (K:W.Frag)(C:Addr):Sp:=fun vs H Q _=>∃p ds bs n lf,∃(b:Nat) (ta:Addr) (z y k:Int),vs=[.ref p,.int (b:Int),.ref ta]∧Cp C H p ds bs n lf∧b<bs.length∧H ta=some (.tup [.int z,.int y,.int k])∧HL z y∧(∀row,Bl (bs.getD b []) z=some row→row.length≤1000)∧
 (∀bk,Ho (Bl (bs.getD b []) z) z y k bk→∀v H',Al H H'→Rep NL H' (Gh bk) v→Q v H')∧((∀bk,¬Ho (Bl (bs.getD b []) z) z y k bk)→∀H',Al H H'→Q .non H')
theorem Nr (T:Txt K mg Ac Aa XC)(F:Fun K "block_on" "block_on" DA f fd)(HG:Def P w K mg base 15 "thing_on" ["boards","board","number"] (GB K Aa))(Bh:Def P w K mg base 1 "is_tuple_of" ["thing","many"] (Cr K))(HI:Def P w K mg base 6 "is_block" ["thing"] (Gr K))(KQ:Def P w K mg base 3 "sum_of" ["block"] (Jj K)):FnOk P w K mg base Dp 16 f fd ["boards","board","tag"] (DL K Aa):=by
 exists Jx
 ·obtain⟨p,ds,bs,n,lf,b,ta,z,y,k,rfl,_⟩:=h
  rfl
 obtain⟨p,ds,bs,n,lf,b,ta,z,y,k,rfl,hB,b1,ht,nb,rl,q,q0⟩:=h
 have hu9:=ML hr
 refine⟨_,(!Af (@Ax _ _ (3) _ _ _ _ Jx.nd rfl (by trivial) (!AK HG (by trivial) rfl (!Ab (pv 0) (!Ab (pv 1) (!Ab (!Ay AF (pv 2) (!Ae) (fun _ _=>rfl)) (!Ag) (by rfl)) (by rfl)) (by rfl)) (by decide) (by rfl) (by rfl)) (by rfl) (by trivial)) (!Af (!AL (@PW.pt _ _ _ (!GU (!BA (!Bt (!AK Bh (by trivial) rfl (!Ab (pv 3) (!Ab (!Ae) (!Ag) (by rfl)) (by rfl)) (by decide) (by rfl) (by rfl)) (by intro _;rfl))) (!EY (!AI (Uq hu9) (!Dg Ul (pv 3) (!II) (!CD (!Ae))) (!Dg Ul (pv 2) (!II) (!CD (!Ae))) (AJ _))))) (!Aj (!An (!Dm))) (!As)) (!Af (!AL (@PW.pt _ _ _ (!GU (!BA (!Bt (!AK HI (by trivial) rfl (!Ab (!Ay AF (pv 3) (!Ae) (fun _ _=>rfl)) (!Ag) (by rfl)) (by decide) (by rfl) (by rfl)) (by intro _;rfl))) (!EY (!AI QV (!AK KQ (by trivial) rfl (!Ab (!Ay AF (pv 3) (!Ae) (fun _ _=>rfl)) (!Ag) (by rfl)) (by decide) (by rfl) (by rfl)) (!Ay AF (pv 2) (!Ae) (fun _ _=>rfl)) (AJ _))))) (!Aj (!An (!Dm))) (!As)) (!Aj (!An (!Ay AF (pv 3) (!Ae) (fun _ _=>rfl))))))),?_⟩
 refine⟨_,rfl,_,rfl,_,rfl,ta,_,_,_,rfl,rfl,AW.of ht,rfl,p,ds,bs,n,lf,b,z,rfl,hB,b1,rl,fun t g it v H1 s1 rv=>?_,fun g H1 s1=>?_⟩
 ·
  have rva:=MI rv
  have okt:=PF _ _ it
  have ht1:=s1.get ht
  have no:∀H2,Al H1 H2→(∀bk,¬Ho (Bl (bs.getD b []) z) z y k bk)→Q .non H2:=fun H2 s2 hn=>q0 hn H2 (s1.trans s2)
  have isrec:∀bk,Ho (Bl (bs.getD b []) z) z y k bk→t=DV z y bk:=fun bk ho=>by
   have:Bp t=Bp (DV z y bk):=by
    have:=ho.1
    rw[g] at this
    injection this
   exact Jo it (D6 nb ho.2.1) this
  refine⟨_,rfl,v,3,rfl,rva.ok okt,_,rfl,?_⟩
  rcases G3 rva okt with⟨h1,_,_⟩|⟨a,x1,x2,x3,u1,u2,u3,rfl,rfl,e,⟨r1,o1⟩,⟨r2,o2⟩,r3,o3⟩
  ·refine AQ (by rw[h1];rfl) (no H1 (Al.refl _) fun bk ho=>?_)
   have:=isrec bk ho
   subst this
   obtain⟨a,us,rfl,e,u1,us,rfl,_,u2,us,rfl,_,u3,us,rfl,_,rfl⟩:=rv
   rw[C6 e] at h1
   exact absurd h1 (by show ¬(decide ((3:Int)=3)=false);decide)
  refine AS (by rw[C6 e];rfl) ?_
  obtain⟨a',us,ea,e',v1,us',eu1,rr1,v2,us'',eu2,rr2,v3,us3,eu3,rr3,eu4⟩:=id rv
  cases ea
  rw[e] at e'
  subst eu4 eu3 eu2
  cases e'
  cases eu1
  obtain⟨tl,tt⟩:=Cz it
  have i1:=tt 0 x1 rfl
  have i2:=tt 1 x2 rfl
  have i3:=tt 2 x3 rfl
  refine⟨_,rfl,2,rfl,a,_,rfl,AW.of e,(show ¬(HT.C5 3 0 none=0∧HT.C5 3 3 (some 2)=3) by decide),fun p1 hp1=>?_⟩
  have s2:=Ak hp1 (.tup [u1,u2])
  refine⟨_,rfl,2,rfl,ta,_,rfl,AW.of (s2.get ht1),(show ¬(HT.C5 3 0 none=0∧HT.C5 3 3 (some 2)=3) by decide),fun p2 hp2=>?_⟩
  have s3:=Ak hp2 (.tup [V.int z,V.int y])
  have S3:=s2.trans s3
  have it2:CT 8 (.tup [x1,x2])=true:=by
   show(decide (2≤100)&&(CT 7 x1&&(CT 7 x2&&true)))=true
   rw[i1,i2];rfl
  refine⟨.tup [x1,x2],.tup [.int z,.int y],it2,QN nb,⟨p1,_,rfl,s3.get Ad,_,_,rfl,Rep.same S3 _ _ rr1,_,_,rfl,Rep.same S3 _ _ rr2,rfl⟩,⟨p2,_,rfl,Ad,_,_,rfl,rfl,_,_,rfl,rfl,rfl⟩,?_⟩
  rw[if_pos rfl]
  refine⟨_,rfl,Cs (fun c=>?_) (fun c=>?_)⟩
  ·refine no _ S3 fun bk ho=>?_
   have:=isrec bk ho
   injection this with this
   injection this with e1 e2
   injection e2 with e2 _
   subst e1 e2
   rw[decide_eq_true rfl] at c
   cases c
  have ew:wT (.tup [x1,x2])=wT (.tup [.int z,.int y]):=by
   have:decide (wT (.tup [x1,x2])=wT (.tup [.int z,.int y]))=true:=by simpa using c
   exact of_decide_eq_true this
  have e12:=Kr it2 (QN nb) ew
  injection e12 with e12
  injection e12 with e1 e2
  injection e2 with e2 _
  subst e1 e2
  have e3:=S3.get e
  have r3':=Rep.same S3 _ _ r3
  refine⟨_,rfl,a,_,_,_,rfl,rfl,AW.of e3,rfl,u3,x3,rfl,r3',o3,fun H4 s4=>⟨_,rfl,?_⟩⟩
  cases hb:Rg x3 with
  |false=>
   refine AQ rfl (no _ (S3.trans s4) fun bk ho=>?_)
   have:=isrec bk ho
   injection this with this
   injection this with _ e2
   injection e2 with _ e2
   injection e2 with e2 _
   rw[e2,Xc ho.2.1] at hb
   cases hb
  |true=>
   refine AS rfl ?_
   obtain⟨bk,rfl,ok⟩:=Vb hb
   have rr3':=Rep.same (S3.trans s4) _ _ rr3
   refine⟨_,rfl,a,_,_,_,rfl,rfl,AW.of (s4.get e3),rfl,u3,bk,rfl,rr3',ok,fun H5 s5=>?_⟩
   have S5:=(S3.trans s4).trans s5
   refine⟨_,rfl,ta,_,_,_,rfl,rfl,AW.of (S5.get ht1),rfl,rfl,_,rfl,Cs (fun c2=>?_) (fun c2=>?_)⟩
   ·refine no _ S5 fun bk' ho=>?_
    have:=isrec bk' ho
    injection this with this
    injection this with _ e2
    injection e2 with _ e2
    injection e2 with e2 _
    have eb:=QD e2
    rw[eb,ho.2.2,decide_eq_true rfl] at c2
    cases c2
   ·have es:DJ bk=k:=by
     have:decide (V.int (DJ bk)=V.int k)=true:=by simpa using c2
     exact V.int.inj (of_decide_eq_true this)
    exact⟨_,rfl,a,_,_,_,rfl,rfl,AW.of (S5.get e),rfl,q bk ⟨g,ok,es⟩ u3 H5 (s1.trans S5) (Rep.same S5 _ _ rr3)⟩
 ·exact⟨_,rfl,.non,3,rfl,trivial,_,rfl,AQ rfl (q0 (fun bk ho=>g _ (D6 nb ho.2.1) ho.1) H1 s1)⟩
open Classical in
noncomputable def Gx (bs:List Bz) (z y k:Int) (x:Int):Bool:=decide (∃bk,Ho (Bl (bs.getD x.toNat []) z) z y k bk)
open Classical in
theorem KW {bs:List Bz}{z y k x:Int}:Gx bs z y k x=true↔∃bk,Ho (Bl (bs.getD x.toNat []) z) z y k bk:=by unfold Gx;exact decide_eq_true_iff
def Kt (bs:List Bz)(z:Int):Prop:=∀b row,Bl (bs.getD b []) z=some row→row.length≤1000
theorem SM {H:Hp} {p ta:Addr} {ds:List Addr} {bs:List Bz} {n:Int} {lf:V} {z y k x:Int} {Q:VK} (hB:Cp Aa H p ds bs n lf) (x0:0≤x) (x1:x<(bs.length:Int)) (ht:H ta=some (.tup [.int z,.int y,.int k])) (rl:Kt bs z) (nb:HL z y)
  (q0:Gx bs z y k x=false→∀H',Al H H'→Q .non H') (q1:Gx bs z y k x=true→∀bk,Ho (Bl (bs.getD x.toNat []) z) z y k bk→∀v H',Al H H'→Rep NL H' (Gh bk) v→Q v H'):DL K Aa [.ref p,.int x,.ref ta] H Q E0:=by
 have ex:((x.toNat:Nat):Int)=x:=by omega
 refine⟨p,ds,bs,n,lf,x.toNat,ta,z,y,k,by rw[ex],hB,by omega,ht,nb,rl x.toNat,fun bk ho=>q1 ?_ bk ho,fun hn=>q0 ?_⟩
 ·exact KW.mpr ⟨bk,ho⟩
 ·exact Bool.eq_false_iff.mpr fun h=>let⟨bk,ho⟩:=KW.mp h;hn bk ho
def DX (K:W.Frag)(C:Addr):Sp:=fun vs H Q _=>∃p ds bs n lf,∃(ta:Addr) (z y k:Int),vs=[.ref p,.ref ta]∧Cp C H p ds bs n lf∧0<bs.length∧H ta=some (.tup [.int z,.int y,.int k])∧Kt bs z∧HL z y∧
 ∀(l:Addr) (H':Hp) (ms:List Int),Al H H'→H l=none→H' l=some (.lst (ms.map V.int))→ms.Perm ((BK bs z).filter (Gx bs z y k))→ms.Pairwise (·≤·)→Q (.ref l) H'
theorem JO (T:Txt K mg Ac Aa XC)(F:Fun K "right_copies" "right_copies" BZ f fd)(Ba:DI P w K mg base 2 Aa "twins" ["self","number"] (Ca K Aa))(Dw:Def P w K mg base 16 "block_on" ["boards","board","tag"] (DL K Aa)):FnOk P w K mg base Dp 17 f fd ["boards","tag"] (DX K Aa):=by
 exists JX
 ·obtain⟨p,ds,bs,n,lf,ta,z,y,k,rfl,_⟩:=h
  rfl
 obtain⟨p,ds,bs,n,lf,ta,z,y,kk,rfl,hB,b0,ht,rl,nb,q⟩:=h
 obtain⟨dx,s0,h1,h2,h3,h4⟩:=id hB
 refine⟨_,(!Aj (!An (!AB (K2 (K:=K) (by rfl)) (by rfl) T.b_sorted Hd (!Ab (@IF _ ["board","boards","tag"] [none,some 0,some 1] _ _ _ _ _ _ _ _ _ _ _ rfl (!Ek (!DP (pv 0) T.cl_Boards Ba (by trivial) (!Ab (!Ay AF (pv 1) (!Ae) (fun _ _=>rfl)) (!Ag) (by rfl)) (by rfl) (by rfl) (by rfl))) (by rfl) rfl (by repeat (first|exact trivial|refine⟨rfl,?_⟩)) (by repeat (first|exact trivial|refine⟨fun h=>(by first|exact⟨_,rfl⟩|cases h),?_⟩)) (fun C s H fp=>⟨(@Az _ _ (0) _ (show(["board","boards","tag"]:List Str).Nodup by decide +kernel) rfl (by trivial) (by trivial)),(!NX (!G1 (!J3 (!AK Dw (by trivial) rfl (!Ab (pv 1) (!Ab (pv 0) (!Ab (pv 2) (!Ag) (by rfl)) (by rfl)) (by rfl)) (by decide) (by rfl) (by rfl))) (by first|exact Dj _ (by decide) (by decide)|rfl))),(pv 0)⟩) (by intro _;rfl)) (!Ag) (by rfl)) (by decide) (by decide) (by rfl) (by rfl)))),?_⟩
 refine⟨_,rfl,p,dx,_,rfl,h1,rfl,_,rfl,ta,_,_,_,rfl,rfl,AW.of ht,rfl,p,ds,bs,n,lf,z,rfl,hB,b0,fun tp htp=>?_⟩
 have s1:=Ak htp (.tup [V.int (z%(bs.length:Int)),V.int ((z+1)%(bs.length:Int))])
 refine⟨tp,rfl,⟨_,AW.of Ad⟩,Rp (xs:=(BK bs z).map V.int) (fun v=>match v with | .int x=>Gx bs z y kk x|_=>false) (Es Ad) (by show 2≤1000000;decide) (fun x H' R hx s' hR=>?_) (fun x H' R s' hR=>⟨_,rfl,hR H' (Al.refl _)⟩) fun l H7 n7 s7 h7=>?_⟩
 ·obtain⟨k,hk,rfl⟩:=List.mem_map.mp hx
  obtain⟨k0,k1⟩:=CK b0 k hk
  have u:=s1.trans s'
  refine⟨_,rfl,_,rfl,_,rfl,?_⟩
  dsimp only[Gj,List.append_nil]
  refine SM (hB.same u) k0 k1 (u.get ht) rl nb (fun e H2 s2=>⟨_,rfl,?_⟩) (fun e bk ho v H2 s2 rv=>⟨_,rfl,?_⟩)
  ·have:=hR H2 s2
   have e':(match V.int k with|V.int x=>Gx bs z y kk x|_=>false)=false:=e
   rw[e'] at this
   exact this
  ·have:=hR H2 s2
   have e':(match V.int k with|V.int x=>Gx bs z y kk x|_=>false)=true:=e
   rw[e'] at this
   have nv:v≠.non:=by
    obtain⟨a,xs,rfl,_⟩:=Ih rv
    intro z;cases z
   rw[decide_eq_false nv]
   exact this
 ·have ef:((BK bs z).map V.int).filter (fun v=>match v with|V.int x=>Gx bs z y kk x|_=>false)=((BK bs z).filter (Gx bs z y kk)).map V.int:=by rw[List.filter_map];rfl
  rw[ef] at h7
  have lf:((BK bs z).filter (Gx bs z y kk)).length≤2:=List.length_filter_le _ _
  refine⟨l,_,rfl,AM.of h7,by omega,fun ms g pm so hg=>?_⟩
  exact q g _ ms ((s1.trans s7).trans (Ak hg _)) ((s1.trans s7).free hg) Ad pm so
def Ej (K:W.Frag)(C:Addr)(XC:Nat→Addr):Sp:=fun vs H Q E=>∃p ds bs n lf,∃(ta:Addr) (z y k:Int),vs=[.ref p,.ref ta]∧Cp C H p ds bs n lf∧0<bs.length∧H ta=some (.tup [.int z,.int y,.int k])∧Kt bs z∧HL z y∧
 (∀x bk,((BK bs z).filter (Gx bs z y k)).head?=some x→Ho (Bl (bs.getD x.toNat []) z) z y k bk→∀v H',Al H H'→Rep NL H' (Gh bk) v→Q v H')∧((BK bs z).filter (Gx bs z y k)=[]→∀dx H',Al H H'→H dx=none→H' dx=some (.xd [("number",.int z)])→E (.ref (XC 2)) (some dx) H')
theorem P9 (T:Txt K mg Ac Aa XC)(F:Fun K "fetched" "fetched" Eg f fd)(Ba:DI P w K mg base 2 Aa "twins" ["self","number"] (Ca K Aa))(GT:Wh P w K mg base 1 "Lost" (XC 2) "number" ["self","number"])(Dw:Def P w K mg base 16 "block_on" ["boards","board","tag"] (DL K Aa)):FnOk P w K mg base (Va P w) 17 f fd ["boards","tag"] (Ej K Aa XC):=by
 refine F.okE Hy (fun vs H Q E h=>?_) (fun cdv A outer s H vs Q E hr h=>?_)
 ·obtain⟨p,ds,bs,n,lf,ta,z,y,k,rfl,_⟩:=h
  rfl
 obtain⟨p,ds,bs,n,lf,ta,z,y,kk,rfl,hB,b0,ht,rl,nb,q,qE⟩:=h
 obtain⟨dx,s0,h1,h2,h3,h4⟩:=id hB
 refine⟨_,(!Af (!CJ PassesOwn.leaving rfl (!Ek (!DP (pv 0) T.cl_Boards Ba (by trivial) (!Ab (!Ay AF (pv 1) (!Ae) (fun _ _=>rfl)) (!Ag) (by rfl)) (by rfl) (by rfl) (by rfl))) (@Az _ _ (2) _ Hy.nd rfl (by trivial) (by trivial)) (!Af (@Ax _ _ (3) _ _ _ _ Hy.nd rfl (by trivial) (!AK Dw (by trivial) rfl (!Ab (pv 0) (!Ab (pv 2) (!Ab (pv 1) (!Ag) (by rfl)) (by rfl)) (by rfl)) (by decide) (by rfl) (by rfl)) (by rfl) (by trivial)) (!Aj (!AL (!G1 (!J3 (pv 3)) (by first|exact Dj _ (by decide) (by decide)|rfl)) (!Aj (!An (pv 3))) (!As)))) (by intro _;rfl)) (!Aj (!RG PP rfl GT (by trivial) rfl (!Ab (!Ay AF (pv 1) (!Ae) (fun _ _=>rfl)) (!Ag) (by rfl)) (by decide) (by rfl)))),?_⟩
 dsimp only[B9]
 refine⟨_,rfl,p,dx,_,rfl,h1,rfl,_,rfl,ta,_,_,_,rfl,rfl,AW.of ht,rfl,p,ds,bs,n,lf,z,rfl,hB,b0,fun tp htp=>?_⟩
 have s1:=Ak htp (.tup [V.int (z%(bs.length:Int)),V.int ((z+1)%(bs.length:Int))])
 have etp:(upd H tp (.tup [V.int (z%(bs.length:Int)),V.int ((z+1)%(bs.length:Int))])) tp=some (.tup ((BK bs z).map V.int)):=Ad
 generalize upd H tp (.tup [V.int (z%(bs.length:Int)),V.int ((z+1)%(bs.length:Int))])=H0 at s1 etp
 refine⟨tp,rfl,⟨_,AW.of etp⟩,Iw (K:=K) (a:=tp) (xs:=(BK bs z).map V.int) (fun i σ H2=>∃v2 v3,σ=[some (.ref p),some (.ref ta),v2,v3]∧Al H0 H2∧((BK bs z).take i).filter (Gx bs z y kk)=[]) ⟨none,none,rfl,Al.refl _,rfl⟩ (fun i σ H2 _ ⟨_,_,_,s2,_⟩=>AW.of (s2.get etp)) ?_ ?_⟩
 ·rintro i x σ H2 hi ⟨v2,v3,rfl,s2,hf⟩
  obtain⟨k,rfl,hk⟩:=ints_get hi
  obtain⟨k0,k1⟩:=CK b0 k (List.mem_of_getElem? hk)
  have u:=s1.trans s2
  refine⟨_,rfl,_,rfl,_,rfl,?_⟩
  dsimp only[Gj,List.append_nil]
  refine SM (hB.same u) k0 k1 (u.get ht) rl nb (fun e H3 s3=>?_) (fun e bk ho v H3 s3 rv=>?_)
  ·refine⟨_,rfl,_,rfl,AS rfl ?_⟩
   refine⟨_,_,rfl,s2.trans s3,?_⟩
   rw[List.take_add_one,hk,List.filter_append,hf]
   show[k].filter (Gx bs z y kk)=[]
   rw[List.filter_cons_of_neg (by rw[e];exact Bool.false_ne_true),List.filter_nil]
  ·have nv:v≠.non:=by
    obtain⟨a,xs,rfl,_⟩:=Ih rv
    intro z;cases z
   refine⟨_,rfl,_,rfl,AQ (by rw[decide_eq_false nv];rfl) ?_⟩
   refine⟨_,rfl,q k bk ?_ ho v H3 (u.trans s3) rv⟩
   have il:i<(BK bs z).length:=(List.getElem?_eq_some_iff.mp hk).1
   have es:BK bs z=(BK bs z).take i++k::(BK bs z).drop (i+1):=by
    obtain⟨a1,a2⟩:=List.getElem?_eq_some_iff.mp hk
    rw[←a2,←List.drop_eq_getElem_cons a1,List.take_append_drop]
   rw[es,List.filter_append,hf,List.filter_cons_of_pos e]
   rfl
 ·rintro σ H2 ⟨v2,v3,rfl,s2,hf⟩
  rw[List.take_of_length_le (by rw[List.length_map];exact Nat.le_refl _)] at hf
  have u:=s1.trans s2
  refine⟨_,rfl,ta,_,_,_,rfl,rfl,AW.of (u.get ht),rfl,_,rfl,fun d hd=>?_⟩
  exact qE hf d _ (u.trans (Ak hd _)) (u.free hd) Ad
end
open M06
section
def Qm (row:Option (List Int)):Prop:=∀z y bk,HL z y→Hn bk→row≠some (Bp (DV z y bk))
theorem U7:Qm none:=fun _ _ _ _ _ h=>nomatch h
theorem Wj:Qm (some []):=fun z y bk _ _ h=>by
 have:=congrArg List.length (Option.some.inj h)
 rw[Fn] at this
 cases this
theorem OC {row:List Int}(h:sound row=false):Qm (some row):=fun z y bk n o e=>by
 rw[Option.some.inj e,GL (D6 n o)] at h
 cases h
theorem Tw {r:List Int}{i:Nat}(h:i<r.length)(hs:sound r=true):sound (r.set i (r[i]+2147483647))=false:=by
 cases e:sound (r.set i (r[i]+2147483647)) with
 |false=>rfl
 |true=>
  have a:=(Fs.mp hs).2.1 _ (List.getElem_mem h)
  have b:=(Fs.mp e).2.1 (r[i]+2147483647) (List.mem_of_getElem? (i:=i) (by rw[List.getElem?_set];simp[h]))
  omega
end
open M06
section
variable {P:Program}{w:World}{K:W.Frag}{mg:Str→Option Value}{base:Heap}{f Ac Aa:Addr}{XC:Nat→Addr}{fd:FuncData}
theorem Lg (c:Bz)(k:Int)(row:List Int)(z:Int):Bl (Fq c k row) z=if z=k then some row else Bl c z:=by
 unfold Fq
 by_cases h:(c.any fun x=>decide (x.1=k))=true
 ·rw[if_pos h]
  unfold Bl
  induction c with
  |nil=>cases h
  |cons x c ih=>
   rw[List.map_cons,List.find?_cons,List.find?_cons]
   by_cases e:x.1=k
   ·rw[if_pos e]
    by_cases ez:z=k
    ·rw[if_pos ez,decide_eq_true (show(x.1,row).1=z by rw[ez];exact e)];rfl
    ·rw[if_neg ez,decide_eq_false (show ¬(x.1,row).1=z from fun y=>ez (y.symm.trans e))]
     by_cases h':(c.any fun x=>decide (x.1=k))=true
     ·have:=ih h'
      rw[if_neg ez] at this
      exact this
     ·have same:c.map (fun x=>if x.1=k then(x.1,row) else x)=c:=by
       have:∀x∈c,(if x.1=k then(x.1,row) else x)=x:=fun x hx=>if_neg fun y=>h' (List.any_eq_true.mpr ⟨x,hx,decide_eq_true y⟩)
       calc c.map (fun x=>if x.1=k then(x.1,row) else x)=c.map (fun x=>x):=List.map_congr_left this
        _=c:=List.map_id' c
      rw[same]
   ·rw[if_neg e]
    have h':(c.any fun x=>decide (x.1=k))=true:=by
     rw[List.any_cons,decide_eq_false e,Bool.false_or] at h
     exact h
    by_cases ex:x.1=z
    ·rw[decide_eq_true ex,if_neg (fun y=>e (ex.trans y))]
    ·rw[decide_eq_false ex]
     exact ih h'
 ·rw[if_neg h]
  unfold Bl
  rw[List.find?_append]
  by_cases ez:z=k
  ·have:c.find? (fun x=>decide (x.1=z))=none:=List.find?_eq_none.mpr fun x hx y=>h (List.any_eq_true.mpr ⟨x,hx,by rw[←ez];exact y⟩)
   rw[this,if_pos ez,List.find?_cons,decide_eq_true ez.symm];rfl
  ·rw[if_neg ez,List.find?_cons,decide_eq_false (show ¬(k,row).1=z from fun y=>ez y.symm),List.find?_nil]
   cases c.find? (fun x=>decide (x.1=z))<;>rfl
theorem Km {bs:List Bz}{i b:Nat}{c:Bz}(hb:b<bs.length):(bs.set i c).getD b []=if i=b then c else bs.getD b []:=by
 unfold List.getD
 rw[List.getElem?_set]
 by_cases e:i=b
 ·rw[if_pos e,if_pos e,if_pos (by omega)];rfl
 ·rw[if_neg e,if_neg e]
theorem KH (z:Int)(row:List Int)(x:Int):∀(l:List Int) (bs:List Bz) (b:Nat),b<bs.length→(∀y∈l,0≤y)→Bl ((wr bs z row l).getD b []) x=if x=z∧(b:Int)∈l then some row else Bl (bs.getD b []) x
 |[],bs,b,_,_=>by rw[if_neg (fun h=>nomatch h.2)];rfl
 |y::l,bs,b,hb,hl=>by
  have y0:=hl y List.mem_cons_self
  show Bl ((wr (bs.set y.toNat (Fq (bs.getD y.toNat []) z row)) z row l).getD b []) x=_
  rw[KH z row x l _ b (by rw[List.length_set];exact hb) fun u hu=>hl u (List.mem_cons_of_mem _ hu),Km hb]
  by_cases ex:x=z
  ·by_cases hm:(b:Int)∈l
   ·rw[if_pos ⟨ex,hm⟩,if_pos ⟨ex,List.mem_cons_of_mem _ hm⟩]
   ·rw[if_neg (fun h=>hm h.2)]
    by_cases e:y.toNat=b
    ·rw[if_pos e,Lg,if_pos ex,if_pos ⟨ex,by rw[show(b:Int)=y by omega];exact List.mem_cons_self⟩]
    ·rw[if_neg e,if_neg fun h=>(List.mem_cons.mp h.2).elim (fun z=>e (by omega)) hm]
  ·rw[if_neg (show ¬(x=z∧(b:Int)∈l) from fun h=>ex h.1),if_neg (show ¬(x=z∧(b:Int)∈y::l) from fun h=>ex h.1)]
   by_cases e:y.toNat=b
   ·rw[if_pos e,Lg,if_neg ex,e]
   ·rw[if_neg e]
theorem made {H1 H2:Hp}{x dx:Addr}(nx:H1 x=none)(ndx:H1 dx=none)(k:∀b o,(upd (upd H1 dx (.own x)) x (.ins Aa dx [])) b=some o→b≠x→H2 b=some o):Al H1 H2:=fun b o e=>by
 have n1:b≠x:=Ar e nx
 have n2:b≠dx:=Ar e ndx
 exact k b o (by rw[Ai n1,Ai n2];exact e) n1
theorem Pq {C:Addr}{H H':Hp}{p:Addr}{ds:List Addr}{bs:List Bz}{n:Int}{lf:V}(g:Cp C H p ds bs n lf)(k:Kb H H' p ds){c:Addr}{xs:List V}(e:H c=some (.tup xs)):H' c=some (.tup xs):=by
 obtain⟨dx,s0,h1,_⟩:=id g
 exact k c _ e (Av e h1 (by intro z;cases z)) (g.notin e (by intro kvs z;cases z))
theorem GX {C:Addr}{H H':Hp}{p:Addr}{ds:List Addr}{bs:List Bz}{n:Int}{lf:V}(g:Cp C H p ds bs n lf)(k:Kb H H' p ds){c:Addr}{xs:List V}(e:H c=some (.lst xs)):H' c=some (.lst xs):=by
 obtain⟨dx,s0,h1,_⟩:=id g
 exact k c _ e (Av e h1 (by intro z;cases z)) (g.notin e (by intro kvs z;cases z))
theorem Wt {C:Addr}{H H':Hp}{p:Addr}{ds:List Addr}{bs:List Bz}{n:Int}{lf:V}(g:Cp C H p ds bs n lf)(k:Kb H H' p ds){t:Tr}{v:V}(e:Rep NL H t v):Rep NL H' t v:=EK (fun c xs h=>Pq g k h) t v e
theorem Qx {xs:List V}{i:Int}(h0:0≤i)(h1:i<xs.length):∃v,He xs i=some v∧v∈xs:=by
 have hk:i.toNat<xs.length:=by omega
 have q:He xs ((i.toNat:Nat):Int)=some xs[i.toNat]:=CP (List.getElem?_eq_getElem hk)
 rw[show((i.toNat:Nat):Int)=i by omega] at q
 exact⟨_,q,List.getElem_mem hk⟩
theorem O9 {bs:List Bz}{z:Int}(h:2≤bs.length):z%(bs.length:Int)≠(z+1)%(bs.length:Int):=fun e=>by
 have h1:=Int.emod_lt_of_pos z (show(0:Int)<bs.length by omega)
 have h0:=Int.emod_nonneg z (show(bs.length:Int)≠0 by omega)
 have e1:(z+1)%(bs.length:Int)=(z%(bs.length:Int)+1)%(bs.length:Int):=by rw[Int.emod_add_emod]
 rw[e1] at e
 generalize z%(bs.length:Int)=r at e h1 h0
 by_cases c:r+1<(bs.length:Int)
 ·rw[Int.emod_eq_of_lt (by omega) c] at e;omega
 ·have:r+1=(bs.length:Int):=by omega
  rw[this,Int.emod_self] at e
  omega
theorem HK {bs:List Bz}{z:Int}(h:0<bs.length):∀y∈BK bs z,0≤y:=fun y hy=>(CK h y hy).1
theorem LB (z u:Int):∀c:Bz,Bl (IC c z) u=if u=z then none else Bl c u
 |[]=>by split<;>rfl
 |x::c=>by
  have ih:=LB z u c
  unfold IC at ih ⊢
  by_cases e:x.1=z
  ·rw[List.filter_cons_of_neg (by rw[decide_eq_true e];exact Bool.false_ne_true),ih]
   by_cases h:u=z
   ·rw[if_pos h,if_pos h]
   ·rw[if_neg h,if_neg h]
    unfold Bl;rw[List.find?_cons,decide_eq_false (fun q:x.1=u=>h (q.symm.trans e))]
  ·rw[List.filter_cons_of_pos (by rw[decide_eq_false e];rfl)]
   unfold Bl at ih ⊢
   rw[List.find?_cons]
   by_cases h:x.1=u
   ·rw[decide_eq_true h,if_neg (fun q=>e (h.trans q)),List.find?_cons,decide_eq_true h]
   ·rw[decide_eq_false h,List.find?_cons,decide_eq_false h];exact ih
theorem R9 (c:Bz)(z:Int)(o:Option (List Int))(u:Int):Bl (DM c z o) u=if u=z then o else Bl c u:=by
 cases o with
 |some row=>exact Lg c z row u
 |none=>exact LB z u c
theorem T6 (c:Bz)(z:Int)(o:Option (List Int)):(DM c z o).length≤c.length+1:=by
 cases o with
 |some row=>exact NA c z row
 |none=>exact Nat.le_trans (List.length_filter_le _ _) (Nat.le_succ _)
theorem V7 {bs:List Bz}{b:Nat}(hb:b<bs.length)(z:Int)(o:Option (List Int))(b':Nat)(u:Int):Bl ((bs.set b (DM (bs.getD b []) z o)).getD b' []) u=if u=z∧b=b' then o else Bl (bs.getD b' []) u:=by
 by_cases e:b=b'
 ·subst e
  rw[Km hb,if_pos rfl,R9]
  by_cases h:u=z
  ·rw[if_pos h,if_pos ⟨h,rfl⟩]
  ·rw[if_neg h,if_neg fun q=>h q.1]
 ·rw[if_neg fun q=>e q.2]
  have:(bs.set b (DM (bs.getD b []) z o)).getD b' []=bs.getD b' []:=by
   unfold List.getD;rw[List.getElem?_set_ne e]
  rw[this]
theorem NG {bs:List Bz}{b M:Nat}(h:∀c∈bs,c.length≤M)(z:Int)(o:Option (List Int)):∀c∈bs.set b (DM (bs.getD b []) z o),c.length≤M+1:=fun c hc=>by
 rcases List.mem_or_eq_of_mem_set hc with hc|rfl
 ·have:=h c hc;omega
 ·have:=T6 (bs.getD b []) z o
  have:(bs.getD b []).length≤M:=by
   unfold List.getD
   cases e:bs[b]? with
   |none=>exact Nat.zero_le _
   |some c=>exact h c (List.mem_of_getElem? e)
  omega
def Ap (C:Addr)(H:Hp)(p:Addr)(ds:List Addr)(bs:List Bz)(n:Int)(lf:V)(t:Addr):Prop:=∀ys,Cp C (upd H t (.lst ys)) p ds bs n lf
theorem Ap.same {C:Addr}{H H':Hp}{p t:Addr}{ds:List Addr}{bs:List Bz}{n:Int}{lf:V}(h:Ap C H p ds bs n lf t)(s:Al H H'):Ap C H' p ds bs n lf t:=fun ys=>(h ys).same fun b o e=>by
 by_cases q:b=t
 ·rw[q,Ad] at e ⊢;exact e
 ·rw[Ai q] at e ⊢;exact s.get e
structure Ld where
 z:Int
 y:Int
 bk:Bk
 v:V
def Ld.tag (e:Ld):List V:=[.int e.z,.int e.y,.int (DJ e.bk)]
def Ld.key (e:Ld):List Key:=[.inl e.z,.inl e.y,.inl (DJ e.bk)]
def Ld.row (e:Ld):List Int:=Bp (DV e.z e.y e.bk)
def Ld.ok (e:Ld):Prop:=HL e.z e.y∧Hn e.bk
def TJ (bs:List Bz)(es:List Ld):Prop:=∀e∈es,e.ok∧∀b:Nat,Bl (bs.getD b []) e.z=if(b:Int)∈BK bs e.z then some e.row else none
def IX (H:Hp)(es:List Ld):Prop:=∀e∈es,Rep NL H (Gh e.bk) e.v
theorem Nl {κ:Type}[DecidableEq κ]{kvs:List (κ×V)}{k:κ}{v:V}(h:∀x∈kvs,x.1≠k):putK kvs k v=kvs++[(k,v)]:=by
 unfold putK
 rw[if_neg]
 intro z
 obtain⟨x,hx,e⟩:=List.any_eq_true.mp z
 exact h x hx (of_decide_eq_true e)
theorem CS {bs bs':List Bz}(h:bs'.length=bs.length)(u:Int):BK bs' u=BK bs u:=by unfold BK;rw[h]
theorem Ly {C:Addr}{H H':Hp}{p:Addr}{ds:List Addr}{bs:List Bz}{n:Int}{lf:V}(g:Cp C H p ds bs n lf)(k:Kb H H' p ds){c:Addr}{kvs:List (List Key×V)}(e:H c=some (.dT kvs)):H' c=some (.dT kvs):=by
 obtain⟨dx,s0,h1,_⟩:=id g
 exact k c _ e (Av e h1 (by intro z;cases z)) (g.notin e (by intro kvs z;cases z))
theorem HF {C:Addr}{H:Hp}{p d:Addr}{ds:List Addr}{bs:List Bz}{n:Int}{lf:V}{kvs:List (List Key×V)}{o:HO}(h:Cp C H p ds bs n lf)(hd:H d=some (.dT kvs)):Cp C (upd H d o) p ds bs n lf:=by
 obtain⟨dx,s0,h1,h2,h3,h4⟩:=h
 exact⟨dx,s0,by rw[Ai (Av h1 hd (by intro z;cases z))];exact h1,by rw[Ai (Av h2 hd (by intro z;cases z))];exact h2,h3,h4.same (fun a xs e=>by rw[Ai (Av e hd (by intro z;cases z))];exact e) fun c _ kvs e=>by rw[Ai (Av e hd (by intro z;cases z))];exact e⟩
def DQ (K:W.Frag)(C:Addr):Sp:=fun vs H Q _=>∃p ds bs n lf,∃(ta:Addr) (z y k:Int),vs=[.ref p,.ref ta]∧Cp C H p ds bs n lf∧0<bs.length∧H ta=some (.tup [.int z,.int y,.int k])∧Kt bs z∧HL z y∧(BK bs z).filter (Gx bs z y k)=[]∧∀H',Al H H'→Q (.bl true) H'
theorem JR (T:Txt K mg Ac Aa XC)(F:Fun K "_law_is_lost" "_law_is_lost" BR f fd)(Ed:SQ P w K mg base 17 "fetched" ["boards","tag"] (Ej K Aa XC)):FnOk P w K mg base Dp 18 f fd ["_law_boards","_law_tag_here"] (DQ K Aa):=by
 exists CO
 ·obtain⟨p,ds,bs,n,lf,ta,z,y,k,rfl,_⟩:=h
  rfl
 obtain⟨p,ds,bs,n,lf,ta,z,y,k,rfl,hB,b0,ht,rl,nb,hf,q⟩:=h
 refine⟨_,(!Af (@Ax _ _ (2) _ _ _ _ CO.nd rfl (by trivial) (!D0) (by rfl) (by trivial)) (!Af (@Rr _ _ _ _ _ _ _ _ _ _ _ (3) _ _ _ ⟨rfl,rfl⟩ T.x_Lost rfl CO.nd rfl rfl (!So (!TN (!U9 Ed (by trivial) rfl (!Ab (pv 0) (!Ab (pv 1) (!Ag) (by rfl)) (by rfl)) (by decide) (by rfl) (by rfl)) (by rfl))) (!As) (fun ea=>(!Aj (@Ax _ _ (2) _ _ _ _ CO.nd rfl (by trivial) (!C7 B3 (@UB _ (K) (by rfl) _ _ _ _ (pv 3) rfl) (!Ay AF (pv 1) (!Ae) (fun _ _=>rfl)) (AJ _)) (by rfl) (by trivial)))) (by decide)) (!Aj (!An (pv 2))))),?_⟩
 try dsimp only[B9,Cx.nox,Cx.wish]
 refine⟨_,rfl,_,rfl,p,ds,bs,n,lf,ta,z,y,k,rfl,hB,b0,ht,rl,nb,(fun x bk hx=>by rw[hf] at hx;cases hx),fun _ dx H2 s2 nd hd=>⟨T.m_Lost_Lost,XC 2,rfl,fun ea hea=>?_⟩⟩
 have se:=Ak hea (T4 ea (XC 2) (some dx))
 refine⟨_,rfl,ea,XC 2,dx,_,_,rfl,Ad,T.i_Lost,T.f_Lost,se.get hd,rfl,?_⟩
 refine⟨_,rfl,ta,_,_,_,rfl,rfl,AW.of (se.get (s2.get ht)),rfl,rfl,?_⟩
 rw[decide_eq_true (show V.int z=V.int z from rfl)]
 exact⟨_,rfl,q _ (s2.trans se)⟩
def FQ (K:W.Frag)(C:Addr):Sp:=fun vs H Q _=>∃p ds bs n,∃(a:Addr) (ns:List Int),vs=[.ref p,.ref a]∧Cp C H p ds bs n .non∧2≤bs.length∧bs.length≤4∧(∀c∈bs,c=[])∧H a=some (.lst (ns.map V.int))∧ns.length≤9∧
 ∀d H' bs' n' (es:List Ld),H d=none→Cp C H' p ds bs' n' .non→Kb H H' p ds→bs'.length=bs.length→(∀c∈bs',c.length≤100)→H' d=some (.dT (es.map fun e=>(e.key,e.v)))→es.length=ns.length→(es.map (·.z)).Nodup→TJ bs' es→IX H' es→Q (.ref d) H'
theorem Mt (T:Txt K mg Ac Aa XC)(F:Fun K "_law_laid" "_law_laid" CZ f fd)(BN:Def P w K mg base 1 "_law_numbers" ["_law_cell","_law_many"] (CQ K))(FX:Def P w K mg base 2 "_law_block" ["_law_some"] (E3 K))(LA:Iy P w K mg base 10 "lay" ["boards","number","birth","block"] (Nf K Aa XC))(HC:Def P w K mg base 3 "_law_sum" ["_law_block_here"] (GD K)):FnOk P w K mg base Dp 11 f fd ["_law_boards","_law_cells"] (FQ K Aa):=by
 exists BH
 ·obtain⟨p,ds,bs,n,a,ns,rfl,_⟩:=h
  rfl
 obtain⟨x,ds,bs0,n0,cs,ns,rfl,hB0,m1,m2,emp,hc0,l9,q⟩:=h
 have hu:=IA hr
 refine⟨_,(!Af (@Ax _ _ (2) _ _ _ _ BH.nd rfl (by trivial) (!Kn) (by rfl) (by trivial)) (!Af (!CJ PassesOwn.never rfl (!Ot rfl T.b_enumerate (!Ab (pv 1) (!Ag) (by rfl)) (by rfl)) (!KE rfl (!By (@Az _ _ (3) _ BH.nd rfl (by trivial) (by trivial)) (!By (@Az _ _ (4) _ BH.nd rfl (by trivial) (by trivial)) (!G7) (by rfl)) (by rfl)) (by rfl) (by rfl)) (!Af (@Ax _ _ (5) _ _ _ _ BH.nd rfl (by trivial) (!AK BN (by trivial) rfl (!Ab (pv 4) (!Ab (!Ae) (!Ag) (by rfl)) (by rfl)) (by decide) (by rfl) (by rfl)) (by rfl) (by trivial)) (!Af (@Ax _ _ (6) _ _ _ _ BH.nd rfl (by trivial) (!Am Be (!Am Be (!Ae) (!Am EM (!Am AG (!Ay AY (pv 5) (!Ae) (fun _ _=>rfl)) (!Ae)) (!Ae))) (pv 3)) (by rfl) (by trivial)) (!Af (@Ax _ _ (7) _ _ _ _ BH.nd rfl (by trivial) (!Am AG (!Ay AY (pv 5) (!Ae) (fun _ _=>rfl)) (!Am Pj (!Ae) (!Ae))) (by rfl) (by trivial)) (!Af (@Ax _ _ (8) _ _ _ _ BH.nd rfl (by trivial) (!AK FX (by trivial) rfl (!Ab (!Dg FN (pv 5) (!CD (!Ae)) (!II)) (!Ag) (by rfl)) (by decide) (by rfl) (by rfl)) (by rfl) (by trivial)) (!Af (!Co (!K5 LA (by trivial) rfl VY (!Ab (pv 0) (!Ab (pv 6) (!Ab (pv 7) (!Ab (pv 8) (!Ag) (by rfl)) (by rfl)) (by rfl)) (by rfl)) (by decide) (by rfl) (by rfl)) (by rfl)) (!Aj (!D5 hu (pv 2) (!El (!Ab (pv 6) (!Ab (pv 7) (!Ab (!AK HC (by trivial) rfl (!Ab (pv 8) (!Ag) (by rfl)) (by decide) (by rfl) (by rfl)) (!Ag) (by rfl)) (by rfl)) (by rfl))) (pv 8) rfl))))))) (by intro _;rfl)) (!Aj (!An (pv 2))))),?_⟩
 try dsimp only[B9,Cx.nox,Cx.wish]
 refine fun d hd=>?_
 have sd:=Ak hd (.dT [])
 have nsd:cs≠d:=Ar hc0 hd
 have ini:∀(b:Nat) (u:Int),Bl (bs0.getD b []) u=none:=fun b u=>by
  have:bs0.getD b []=[]:=by
   unfold List.getD
   cases e:bs0[b]? with
   |none=>rfl
   |some c=>exact emp c (List.mem_of_getElem? e)
  rw[this];rfl
 refine⟨_,rfl,cs,_,rfl,AM.of (sd.get hc0),LM (K:=K) (a:=cs) (xs:=ns.map V.int) (fun i σ H2=>∃v3 v4 v5 v6 v7 v8 bs n,∃(es:List Ld),σ=[some (.ref x),some (.ref cs),some (.ref d),v3,v4,v5,v6,v7,v8]∧Cp Aa H2 x ds bs n .non∧Kb H H2 x ds∧H2 cs=some (.lst (ns.map V.int))∧H2 d=some (.dT (es.map fun e=>(e.key,e.v)))∧bs.length=bs0.length∧(∀c∈bs,c.length≤2*i)∧es.length=i∧(∀(j:Nat) e,es[j]?=some e→(e.z-1)%9=(j:Int))∧TJ bs es∧IX H2 es∧∀b u,(i:Int)≤(u-1)%9→Bl (bs.getD b []) u=none)
  ⟨none,none,none,none,none,none,bs0,n0,[],rfl,hB0.same sd,(fun b o e _ _=>sd.get e),sd.get hc0,Ad,rfl,(fun c hc=>by rw[emp c hc];exact Nat.zero_le _),rfl,(fun j e z=>nomatch z),(fun e z=>nomatch z),(fun e z=>nomatch z),fun b u _=>ini b u⟩ (fun i σ H2 _ ⟨_,_,_,_,_,_,_,_,_,_,_,_,h,_⟩=>AM.of h) ?_ ?_⟩
 ·rintro i y σ H2 T hi ⟨v3,v4,v5,v6,v7,v8,bs,n,es,rfl,hB,kb,hcs2,hd2,lb,bb,le,zs,lay,rep,fr⟩ hT
  obtain⟨z,rfl,hz⟩:=ints_get hi
  have i9:i<9:=by
   have:=(List.getElem?_eq_some_iff.mp hz).1
   omega
  have sT:=Ak hT (.tup [V.int (i:Int),V.int z])
  refine⟨T,_,rfl,AW.of Ad,rfl,_,_,rfl,_,_,rfl,rfl,?_⟩
  refine⟨_,rfl,z,30,rfl,by decide,by decide,fun r H3 xs s3 nr hr3 lx bx=>?_⟩
  have lx':xs.length=30:=lx
  have xn:∀k:Nat,k<30→∃u,He (xs.map V.int) (k:Int)=some (.int u)∧0≤u:=fun k hk=>by
   have hk':k<xs.length:=by omega
   refine⟨xs[k],CP (by rw[List.getElem?_map,List.getElem?_eq_getElem hk'];rfl),(bx _ (List.getElem_mem hk')).1⟩
  obtain⟨r0,A0,p0⟩:=xn 0 (by decide)
  obtain⟨r1,A1,p1'⟩:=xn 1 (by decide)
  refine⟨_,rfl,r,_,_,_,rfl,rfl,AM.of hr3,A0,_,_,rfl,rfl,(show(0:Int)<100000 by decide),_,_,rfl,rfl,.inr ⟨by decide,by decide⟩,_,_,rfl,rfl,_,rfl,_,_,rfl,rfl,?_⟩
  have N1:1≤1+r0%100000*9+(i:Int):=by omega
  have N2:1+r0%100000*9+(i:Int)≤999999:=by omega
  have N9:(1+r0%100000*9+(i:Int)-1)%9=(i:Int):=by omega
  dsimp only
  generalize 1+r0%100000*9+(i:Int)=N at N1 N2 N9
  refine⟨_,rfl,r,_,_,_,rfl,rfl,AM.of hr3,A1,_,_,rfl,rfl,⟨by decide,by decide,by decide⟩,_,_,rfl,rfl,(show(0:Int)<(10:Int)^(9:Int).toNat by decide),?_⟩
  have e9:(10:Int)^(9:Int).toNat=1000000000:=by decide
  dsimp only
  rw[e9]
  have Y1:0≤r1%1000000000:=by omega
  have Y2:r1%1000000000≤999999999:=by omega
  generalize r1%1000000000=Y at Y1 Y2
  have nb:HL N Y:=⟨⟨by omega,by omega⟩,Y1,Y2⟩
  refine⟨_,rfl,6,rfl,r,_,rfl,AM.of hr3,fun l3 hl3=>?_⟩
  rw[Su (by decide),←List.map_drop]
  have s7:=Ak hl3 (.lst ((xs.drop (6:Int).toNat).map V.int))
  refine⟨l3,xs.drop (6:Int).toNat,rfl,Ad,by rw[List.length_drop,lx'];decide,fun u hu=>bx u (List.mem_of_mem_drop hu),fun bv bk H6 s8 ok hv=>?_⟩
  have S6:=((sT.trans s3).trans s7).trans s8
  have hB6:=hB.same S6
  have b0:0<bs.length:=by omega
  refine⟨_,rfl,_,rfl,_,rfl,_,rfl,x,ds,bs,n,.non,N,Y,bv,bk,rfl,hB6,.inl rfl,b0,(fun c hc=>by have:=bb c hc;omega),hv,ok,nb,(fun j j2 nz e0=>?_),fun nz H8 hB8 k8=>?_⟩
  ·rcases j with _|_|j
   ·exact nomatch(show V.non=V.int 0 from e0)
   ·exact nomatch(show V.non=V.int 0 from e0)
   ·omega
  have hv8:=Wt hB6 k8 hv
  refine⟨_,rfl,_,rfl,_,rfl,_,rfl,_,rfl,bv,bk,rfl,hv8,ok,fun H9 s9=>⟨Rl,fun kt hkt=>?_⟩⟩
  have s10:=Ak hkt (.tup [V.int N,V.int Y,V.int (DJ bk)])
  have S10:=s9.trans s10
  have hd10:=S10.get (Ly hB6 k8 (S6.get hd2))
  have nk:∀a∈es.map (fun e=>(e.key,e.v)),a.1≠[Sum.inl N,Sum.inl Y,Sum.inl (DJ bk)]:=fun a ha z=>by
   obtain⟨e,he,rfl⟩:=List.mem_map.mp ha
   obtain⟨j,hj,rfl⟩:=List.getElem_of_mem he
   have e1:=zs j _ (List.getElem?_eq_getElem hj)
   have e2:es[j].z=N:=by injection z with z _;exact Sum.inl.inj z
   rw[e2] at e1
   omega
  refine⟨d,_,rfl,HQ.t (k:=[Sum.inl N,Sum.inl Y,Sum.inl (DJ bk)]) hd10 Ad (BL (by rw[List.length_map];omega)),?_⟩
  rw[Nl nk]
  have hB10:=hB8.same S10
  have cs10:=S10.get (GX hB6 k8 (S6.get hcs2))
  have tp8:∀c ys,H2 c=some (.tup ys)→(upd H9 kt (.tup [V.int N,V.int Y,V.int (DJ bk)])) c=some (.tup ys):=fun c ys h=>S10.get (Pq hB6 k8 (S6.get h))
  have hv10:=Rep.same S10 _ _ hv8
  have kb10:∀b o,H b=some o→b≠x→b∉ds→(upd H9 kt (.tup [V.int N,V.int Y,V.int (DJ bk)])) b=some o:=fun b o e n1 n2=>S10.get (k8 b o (S6.get (kb b o e n1 n2)) n1 n2)
  generalize upd H9 kt (.tup [V.int N,V.int Y,V.int (DJ bk)])=H10 at *
  have lw:(wr bs N (Bp (DV N Y bk)) (BK bs N)).length=bs.length:=Hw _ _ _ _
  have etw:∀u,BK (wr bs N (Bp (DV N Y bk)) (BK bs N)) u=BK bs u:=fun u=>CS lw u
  have beyond:∀(b:Nat) (u:Int),¬b<bs.length→Bl ((wr bs N (Bp (DV N Y bk)) (BK bs N)).getD b []) u=none:=fun b u hb=>by
   have:(wr bs N (Bp (DV N Y bk)) (BK bs N)).getD b []=[]:=by unfold List.getD;rw[List.getElem?_eq_none (by rw[lw];omega)];rfl
   rw[this];rfl
  have tp:∀c ys,H10 c=some (.tup ys)→(upd H10 d (.dT (es.map (fun e=>(e.key,e.v))++[([Sum.inl N,Sum.inl Y,Sum.inl (DJ bk)],bv)]))) c=some (.tup ys):=fun c ys h=>by rw[Ai (Av h hd10 (by intro z;cases z))];exact h
  refine⟨_,_,_,_,_,_,wr bs N (Bp (DV N Y bk)) (BK bs N),n+2,es++[⟨N,Y,bk,bv⟩],rfl,HF hB10 hd10,fun b o e n1 n2=>?_,?_,?_,by rw[lw];exact lb,fun c hc=>?_,by rw[List.length_append,le];rfl,fun j e he=>?_,fun e he=>?_,fun e he=>?_,fun b u hu=>?_⟩
  ·rw[Ai (fun z=>by rw[z,hd] at e;cases e)];exact kb10 b o e n1 n2
  ·rw[Ai nsd];exact cs10
  ·rw[Ad,List.map_append];rfl
  ·have:=OB _ bb c hc
   have e2:(BK bs N).length=2:=rfl
   omega
  ·rcases Nat.lt_or_ge j es.length with h|h
   ·rw[List.getElem?_append_left h] at he;exact zs j e he
   ·rw[List.getElem?_append_right h] at he
    have:j-es.length=0:=by
     rcases k:j-es.length with _|m
     ·rfl
     ·rw[k] at he;cases he
    rw[this] at he
    cases he
    rw[show j=i by omega]
    exact N9
  ·rcases List.mem_append.mp he with he|he
   ·obtain⟨o1,o2⟩:=lay e he
    refine⟨o1,fun b=>?_⟩
    rw[etw]
    obtain⟨j,hj,rfl⟩:=List.getElem_of_mem he
    have e1:=zs j _ (List.getElem?_eq_getElem hj)
    by_cases hb:b<bs.length
    ·rw[KH N _ _ _ bs b hb fun y hy=>HK b0 y hy,if_neg (fun h=>by rw[h.1] at e1;omega)]
     exact o2 b
    ·rw[beyond b _ hb,if_neg (fun h=>by have:=(CK b0 _ h).2;omega)]
   ·rw[List.mem_singleton.mp he]
    refine⟨⟨nb,ok⟩,fun b=>?_⟩
    dsimp only
    rw[etw]
    by_cases hb:b<bs.length
    ·rw[KH N _ _ _ bs b hb fun y hy=>HK b0 y hy]
     by_cases hm:(b:Int)∈BK bs N
     ·rw[if_pos ⟨rfl,hm⟩,if_pos hm];rfl
     ·rw[if_neg (fun h=>hm h.2),if_neg hm]
      exact fr b N (by omega)
    ·rw[beyond b _ hb,if_neg (fun h=>by have:=(CK b0 _ h).2;omega)]
  ·rcases List.mem_append.mp he with he|he
   ·exact EK (fun c ys h=>tp c ys (tp8 c ys h)) _ _ (rep e he)
   ·rw[List.mem_singleton.mp he]
    exact EK tp _ _ hv10
  ·by_cases hb:b<bs.length
   ·rw[KH N _ u _ bs b hb fun y hy=>HK b0 y hy,if_neg (fun h=>by rw[h.1] at hu;omega)]
    exact fr b u (by omega)
   ·exact beyond b u hb
 ·rintro σ H2 ⟨v3,v4,v5,v6,v7,v8,bs,n,es,rfl,hB,kb,hcs2,hd2,lb,bb,le,zs,lay,rep,fr⟩
  rw[List.length_map] at le bb
  refine⟨_,rfl,q d H2 bs n es hd hB kb lb (fun c hc=>by have:=bb c hc;omega) hd2 le ?_ lay rep⟩
  refine List.pairwise_iff_getElem.mpr fun i j hi hj hij e=>?_
  rw[List.getElem_map,List.getElem_map] at e
  rw[List.length_map] at hi hj
  have e1:=zs i _ (List.getElem?_eq_getElem hi)
  have e2:=zs j _ (List.getElem?_eq_getElem hj)
  rw[e] at e1
  omega
theorem X6:∀c:Fin 1001,c.val≠0→Nat.gcd c.val 2147483647=1:=by decide +kernel
theorem UL {c d:Int}(hc:c = -1∨(1≤c∧c≤1000))(d0:d≠0)(d1:-2147483647<d)(d2:d<2147483647):¬(c*d)%2147483647=0:=fun h=>by
 have hd:=Int.dvd_of_emod_eq_zero h
 rcases hc with rfl|⟨c1,c2⟩
 ·obtain⟨k,hk⟩:=hd;omega
 ·have g:=X6 ⟨c.toNat,by omega⟩ (by show c.toNat≠0;omega)
  have h2:2147483647 ∣ c.natAbs*d.natAbs:=by
   have:=Int.natAbs_dvd_natAbs.mpr hd
   rw[Int.natAbs_mul] at this
   exact this
  have h3:Nat.Coprime 2147483647 c.natAbs:=by
   show Nat.gcd 2147483647 c.natAbs=1
   rw[Nat.gcd_comm,show c.natAbs=c.toNat by omega]
   exact g
  obtain⟨k,hk⟩:=h3.dvd_of_dvd_mul_left h2
  omega
theorem K3 {r:List Int}{i:Nat}{d:Int}(hr:r.length≤1000)(h:i<r.length)(hs:sound r=true)(d0:d≠0)(d1:-2147483647<d)(d2:d<2147483647):sound (r.set i (r[i]+d))=false:=by
 cases e:sound (r.set i (r[i]+d)) with
 |false=>rfl
 |true=>
  have a:=Lr hs
  have b:=Lr e
  rw[U5 h,show r[i]+d-r[i]=d by omega] at b
  have c:co r i = -1∨(1≤co r i∧co r i≤1000):=by unfold co;split<;>omega
  have z:=UL c d0 d1 d2
  clear hs e c h hr
  generalize Xm r=B at a b
  generalize co r i*d=P at b z
  omega
theorem Ja {κ:Type}[DecidableEq κ]:∀{kvs:List (κ×V)} (_:(kvs.map (·.1)).Nodup) {k:κ} {v:V},(k,v)∈kvs→CL kvs k=some v
 |[],_,_,_,h=>nomatch h
 |x::kvs,nd,k,v,h=>by
  rw[List.map_cons,List.nodup_cons] at nd
  rcases List.mem_cons.mp h with rfl|h
  ·exact GR rfl
  ·rw[Gu (fun e=>nd.1 (by rw[e];exact List.mem_map.mpr ⟨_,h,rfl⟩))]
   exact Ja nd.2 h
theorem QE:∀(l:List Int) (t:Int),0≤t→t≤1000→0≤l.foldl (fun t n=>(31*t+n+1)%997) t∧l.foldl (fun t n=>(31*t+n+1)%997) t≤1000
 |[],t,h0,h1=>⟨h0,h1⟩
 |x::l,t,_,_=>QE l ((31*t+x+1)%997) (by omega) (by omega)
theorem sum_in (b:Bk):0≤DJ b∧DJ b≤1000:=by
 have k:0≤kindB b∧kindB b≤2:=by cases b<;>simp[kindB]
 exact QE _ _ (by omega) (by omega)
def Ld.tree (e:Ld):Tr:=.tup [.int e.z,.int e.y,.int (DJ e.bk)]
theorem Fg {e:Ld}(n:HL e.z e.y):CT 8 e.tree=true:=by
 obtain⟨⟨z1,z2⟩,y1,y2⟩:=n
 have k:=sum_in e.bk
 show(decide _&&(List.all [Tr.int e.z,Tr.int e.y,Tr.int (DJ e.bk)] (CT 7)))=true
 simp[CT]
 omega
theorem Ig {H:Hp}{a:Addr}{e:Ld}(h:H a=some (.tup e.tag)):Rep NL H e.tree (.ref a):=⟨a,_,rfl,h,_,_,rfl,rfl,_,_,rfl,rfl,_,_,rfl,rfl,rfl⟩
abbrev Rw:=Ld×Addr
def Ss (ps:List Rw):List (List Key×V):=ps.map fun p=>(p.1.key,.ref p.2)
theorem Ea {α:Type}{g:α→Ld}:∀{ps:List α},(ps.map fun p=>(g p).z).Nodup→(ps.map fun p=>(g p).key).Nodup
 |[],_=>List.nodup_nil
 |p::ps,h=>by
  rw[List.map_cons,List.nodup_cons] at h ⊢
  refine⟨fun q=>h.1 ?_,Ea h.2⟩
  obtain⟨x,hx,e⟩:=List.mem_map.mp q
  refine List.mem_map.mpr ⟨x,hx,?_⟩
  injection e with e _
  exact Sum.inl.inj e
theorem R5 {ps:List Rw}(nd:(ps.map (·.1.z)).Nodup){p:Rw}(h:p∈ps):CL (Ss ps) p.1.key=some (.ref p.2):=by
 refine Ja ?_ (List.mem_map.mpr ⟨p,h,rfl⟩)
 unfold Ss
 rw[List.map_map]
 exact Ea (g:=fun p:Rw=>p.1) nd
theorem Mw {α β:Type}{g:α→β}:∀{l:List α},(l.map g).Nodup→∀{x y:α},x∈l→y∈l→g x=g y→x=y
 |[],_,_,_,h,_,_=>nomatch h
 |a::l,nd,x,y,hx,hy,e=>by
  rw[List.map_cons,List.nodup_cons] at nd
  rcases List.mem_cons.mp hx with h1|h1<;>rcases List.mem_cons.mp hy with h2|h2
  ·rw[h1,h2]
  ·exact absurd (List.mem_map.mpr ⟨y,h2,by rw[←e,h1]⟩) nd.1
  ·exact absurd (List.mem_map.mpr ⟨x,h1,by rw[e,h2]⟩) nd.1
  ·exact Mw nd.2 h1 h2 e
theorem Tt {e' e:Ld}(o':e'.ok)(nb:HL e.z e.y)(h:e'.z≠e.z)(k:Int):∀bk,¬Ho (some e'.row) e.z e.y k bk:=fun bk o=>by
 have:=Jo (D6 o'.1 o'.2) (D6 nb o.2.1) (Option.some.inj o.1)
 unfold DV at this
 injection this with this
 injection this with this _
 injection this with this
 exact h this
theorem QU {row:Option (List Int)}{z y k:Int}(nb:HL z y)(h:Qm row):∀bk,¬Ho row z y k bk:=fun bk o=>h z y bk nb o.2.1 o.1
def Eu (K:W.Frag)(C:Addr):Sp:=fun vs H Q _=>∃p ds bs n lf,∃(b:Nat) (ta so dw:Addr) (ns:List Int) (ps:List Rw) (e:Rw),vs=[.ref p,.int (b:Int),.ref ta,.ref so,.ref dw]∧Cp C H p ds bs n lf∧b<bs.length∧(∀c∈bs,c.length<1000)∧
 H ta=some (.tup e.1.tag)∧H so=some (.lst (ns.map V.int))∧4≤ns.length∧(∀x∈ns,0≤x∧x<2147483647)∧H dw=some (.dT (Ss ps))∧ps.length≤9∧e∈ps∧(ps.map (·.1.z)).Nodup∧(∀x∈ps,x.1.ok∧H x.2=some (.lst (x.1.row.map V.int)))∧
 ∀H' row,Cp C H' p ds (bs.set b (DM (bs.getD b []) e.1.z row)) n lf→Kb H H' p ds→(∀a xs,H a=some (.lst xs)→Ap C H p ds bs n lf a→Ap C H' p ds (bs.set b (DM (bs.getD b []) e.1.z row)) n lf a)→(∀bk,¬Ho row e.1.z e.1.y (DJ e.1.bk) bk)→(∀r,row=some r→r.length≤1000)→Q .non H'
theorem K4 (T:Txt K mg Ac Aa XC)(F:Fun K "_law_spoilt" "_law_spoilt" Cj f fd)(BM:DI P w K mg base 4 Aa "spoil" ["self","board","number","row"] (B8 K Aa)):FnOk P w K mg base Dp 5 f fd ["_law_boards","_law_board","_law_tag_here","_law_some","_law_rows"] (Eu K Aa):=by
 exists Bj
 ·obtain⟨p,ds,bs,n,lf,b,ta,so,dw,ns,ps,e,rfl,_⟩:=h
  rfl
 obtain⟨p,ds,bs,n,lf,b,ta,so,dw,ns,ps,e,rfl,hB,b1,b2,hta,hso,l4,bx,hrw,p9,hep,nd,hps,q⟩:=h
 have hu:=IA hr
 have hu9:=ML hr
 refine⟨_,(!Af (@Ax _ _ (5) _ _ _ _ Bj.nd rfl (by trivial) (!BG Dd (by rfl) T.b_list FW (!Ab (!DE hu (pv 4) (pv 2) (fun _ _=>rfl)) (!Ag) (by rfl)) (by decide) (by decide) (by rfl) (by rfl)) (by rfl) (by trivial)) (!Af (@Ax _ _ (6) _ _ _ _ Bj.nd rfl (by trivial) (!Am AG (!Ay AY (pv 3) (!Ae) (fun _ _=>rfl)) (!AB AN (by rfl) T.b_len B5 (!Ab (pv 5) (!Ag) (by rfl)) (by decide) (by decide) (by rfl) (by rfl))) (by rfl) (by trivial)) (!Af (@Ax _ _ (7) _ _ _ _ Bj.nd rfl (by trivial) (!Am AG (!Ay AY (pv 3) (!Ae) (fun _ _=>rfl)) (!Ae)) (by rfl) (by trivial)) (!Af (!AL (!AI V1 (pv 7) (!Ae) (AJ _)) (!Aj (!Xb (!Am Be (!Ay AY (pv 5) (pv 6) (fun _ _=>rfl)) (!Ay AY (!BS (!Ab (!Ae) (!Ab (!T8 OY (!Ae)) (!Ab (!Ae) (!Ab (!Am Be (!Ae) (!Ay AY (pv 3) (!Ae) (fun _ _=>rfl))) (!Ag) (by rfl)) (by rfl)) (by rfl)) (by rfl))) (!Am AG (!Ay AY (pv 3) (!Ae) (fun _ _=>rfl)) (!Ae)) (fun _ _=>rfl))) (!W5 (pv 5) (pv 6) set_list (by intro _;rfl)) (by rfl) (by rfl) (by rfl))) (!As)) (!Af (!AL (!AI B3 (pv 7) (!Ae) (AJ _)) (!Aj (@Ax _ _ (5) _ _ _ _ Bj.nd rfl (by trivial) (!Dm) (by rfl) (by trivial))) (!As)) (!Af (!AL (!AI B3 (pv 7) (!Ae) (AJ _)) (!Af (@Ax _ _ (8) _ _ _ _ Bj.nd rfl (by trivial) (!Ay AY (!BG (K1 rfl) (by rfl) T.b_list FW (!Ab (pv 4) (!Ag) (by rfl)) (by decide) (by decide) (by rfl) (by rfl)) (!Am AG (!Ay AY (pv 3) (!Ae) (fun _ _=>rfl)) (!AB RY (by rfl) T.b_len B5 (!Ab (pv 4) (!Ag) (by rfl)) (by decide) (by decide) (by rfl) (by rfl))) (fun _ _=>rfl)) (by rfl) (by trivial)) (!Af (@Ax _ _ (5) _ _ _ _ Bj.nd rfl (by trivial) (!BS (!Ab (!Ae) (!Ag) (by rfl))) (by rfl) (by trivial)) (!Aj (!AL (!AI (Uq hu9) (pv 8) (pv 2) (AJ _)) (!Aj (@Ax _ _ (5) _ _ _ _ Bj.nd rfl (by trivial) (!BG Dd (by rfl) T.b_list FW (!Ab (!DE hu (pv 4) (pv 8) (fun _ _=>rfl)) (!Ag) (by rfl)) (by decide) (by decide) (by rfl) (by rfl)) (by rfl) (by trivial))) (!As))))) (!As)) (!Aj (!Co (!DP (pv 0) T.cl_Boards BM (by trivial) (!Ab (pv 1) (!Ab (!Ay AF (pv 2) (!Ae) (fun _ _=>rfl)) (!Ab (pv 5) (!Ag) (by rfl)) (by rfl)) (by rfl)) (by rfl) (by rfl) (by rfl)) (by rfl))))))))),?_⟩
 try dsimp only[B9,Cx.nox,Cx.wish]
 have fin:∀(row:Option (List Int)) (v:V) (H5:Hp) (R:VK),Al H H5→Tb H5 row v→(∀bk,¬Ho row e.1.z e.1.y (DJ e.1.bk) bk)→(∀r,row=some r→r.length≤1000)→(∀H',Q .non H'→R .non H')→B8 K Aa [.ref p,.int (b:Int),.int e.1.z,v] H5 R E0:=fun row v H5 R s5 hc bad le hR=>
  ⟨p,ds,bs,n,lf,b,e.1.z,v,row,rfl,hB.same s5,b1,b2,hc,fun H6 hB6 k6 ap6=>hR H6 (q H6 row hB6 (fun b o h n1 n2=>k6 b o (s5.get h) n1 n2) (fun a xs ha hN=>ap6 a xs (s5.get ha) (hN.same s5)) bad le)⟩
 obtain⟨⟨nb,ok⟩,her⟩:=hps e hep
 have xn:∀k:Nat,k<4→∃u,He (ns.map V.int) (k:Int)=some (.int u)∧0≤u∧u<2147483647:=fun k hk=>by
  have hk':k<ns.length:=by omega
  refine⟨ns[k],CP (by rw[List.getElem?_map,List.getElem?_eq_getElem hk'];rfl),bx _ (List.getElem_mem hk')⟩
 obtain⟨r1,A1,p1⟩:=xn 1 (by decide)
 obtain⟨r2,A2,p2⟩:=xn 2 (by decide)
 obtain⟨r3,A3,p3⟩:=xn 3 (by decide)
 have g0:Dl H dw (.ref ta) (some (.ref e.2)):=by
  have:=Dl.t (k:=e.1.key) hrw hta
  rw[R5 nd hep] at this
  exact this
 have rl:e.1.row.length≤601:=by
  have:=J9 (z:=e.1.z) (y:=e.1.y) ok
  unfold Ld.row
  rw[Fn]
  omega
 have r0:0<e.1.row.length:=by unfold Ld.row;rw[Fn];omega
 refine⟨_,rfl,_,rfl,dw,_,rfl,g0,e.2,_,rfl,.inl (AM.of her),fun r hr5=>?_⟩
 have s1:=Ak hr5 (.lst (e.1.row.map V.int))
 refine⟨_,rfl,so,_,_,_,rfl,rfl,AM.of (s1.get hso),A1,_,rfl,r,_,rfl,.inl (AM.of Ad),_,_,rfl,rfl,(by rw[List.length_map];omega),?_⟩
 refine⟨_,rfl,so,_,_,_,rfl,rfl,AM.of (s1.get hso),A2,_,_,rfl,rfl,(show(0:Int)<5 by decide),?_⟩
 rw[List.length_map]
 obtain⟨m,hm,lm⟩:∃m:Nat,r1%(e.1.row.length:Int)=(m:Int)∧m<e.1.row.length:=by
  have h0:=Int.emod_nonneg r1 (show(e.1.row.length:Int)≠0 by omega)
  have h1:=Int.emod_lt_of_pos r1 (show 0<(e.1.row.length:Int) by omega)
  exact⟨(r1%(e.1.row.length:Int)).toNat,by omega,by omega⟩
 have hw0:0≤r2%5:=by omega
 have hw5:r2%5<5:=by omega
 dsimp only
 rw[hm]
 generalize r2%5=hw at hw0 hw5
 have hr1:(upd H r (.lst (e.1.row.map V.int))) r=some (.lst (e.1.row.map V.int)):=Ad
 have hB1:=hB.same s1
 obtain⟨dx1,sh1,gx1,_⟩:=id hB1
 by_cases h3:hw<3
 ·refine⟨_,rfl,_,_,rfl,rfl,_,rfl,AQ (decide_eq_true h3) ?_⟩
  have am:He (e.1.row.map V.int) (m:Int)=some (.int e.1.row[m]):=CP (by rw[List.getElem?_map,List.getElem?_eq_getElem lm];rfl)
  refine⟨_,rfl,_,rfl,r,_,_,_,rfl,rfl,AM.of hr1,am,_,rfl,_,rfl,so,_,_,_,rfl,rfl,AM.of (s1.get hso),A3,_,_,rfl,rfl,YR,fun l hl=>?_⟩
  have s2:=Ak hl (.lst [V.int 1,V.int (-1),V.int 2147483647,V.int (1+r3)])
  obtain⟨dv,ed,hd⟩:=Qx (xs:=[V.int 1,V.int (-1),V.int 2147483647,V.int (1+r3)]) (i:=r3%4) (by omega) (by show _<(4:Int);omega)
  obtain⟨d,rfl,sn⟩:∃d,dv=.int d∧sound (e.1.row.set m (e.1.row[m]+d))=false:=by
   have so0:sound e.1.row=true:=GL (D6 nb ok)
   simp only[List.mem_cons,List.not_mem_nil,or_false] at hd
   rcases hd with rfl|rfl|rfl|rfl
   ·exact⟨_,rfl,K3 (by omega) lm so0 (by decide) (by decide) (by decide)⟩
   ·exact⟨_,rfl,K3 (by omega) lm so0 (by decide) (by decide) (by decide)⟩
   ·exact⟨_,rfl,Tw lm so0⟩
   ·by_cases he:r3=2147483646
    ·refine⟨_,rfl,?_⟩
     rw[he]
     exact Tw lm so0
    ·exact⟨_,rfl,K3 (by omega) lm so0 (by omega) (by omega) (by omega)⟩
  refine⟨_,rfl,so,_,_,_,rfl,rfl,AM.of (s2.get (s1.get hso)),A3,_,_,rfl,rfl,(show(0:Int)<4 by decide),l,_,_,_,rfl,rfl,AM.of Ad,ed,_,_,rfl,rfl,?_⟩
  refine⟨_,rfl,_,rfl,r,_,_,m,rfl,rfl,s2.get hr1,?_,?_⟩
  ·rw[List.length_map];simp[R4,lm]
  have s4:=Br (s1.trans s2) hr5 (.lst ((e.1.row.map V.int).set m (.int (e.1.row[m]+d))))
  have hr4:(upd (upd (upd H r (.lst (e.1.row.map V.int))) l (.lst [V.int 1,V.int (-1),V.int 2147483647,V.int (1+r3)])) r (.lst ((e.1.row.map V.int).set m (.int (e.1.row[m]+d))))) r=some (.lst ((e.1.row.set m (e.1.row[m]+d)).map V.int)):=by rw[Ad,List.map_set]
  dsimp only
  generalize upd (upd (upd H r (.lst (e.1.row.map V.int))) l (.lst [V.int 1,V.int (-1),V.int 2147483647,V.int (1+r3)])) r (.lst ((e.1.row.map V.int).set m (.int (e.1.row[m]+d))))=H4 at s4 hr4
  refine⟨_,rfl,rfl,_,rfl,AS (decide_eq_false (fun z=>by cases z;omega)) ?_⟩
  refine⟨_,rfl,rfl,_,rfl,AS (decide_eq_false (fun z=>by cases z;omega)) ?_⟩
  obtain⟨dx4,sh4,gx4,_⟩:=id (hB.same s4)
  refine⟨_,rfl,p,dx4,_,rfl,gx4,rfl,_,rfl,_,rfl,ta,_,_,_,rfl,rfl,AW.of (s4.get hta),rfl,_,rfl,?_⟩
  dsimp only[Gj,List.append_nil]
  exact fin (some (e.1.row.set m (e.1.row[m]+d))) (.ref r) H4 _ s4 ⟨r,rfl,hr4⟩ (QU nb (OC sn)) (fun x hx=>by cases hx;rw[List.length_set];omega) fun H' h=>h
 ·refine⟨_,rfl,_,_,rfl,rfl,_,rfl,AS (decide_eq_false h3) ?_⟩
  by_cases h33:hw=3
  ·refine⟨_,rfl,rfl,_,rfl,AQ (decide_eq_true (by rw[h33])) ?_⟩
   refine⟨_,rfl,rfl,_,rfl,AS (decide_eq_false (fun z=>by cases z;omega)) ?_⟩
   refine⟨_,rfl,p,dx1,_,rfl,gx1,rfl,_,rfl,_,rfl,ta,_,_,_,rfl,rfl,AW.of (s1.get hta),rfl,_,rfl,?_⟩
   dsimp only[Gj,List.append_nil]
   exact fin none .non _ _ s1 rfl (QU nb U7) (fun x hx=>by cases hx) fun H' h=>h
  ·refine⟨_,rfl,rfl,_,rfl,AS (decide_eq_false (fun z=>h33 (V.int.inj z))) ?_⟩
   refine⟨_,rfl,rfl,_,rfl,AQ (decide_eq_true (by rw[show hw=4 by omega])) ?_⟩
   refine⟨_,rfl,dw,_,rfl,s1.get hrw,fun l bs3 hl lb3 hk3=>?_⟩
   have s2:=Ak hl (.lst (bs3.map V.ref))
   have lp:(Ss ps).length=ps.length:=List.length_map ..
   have l0:0<ps.length:=List.length_pos_of_mem hep
   obtain⟨j,hj,lj⟩:∃j:Nat,r3%((Ss ps).length:Int)=(j:Int)∧j<ps.length:=by
    rw[lp]
    have h0:=Int.emod_nonneg r3 (show(ps.length:Int)≠0 by omega)
    have h1:=Int.emod_lt_of_pos r3 (show 0<(ps.length:Int) by omega)
    exact⟨(r3%(ps.length:Int)).toNat,by omega,by omega⟩
   have lj3:j<bs3.length:=by omega
   have ho3:(upd H r (.lst (e.1.row.map V.int))) bs3[j]=some (.tup ps[j].1.tag):=hk3 j ps[j].1.key (.ref ps[j].2) bs3[j] (by unfold Ss;rw[List.getElem?_map,List.getElem?_eq_getElem lj];rfl) (List.getElem?_eq_getElem lj3)
   have hjp:ps[j]∈ps:=List.getElem_mem lj
   refine⟨_,rfl,so,_,_,_,rfl,rfl,AM.of (s2.get (s1.get hso)),A3,_,rfl,dw,_,rfl,s2.get (s1.get hrw),_,_,rfl,rfl,(by rw[lp];omega),?_⟩
   dsimp only
   rw[hj]
   refine⟨l,_,_,_,rfl,rfl,AM.of Ad,CP (by rw[List.getElem?_map,List.getElem?_eq_getElem lj3];rfl),?_⟩
   refine⟨RS,fun l9 hl9=>?_⟩
   have s3:=Ak hl9 (.lst [V.int 9])
   have S3:=(s1.trans s2).trans s3
   have ho:=s3.get (s2.get ho3)
   have e9:(upd (upd (upd H r (.lst (e.1.row.map V.int))) l (.lst (bs3.map V.ref))) l9 (.lst [V.int 9])) l9=some (.lst ([(9:Int)].map V.int)):=Ad
   dsimp only
   generalize upd (upd (upd H r (.lst (e.1.row.map V.int))) l (.lst (bs3.map V.ref))) l9 (.lst [V.int 9])=H3 at S3 ho e9
   obtain⟨⟨nb',ok'⟩,her'⟩:=hps ps[j] hjp
   refine⟨_,rfl,_,rfl,ps[j].1.tree,e.1.tree,Fg nb',Fg nb,Ig ho,Ig (S3.get hta),_,rfl,Cs (fun c=>?_) (fun c=>?_)⟩
   ·have ne:ps[j].1.z≠e.1.z:=fun z=>by
     have:ps[j]=e:=Mw (g:=fun p:Rw=>p.1.z) nd hjp hep z
     rw[this] at c
     simp at c
    have g1:Dl H3 dw (.ref bs3[j]) (some (.ref ps[j].2)):=by
     have:=Dl.t (k:=ps[j].1.key) (S3.get hrw) ho
     rw[R5 nd hjp] at this
     exact this
    refine⟨_,rfl,_,rfl,dw,_,rfl,g1,ps[j].2,_,rfl,.inl (AM.of (S3.get her')),fun r4 hr4=>?_⟩
    have s4:=S3.trans (Ak hr4 (.lst (ps[j].1.row.map V.int)))
    obtain⟨dx4,sh4,gx4,_⟩:=id (hB.same s4)
    refine⟨_,rfl,p,dx4,_,rfl,gx4,rfl,_,rfl,_,rfl,ta,_,_,_,rfl,rfl,AW.of (s4.get hta),rfl,_,rfl,?_⟩
    dsimp only[Gj,List.append_nil]
    refine fin (some ps[j].1.row) (.ref r4) _ _ s4 ⟨r4,rfl,Ad⟩ (Tt ⟨nb',ok'⟩ nb ne _) (fun x hx=>?_) fun H' h=>h
    cases hx
    have:=J9 (z:=ps[j].1.z) (y:=ps[j].1.y) ok'
    unfold Ld.row
    rw[Fn]
    omega
   ·obtain⟨dx4,sh4,gx4,_⟩:=id (hB.same S3)
    refine⟨_,rfl,p,dx4,_,rfl,gx4,rfl,_,rfl,_,rfl,ta,_,_,_,rfl,rfl,AW.of (S3.get hta),rfl,_,rfl,?_⟩
    dsimp only[Gj,List.append_nil]
    exact fin (some [9]) (.ref l9) _ _ S3 ⟨l9,rfl,e9⟩ (QU nb (OC (by decide))) (fun x hx=>by cases hx;decide) fun H' h=>h
section
variable {X:Cx}
def Xr:R2:=fun x y H Q=>WQ false x y H Q∨(y=.non∧∃a xs,x=.ref a∧H a=some (.tup xs)∧Q (.bl false) H)
theorem Vh (hu9:X.A.units+150<cLine):Gd X (compareOp .Eq) Xr:=by
 intro pins s σ H x y v u Q I rx ry h
 rcases h with h|⟨rfl,a,xs,rfl,h2,q⟩
 ·exact Xe hu9 pins s σ H x y v u Q I rx ry h
 ·cases rx
  cases ry
  obtain⟨its,r2,p2,_⟩:=I.tuple (AW.of (K:=X.K) h2)
  exact SeqAt.RcAt.tuple_none p2 (by omega) _ _ _ _ ⟨.bl _,H,I,rfl,q⟩
end
theorem NZ:∀{a b:List Int},a.Perm b→a.Pairwise (·≤·)→b.Pairwise (·≤·)→a=b
 |[],b,p,_,_=>(List.nil_perm.mp p).symm
 |x::a,[],p,_,_=>absurd p.length_eq (by simp)
 |x::a,y::b,p,ha,hb=>by
  have e:x=y:=by
   have m1:x∈y::b:=p.mem_iff.mp List.mem_cons_self
   have m2:y∈x::a:=p.mem_iff.mpr List.mem_cons_self
   rcases List.mem_cons.mp m1 with e|m1
   ·exact e
   rcases List.mem_cons.mp m2 with e|m2
   ·exact e.symm
   have l1:=(List.pairwise_cons.mp ha).1 y m2
   have l2:=(List.pairwise_cons.mp hb).1 x m1
   omega
  subst e
  rw[NZ p.cons_inv (List.pairwise_cons.mp ha).2 (List.pairwise_cons.mp hb).2]
theorem Oj:∀(n:Nat) (t:Tr),CT n t=true→t.dep≤n
 |0,_,h=>nomatch h
 |n+1,.non,h=>nomatch h
 |n+1,.bl _,h=>nomatch h
 |n+1,.int _,_=>Nat.le_add_left 1 n
 |n+1,.str z,h=>Nat.le_add_left 1 n
 |n+1,.tup ts,h=>by
  have h':(decide (ts.length≤100)&&ts.all (CT n))=true:=h
  rw[Bool.and_eq_true] at h'
  have all:∀l:List Tr,(∀t∈l,t.dep≤n)→Tr.deps l≤n:=fun l=>by
   induction l with
   |nil=>intro _;exact Nat.zero_le _
   |cons t l ih=>intro hl;exact Nat.max_le.mpr ⟨hl t List.mem_cons_self,ih fun u hu=>hl u (List.mem_cons_of_mem _ hu)⟩
  have:=all ts fun t ht=>Oj n t (List.all_eq_true.mp h'.2 t ht)
  show 1+Tr.deps ts≤n+1
  omega
 |n+1,.lst _,h=>nomatch h
theorem Vl {row:Option (List Int)}{z y k:Int}{b c:Bk}(nb:HL z y)(o:Ho row z y k b)(o':Ho row z y k c):b=c:=by
 have:=Jo (D6 nb o.2.1) (D6 nb o'.2.1) (Option.some.inj (o.1.symm.trans o'.1))
 unfold DV at this
 injection this with this
 injection this with _ this
 injection this with _ this
 injection this with this _
 exact QD this
theorem Tc {p:Int→Bool}{rt l:List Int}(s:rt.Sublist l):l.Nodup→(∀x∈l,p x=true↔x∈rt)→l.filter p=rt:=by
 induction s with
 |slnil=>intro _ _;rfl
 |@cons rt l a s ih=>
  intro nd h
  rw[List.nodup_cons] at nd
  rw[List.filter_cons_of_neg (fun z=>nd.1 (s.subset ((h a List.mem_cons_self).mp z)))]
  exact ih nd.2 fun x hx=>h x (List.mem_cons_of_mem _ hx)
 |@cons_cons rt l a s ih=>
  intro nd h
  rw[List.nodup_cons] at nd
  rw[List.filter_cons_of_pos ((h a List.mem_cons_self).mpr List.mem_cons_self),ih nd.2 fun x hx=>?_]
  rw[h x (List.mem_cons_of_mem _ hx)]
  refine⟨fun z=>?_,List.mem_cons_of_mem _⟩
  rcases List.mem_cons.mp z with rfl|z
  ·exact absurd hx nd.1
  ·exact z
def Tells (bs:List Bz)(e:Ld)(rt:List Int):Prop:=rt.Sublist (BK bs e.z)∧Kt bs e.z∧∀x∈BK bs e.z,(x∈rt→Bl (bs.getD x.toNat []) e.z=some e.row)∧(x∉rt→∀bk,¬Ho (Bl (bs.getD x.toNat []) e.z) e.z e.y (DJ e.bk) bk)
theorem Tv {bs:List Bz}{z:Int}(h:2≤bs.length):(BK bs z).Nodup:=by
 unfold BK
 rw[List.nodup_cons]
 exact⟨fun q=>O9 h (List.mem_singleton.mp q),List.nodup_cons.mpr ⟨fun q=>(nomatch q),List.nodup_nil⟩⟩
theorem Tells.has {bs:List Bz}{e:Ld}{rt:List Int}(m2:2≤bs.length)(ok:e.ok)(h:Tells bs e rt):(BK bs e.z).filter (Gx bs e.z e.y (DJ e.bk))=rt:=
 Tc h.1 (Tv m2) fun x hx=>by
  rw[KW]
  refine⟨fun⟨bk,o⟩=>Classical.byContradiction fun z=>(h.2.2 x hx).2 z bk o,fun z=>⟨e.bk,(h.2.2 x hx).1 z,ok.2,rfl⟩⟩
structure Rt where
 e:Ld
 l:Addr
 rt:List Int
def Fm (rs:List Rt):List (List Key×V):=rs.map fun r=>(r.e.key,.ref r.l)
def Nm (rs:List Rt):List (List Key×V):=rs.map fun r=>(r.e.key,r.e.v)
def CA (K:W.Frag)(C:Addr):Sp:=fun vs H Q _=>∃p ds bs n lf,∃(dl dr:Addr) (bt:V) (rs:List Rt),vs=[.ref p,.ref dl,.ref dr,bt]∧Cp C H p ds bs n lf∧2≤bs.length∧H dl=some (.dT (Nm rs))∧H dr=some (.dT (Fm rs))∧dr≠dl∧(rs.map (·.e.z)).Nodup∧
 (∀r∈rs,r.e.ok∧Rep NL H (Gh r.e.bk) r.e.v∧H r.l=some (.lst (r.rt.map V.int))∧Tells bs r.e r.rt)∧((bt=.non∧∀r∈rs,r.rt≠[])∨∃ta u,bt=.ref ta∧u∈rs∧H ta=some (.tup u.e.tag)∧u.rt=[]∧∀r∈rs,r≠u→r.rt≠[])∧
 ∀H',Al H H'→Q (.bl true) H'
theorem Jl (T:Txt K mg Ac Aa XC)(F:Fun K "_law_all_told" "_law_all_told" BE f fd)(Ew:Def P w K mg base 17 "right_copies" ["boards","tag"] (DX K Aa))(Ep:Def P w K mg base 18 "_law_is_lost" ["_law_boards","_law_tag_here"] (DQ K Aa))(Ed:SQ P w K mg base 17 "fetched" ["boards","tag"] (Ej K Aa XC)):FnOk P w K mg base Dp 19 f fd ["_law_boards","_law_laid_here","_law_right","_law_but"] (CA K Aa):=by
 exists Fj
 ·obtain⟨p,ds,bs,n,lf,dl,dr,bt,rs,rfl,_⟩:=h
  rfl
 obtain⟨p,ds,bs,n,lf,dl,dr,bt,rs,rfl,hB,m2,hdl,hdr,nrl,nd,hrs,hbt,q⟩:=h
 have hu:=IA hr
 have hu9:=ML hr
 refine⟨_,(!Af (!Vr PassesOwn.never rfl (pv 1) (@Az _ _ (4) _ Fj.nd rfl (by trivial) (by trivial)) (!Af (!AL (!AI (WL hu) (!AK Ew (by trivial) rfl (!Ab (pv 0) (!Ab (pv 4) (!Ag) (by rfl)) (by rfl)) (by decide) (by rfl) (by rfl)) (!AB (K2 (K:=K) (by rfl)) (by rfl) T.b_sorted Hd (!Ab (!DE hu (pv 2) (pv 4) (fun _ _=>rfl)) (!Ag) (by rfl)) (by decide) (by decide) (by rfl) (by rfl)) (AJ _)) (!Aj (!An (!D0))) (!As)) (!Aj (!AL (!AI (Vh hu9) (pv 4) (pv 3) (AJ _)) (!Aj (!AL (!BA (!Bt (!AK Ep (by trivial) rfl (!Ab (pv 0) (!Ab (pv 4) (!Ag) (by rfl)) (by rfl)) (by decide) (by rfl) (by rfl)) (by intro _;rfl))) (!Aj (!An (!D0))) (!As))) (!Aj (!AL (!AI (Wf hu9) (!Wm Ed (by trivial) rfl WG (!Ab (pv 0) (!Ab (pv 4) (!Ag) (by rfl)) (by rfl)) (by decide) (by rfl) (by rfl)) (!DE hu (pv 1) (pv 4) (fun _ _=>rfl)) (AJ _)) (!Aj (!An (!D0))) (!As)))))) (by intro _;rfl)) (!Aj (!An (!D0)))),?_⟩
 try dsimp only[B9,Cx.nox,Cx.wish]
 have vL:∀r∈rs,CL (Nm rs) r.e.key=some r.e.v:=fun r h=>Ja (by unfold Nm;rw[List.map_map];exact Ea (g:=fun r:Rt=>r.e) nd) (List.mem_map.mpr ⟨r,h,rfl⟩)
 have vR:∀r∈rs,CL (Fm rs) r.e.key=some (.ref r.l):=fun r h=>Ja (by unfold Fm;rw[List.map_map];exact Ea (g:=fun r:Rt=>r.e) nd) (List.mem_map.mpr ⟨r,h,rfl⟩)
 refine⟨_,rfl,dl,_,rfl,hdl,fun o=>?_⟩
 have hf:(upd H dl (.frz o (.dT (Nm rs)))) dl=some (.frz o (.dT (Nm rs))):=Ad
 have away:∀b u,H b=some u→b≠dl→(upd H dl (.frz o (.dT (Nm rs)))) b=some u:=fun b u h z=>by rw[Ai z];exact h
 have hBf:Cp Aa (upd H dl (.frz o (.dT (Nm rs)))) p ds bs n lf:=HF hB hdl
 have hdrf:=away _ _ hdr nrl
 have tupf:∀c ys,H c=some (.tup ys)→(upd H dl (.frz o (.dT (Nm rs)))) c=some (.tup ys):=fun c ys h=>away c _ h (Av h hdl (by intro z;cases z))
 have hrf:∀r∈rs,r.e.ok∧Rep NL (upd H dl (.frz o (.dT (Nm rs)))) (Gh r.e.bk) r.e.v∧(upd H dl (.frz o (.dT (Nm rs)))) r.l=some (.lst (r.rt.map V.int))∧Tells bs r.e r.rt:=fun r h=>by
  obtain⟨a1,a2,a3,a4⟩:=hrs r h
  exact⟨a1,EK tupf _ _ a2,away _ _ a3 (Av a3 hdl (by intro z;cases z)),a4⟩
 have back:∀H2,Al (upd H dl (.frz o (.dT (Nm rs)))) H2→Al H (upd H2 dl (.dT (Nm rs))):=fun H2 s2 b u h=>by
  by_cases z:b=dl
  ·rw[z,Ad,←hdl,←z];exact h
  ·rw[Ai z];exact s2.get (away b u h z)
 refine Rc (fun o u z=>by have z':H dl=some (.frz o u):=z;rw[hdl] at z';cases z') (fun i σ H2=>∃v4,σ=[some (.ref p),some (.ref dl),some (.ref dr),some bt,v4]∧Al (upd H dl (.frz o (.dT (Nm rs)))) H2) ⟨none,rfl,Al.refl _⟩ (fun i σ H2 _ ⟨_,_,s2⟩=>s2.get hf) ?_ ?_
 ·rintro i k v b σ H2 hk ⟨v4,rfl,s2⟩ hb
  obtain⟨r,hr0,rfl,rfl⟩:∃r∈rs,r.e.key=k∧r.e.v=v:=by
   unfold Nm at hk
   rw[List.getElem?_map] at hk
   cases e:rs[i]? with
   |none=>rw[e] at hk;cases hk
   |some r=>rw[e] at hk;cases hk;exact⟨r,List.mem_of_getElem? e,rfl,rfl⟩
  obtain⟨ok,rp,hl,tl⟩:=hrf r hr0
  have hasE:=tl.has m2 ok
  have l2:r.rt.length≤2:=tl.1.length_le
  have fe:∀(H4:Hp) (R:VK),r.rt≠[]→Al (upd H dl (.frz o (.dT (Nm rs)))) H4→H4 b=some (.tup r.e.tag)→(∀v H5,Al H4 H5→Rep NL H5 (Gh r.e.bk) v→R v H5)→Ej K Aa XC [.ref p,.ref b] H4 R E0:=fun H4 R hn s4 h4 hR=>
   ⟨p,ds,bs,n,lf,b,r.e.z,r.e.y,DJ r.e.bk,rfl,hBf.same s4,by omega,h4,tl.2.1,ok.1,fun x bk hx ho v H5 s5 rv=>by
    rw[hasE] at hx
    have hm:x∈r.rt:=List.mem_of_head? hx
    have:=Vl ok.1 ho ⟨(tl.2.2 x (tl.1.subset hm)).1 hm,ok.2,rfl⟩
    rw[this] at rv
    exact hR v H5 s5 rv,fun z=>absurd (hasE.symm.trans z) hn⟩
  refine⟨_,rfl,_,rfl,p,ds,bs,n,lf,b,r.e.z,r.e.y,DJ r.e.bk,rfl,hBf.same s2,by omega,hb,tl.2.1,ok.1,fun l H3 ms s3 nl hl3 perm srt=>?_⟩
  have S3:=s2.trans s3
  have gR:Dl H3 dr (.ref b) (some (.ref r.l)):=by
   have:=Dl.t (k:=r.e.key) (S3.get hdrf) (s3.get hb)
   rw[vR r hr0] at this
   exact this
  refine⟨_,rfl,_,rfl,dr,_,rfl,gR,r.l,r.rt,rfl,AM.of (S3.get hl),by omega,fun ms2 p2 pm2 so2 hp2=>?_⟩
  have em:ms=ms2:=NZ (perm.trans (by rw[hasE];exact pm2.symm)) srt so2
  subst em
  have s4:=Ak hp2 (.lst (ms.map V.int))
  refine⟨l,p2,_,_,rfl,rfl,AM.of (s4.get hl3),AM.of Ad,Io _,Io _,_,rfl,AS (by simp) ?_⟩
  have S4:=S3.trans s4
  have hb4:(upd H3 p2 (.lst (ms.map V.int))) b=some (.tup r.e.tag):=s4.get (s3.get hb)
  generalize upd H3 p2 (.lst (ms.map V.int))=H4 at S4 hb4
  have hf4:=S4.get hf
  have gL:∀H5,Al H4 H5→Dl H5 dl (.ref b) (some r.e.v):=fun H5 s5=>by
   have:Dl H5 dl (.ref b) (CL (Nm rs) r.e.key):=.inr ⟨_,r.e.key,b,.inr ⟨o,s5.get hf4⟩,rfl,s5.get hb4,rfl⟩
   rw[vL r hr0] at this
   exact this
  have dep:(Gh r.e.bk).dep≤100:=Nat.le_trans (Oj 8 _ (Wv ok.2)) (by decide)
  rcases hbt with⟨rfl,all⟩|⟨ta,u,rfl,hu0,hta,ue,rest⟩
  ·refine⟨_,rfl,_,rfl,.inr ⟨rfl,b,_,rfl,hb4,_,rfl,AS rfl ?_⟩⟩
   refine⟨_,rfl,_,rfl,?_⟩
   dsimp only[Gj,List.append_nil]
   refine fe H4 _ (all r hr0) S4 hb4 fun v H5 s5 rv=>?_
   exact⟨_,rfl,_,rfl,dl,_,rfl,gL H5 s5,Gh r.e.bk,NL,NL,dep,rv,Rep.same (S4.trans s5) _ _ rp,_,rfl,AS rfl ⟨_,rfl,S4.trans s5⟩⟩
  ·refine⟨_,rfl,_,rfl,.inl ⟨r.e.tree,u.e.tree,Fg ok.1,Fg (hrf u hu0).1.1,Ig hb4,Ig (S4.get (tupf _ _ hta)),_,rfl,Cs (fun c=>?_) (fun c=>?_)⟩⟩
   ·have e:=Kr (Fg ok.1) (Fg (hrf u hu0).1.1) (of_decide_eq_true c)
    have ez:r.e.z=u.e.z:=by
     unfold Ld.tree at e
     injection e with e
     injection e with e _
     injection e
    have:r=u:=Mw (g:=fun r:Rt=>r.e.z) nd hr0 hu0 ez
    refine⟨_,rfl,_,rfl,p,ds,bs,n,lf,b,r.e.z,r.e.y,DJ r.e.bk,rfl,hBf.same S4,by omega,hb4,tl.2.1,ok.1,hasE.trans (by rw[this];exact ue),fun H5 s5=>⟨_,rfl,AS rfl ⟨_,rfl,S4.trans s5⟩⟩⟩
   ·refine⟨_,rfl,_,rfl,?_⟩
    dsimp only[Gj,List.append_nil]
    refine fe H4 _ (rest r hr0 fun z=>by rw[z] at c;exact c (decide_eq_true rfl)) S4 hb4 fun v H5 s5 rv=>?_
    exact⟨_,rfl,_,rfl,dl,_,rfl,gL H5 s5,Gh r.e.bk,NL,NL,dep,rv,Rep.same (S4.trans s5) _ _ rp,_,rfl,AS rfl ⟨_,rfl,S4.trans s5⟩⟩
 ·rintro σ H2 ⟨v4,rfl,s2⟩
  exact q _ (back H2 s2)
theorem QG {e:Ld}(ok:e.ok):e.row.length≤1000:=by
 have:=J9 (z:=e.z) (y:=e.y) ok.2
 unfold Ld.row
 rw[Fn]
 omega
theorem Tells.full {bs:List Bz}{es:List Ld}{e:Ld}(h:TJ bs es)(he:e∈es)(b0:0<bs.length):Tells bs e (BK bs e.z):=by
 obtain⟨ok,g⟩:=h e he
 refine⟨List.Sublist.refl _,fun b row hb=>?_,fun x hx=>⟨fun _=>?_,fun z=>absurd hx z⟩⟩
 ·rw[g] at hb
  split at hb
  ·cases hb;exact QG ok
  ·cases hb
 ·have:=(CK b0 x hx).1
  rw[g,if_pos (by rw[show((x.toNat:Nat):Int)=x by omega];exact hx)]
theorem Tells.cut {bs:List Bz}{e:Ld}{rt rt':List Int}{b:Nat}{row:Option (List Int)}(h:Tells bs e rt)(hb:b<bs.length)(s:rt'.Sublist rt)(hk:∀x∈rt,x∈rt'∨x=(b:Int))(hn:(b:Int)∉rt')(bad:∀bk,¬Ho row e.z e.y (DJ e.bk) bk)(le:∀r,row=some r→r.length≤1000) :
  Tells (bs.set b (DM (bs.getD b []) e.z row)) e rt':=by
 have lw:(bs.set b (DM (bs.getD b []) e.z row)).length=bs.length:=List.length_set
 have b0:0<bs.length:=by omega
 refine⟨by rw[CS lw];exact s.trans h.1,fun b' r hr=>?_,fun x hx=>?_⟩
 ·rw[V7 hb] at hr
  split at hr
  ·exact le r hr
  ·exact h.2.1 b' r hr
 ·rw[CS lw] at hx
  have x0:=(CK b0 x hx).1
  rw[V7 hb]
  by_cases e1:b=x.toNat
  ·rw[if_pos ⟨rfl,e1⟩]
   have ex:x=(b:Int):=by omega
   exact⟨fun z=>absurd (by rw[←ex];exact z) hn,fun _=>bad⟩
  ·rw[if_neg fun z=>e1 z.2]
   refine⟨fun z=>(h.2.2 x hx).1 (s.subset z),fun z=>(h.2.2 x hx).2 fun z'=>?_⟩
   rcases hk x z' with q|q
   ·exact z q
   ·exact e1 (by omega)
theorem Tells.other {bs:List Bz}{e:Ld}{rt:List Int}{b:Nat}{z:Int}{row:Option (List Int)}(h:Tells bs e rt)(hb:b<bs.length)(hz:e.z≠z):Tells (bs.set b (DM (bs.getD b []) z row)) e rt:=by
 have lw:(bs.set b (DM (bs.getD b []) z row)).length=bs.length:=List.length_set
 have g:∀b',Bl ((bs.set b (DM (bs.getD b []) z row)).getD b' []) e.z=Bl (bs.getD b' []) e.z:=fun b'=>by rw[V7 hb,if_neg fun q=>hz q.1]
 refine⟨by rw[CS lw];exact h.1,fun b' r hr=>h.2.1 b' r (by rw[←g];exact hr),fun x hx=>?_⟩
 rw[CS lw] at hx
 rw[g]
 exact h.2.2 x hx
theorem Tells.lose {bs:List Bz}{e:Ld}{rt:List Int}{g:Nat}(h:Tells bs e rt)(hg:g<bs.length):Tells (bs.set g []) e (rt.filter fun y=>!decide (y=(g:Int))):=by
 have lw:(bs.set g ([]:Bz)).length=bs.length:=List.length_set
 have b0:0<bs.length:=by omega
 have k:∀b',Bl ((bs.set g ([]:Bz)).getD b' []) e.z=if g=b' then none else Bl (bs.getD b' []) e.z:=fun b'=>by
  by_cases q:g=b'
  ·subst q;rw[if_pos rfl,Km hg,if_pos rfl];rfl
  ·rw[if_neg q]
   have:(bs.set g ([]:Bz)).getD b' []=bs.getD b' []:=by unfold List.getD;rw[List.getElem?_set_ne q]
   rw[this]
 refine⟨by rw[CS lw];exact List.filter_sublist.trans h.1,fun b' r hr=>?_,fun x hx=>?_⟩
 ·rw[k] at hr
  split at hr
  ·cases hr
  ·exact h.2.1 b' r hr
 ·rw[CS lw] at hx
  have x0:=(CK b0 x hx).1
  rw[k]
  by_cases q:g=x.toNat
  ·rw[if_pos q]
   refine⟨fun z=>?_,fun _ bk o=>nomatch o.1⟩
   have:=(List.mem_filter.mp z).2
   rw[decide_eq_true (show x=(g:Int) by omega)] at this
   cases this
  ·rw[if_neg q]
   refine⟨fun z=>(h.2.2 x hx).1 (List.mem_filter.mp z).1,fun z=>(h.2.2 x hx).2 fun z'=>z (List.mem_filter.mpr ⟨z',?_⟩)⟩
   rw[decide_eq_false (show ¬x=(g:Int) by omega)];rfl
theorem Mj (z:Int)(row:List Int)(x:Int){l:List Int}{bs:List Bz}(hl:∀y∈l,0≤y∧y<(bs.length:Int))(b:Nat):Bl ((wr bs z row l).getD b []) x=if x=z∧(b:Int)∈l then some row else Bl (bs.getD b []) x:=by
 by_cases hb:b<bs.length
 ·exact KH z row x l bs b hb fun y hy=>(hl y hy).1
 ·rw[if_neg (fun q=>by have:=(hl _ q.2).2;omega)]
  have e1:(wr bs z row l).getD b []=[]:=by unfold List.getD;rw[List.getElem?_eq_none (by rw[Hw];omega)];rfl
  have e2:bs.getD b []=[]:=by unfold List.getD;rw[List.getElem?_eq_none (by omega)];rfl
  rw[e1,e2]
theorem Tells.laid {bs:List Bz}{e:Ld}{rt:List Int}(h:Tells bs e rt)(ok:e.ok)(b0:0<bs.length):Tells (wr bs e.z e.row (BK bs e.z)) e (BK bs e.z):=by
 have lw:(wr bs e.z e.row (BK bs e.z)).length=bs.length:=Hw _ _ _ _
 refine⟨by rw[CS lw];exact List.Sublist.refl _,fun b' r hr=>?_,fun x hx=>?_⟩
 ·rw[Mj _ _ _ (CK b0)] at hr
  split at hr
  ·cases hr;exact QG ok
  ·exact h.2.1 b' r hr
 ·rw[CS lw] at hx
  have x0:=(CK b0 x hx).1
  refine⟨fun _=>?_,fun z=>absurd hx z⟩
  rw[Mj _ _ _ (CK b0),if_pos ⟨rfl,by rw[show((x.toNat:Nat):Int)=x by omega];exact hx⟩]
theorem Tells.by {bs:List Bz}{e:Ld}{rt:List Int}{z:Int}{row:List Int}(h:Tells bs e rt)(b0:0<bs.length)(hz:e.z≠z):Tells (wr bs z row (BK bs z)) e rt:=by
 have lw:(wr bs z row (BK bs z)).length=bs.length:=Hw _ _ _ _
 have g:∀b',Bl ((wr bs z row (BK bs z)).getD b' []) e.z=Bl (bs.getD b' []) e.z:=fun b'=>by rw[Mj _ _ _ (CK b0),if_neg fun q=>hz q.1]
 refine⟨by rw[CS lw];exact h.1,fun b' r hr=>h.2.1 b' r (by rw[←g];exact hr),fun x hx=>?_⟩
 rw[CS lw] at hx
 rw[g]
 exact h.2.2 x hx
def Aw (H:Hp)(p:Addr)(ds:List Addr)(a:Addr):Prop:=(∀C dx s0 n lf,H p=some (.ins C dx (CG s0 n lf))→s0≠a)∧∀d∈ds,∀kvs,H d=some (.dK kvs)→∀kv∈kvs,kv.2≠.ref a
theorem Aw.ap {C:Addr}{H:Hp}{p a:Addr}{ds:List Addr}{bs:List Bz}{n:Int}{lf:V}{xs:List V}(hB:Cp C H p ds bs n lf)(h:Aw H p ds a)(ha:H a=some (.lst xs)):Ap C H p ds bs n lf a:=fun ys=>by
 obtain⟨dx,s0,h1,h2,h3,h4⟩:=hB
 refine⟨dx,s0,by rw[Ai (Av h1 ha (by intro z;cases z))];exact h1,by rw[Ai (h.1 _ _ _ _ _ h1)];exact h2,h3,GY h4 fun d hd c hc=>?_⟩
 obtain⟨kvs,e,cr,nd⟩:=hc
 refine⟨kvs,by rw[Ai (Av e ha (by intro z;cases z))];exact e,GY cr fun kv hk x hx=>?_,nd⟩
 obtain⟨a1,r,a2,a3⟩:=hx
 exact⟨a1,r,a2,by rw[Ai (fun z=>h.2 d hd kvs e kv hk (by rw[a2,z]))];exact a3⟩
theorem Ap.aw {C:Addr}{H:Hp}{p a:Addr}{ds:List Addr}{bs:List Bz}{n:Int}{lf:V}{xs:List V}(h:Ap C H p ds bs n lf a)(ha:H a=some (.lst xs)):Aw H p ds a:=by
 obtain⟨dx,s0,h1,h2,h3,h4⟩:=h [V.non]
 have np:p≠a:=fun z=>by rw[z,Ad] at h1;cases h1
 rw[Ai np] at h1
 refine⟨fun C' dx' s0' n' lf' e z=>?_,fun d hd kvs e kv hk z=>?_⟩
 ·rw[h1] at e
  have e1:s0=s0':=by
   unfold CG at e
   cases e
   rfl
  rw[e1,z,Ad] at h2
  cases ds with
  |nil=>cases h2
  |cons b ds=>cases h2
 ·obtain⟨i,hi,rfl⟩:=List.getElem_of_mem hd
  obtain⟨c,_,kvs',e',cr,_⟩:=BF h4 (List.getElem?_eq_getElem hi)
  rw[Ai (Av e ha (by intro z;cases z)),e] at e'
  cases e'
  obtain⟨j,hj,rfl⟩:=List.getElem_of_mem hk
  obtain⟨x,_,_,r,a2,a3⟩:=BF cr (List.getElem?_eq_getElem hj)
  rw[z] at a2
  cases a2
  rw[Ad] at a3
  cases hx:x.2 with
  |nil=>rw[hx] at a3;cases a3
  |cons u us=>rw[hx] at a3;cases a3
theorem Aw.list {H:Hp}{p a b:Addr}{ds:List Addr}{ys:List V}(h:Aw H p ds a):Aw (upd H b (.lst ys)) p ds a:=by
 refine⟨fun C dx s0 n lf e=>h.1 C dx s0 n lf ?_,fun d hd kvs e=>h.2 d hd kvs ?_⟩
 ·by_cases z:p=b
  ·rw[z,Ad] at e;cases e
  ·rw[Ai z] at e;exact e
 ·by_cases z:d=b
  ·rw[z,Ad] at e;cases e
  ·rw[Ai z] at e;exact e
theorem Aw.dT {H:Hp}{p a b:Addr}{ds:List Addr}{kvs:List (List Key×V)}(h:Aw H p ds a):Aw (upd H b (.dT kvs)) p ds a:=by
 refine⟨fun C dx s0 n lf e=>h.1 C dx s0 n lf ?_,fun d hd kvs e=>h.2 d hd kvs ?_⟩
 ·by_cases z:p=b
  ·rw[z,Ad] at e;cases e
  ·rw[Ai z] at e;exact e
 ·by_cases z:d=b
  ·rw[z,Ad] at e;cases e
  ·rw[Ai z] at e;exact e
theorem Aw.same {C:Addr}{H H':Hp}{p a:Addr}{ds:List Addr}{bs:List Bz}{n:Int}{lf:V}(g:Cp C H p ds bs n lf)(h:Aw H p ds a)(s:Al H H'):Aw H' p ds a:=by
 obtain⟨dx0,s00,h1,_⟩:=id g
 refine⟨fun C dx s0 n lf e=>h.1 C dx s0 n lf (by rw[s.get h1] at e;rw[h1];exact e),fun d hd kvs e=>h.2 d hd kvs ?_⟩
 obtain⟨kvs',e'⟩:=g.there d hd
 rw[s.get e'] at e
 rw[e'];exact e
theorem Aw.fresh {C:Addr}{H:Hp}{p a:Addr}{ds:List Addr}{bs:List Bz}{n:Int}{lf:V}{ys:List V}(g:Cp C H p ds bs n lf)(h:H a=none):Aw (upd H a (.lst ys)) p ds a:=
 Ap.aw (C:=C) (bs:=bs) (n:=n) (lf:=lf) (xs:=ys) (fun zs=>by rw[FV];exact g.same (Ak h _)) Ad
def dE (es:List Ld):List (List Key×V):=es.map fun e=>(e.key,e.v)
def Fx (a:Addr)(o:Option HO)(dl dw tl:Addr)(tb:List Addr)(es:List Ld)(ps:List Rw)(H:Hp):Prop:=H dl=some (.dT (dE es))∧H dw=some (.dT (Ss ps))∧H tl=some (.lst (tb.map V.ref))∧(∀(i:Nat) b e,tb[i]?=some b→es[i]?=some e→H b=some (.tup e.tag))∧(∀p∈ps,H p.2=some (.lst (p.1.row.map V.int)))∧IX H es∧∀u,o=some u→H a=some u∧((∃ys,u=.lst ys)∨∃q v,u=.frz q v)
section
variable {a:Addr}{o:Option HO}{dl dw tl:Addr}{tb:List Addr}{es:List Ld}{ps:List Rw}{H H':Hp}
theorem Fx.keep (h:Fx a o dl dw tl tb es ps H)(kt:∀c ys,H c=some (.tup ys)→H' c=some (.tup ys))(kl:∀c ys,H c=some (.lst ys)→c=tl∨(∃p∈ps,p.2=c)∨(c=a∧∃u,o=some u)→H' c=some (.lst ys))(kd:∀c kvs,H c=some (.dT kvs)→c=dl∨c=dw→H' c=some (.dT kvs))(kf:∀c q v,H c=some (.frz q v)→H' c=some (.frz q v)):Fx a o dl dw tl tb es ps H':=by
 obtain⟨a1,a2,a3,a4,a5,a6,a7⟩:=h
 refine⟨kd _ _ a1 (.inl rfl),kd _ _ a2 (.inr rfl),kl _ _ a3 (.inl rfl),fun i b e h1 h2=>kt _ _ (a4 i b e h1 h2),fun p hp=>kl _ _ (a5 p hp) (.inr (.inl ⟨p,hp,rfl⟩)),fun e he=>EK kt _ _ (a6 e he),fun u hu=>?_⟩
 obtain⟨b1,b2⟩:=a7 u hu
 refine⟨?_,b2⟩
 rcases b2 with⟨ys,rfl⟩|⟨q,v,rfl⟩
 ·exact kl _ _ b1 (.inr (.inr ⟨rfl,_,hu⟩))
 ·exact kf _ _ _ b1
theorem Fx.same (h:Fx a o dl dw tl tb es ps H)(s:Al H H'):Fx a o dl dw tl tb es ps H':=h.keep (fun _ _ e=>s.get e) (fun _ _ e _=>s.get e) (fun _ _ e _=>s.get e) fun _ _ _ e=>s.get e
theorem Fx.kb {C x:Addr}{ds:List Addr}{bs:List Bz}{n:Int}{lf:V}(h:Fx a o dl dw tl tb es ps H)(g:Cp C H x ds bs n lf)(k:Kb H H' x ds):Fx a o dl dw tl tb es ps H':=
 h.keep (fun _ _ e=>Pq g k e) (fun _ _ e _=>GX g k e) (fun _ _ e _=>Ly g k e) fun c q v e=>by
  obtain⟨dx,s0,h1,_⟩:=id g
  exact k c _ e (Av e h1 (by intro z;cases z)) (g.notin e (by intro kvs z;cases z))
theorem Fx.dict {dr:Addr}{kvs:List (List Key×V)}{u:HO}(h:Fx a o dl dw tl tb es ps H)(hd:H dr=some (.dT kvs))(n1:dl≠dr)(n2:dw≠dr):Fx a o dl dw tl tb es ps (upd H dr u):=
 h.keep (fun c ys e=>by rw[Ai (Av e hd (by intro z;cases z))];exact e) (fun c ys e _=>by rw[Ai (Av e hd (by intro z;cases z))];exact e) (fun c kvs e z=>by rw[Ai (by rcases z with rfl|rfl;exact n1;exact n2)];exact e) fun c q v e=>by rw[Ai (Av e hd (by intro z;cases z))];exact e
theorem Fx.list {l:Addr}{xs ys:List V}(h:Fx a o dl dw tl tb es ps H)(hl:H l=some (.lst xs))(n1:tl≠l)(n2:∀p∈ps,p.2≠l)(n3:∀u,o=some u→a≠l):Fx a o dl dw tl tb es ps (upd H l (.lst ys)):=
 h.keep (fun c ys e=>by rw[Ai (Av e hl (by intro z;cases z))];exact e) (fun c ys e z=>by rw[Ai (by rcases z with rfl|⟨p,hp,rfl⟩|⟨rfl,u,hu⟩;exact n1;exact n2 p hp;exact n3 u hu)];exact e) (fun c kvs e _=>by rw[Ai (Av e hl (by intro z;cases z))];exact e) fun c q v e=>by rw[Ai (Av e hl (by intro z;cases z))];exact e
end
theorem Qq {α:Type}{g:α→Ld}{es:List Ld}{l:List α}{i:Nat}{e:Ld}(nd:(es.map (·.z)).Nodup)(h:l.map g=es.take i)(he:es[i]?=some e):∀q∈l,(g q).key≠e.key:=fun q hq z=>by
 have hz:(g q).z=e.z:=by injection z with z _;exact Sum.inl.inj z
 have h1:g q∈es.take i:=by rw[←h];exact List.mem_map.mpr ⟨q,hq,rfl⟩
 obtain⟨j,hj,e1⟩:=List.getElem_of_mem h1
 rw[List.length_take] at hj
 have li:=(List.getElem?_eq_some_iff.mp he).1
 have hj2:es[j]?=some (g q):=by rw[List.getElem?_eq_getElem (by omega),←e1,List.getElem_take]
 have a1:(es.map (·.z))[i]?=some e.z:=by rw[List.getElem?_map,he];rfl
 have a2:(es.map (·.z))[j]?=some e.z:=by rw[List.getElem?_map,hj2,←hz];rfl
 have:=(List.getElem?_inj (List.getElem?_eq_some_iff.mp a1).1 nd).mp (a1.trans a2.symm)
 omega
theorem UP (x:Int)(ns:List Int):W4 (V.int x) (ns.map V.int)=decide (x∈ns):=by
 unfold W4
 rw[List.any_map,Bool.eq_iff_iff,List.any_eq_true,decide_eq_true_eq]
 constructor
 ·rintro⟨y,hy,e⟩
  have e':Lq (V.int y) (V.int x)=true:=e
  simp[Lq] at e'
  rw[←e'];exact hy
 ·intro h
  exact⟨x,h,by show Lq (V.int x) (V.int x)=true;simp[Lq]⟩
theorem QZ (ns:List Int):(ns.map V.int).all GG=true:=by
 rw[List.all_map]
 exact List.all_eq_true.mpr fun _ _=>rfl
def WN (gv:V)(rt:List Int):Prop:=rt.filter (fun y=>!decide (V.int y=gv))≠[]
theorem Rk {gv:V}{bs:List Bz}{z:Int}(h:2≤bs.length):WN gv (BK bs z):=fun e=>by
 have n:=O9 (z:=z) h
 have h1:∀y∈BK bs z,V.int y=gv:=fun y hy=>Classical.byContradiction fun q=>by
  have:y∈(BK bs z).filter (fun y=>!decide (V.int y=gv)):=List.mem_filter.mpr ⟨hy,by rw[decide_eq_false q];rfl⟩
  rw[e] at this;cases this
 have a1:=h1 _ (List.mem_cons_self (a:=z%(bs.length:Int)) (l:=[(z+1)%(bs.length:Int)]))
 have a2:=h1 _ (List.mem_cons_of_mem (z%(bs.length:Int)) (List.mem_cons_self (a:=(z+1)%(bs.length:Int)) (l:=[])))
 exact n (V.int.inj (a1.trans a2.symm))
theorem UE {bs:List Bz}{z:Int}{j:Int}(h:2≤bs.length)(j0:0≤j)(j1:j<2):∃(k:Nat) (y:Int) (rt:List Int),seqIndex? j ((BK bs z).map V.int).length=some k∧((BK bs z).map V.int)[k]?=some (.int y)∧((BK bs z).map V.int).eraseIdx k=rt.map V.int∧rt.Sublist (BK bs z)∧(∀x∈BK bs z,x∈rt∨x=y)∧y∉rt∧y∈BK bs z∧rt≠[]:=by
 have n:=O9 (z:=z) h
 have e:j=0∨j=1:=by omega
 unfold BK
 generalize z%(bs.length:Int)=p at n
 generalize (z+1)%(bs.length:Int)=q at n
 rcases e with rfl|rfl
 ·refine⟨0,p,[q],rfl,rfl,rfl,List.Sublist.cons _ (List.Sublist.refl _),fun x hx=>?_,fun hx=>n (List.mem_singleton.mp hx),List.mem_cons_self,by simp⟩
  rcases List.mem_cons.mp hx with rfl|hx
  ·exact .inr rfl
  ·exact .inl hx
 ·refine⟨1,q,[p],rfl,rfl,rfl,List.Sublist.cons_cons _ (List.nil_sublist _),fun x hx=>?_,fun hx=>n (List.mem_singleton.mp hx).symm,List.mem_cons_of_mem _ List.mem_cons_self,by simp⟩
  rcases List.mem_cons.mp hx with rfl|hx
  ·exact .inl List.mem_cons_self
  ·exact .inr (List.mem_singleton.mp hx)
theorem SV {gv:V}{l rt:List Int}(s:rt.Sublist l)(n:rt≠[])(h:W4 gv (l.map V.int)=false):WN gv rt:=fun e=>by
 obtain⟨y,hy⟩:=List.exists_mem_of_ne_nil rt n
 have hn:¬V.int y=gv:=fun z=>by
  rw[←z,UP,decide_eq_true (s.subset hy)] at h
  cases h
 have:y∈rt.filter (fun y=>!decide (V.int y=gv)):=List.mem_filter.mpr ⟨hy,by rw[decide_eq_false hn];rfl⟩
 rw[e] at this;cases this
def Xi (a:Addr)(so:Option HO)(x:Addr)(ds:List Addr)(tl:Addr)(ps:List Rw)(gv:V)(bs:List Bz)(H:Hp)(r:Rt):Prop:=H r.l=some (.lst (r.rt.map V.int))∧Tells bs r.e r.rt∧Aw H x ds r.l∧tl≠r.l∧(∀p∈ps,p.2≠r.l)∧(∀u,so=some u→a≠r.l)∧WN gv r.rt
theorem Xi.same {C:Addr}{a:Addr}{so:Option HO}{x:Addr}{ds:List Addr}{tl:Addr}{ps:List Rw}{gv:V}{bs:List Bz}{n:Int}{lf:V}{H H':Hp}{r:Rt}(h:Xi a so x ds tl ps gv bs H r)(g:Cp C H x ds bs n lf)(s:Al H H'):Xi a so x ds tl ps gv bs H' r:=
 ⟨s.get h.1,h.2.1,h.2.2.1.same g s,h.2.2.2⟩
theorem Pz {rs:List Rt}(nd:(rs.map (·.e.z)).Nodup){r:Rt}(h:r∈rs):CL (Fm rs) r.e.key=some (.ref r.l):=by
 refine Ja ?_ (List.mem_map.mpr ⟨r,h,rfl⟩)
 unfold Fm
 rw[List.map_map]
 exact Ea (g:=fun r:Rt=>r.e) nd
theorem M6 {α β:Type}{g:α→β}{l:List α}(nd:(l.map g).Nodup){i j:Nat}{x y:α}(hi:l[i]?=some x)(hj:l[j]?=some y)(h:j≠i):g y≠g x:=fun e=>by
 have a1:(l.map g)[i]?=some (g x):=by rw[List.getElem?_map,hi];rfl
 have a2:(l.map g)[j]?=some (g x):=by rw[List.getElem?_map,hj,←e];rfl
 exact h ((List.getElem?_inj (List.getElem?_eq_some_iff.mp a2).1 nd).mp (a2.trans a1.symm))
theorem VD {rs:List Rt}{i:Nat}{r:Rt}{rt:List Int}(h:rs[i]?=some r):Fm (rs.set i ⟨r.e,r.l,rt⟩)=Fm rs:=by
 unfold Fm
 refine List.ext_getElem? fun j=>?_
 rw[List.getElem?_map,List.getElem?_map,List.getElem?_set]
 by_cases e:i=j
 ·subst e
  rw[if_pos rfl,if_pos (List.getElem?_eq_some_iff.mp h).1,h];rfl
 ·rw[if_neg e]
theorem QC {rs:List Rt}{i:Nat}{r:Rt}{l:Addr}{rt:List Int}(h:rs[i]?=some r):(rs.set i ⟨r.e,l,rt⟩).map (·.e)=rs.map (·.e):=by
 refine List.ext_getElem? fun j=>?_
 rw[List.getElem?_map,List.getElem?_map,List.getElem?_set]
 by_cases e:i=j
 ·subst e
  rw[if_pos rfl,if_pos (List.getElem?_eq_some_iff.mp h).1,h];rfl
 ·rw[if_neg e]
theorem X0 {rs:List Rt}{i:Nat}{r:Rt}{rt:List Int}(h:rs[i]?=some r):(rs.set i ⟨r.e,r.l,rt⟩).map (·.l)=rs.map (·.l):=by
 refine List.ext_getElem? fun j=>?_
 rw[List.getElem?_map,List.getElem?_map,List.getElem?_set]
 by_cases e:i=j
 ·subst e
  rw[if_pos rfl,if_pos (List.getElem?_eq_some_iff.mp h).1,h];rfl
 ·rw[if_neg e]
theorem Po {rs:List Rt}{i:Nat}{r:Rt}{l:Addr}{rt:List Int}(nd:(rs.map (·.e.z)).Nodup)(h:rs[i]?=some r):putK (Fm rs) r.e.key (.ref l)=Fm (rs.set i ⟨r.e,l,rt⟩):=by
 have hi:=(List.getElem?_eq_some_iff.mp h).1
 have an:((Fm rs).any fun kv=>decide (kv.1=r.e.key))=true:=List.any_eq_true.mpr ⟨(r.e.key,.ref r.l),List.mem_map.mpr ⟨r,List.mem_of_getElem? h,rfl⟩,decide_eq_true rfl⟩
 unfold putK
 rw[if_pos an]
 unfold Fm
 refine List.ext_getElem? fun j=>?_
 rw[List.getElem?_map,List.getElem?_map,List.getElem?_map,List.getElem?_set]
 by_cases e:i=j
 ·subst e
  rw[if_pos rfl,if_pos hi,h]
  show some (if r.e.key=r.e.key then _ else _)=_
  rw[if_pos rfl];rfl
 ·rw[if_neg e]
  cases hj:rs[j]? with
  |none=>rfl
  |some r'=>
   show some (if r'.e.key=r.e.key then _ else _)=_
   rw[if_neg fun z=>M6 (g:=fun r:Rt=>r.e.z) nd h hj (Ne.symm e) (by injection z with z _;exact Sum.inl.inj z)];rfl
theorem T9 {rt:List Int}{gv:V}:((rt.map V.int).filter fun v=>!decide (v=gv)).map id=(rt.filter fun y=>!decide (V.int y=gv)).map V.int:=by
 rw[List.map_id,List.filter_map];rfl
theorem Ny {rt:List Int}{g:Int}:(rt.filter fun y=>!decide (V.int y=V.int g))=rt.filter fun y=>!decide (y=g):=by
 congr 1
 funext y
 by_cases e:y=g
 ·rw[e,decide_eq_true rfl,decide_eq_true rfl]
 ·rw[decide_eq_false e,decide_eq_false fun z=>e (V.int.inj z)]
theorem Hi {rs:List Rt}{j:Nat}{u v r:Rt}(nd:(rs.map (·.e.z)).Nodup)(h:rs[j]?=some u)(hr:r∈rs.set j v):r=v∨(r∈rs∧r≠u):=by
 obtain⟨k,hk⟩:=List.getElem?_of_mem hr
 rw[List.getElem?_set] at hk
 by_cases e:j=k
 ·subst e
  rw[if_pos rfl,if_pos (List.getElem?_eq_some_iff.mp h).1] at hk
  exact .inl (Option.some.inj hk).symm
 ·rw[if_neg e] at hk
  exact .inr ⟨List.mem_of_getElem? hk,fun z=>M6 (g:=fun r:Rt=>r.e.z) nd h hk (Ne.symm e) (by rw[z])⟩
theorem XH {H:Hp}{a:Addr}{xs:List V}(h:AM K H a xs):∃o:Option HO,(∀H':Hp,(∀u,o=some u→H' a=some u)→AM K H' a xs)∧∀u,o=some u→H a=some u∧((∃ys,u=.lst ys)∨∃q v,u=.frz q v):=by
 rcases h with(h|⟨q,h⟩)|h
 ·exact⟨some (.lst xs),fun H' k=>.inl (.inl (k _ rfl)),fun u hu=>by cases hu;exact⟨h,.inl ⟨_,rfl⟩⟩⟩
 ·exact⟨some (.frz q (.lst xs)),fun H' k=>.inl (.inr ⟨q,k _ rfl⟩),fun u hu=>by cases hu;exact⟨h,.inr ⟨_,_,rfl⟩⟩⟩
 ·exact⟨none,fun H' _=>.inr h,fun u hu=>nomatch hu⟩
theorem TJ.of {bs:List Bz}{es:List Ld}(h:TJ bs es)(b0:0<bs.length){e:Ld}(he:e∈es){b:Nat}(hb:(b:Int)=e.z%(bs.length:Int)):Bl (bs.getD b []) e.z=some e.row:=by
 rw[(h e he).2 b,if_pos (by rw[hb];exact List.mem_cons_self)]
end
open M06
section
variable {P:Program}{w:World}{K:W.Frag}{mg:Str→Option Value}{base:Heap}{f Ac Aa:Addr}{XC:Nat→Addr}{fd:FuncData}
def M4 (K:W.Frag):Sp:=fun vs H Q _=>∃(a:Addr) (ns:List Int),vs=[.ref a]∧AM K H a (ns.map V.int)∧ns.length≤63∧∀H',Q (.bl true) H'
theorem WB (T:Txt K mg Ac Aa XC)(F:Fun K "law" "law" HV f fd)(De:Def P w K mg base 1 "_law_cell_at" ["_law_script","_law_k"] (DZ K))(EV:T7 P w K mg base 3 Aa "Boards" ["self","many"] (Ei K Aa))(A8:DI P w K mg base 1 Aa "many" ["self"] (Cq K Aa))(GF:Def P w K mg base 11 "_law_laid" ["_law_boards","_law_cells"] (FQ K Aa))(LA:Iy P w K mg base 10 "lay" ["boards","number","birth","block"] (Nf K Aa XC))(B6:Def P w K mg base 19 "_law_all_told" ["_law_boards","_law_laid_here","_law_right","_law_but"] (CA K Aa))(Cg:DI P w K mg base 4 Aa "cell" ["self","board","number"] (Dh K Aa))(BN:Def P w K mg base 1 "_law_numbers" ["_law_cell","_law_many"] (CQ K))(EN:DI P w K mg base 4 Aa "lose" ["self","board"] (Ez K Aa))(BM:DI P w K mg base 4 Aa "spoil" ["self","board","number","row"] (B8 K Aa))(Fd:Def P w K mg base 5 "_law_spoilt" ["_law_boards","_law_board","_law_tag_here","_law_some","_law_rows"] (Eu K Aa)):FnOk P w K mg base Dp 20 f fd ["_law_script"] (M4 K):=by
 exists Ct
 ·obtain⟨a,ns,rfl,_⟩:=h
  rfl
 obtain⟨a,ns,rfl,hS,hlen,q⟩:=h
 have hu:=IA hr
 have hu9:=ML hr
 refine⟨_,(!Af (@Ax _ _ (1) _ _ _ _ Ct.nd rfl (by trivial) (!AK De (by trivial) rfl (!Ab (pv 0) (!Ab (!Ae) (!Ag) (by rfl)) (by rfl)) (by decide) (by rfl) (by rfl)) (by rfl) (by trivial)) (!Af (@Ax _ _ (2) _ _ _ _ Ct.nd rfl (by trivial) (!Td EV (by trivial) rfl (!Ab (!Am Be (!Ae) (!Am AG (pv 1) (!Ae))) (!Ag) (by rfl)) (by decide) (by rfl) (by rfl)) (by rfl) (by trivial)) (!Af (@Ax _ _ (3) _ _ _ _ Ct.nd rfl (by trivial) (!Hh (pv 2) T.cl_Boards A8 (by trivial) (by rfl)) (by rfl) (by trivial)) (!Af (@Ax _ _ (4) _ _ _ _ Ct.nd rfl (by trivial) (!AK GF (by trivial) rfl (!Ab (pv 2) (!Ab (!Am FT (!BS (!Ab (!Ae) (!Ag) (by rfl))) (!Dg FN (pv 0) (!CD (!Ae)) (!CD (!Ae)))) (!Ag) (by rfl)) (by rfl)) (by decide) (by rfl) (by rfl)) (by rfl) (by trivial)) (!Af (@Ax _ _ (5) _ _ _ _ Ct.nd rfl (by trivial) (!BG (K1 rfl) (by rfl) T.b_list FW (!Ab (pv 4) (!Ag) (by rfl)) (by decide) (by decide) (by rfl) (by rfl)) (by rfl) (by trivial)) (!Af (@Ax _ _ (6) _ _ _ _ Ct.nd rfl (by trivial) (!Ay AY (!BS (!Ab (!Dm) (!Ab (!Am AG (!Am Dc (pv 1) (!Ae)) (pv 3)) (!Ag) (by rfl)) (by rfl))) (!Am AG (!Am Dc (pv 1) (!Ae)) (!Ae)) (fun _ _=>rfl)) (by rfl) (by trivial)) (!Af (@Ax _ _ (7) _ _ _ _ Ct.nd rfl (by trivial) (!Kn) (by rfl) (by trivial)) (!Af (@Ax _ _ (8) _ _ _ _ Ct.nd rfl (by trivial) (!Kn) (by rfl) (by trivial)) (!Af (!CJ PassesOwn.never rfl (!Dk (pv 5)) (@Az _ _ (9) _ Ct.nd rfl (by trivial) (by trivial)) (!Af (!D5 hu (pv 7) (pv 9) (!BS (!Ab (!Am AG (!Ay AF (pv 9) (!Ae) (fun _ _=>rfl)) (pv 3)) (!Ab (!Am AG (!Am Be (!Ay AF (pv 9) (!Ae) (fun _ _=>rfl)) (!Ae)) (pv 3)) (!Ag) (by rfl)) (by rfl))) rfl) (!Aj (!D5 hu (pv 8) (pv 9) (!DP (pv 2) T.cl_Boards Cg (by trivial) (!Ab (!Am AG (!Ay AF (pv 9) (!Ae) (fun _ _=>rfl)) (pv 3)) (!Ab (!Ay AF (pv 9) (!Ae) (fun _ _=>rfl)) (!Ag) (by rfl)) (by rfl)) (by rfl) (by rfl) (by rfl)) rfl))) (by intro _;rfl)) (!Af (!CJ PassesOwn.never rfl (!Ot rfl T.b_enumerate (!Ab (pv 5) (!Ag) (by rfl)) (by rfl)) (!KE rfl (!By (@Az _ _ (10) _ Ct.nd rfl (by trivial) (by trivial)) (!By (@Az _ _ (9) _ Ct.nd rfl (by trivial) (by trivial)) (!G7) (by rfl)) (by rfl)) (by rfl) (by rfl)) (!Af (@Ax _ _ (11) _ _ _ _ Ct.nd rfl (by trivial) (!AK BN (by trivial) rfl (!Ab (!Am Be (!AK De (by trivial) rfl (!Ab (pv 0) (!Ab (!Ae) (!Ag) (by rfl)) (by rfl)) (by decide) (by rfl) (by rfl)) (!Am EM (!Ae) (pv 10))) (!Ab (!Ae) (!Ag) (by rfl)) (by rfl)) (by decide) (by rfl) (by rfl)) (by rfl) (by trivial)) (!Aj (!AL (@PW.pt _ _ _ (!S8 (!AI Oi (!Am AG (!Ay AY (pv 11) (!Ae) (fun _ _=>rfl)) (!Ae)) (!Ae) (AJ _)) (!QH (!AI MN (pv 6) (!DE hu (pv 7) (pv 9) (fun _ _=>rfl)) rfl)))) (!Af (@Ax _ _ (12) _ _ _ _ Ct.nd rfl (by trivial) (!Gk PySem.F.plainAttrs_list PySem.F.slot_list_pop PySem.F.type_list_pop Sq (!DE hu (pv 7) (pv 9) (fun _ _=>rfl)) (!Ab (!Am AG (!Ay AY (pv 11) (!Ae) (fun _ _=>rfl)) (!Ae)) (!Ag) (by rfl)) (by rfl) (by rfl) (by rfl) (by rfl) (by rfl)) (by rfl) (by trivial)) (!Aj (!Co (!AK Fd (by trivial) rfl (!Ab (pv 2) (!Ab (pv 12) (!Ab (pv 9) (!Ab (pv 11) (!Ab (pv 8) (!Ag) (by rfl)) (by rfl)) (by rfl)) (by rfl)) (by rfl)) (by decide) (by rfl) (by rfl)) (by rfl)))) (!As)))) (by intro _;rfl)) (!Af (!AL (!G1 (!J3 (pv 6)) (by first|exact Dj _ (by decide) (by decide)|rfl)) (!Af (!Co (!DP (pv 2) T.cl_Boards EN (by trivial) (!Ab (pv 6) (!Ag) (by rfl)) (by rfl) (by rfl) (by rfl)) (by rfl)) (!Aj (!CJ PassesOwn.never rfl (!Dk (pv 5)) (@Az _ _ (9) _ Ct.nd rfl (by trivial) (by trivial)) (!Aj (!D5 hu (pv 7) (pv 9) (@IF _ ["_law_board","_law_gone"] [none,some 6] _ _ _ _ _ _ _ _ _ _ _ rfl (!Dk (!DE hu (pv 7) (pv 9) (fun _ _=>rfl))) (by rfl) rfl (by repeat (first|exact trivial|refine⟨rfl,?_⟩)) (by repeat (first|exact trivial|refine⟨fun h=>(by first|exact⟨_,rfl⟩|cases h),?_⟩)) (fun C s H fp=>⟨(@Az _ _ (0) _ (show(["_law_board","_law_gone"]:List Str).Nodup by decide +kernel) rfl (by trivial) (by trivial)),(!NX (!AI QV (pv 0) (pv 1) (AJ _))),(pv 0)⟩) (by intro _;rfl)) rfl)) (by intro _;rfl)))) (!As)) (!Af (!AL (!BA (!Bt (!AK B6 (by trivial) rfl (!Ab (pv 2) (!Ab (pv 4) (!Ab (pv 7) (!Ab (!Dm) (!Ag) (by rfl)) (by rfl)) (by rfl)) (by rfl)) (by decide) (by rfl) (by rfl)) (by intro _;rfl))) (!Aj (!An (!D0))) (!As)) (!Af (@Ax _ _ (13) _ _ _ _ Ct.nd rfl (by trivial) (!Ay AY (pv 5) (!Am AG (!Am Dc (pv 1) (!Ae)) (!AB AN (by rfl) T.b_len B5 (!Ab (pv 5) (!Ag) (by rfl)) (by decide) (by decide) (by rfl) (by rfl))) (fun _ _=>rfl)) (by rfl) (by trivial)) (!Af (!CJ PassesOwn.never rfl (!Dk (!DE hu (pv 7) (pv 13) (fun _ _=>rfl))) (@Az _ _ (12) _ Ct.nd rfl (by trivial) (by trivial)) (!Aj (!Co (!DP (pv 2) T.cl_Boards BM (by trivial) (!Ab (pv 12) (!Ab (!Ay AF (pv 13) (!Ae) (fun _ _=>rfl)) (!Ab (!BS (!Ag)) (!Ag) (by rfl)) (by rfl)) (by rfl)) (by rfl) (by rfl) (by rfl)) (by rfl))) (by intro _;rfl)) (!Af (!D5 hu (pv 7) (pv 13) (!BS (!Ag)) rfl) (!Af (!AL (!BA (!Bt (!AK B6 (by trivial) rfl (!Ab (pv 2) (!Ab (pv 4) (!Ab (pv 7) (!Ab (pv 13) (!Ag) (by rfl)) (by rfl)) (by rfl)) (by rfl)) (by decide) (by rfl) (by rfl)) (by intro _;rfl))) (!Aj (!An (!D0))) (!As)) (!Af (!Co (!K5 LA (by trivial) rfl VY (!Ab (pv 2) (!Ab (!Ay AF (pv 13) (!Ae) (fun _ _=>rfl)) (!Ab (!Ay AF (pv 13) (!Ae) (fun _ _=>rfl)) (!Ab (!DE hu (pv 4) (pv 13) (fun _ _=>rfl)) (!Ag) (by rfl)) (by rfl)) (by rfl)) (by rfl)) (by decide) (by rfl) (by rfl)) (by rfl)) (!Af (!D5 hu (pv 7) (pv 13) (!BS (!Ab (!Am AG (!Ay AF (pv 13) (!Ae) (fun _ _=>rfl)) (pv 3)) (!Ab (!Am AG (!Am Be (!Ay AF (pv 13) (!Ae) (fun _ _=>rfl)) (!Ae)) (pv 3)) (!Ag) (by rfl)) (by rfl))) rfl) (!Aj (!An (!AK B6 (by trivial) rfl (!Ab (pv 2) (!Ab (pv 4) (!Ab (pv 7) (!Ab (!Dm) (!Ag) (by rfl)) (by rfl)) (by rfl)) (by rfl)) (by decide) (by rfl) (by rfl)))))))))))))))))))))),?_⟩
 try dsimp only[B9,Cx.nox,Cx.wish]
 refine⟨_,rfl,a,ns,0,rfl,by decide,hS,fun z1=>?_⟩
 refine⟨_,rfl,_,_,rfl,rfl,(by show(0:Int)<3;decide),_,_,rfl,rfl,?_⟩
 obtain⟨m,hm⟩:∃m:Nat,(m:Int)=2+z1%3:=⟨(2+z1%3).toNat,by omega⟩
 have m1:2≤m:=by omega
 have m2:m≤4:=by omega
 dsimp only[Gj]
 rw[←hm]
 intro x dx nx ndx _
 refine⟨x,dx,m,rfl,m1,m2,Ad,fun H1 ds B1 n1 k1=>⟨rfl,?_⟩⟩
 have s1:=made nx ndx k1
 have hS1:=s1.seq hS
 obtain⟨dx1,sh1,x1,_⟩:=id B1
 refine⟨_,rfl,x,dx1,_,rfl,x1,rfl,x,ds,_,_,_,rfl,B1,?_⟩
 rw[List.length_replicate]
 refine⟨_,rfl,RS,fun p1 hp1=>?_⟩
 have t2:=Ak hp1 (.lst [V.int 0])
 refine⟨_,rfl,2,rfl,10,rfl,a,_,rfl,t2.seq hS1,fun p2 hp2=>?_⟩
 obtain⟨ms,em,lm,_⟩:=TV ns (some 2) (some 10)
 have lm8:ms.length≤8:=by
  have:=congrArg List.length em
  rw[Og (by decide) (by decide),List.length_take,List.length_map] at this
  have e8:(10:Int).toNat-(2:Int).toNat=8:=rfl
  omega
 rw[em] at ⊢
 have t3:=Ak hp2 (.lst (ms.map V.int))
 refine⟨p1,p2,_,_,rfl,rfl,AM.of (t3.get Ad),AM.of Ad,small (by rw[List.length_map];show 1+_≤1000000;omega),fun cs hcs=>?_⟩
 have t4:=Ak hcs (.lst ([V.int 0]++ms.map V.int))
 refine⟨x,ds,List.replicate m [],0,cs,0::ms,rfl,B1.same ((t2.trans t3).trans t4),by rw[List.length_replicate];exact m1,by rw[List.length_replicate];exact m2,fun c hc=>List.eq_of_mem_replicate hc,Ad,by rw[List.length_cons];omega,fun dl H5 bs n es hdn hB5 kb5 lb bb5 hdl5 les nd lay rep5=>?_⟩
 rw[List.length_replicate] at lb
 obtain⟨so,scS,soH⟩:=XH hS1
 have pa5:∀u,so=some u→H5 a=some u∧((∃ys,u=.lst ys)∨∃q v,u=.frz q v):=fun u hu=>by
  obtain⟨b1,b2⟩:=soH u hu
  obtain⟨dx2,s0,g1,_⟩:=id B1
  refine⟨kb5 a u (t4.get (t3.get (t2.get b1))) ?_ (B1.notin b1 ?_),b2⟩
  ·refine Av b1 g1 ?_
   rcases b2 with⟨ys,rfl⟩|⟨q,v,rfl⟩
   ·intro z;cases z
   ·intro z;cases z
  ·rcases b2 with⟨ys,rfl⟩|⟨q,v,rfl⟩
   ·intro kvs z;cases z
   ·intro kvs z;cases z
 have es0:0<es.length:=by rw[les];exact Nat.succ_pos _
 have es9:es.length≤9:=by rw[les,List.length_cons];omega
 clear hS1 hp1 hp2 hcs t2 t3 t4 kb5 k1 B1 x1 s1 soH
 refine⟨_,rfl,dl,_,rfl,hdl5,fun tl tb htl ltb htb=>?_⟩
 have ltb':tb.length=es.length:=by rw[ltb,List.length_map]
 have t6:=Ak htl (.lst (tb.map V.ref))
 have hB6:=hB5.same t6
 have hdl6:=t6.get hdl5
 have htl6:(upd H5 tl (.lst (tb.map V.ref))) tl=some (.lst (tb.map V.ref)):=Ad
 have htb6:∀(i:Nat) b e,tb[i]?=some b→es[i]?=some e→(upd H5 tl (.lst (tb.map V.ref))) b=some (.tup e.tag):=fun i b e h1 h2=>t6.get (htb i e.key e.v b (by rw[List.getElem?_map,h2];rfl) h1)
 have rep6:IX (upd H5 tl (.lst (tb.map V.ref))) es:=fun e he=>Rep.same t6 _ _ (rep5 e he)
 have pa6:∀u,so=some u→(upd H5 tl (.lst (tb.map V.ref))) a=some u∧((∃ys,u=.lst ys)∨∃q v,u=.frz q v):=fun u hu=>⟨t6.get (pa5 u hu).1,(pa5 u hu).2⟩
 clear hB5 hdl5 rep5 pa5 t6 htb htl ltb
 dsimp only
 generalize upd H5 tl (.lst (tb.map V.ref))=H6 at *
 refine⟨_,rfl,_,_,rfl,rfl,⟨by decide,by decide⟩,_,rfl,_,_,rfl,rfl,(show(0:Int)<(m:Int) by omega),Jn,fun l2 hl2=>?_⟩
 have t7:=Ak hl2 (.lst [V.non,V.int (z1/6%(m:Int))])
 obtain⟨gv,eg,hgv⟩:=Qx (xs:=[V.non,V.int (z1/6%(m:Int))]) (i:=z1/3%2) (by omega) (by show _<(2:Int);omega)
 have hg:gv=.non∨∃g:Nat,gv=.int (g:Int)∧g<m:=by
  simp only[List.mem_cons,List.not_mem_nil,or_false] at hgv
  rcases hgv with rfl|rfl
  ·exact .inl rfl
  ·have h0:=Int.emod_nonneg (z1/6) (show(m:Int)≠0 by omega)
   have h1:=Int.emod_lt_of_pos (z1/6) (show 0<(m:Int) by omega)
   exact .inr ⟨(z1/6%(m:Int)).toNat,by rw[show(((z1/6%(m:Int)).toNat:Nat):Int)=z1/6%(m:Int) by omega],by omega⟩
 refine⟨_,rfl,_,_,rfl,rfl,⟨by decide,by decide⟩,_,_,rfl,rfl,(show(0:Int)<2 by decide),l2,_,_,_,rfl,rfl,AM.of Ad,eg,?_⟩
 replace hB6:=hB6.same t7
 replace hdl6:=t7.get hdl6
 replace htl6:=t7.get htl6
 replace htb6:∀(i:Nat) b e,tb[i]?=some b→es[i]?=some e→(upd H6 l2 (.lst [V.non,V.int (z1/6%(m:Int))])) b=some (.tup e.tag):=fun i b e h1 h2=>t7.get (htb6 i b e h1 h2)
 replace rep6:IX (upd H6 l2 (.lst [V.non,V.int (z1/6%(m:Int))])) es:=fun e he=>Rep.same t7 _ _ (rep6 e he)
 replace pa6:∀u,so=some u→(upd H6 l2 (.lst [V.non,V.int (z1/6%(m:Int))])) a=some u∧((∃ys,u=.lst ys)∨∃q v,u=.frz q v):=fun u hu=>⟨t7.get (pa6 u hu).1,(pa6 u hu).2⟩
 clear t7 hgv eg hl2
 generalize upd H6 l2 (.lst [V.non,V.int (z1/6%(m:Int))])=H7 at *
 intro dr hdrn
 intro dw hdwn
 have u1:=Ak hdrn (.dT [])
 have u2:=Ak hdwn (.dT [])
 have U:=u1.trans u2
 have nrw:dr≠dw:=Ar (Ad (H:=H7) (a:=dr) (o:=.dT [])) hdwn
 have nlr:dl≠dr:=Ar hdl6 hdrn
 have nlw:dl≠dw:=Ar (u1.get hdl6) hdwn
 have hdr0:(upd (upd H7 dr (.dT [])) dw (.dT [])) dr=some (.dT []):=u2.get Ad
 have hdw0:(upd (upd H7 dr (.dT [])) dw (.dT [])) dw=some (.dT []):=Ad
 replace hB6:=hB6.same U
 replace hdl6:=U.get hdl6
 replace htl6:=U.get htl6
 replace htb6:∀(i:Nat) b e,tb[i]?=some b→es[i]?=some e→(upd (upd H7 dr (.dT [])) dw (.dT [])) b=some (.tup e.tag):=fun i b e h1 h2=>U.get (htb6 i b e h1 h2)
 replace rep6:IX (upd (upd H7 dr (.dT [])) dw (.dT [])) es:=fun e he=>Rep.same U _ _ (rep6 e he)
 replace pa6:∀u,so=some u→(upd (upd H7 dr (.dT [])) dw (.dT [])) a=some u∧((∃ys,u=.lst ys)∨∃q v,u=.frz q v):=fun u hu=>⟨U.get (pa6 u hu).1,(pa6 u hu).2⟩
 clear u1 u2 U hdrn hdwn
 generalize upd (upd H7 dr (.dT [])) dw (.dT [])=H8 at *
 have m0:(0:Int)<(m:Int):=by omega
 have b0:0<bs.length:=by omega
 refine⟨_,rfl,tl,rfl,⟨_,AM.of htl6⟩,Fk (K:=K) (a:=tl) (xs:=tb.map V.ref) (fun i σ H2=>∃v9,∃(rs:List Rt) (ps:List Rw),σ=[some (.ref a),some (.int z1),some (.ref x),some (.int (m:Int)),some (.ref dl),some (.ref tl),some gv,some (.ref dr),some (.ref dw),v9,none,none,none,none]∧(∀b o,H8 b=some o→b≠dr→b≠dw→H2 b=some o)∧Cp Aa H2 x ds bs n .non∧H2 dr=some (.dT (Fm rs))∧H2 dw=some (.dT (Ss ps))∧rs.map (·.e)=es.take i∧ps.map (·.1)=es.take i∧
   (∀r∈rs,H2 r.l=some (.lst (r.rt.map V.int))∧r.rt=BK bs r.e.z∧Aw H2 x ds r.l∧H8 r.l=none)∧(∀p∈ps,H2 p.2=some (.lst (p.1.row.map V.int))∧∀r∈rs,p.2≠r.l)∧(rs.map (·.l)).Nodup)
  ⟨none,[],[],rfl,(fun b o h _ _=>h),hB6,hdr0,hdw0,rfl,rfl,(fun _ h=>nomatch h),(fun _ h=>nomatch h),List.nodup_nil⟩ (fun i σ H2 _ ⟨_,_,_,_,kp,_⟩=>AM.of (kp tl _ htl6 (Av htl6 hdr0 (by intro z;cases z)) (Av htl6 hdw0 (by intro z;cases z)))) ?_ ?_⟩
 ·rintro i y σ H2 hi ⟨v9,rs,ps,rfl,kp,hB2,hdr2,hdw2,er,ep,hr2,hp2,ndl⟩
  obtain⟨b,hbi,rfl⟩:∃b,tb[i]?=some b∧V.ref b=y:=by
   rw[List.getElem?_map] at hi
   cases h:tb[i]? with
   |none=>rw[h] at hi;cases hi
   |some b=>rw[h] at hi;exact⟨b,rfl,Option.some.inj hi⟩
  have li:i<es.length:=by rw[←ltb'];exact(List.getElem?_eq_some_iff.mp hbi).1
  obtain⟨e,he⟩:∃e,es[i]?=some e:=⟨_,List.getElem?_eq_getElem li⟩
  have hem:=List.mem_of_getElem? he
  have hb8:=htb6 i b e hbi he
  have hb2:=kp b _ hb8 (Av hb8 hdr0 (by intro z;cases z)) (Av hb8 hdw0 (by intro z;cases z))
  have ll:rs.length≤9:=by
   have:=congrArg List.length er
   rw[List.length_map,List.length_take] at this
   omega
  have lp:ps.length≤9:=by
   have:=congrArg List.length ep
   rw[List.length_map,List.length_take] at this
   omega
  refine⟨_,rfl,b,_,_,_,rfl,rfl,AW.of hb2,rfl,_,rfl,_,_,rfl,rfl,m0,_,rfl,b,_,_,_,rfl,rfl,AW.of hb2,rfl,_,_,rfl,rfl,_,rfl,_,_,rfl,rfl,m0,Jn,fun l hl=>?_⟩
  have v1:=Ak hl (.lst [V.int (e.z%(m:Int)),V.int ((e.z+1)%(m:Int))])
  have nk:∀q∈Fm rs,q.1≠e.key:=fun q hq=>by
   obtain⟨r,hr,rfl⟩:=List.mem_map.mp hq
   exact Qq (g:=fun r:Rt=>r.e) nd er he r hr
  refine⟨_,rfl,_,rfl,dr,_,rfl,HQ.t (k:=e.key) (v1.get hdr2) (v1.get hb2) (BL (by show(rs.map _).length<_;rw[List.length_map];omega)),?_⟩
  rw[Nl nk]
  have hB3:Cp Aa (upd (upd H2 l (.lst [V.int (e.z%(m:Int)),V.int ((e.z+1)%(m:Int))])) dr (.dT (Fm rs++[(e.key,.ref l)]))) x ds bs n .non:=HF (hB2.same v1) (v1.get hdr2)
  have nldr:l≠dr:=fun z=>by rw[z,hdr2] at hl;cases hl
  have hl3:(upd (upd H2 l (.lst [V.int (e.z%(m:Int)),V.int ((e.z+1)%(m:Int))])) dr (.dT (Fm rs++[(e.key,.ref l)]))) l=some (.lst ((BK bs e.z).map V.int)):=by rw[Ai nldr,Ad];unfold BK;rw[lb];rfl
  have k3:∀b o,H2 b=some o→b≠dr→(upd (upd H2 l (.lst [V.int (e.z%(m:Int)),V.int ((e.z+1)%(m:Int))])) dr (.dT (Fm rs++[(e.key,.ref l)]))) b=some o:=fun b o h z=>by rw[Ai z];exact v1.get h
  have hdr3:(upd (upd H2 l (.lst [V.int (e.z%(m:Int)),V.int ((e.z+1)%(m:Int))])) dr (.dT (Fm rs++[(e.key,.ref l)]))) dr=some (.dT (Fm (rs++[⟨e,l,BK bs e.z⟩]))):=by rw[Ad];unfold Fm;rw[List.map_append];rfl
  have aw3:∀c,Aw H2 x ds c→Aw (upd (upd H2 l (.lst [V.int (e.z%(m:Int)),V.int ((e.z+1)%(m:Int))])) dr (.dT (Fm rs++[(e.key,.ref l)]))) x ds c:=fun c h=>(h.same hB2 v1).dT
  have awl:Aw (upd (upd H2 l (.lst [V.int (e.z%(m:Int)),V.int ((e.z+1)%(m:Int))])) dr (.dT (Fm rs++[(e.key,.ref l)]))) x ds l:=(Aw.fresh hB2 hl).dT
  have nl8:H8 l=none:=by
   cases h:H8 l with
   |none=>rfl
   |some o=>
    have:l≠dw:=fun z=>by rw[z,hdw2] at hl;cases hl
    rw[kp l o h nldr this] at hl;cases hl
  have pl:∀p∈ps,p.2≠l:=fun p hp z=>by rw[←z,(hp2 p hp).1] at hl;cases hl
  have rl:∀r∈rs,r.l≠l:=fun r hr z=>by rw[←z,(hr2 r hr).1] at hl;cases hl
  dsimp only
  generalize upd (upd H2 l (.lst [V.int (e.z%(m:Int)),V.int ((e.z+1)%(m:Int))])) dr (.dT (Fm rs++[(e.key,.ref l)]))=H3 at hB3 hl3 k3 hdr3 aw3 awl
  have hb3:=k3 b _ hb2 (Av hb2 hdr2 (by intro z;cases z))
  have hdw3:=k3 dw _ hdw2 (Ne.symm nrw)
  obtain⟨dx3,sh3,gx3,_⟩:=id hB3
  obtain⟨bn,hbn,lbn⟩:∃bn:Nat,(bn:Int)=e.z%(m:Int)∧bn<m:=by
   have h0:=Int.emod_nonneg e.z (show(m:Int)≠0 by omega)
   have h1:=Int.emod_lt_of_pos e.z m0
   exact⟨(e.z%(m:Int)).toNat,by omega,by omega⟩
  have rowB:=lay.of b0 hem (b:=bn) (by rw[lb];exact hbn)
  refine⟨_,rfl,x,dx3,_,rfl,gx3,rfl,_,rfl,b,_,_,_,rfl,rfl,AW.of hb3,rfl,_,rfl,_,_,rfl,rfl,m0,_,rfl,b,_,_,_,rfl,rfl,AW.of hb3,rfl,x,ds,bs,n,.non,bn,e.z,by rw[hbn];rfl,hB3,by omega,(fun hn=>by rw[rowB] at hn;cases hn),fun row hrow w hw=>?_⟩
  rw[rowB] at hrow
  cases hrow
  have v4:=Ak hw (.lst (e.row.map V.int))
  have nk4:∀q∈Ss ps,q.1≠e.key:=fun q hq=>by
   obtain⟨r,hr,rfl⟩:=List.mem_map.mp hq
   exact Qq (g:=fun r:Rw=>r.1) nd ep he r hr
  refine⟨_,rfl,_,rfl,dw,_,rfl,HQ.t (k:=e.key) (v4.get hdw3) (v4.get hb3) (BL (by show(ps.map _).length<_;rw[List.length_map];omega)),?_⟩
  rw[Nl nk4]
  have nwd:w≠dw:=fun z=>by rw[z,hdw3] at hw;cases hw
  have k5:∀b o,H3 b=some o→b≠dw→(upd (upd H3 w (.lst (e.row.map V.int))) dw (.dT (Ss ps++[(e.key,.ref w)]))) b=some o:=fun b o h z=>by rw[Ai z];exact v4.get h
  have ind:∀b ys,H3 b=some (.lst ys)→b≠dw:=fun b ys h=>Av h hdw3 (by intro z;cases z)
  have ind2:∀b ys,H2 b=some (.lst ys)→b≠dr:=fun b ys h=>Av h hdr2 (by intro z;cases z)
  refine⟨_,rs++[⟨e,l,BK bs e.z⟩],ps++[(e,w)],rfl,(fun b o h n1 n2=>k5 b o (k3 b o (kp b o h n1 n2) n1) n2),HF (hB3.same v4) (v4.get hdw3),k5 dr _ hdr3 nrw,?_,?_,?_,fun r hr=>?_,fun p hp=>?_,?_⟩
  ·rw[Ad];unfold Ss;rw[List.map_append];rfl
  ·rw[List.map_append,er,List.take_add_one,he];rfl
  ·rw[List.map_append,ep,List.take_add_one,he];rfl
  ·rcases List.mem_append.mp hr with hr|hr
   ·obtain⟨a1,a2,a3,a4⟩:=hr2 r hr
    have a5:=k3 _ _ a1 (ind2 _ _ a1)
    exact⟨k5 _ _ a5 (ind _ _ a5),a2,((aw3 _ a3).same hB3 v4).dT,a4⟩
   ·rw[List.mem_singleton.mp hr]
    exact⟨k5 _ _ hl3 (ind _ _ hl3),rfl,(awl.same hB3 v4).dT,nl8⟩
  ·have wr:∀r∈rs++[(⟨e,l,BK bs e.z⟩:Rt)],w≠r.l:=fun r hr z=>by
    rcases List.mem_append.mp hr with hr|hr
    ·have a1:=(hr2 r hr).1
     rw[z,k3 _ _ a1 (ind2 _ _ a1)] at hw;cases hw
    ·rw[List.mem_singleton.mp hr] at z
     rw[z,hl3] at hw;cases hw
   rcases List.mem_append.mp hp with hp|hp
   ·obtain⟨a1,a2⟩:=hp2 p hp
    have a5:=k3 _ _ a1 (ind2 _ _ a1)
    refine⟨k5 _ _ a5 (ind _ _ a5),fun r hr=>?_⟩
    rcases List.mem_append.mp hr with hr|hr
    ·exact a2 r hr
    ·rw[List.mem_singleton.mp hr];exact pl p hp
   ·rw[List.mem_singleton.mp hp]
    refine⟨?_,wr⟩
    rw[Ai nwd];exact Ad
  ·rw[List.map_append]
   refine List.nodup_append.mpr ⟨ndl,List.nodup_cons.mpr ⟨fun q=>(nomatch q),List.nodup_nil⟩,fun c hc c' hc'=>?_⟩
   obtain⟨r,hr,rfl⟩:=List.mem_map.mp hc
   rw[List.mem_singleton.mp hc']
   exact rl r hr
 ·rintro σ H2 ⟨v9,rs,ps,rfl,kp,hB2,hdr2,hdw2,er,ep,hr2,hp2,ndl⟩
  rw[List.length_map,ltb',List.take_length] at er ep
  have oks:∀e∈es,e.ok:=fun e he=>(lay e he).1
  have kpl:∀b ys,H8 b=some (.lst ys)→H2 b=some (.lst ys):=fun b ys h=>kp b _ h (Av h hdr0 (by intro z;cases z)) (Av h hdw0 (by intro z;cases z))
  have kpt:∀b ys,H8 b=some (.tup ys)→H2 b=some (.tup ys):=fun b ys h=>kp b _ h (Av h hdr0 (by intro z;cases z)) (Av h hdw0 (by intro z;cases z))
  have fx:Fx a so dl dw tl tb es ps H2:=by
   refine⟨kp dl _ hdl6 nlr nlw,hdw2,kpl _ _ htl6,fun i b e h1 h2=>kpt _ _ (htb6 i b e h1 h2),fun p hp=>(hp2 p hp).1,fun e he=>EK kpt _ _ (rep6 e he),fun u hu=>?_⟩
   obtain⟨b1,b2⟩:=pa6 u hu
   refine⟨?_,b2⟩
   rcases b2 with⟨ys,rfl⟩|⟨q,v,rfl⟩
   ·exact kpl _ _ b1
   ·exact kp a _ b1 (Av b1 hdr0 (by intro z;cases z)) (Av b1 hdw0 (by intro z;cases z))
  have ok1:∀(j:Nat) r,rs[j]?=some r→Xi a so x ds tl ps gv bs H2 r∧(0≤j→r.rt=BK bs r.e.z):=fun j r hj=>by
   have hr:=List.mem_of_getElem? hj
   obtain⟨a1,a2,a3,a4⟩:=hr2 r hr
   have hre:r.e∈es:=by rw[←er];exact List.mem_map.mpr ⟨r,hr,rfl⟩
   refine⟨⟨a1,by rw[a2];exact Tells.full lay hre b0,a3,Ar htl6 a4,fun p hp=>(hp2 p hp).2 r hr,fun u hu=>Ar (pa6 u hu).1 a4,by rw[a2];exact Rk (by omega)⟩,fun _=>a2⟩
  have lps:ps.length≤9:=by
   have:=congrArg List.length ep
   rw[List.length_map] at this
   omega
  have ndp:(ps.map (·.1.z)).Nodup:=by
   have:ps.map (·.1.z)=es.map (·.z):=by rw[←ep,List.map_map];rfl
   rw[this];exact nd
  have lrs:rs.length=es.length:=by rw[←er,List.length_map]
  have bb8:∀c∈bs,c.length≤100+0:=bb5
  clear kp hB6 hdl6 htl6 htb6 rep6 pa6 hdr0 hdw0 hr2 hp2 kpl kpt hdw2 bb5
  dsimp only
  refine⟨_,rfl,tl,_,rfl,AM.of fx.2.2.1,?_⟩
  refine LM (K:=K) (a:=tl) (xs:=tb.map V.ref) (fun i σ H2=>∃v9 v10 v11 v12 bs,∃(rs:List Rt),σ=[some (.ref a),some (.int z1),some (.ref x),some (.int (m:Int)),some (.ref dl),some (.ref tl),some gv,some (.ref dr),some (.ref dw),v9,v10,v11,v12,none]∧Cp Aa H2 x ds bs n .non∧bs.length=m∧(∀c∈bs,c.length≤100+i)∧Fx a so dl dw tl tb es ps H2∧H2 dr=some (.dT (Fm rs))∧rs.map (·.e)=es∧(∀(j:Nat) r,rs[j]?=some r→Xi a so x ds tl ps gv bs H2 r∧(i≤j→r.rt=BK bs r.e.z))∧(rs.map (·.l)).Nodup)
   ⟨v9,none,none,none,bs,rs,rfl,hB2,lb,bb8,fx,hdr2,er,ok1,ndl⟩ (fun i σ H2 _ ⟨_,_,_,_,_,_,_,_,_,_,h,_⟩=>AM.of h.2.2.1) ?_ ?_
  ·clear ok1 fx hB2 hdr2 er ndl lrs lay lb b0
   rintro i y σ H3 T hi ⟨w9,w10,w11,w12,bs,rs,rfl,hB,lb,bb,fx,hdr,er,ok1,ndl⟩ hT
   obtain⟨b,hbi,rfl⟩:∃b,tb[i]?=some b∧V.ref b=y:=by
    rw[List.getElem?_map] at hi
    cases h:tb[i]? with
    |none=>rw[h] at hi;cases hi
    |some b=>rw[h] at hi;exact⟨b,rfl,Option.some.inj hi⟩
   have li:i<es.length:=by rw[←ltb'];exact(List.getElem?_eq_some_iff.mp hbi).1
   have lrs:rs.length=es.length:=by rw[←er,List.length_map]
   obtain⟨r,hri⟩:∃r,rs[i]?=some r:=⟨_,List.getElem?_eq_getElem (by omega)⟩
   have he:es[i]?=some r.e:=by rw[←er,List.getElem?_map,hri];rfl
   have sT:=Ak hT (.tup [V.int (i:Int),V.ref b])
   refine⟨T,_,rfl,AW.of Ad,rfl,_,_,rfl,_,_,rfl,rfl,?_⟩
   refine⟨_,rfl,a,ns,1,rfl,by decide,scS _ (fun u hu=>sT.get (fx.2.2.2.2.2.2 u hu).1),fun z2=>?_⟩
   refine⟨_,rfl,_,_,rfl,rfl,.inl ⟨by decide,by decide⟩,_,_,rfl,rfl,_,4,rfl,by decide,by decide,fun q4 H4 xs s4 nr hr4 lx bx=>?_⟩
   have nq:q4≠r.l:=fun z=>by rw[z,sT.get (ok1 i r hri).1.1] at nr;cases nr
   have S4:=sT.trans s4
   have hB4:=hB.same S4
   have fx4:=fx.same S4
   have hdr4:=S4.get hdr
   have ok4:∀(j:Nat) r,rs[j]?=some r→Xi a so x ds tl ps gv bs H4 r∧(i≤j→r.rt=BK bs r.e.z):=fun j r h=>⟨(ok1 j r h).1.same hB S4,(ok1 j r h).2⟩
   clear ok1 fx hdr s4 sT S4 hT nr hB
   have b0:0<bs.length:=by omega
   have lx':xs.length=4:=lx
   obtain⟨r0,A0,p0⟩:∃u,He (xs.map V.int) ((0:Nat):Int)=some (.int u)∧0≤u:=⟨xs[0],CP (by rw[List.getElem?_map,List.getElem?_eq_getElem (by omega)];rfl),(bx _ (List.getElem_mem (by omega))).1⟩
   have bb1:∀c∈bs,c.length≤100+(i+1):=fun c hc=>by have:=bb c hc;omega
   refine⟨_,rfl,q4,_,_,_,rfl,rfl,AM.of hr4,A0,_,_,rfl,rfl,(show(0:Int)<3 by decide),_,_,rfl,rfl,_,rfl,Cs (fun c=>?_) (fun _=>AS rfl ?_)⟩
   ·have hb4:=fx4.2.2.2.1 i b r.e hbi he
    obtain⟨⟨hl4,tl4,aw4,n1,n2,n3,lv⟩,full⟩:=ok4 i r hri
    have fr:=full (Nat.le_refl _)
    have ndz:(rs.map (·.e.z)).Nodup:=by
     have:rs.map (·.e.z)=es.map (·.z):=by rw[←er,List.map_map];rfl
     rw[this];exact nd
    have gR:Dl H4 dr (.ref b) (some (.ref r.l)):=by
     have:=Dl.t (k:=r.e.key) hdr4 hb4
     rw[Pz ndz (List.mem_of_getElem? hri)] at this
     exact this
    have flg:GG gv=true:=by rcases hg with rfl|⟨g,rfl,_⟩<;>rfl
    refine⟨_,rfl,_,rfl,_,rfl,dr,_,rfl,gR,r.l,_,rfl,.inl (AM.of hl4),flg,QZ _,_,rfl,Cs (fun c2=>?_) (fun _=>?_)⟩
    ·have c3:W4 gv ((BK bs r.e.z).map V.int)=false:=by
      rw[fr] at c2
      cases h:W4 gv ((BK bs r.e.z).map V.int) with
      |false=>rfl
      |true=>rw[h] at c2;cases c2
     rw[fr] at hl4 tl4
     obtain⟨k,y,rt,hk,hy,hrt,sub,cov,nin,yin,ne⟩:=UE (bs:=bs) (z:=r.e.z) (j:=r0%2) (by omega) (by omega) (by omega)
     obtain⟨bn,rfl⟩:∃bn:Nat,y=(bn:Int):=⟨y.toNat,by have:=(CK b0 y yin).1;omega⟩
     have lbn:bn<bs.length:=by have:=(CK b0 _ yin).2;omega
     refine⟨_,rfl,_,rfl,dr,_,rfl,gR,.inl ⟨rfl,_,AM.of hl4⟩,_,rfl,q4,_,_,_,rfl,rfl,AM.of hr4,A0,_,_,rfl,rfl,(show(0:Int)<2 by decide),r.l,_,_,k,.int (bn:Int),rfl,rfl,hl4,by omega,by omega,hk,hy,?_⟩
     rw[hrt]
     have hB5:=Aw.ap hB4 aw4 hl4 (rt.map V.int)
     have fx5:=fx4.list (ys:=rt.map V.int) hl4 n1 n2 n3
     have hdr5:(upd H4 r.l (.lst (rt.map V.int))) dr=some (.dT (Fm rs)):=by rw[Ai (Av hdr4 hl4 (by intro z;cases z))];exact hdr4
     have hq5:(upd H4 r.l (.lst (rt.map V.int))) q4=some (.lst (xs.map V.int)):=by rw[Ai nq];exact hr4
     have hl5:(upd H4 r.l (.lst (rt.map V.int))) r.l=some (.lst (rt.map V.int)):=Ad
     have aw5:∀c,Aw H4 x ds c→Aw (upd H4 r.l (.lst (rt.map V.int))) x ds c:=fun c h=>h.list
     have oth5:∀(j:Nat) r',rs[j]?=some r'→j≠i→(upd H4 r.l (.lst (rt.map V.int))) r'.l=some (.lst (r'.rt.map V.int)):=fun j r' h z=>by rw[Ai (M6 ndl hri h z)];exact(ok4 j r' h).1.1
     dsimp only
     generalize upd H4 r.l (.lst (rt.map V.int))=H5 at hB5 fx5 hdr5 hq5 hl5 aw5 oth5
     obtain⟨pe,hpe,hpe1⟩:∃pe∈ps,pe.1=r.e:=by
      have:r.e∈ps.map (·.1):=by rw[ep];exact List.mem_of_getElem? he
      exact List.mem_map.mp this
     have hpz:pe.1.z=r.e.z:=by rw[hpe1]
     refine⟨_,rfl,_,rfl,_,rfl,_,rfl,_,rfl,x,ds,bs,n,.non,bn,b,q4,dw,xs,ps,pe,rfl,hB5,lbn,(fun c hc=>by have:=bb c hc;omega),(by rw[hpe1];exact fx5.2.2.2.1 i b r.e hbi he),hq5,by omega,bx,fx5.2.1,lps,hpe,ndp,(fun p hp=>⟨oks _ (by rw[←ep];exact List.mem_map.mpr ⟨p,hp,rfl⟩),fx5.2.2.2.2.1 p hp⟩),fun H6 row hB6 kb6 ap6 bad le=>?_⟩
     rw[hpe1] at hB6 ap6 bad
     have lw:(bs.set bn (DM (bs.getD bn []) r.e.z row)).length=bs.length:=List.length_set
     have aw6:∀c ys,H5 c=some (.lst ys)→Aw H4 x ds c→Aw H6 x ds c:=fun c ys h1 h2=>(ap6 c ys h1 (Aw.ap hB5 (aw5 c h2) h1)).aw (GX hB5 kb6 h1)
     refine⟨_,_,_,_,bs.set bn (DM (bs.getD bn []) r.e.z row),rs.set i ⟨r.e,r.l,rt⟩,rfl,hB6,by rw[lw];exact lb,fun c hc=>by have:=NG bb r.e.z row c hc;omega,fx5.kb hB5 kb6,by rw[VD hri];exact Ly hB5 kb6 hdr5,by rw[QC hri];exact er,fun j r' hj=>?_,by rw[X0 hri];exact ndl⟩
     rw[List.getElem?_set] at hj
     by_cases hij:i=j
     ·subst hij
      rw[if_pos rfl,if_pos (by omega)] at hj
      cases hj
      refine⟨⟨GX hB5 kb6 hl5,Tells.cut tl4 lbn sub cov nin bad le,aw6 _ _ hl5 aw4,n1,n2,n3,SV sub ne c3⟩,fun z=>absurd z (by omega)⟩
     ·rw[if_neg hij] at hj
      obtain⟨⟨a1,a2,a3,a4,a5,a6,a7⟩,a8⟩:=ok4 j r' hj
      have a9:=oth5 j r' hj (Ne.symm hij)
      exact⟨⟨GX hB5 kb6 a9,Tells.other a2 lbn (M6 (g:=fun r:Rt=>r.e.z) ndz hri hj (Ne.symm hij)),aw6 _ _ a9 a3,a4,a5,a6,a7⟩,fun z=>by rw[CS lw];exact a8 (by omega)⟩
    ·exact⟨_,_,_,_,bs,rs,rfl,hB4,lb,bb1,fx4,hdr4,er,fun j r h=>⟨(ok4 j r h).1,fun z=>(ok4 j r h).2 (by omega)⟩,ndl⟩
   ·exact⟨_,_,_,_,bs,rs,rfl,hB4,lb,bb1,fx4,hdr4,er,fun j r h=>⟨(ok4 j r h).1,fun z=>(ok4 j r h).2 (by omega)⟩,ndl⟩
  ·clear ok1 fx hB2 hdr2 er ndl lrs lay lb b0 bb8
   rintro σ H3 ⟨w9,w10,w11,w12,bs,rs,rfl,hB,lb,bb,fx,hdr,er,ok1,ndl⟩
   rw[List.length_map,ltb'] at bb
   have bb9:∀c∈bs,c.length≤110:=fun c hc=>by have:=bb c hc;omega
   have b0:0<bs.length:=by omega
   dsimp only
   refine Hf (fun σ' H'=>∃v9 v10 v11 v12 bs,∃(rs:List Rt),σ'=[some (.ref a),some (.int z1),some (.ref x),some (.int (m:Int)),some (.ref dl),some (.ref tl),some gv,some (.ref dr),some (.ref dw),v9,v10,v11,v12,none]∧Cp Aa H' x ds bs n .non∧bs.length=m∧(∀c∈bs,c.length≤110)∧Fx a so dl dw tl tb es ps H'∧H' dr=some (.dT (Fm rs))∧rs.map (·.e)=es∧∀r∈rs,H' r.l=some (.lst (r.rt.map V.int))∧Tells bs r.e r.rt∧r.rt≠[]) (fun N hN=>?_) ?_
   ·rcases hg with rfl|⟨g,rfl,lg⟩
    ·refine⟨_,rfl,_,rfl,AS rfl (hN _ _ ⟨_,_,_,_,bs,rs,rfl,hB,lb,bb9,fx,hdr,er,fun r hr=>?_⟩)⟩
     obtain⟨j,hj⟩:=List.getElem?_of_mem hr
     obtain⟨⟨a1,a2,_,_,_,_,a7⟩,_⟩:=ok1 j r hj
     exact⟨a1,a2,fun z=>a7 (by rw[z];rfl)⟩
    ·refine⟨_,rfl,_,rfl,AQ rfl ?_⟩
     obtain⟨dx3,sh3,gx3,_⟩:=id hB
     refine⟨_,rfl,x,dx3,_,rfl,gx3,rfl,_,rfl,x,ds,bs,n,.non,g,rfl,hB,by omega,fun H4 hB4 kb4=>?_⟩
     have fx4:=fx.kb hB kb4
     have hdr4:=Ly hB kb4 hdr
     have lw:(bs.set g ([]:Bz)).length=m:=by rw[List.length_set];exact lb
     have bb4:∀c∈bs.set g ([]:Bz),c.length≤110:=fun c hc=>by
      rcases List.mem_or_eq_of_mem_set hc with hc|rfl
      ·exact bb9 c hc
      ·exact Nat.zero_le _
     have ok4:∀(j:Nat) r,rs[j]?=some r→H4 r.l=some (.lst (r.rt.map V.int))∧r.rt.length≤2∧(j<0→Tells (bs.set g []) r.e r.rt∧r.rt≠[])∧(0≤j→Tells (bs.set g []) r.e (r.rt.filter fun y=>!decide (y=(g:Int)))∧(r.rt.filter fun y=>!decide (y=(g:Int)))≠[]):=fun j r hj=>by
      obtain⟨⟨a1,a2,_,_,_,_,a7⟩,_⟩:=ok1 j r hj
      exact⟨GX hB kb4 a1,a2.1.length_le,fun z=>absurd z (Nat.not_lt_zero _),fun _=>⟨a2.lose (by omega),fun z=>a7 (by rw[Ny];exact z)⟩⟩
     clear ok1 fx hdr hB kb4 bb9 bb gx3 lb
     generalize bs.set g ([]:Bz)=bs1 at hB4 lw bb4 ok4
     refine⟨_,rfl,tl,rfl,⟨_,AM.of fx4.2.2.1⟩,Fk (K:=K) (a:=tl) (xs:=tb.map V.ref) (fun i σ H2=>∃v9,∃(rs:List Rt),σ=[some (.ref a),some (.int z1),some (.ref x),some (.int (m:Int)),some (.ref dl),some (.ref tl),some (.int (g:Int)),some (.ref dr),some (.ref dw),v9,w10,w11,w12,none]∧Cp Aa H2 x ds bs1 n .non∧Fx a so dl dw tl tb es ps H2∧H2 dr=some (.dT (Fm rs))∧rs.map (·.e)=es∧∀(j:Nat) r,rs[j]?=some r→H2 r.l=some (.lst (r.rt.map V.int))∧r.rt.length≤2∧(j<i→Tells bs1 r.e r.rt∧r.rt≠[])∧(i≤j→Tells bs1 r.e (r.rt.filter fun y=>!decide (y=(g:Int)))∧(r.rt.filter fun y=>!decide (y=(g:Int)))≠[]))
      ⟨w9,rs,rfl,hB4,fx4,hdr4,er,ok4⟩ (fun i σ H2 _ ⟨_,_,_,_,h,_⟩=>AM.of h.2.2.1) ?_ ?_⟩
     ·clear ok4 fx4 hB4 hdr4 er ndl
      rintro i y σ H5 hi ⟨u9,rs,rfl,hB5,fx5,hdr5,er,ok5⟩
      obtain⟨b,hbi,rfl⟩:∃b,tb[i]?=some b∧V.ref b=y:=by
       rw[List.getElem?_map] at hi
       cases h:tb[i]? with
       |none=>rw[h] at hi;cases hi
       |some b=>rw[h] at hi;exact⟨b,rfl,Option.some.inj hi⟩
      have li:i<es.length:=by rw[←ltb'];exact(List.getElem?_eq_some_iff.mp hbi).1
      have lrs:rs.length=es.length:=by rw[←er,List.length_map]
      obtain⟨r,hri⟩:∃r,rs[i]?=some r:=⟨_,List.getElem?_eq_getElem (by omega)⟩
      have he:es[i]?=some r.e:=by rw[←er,List.getElem?_map,hri];rfl
      have hb5:=fx5.2.2.2.1 i b r.e hbi he
      have ndz:(rs.map (·.e.z)).Nodup:=by
       have:rs.map (·.e.z)=es.map (·.z):=by rw[←er,List.map_map];rfl
       rw[this];exact nd
      have gR:Dl H5 dr (.ref b) (some (.ref r.l)):=by
       have:=Dl.t (k:=r.e.key) hdr5 hb5
       rw[Pz ndz (List.mem_of_getElem? hri)] at this
       exact this
      obtain⟨hl5,l2,_,t5⟩:=ok5 i r hri
      obtain⟨t5,ne5⟩:=t5 (Nat.le_refl _)
      refine⟨_,rfl,_,rfl,dr,_,rfl,gR,r.l,rfl,⟨_,AM.of hl5⟩,?_⟩
      refine Ow (xs:=r.rt.map V.int) (fun v=>!decide (v=V.int (g:Int))) id (Fh (AM.of hl5)) (by rw[List.length_map];omega) (fun v H' R hx s' hR=>⟨_,rfl,_,rfl,?_,_,rfl,hR⟩) (fun v H' R hx hp s' hR=>⟨_,rfl,hR H' (Al.refl _)⟩) fun l H6 nl s6 hl6=>?_
      ·obtain⟨u,_,rfl⟩:=List.mem_map.mp hx
       rfl
      rw[T9,Ny] at hl6
      have hdr6:=s6.get hdr5
      refine⟨_,rfl,_,rfl,dr,_,rfl,HQ.t (k:=r.e.key) hdr6 (s6.get hb5) (BL (by show(rs.map _).length<_;rw[List.length_map];omega)),?_⟩
      rw[Po (rt:=r.rt.filter fun y=>!decide (y=(g:Int))) ndz hri]
      have kl:∀c ys,H6 c=some (.lst ys)→(upd H6 dr (.dT (Fm (rs.set i ⟨r.e,l,r.rt.filter fun y=>!decide (y=(g:Int))⟩)))) c=some (.lst ys):=fun c ys h=>by rw[Ai (Av h hdr6 (by intro z;cases z))];exact h
      refine⟨_,rs.set i ⟨r.e,l,r.rt.filter fun y=>!decide (y=(g:Int))⟩,rfl,HF (hB5.same s6) hdr6,(fx5.same s6).dict hdr6 nlr (Ne.symm nrw),Ad,by rw[QC hri];exact er,fun j r' hj=>?_⟩
      rw[List.getElem?_set] at hj
      by_cases hij:i=j
      ·subst hij
       rw[if_pos rfl,if_pos (by omega)] at hj
       cases hj
       exact⟨kl _ _ hl6,Nat.le_trans (List.length_filter_le _ _) l2,fun _=>⟨t5,ne5⟩,fun z=>absurd z (by omega)⟩
      ·rw[if_neg hij] at hj
       obtain⟨a1,a2,a3,a4⟩:=ok5 j r' hj
       exact⟨kl _ _ (s6.get a1),a2,fun z=>a3 (by omega),fun z=>a4 (by omega)⟩
     ·rintro σ H5 ⟨u9,rs,rfl,hB5,fx5,hdr5,er,ok5⟩
      refine hN _ _ ⟨_,_,_,_,bs1,rs,rfl,hB5,lw,bb4,fx5,hdr5,er,fun r hr=>?_⟩
      obtain⟨j,hj⟩:=List.getElem?_of_mem hr
      obtain⟨a1,_,a2,_⟩:=ok5 j r hj
      have lrs:rs.length=es.length:=by rw[←er,List.length_map]
      exact⟨a1,a2 (by have:=(List.getElem?_eq_some_iff.mp hj).1;rw[List.length_map];omega)⟩
   ·clear ok1 fx hB hdr er ndl lb b0 bb bb9 hg
    rintro σ' H' ⟨v9,v10,v11,v12,bs,rs,rfl,hB,lb,bb,fx,hdr,er,ok⟩
    have told:∀(bs:List Bz) (n':Int) (rs:List Rt) (bt:V) (H4:Hp) (R:VK),Cp Aa H4 x ds bs n' .non→bs.length=m→Fx a so dl dw tl tb es ps H4→H4 dr=some (.dT (Fm rs))→rs.map (·.e)=es→(∀r∈rs,H4 r.l=some (.lst (r.rt.map V.int))∧Tells bs r.e r.rt)→((bt=.non∧∀r∈rs,r.rt≠[])∨∃ta u,bt=.ref ta∧u∈rs∧H4 ta=some (.tup u.e.tag)∧u.rt=[]∧∀r∈rs,r≠u→r.rt≠[])→(∀H5,Al H4 H5→R (.bl true) H5)→CA K Aa [.ref x,.ref dl,.ref dr,bt] H4 R E0:=fun bs n' rs bt H4 R hB lb fx hdr er ok dj hR=>by
     have ee:Nm rs=dE es:=by rw[←er];unfold Nm dE;rw[List.map_map];rfl
     have ez:rs.map (·.e.z)=es.map (·.z):=by rw[←er,List.map_map];rfl
     refine⟨x,ds,bs,n',.non,dl,dr,bt,rs,rfl,hB,by omega,by rw[ee];exact fx.1,hdr,Ne.symm nlr,by rw[ez];exact nd,fun r hr=>?_,dj,hR⟩
     have hre:r.e∈es:=by rw[←er];exact List.mem_map.mpr ⟨r,hr,rfl⟩
     exact⟨oks _ hre,fx.2.2.2.2.2.1 _ hre,(ok r hr).1,(ok r hr).2⟩
    refine⟨_,rfl,_,rfl,_,rfl,?_⟩
    dsimp only[Us,tC,Gj,List.append_nil,List.cons_append,List.nil_append]
    refine told bs n rs .non H' _ hB lb fx hdr er (fun r hr=>⟨(ok r hr).1,(ok r hr).2.1⟩) (.inl ⟨rfl,fun r hr=>(ok r hr).2.2⟩) fun H4 s4=>⟨_,rfl,AS rfl ?_⟩
    have hB4:=hB.same s4
    have fx4:=fx.same s4
    have hdr4:=s4.get hdr
    have ok4:∀r∈rs,H4 r.l=some (.lst (r.rt.map V.int))∧Tells bs r.e r.rt∧r.rt≠[]:=fun r hr=>⟨s4.get (ok r hr).1,(ok r hr).2⟩
    clear ok fx hdr hB s4
    have lrs:rs.length=es.length:=by rw[←er,List.length_map]
    obtain⟨j,hj,lj⟩:∃j:Nat,z1/99%((tb.map V.ref).length:Int)=(j:Int)∧j<tb.length:=by
     rw[List.length_map]
     have h0:=Int.emod_nonneg (z1/99) (show(tb.length:Int)≠0 by omega)
     have h1:=Int.emod_lt_of_pos (z1/99) (show 0<(tb.length:Int) by omega)
     exact⟨(z1/99%(tb.length:Int)).toNat,by omega,by omega⟩
    have htl4:=fx4.2.2.1
    refine⟨_,rfl,_,rfl,_,_,rfl,rfl,⟨by decide,by decide⟩,_,rfl,tl,_,rfl,.inl (AM.of htl4),_,_,rfl,rfl,(by rw[List.length_map];omega),?_⟩
    dsimp only
    rw[hj]
    refine⟨tl,_,_,_,rfl,rfl,AM.of htl4,CP (by rw[List.getElem?_map,List.getElem?_eq_getElem lj];rfl),?_⟩
    generalize hta:tb[j]=ta
    have hbj:tb[j]?=some ta:=by rw[List.getElem?_eq_getElem lj,hta]
    obtain⟨u,huj⟩:∃u,rs[j]?=some u:=⟨_,List.getElem?_eq_getElem (by omega)⟩
    have hum:=List.mem_of_getElem? huj
    have he:es[j]?=some u.e:=by rw[←er,List.getElem?_map,huj];rfl
    have hue:u.e∈es:=List.mem_of_getElem? he
    have uok:=oks _ hue
    have ndz:(rs.map (·.e.z)).Nodup:=by
     have:rs.map (·.e.z)=es.map (·.z):=by rw[←er,List.map_map];rfl
     rw[this];exact nd
    have gR:∀H5,Fx a so dl dw tl tb es ps H5→H5 dr=some (.dT (Fm rs))→Dl H5 dr (.ref ta) (some (.ref u.l)):=fun H5 f h=>by
     have:=Dl.t (k:=u.e.key) h (f.2.2.2.1 j ta u.e hbj he)
     rw[Pz ndz hum] at this
     exact this
    have oz:∀r∈rs,r≠u→r.e.z≠u.e.z:=fun r hr h z=>h (Mw (g:=fun r:Rt=>r.e.z) ndz hr hum z)
    have l2:u.rt.length≤2:=(ok4 u hum).2.1.1.length_le
    have ndrt:u.rt.Nodup:=(Tv (by omega)).sublist (ok4 u hum).2.1.1
    refine⟨_,rfl,_,rfl,dr,_,rfl,gR H4 fx4 hdr4,u.l,rfl,⟨_,AM.of (ok4 u hum).1⟩,Fk (K:=K) (a:=u.l) (xs:=u.rt.map V.int) (fun i σ H5=>∃v12 bs,σ=[some (.ref a),some (.int z1),some (.ref x),some (.int (m:Int)),some (.ref dl),some (.ref tl),some gv,some (.ref dr),some (.ref dw),v9,v10,v11,v12,some (.ref ta)]∧Cp Aa H5 x ds bs n .non∧bs.length=m∧(∀c∈bs,c.length≤110+i)∧Fx a so dl dw tl tb es ps H5∧H5 dr=some (.dT (Fm rs))∧(∀r∈rs,H5 r.l=some (.lst (r.rt.map V.int)))∧Tells bs u.e (u.rt.drop i)∧∀r∈rs,r≠u→Tells bs r.e r.rt)
     ⟨v12,bs,rfl,hB4,lb,bb,fx4,hdr4,(fun r hr=>(ok4 r hr).1),(ok4 u hum).2.1,fun r hr _=>(ok4 r hr).2.1⟩ (fun i σ H5 _ ⟨_,_,_,_,_,_,_,_,h,_⟩=>AM.of (h u hum)) ?_ ?_⟩
    ·rintro i y σ H5 hi ⟨w12,bs,rfl,hB5,lb,bb,fx5,hdr5,hl5,tu,to⟩
     obtain⟨yy,rfl,hy⟩:=ints_get hi
     have b0:0<bs.length:=by omega
     have li:i<u.rt.length:=(List.getElem?_eq_some_iff.mp hy).1
     have ed:u.rt.drop i=yy::u.rt.drop (i+1):=by rw[List.drop_eq_getElem_cons li];rw[List.getElem?_eq_getElem li] at hy;rw[Option.some.inj hy]
     rw[ed] at tu
     have yin:=CK b0 yy (tu.1.subset List.mem_cons_self)
     obtain⟨bn,rfl⟩:∃bn:Nat,yy=(bn:Int):=⟨yy.toNat,by omega⟩
     have nin:(bn:Int)∉u.rt.drop (i+1):=by
      have:=ndrt.sublist (List.drop_sublist i u.rt)
      rw[ed,List.nodup_cons] at this
      exact this.1
     have hta5:=fx5.2.2.2.1 j ta u.e hbj he
     obtain⟨dx5,sh5,gx5,_⟩:=id hB5
     refine⟨_,rfl,x,dx5,_,rfl,gx5,rfl,_,rfl,_,rfl,ta,_,_,_,rfl,rfl,AW.of hta5,rfl,Sm,fun le hle=>?_⟩
     have s6:=Ak hle (.lst [])
     have hB6:=hB5.same s6
     refine⟨x,ds,bs,n,.non,bn,u.e.z,.ref le,some [],rfl,hB6,by omega,(fun c hc=>by have:=bb c hc;omega),⟨le,rfl,Ad⟩,fun H7 hB7 kb7 _=>?_⟩
     refine⟨_,_,rfl,hB7,by rw[List.length_set];exact lb,fun c hc=>by have:=NG bb u.e.z (some []) c hc;omega,(fx5.same s6).kb hB6 kb7,Ly hB6 kb7 (s6.get hdr5),fun r hr=>GX hB6 kb7 (s6.get (hl5 r hr)),?_,fun r hr h=>(to r hr h).other (by omega) (oz r hr h)⟩
     refine Tells.cut tu (by omega) (List.Sublist.cons _ (List.Sublist.refl _)) (fun x hx=>?_) nin (QU uok.1 Wj) fun r hr=>by cases hr;exact Nat.zero_le _
     rcases List.mem_cons.mp hx with h|h
     ·exact .inr h
     ·exact .inl h
    ·have ne4:∀r∈rs,r.rt≠[]:=fun r hr=>(ok4 r hr).2.2
     clear ok4 hdr4 fx4 hB4 htl4 lb bb
     rintro σ H5 ⟨w12,bs,rfl,hB5,lb,bb,fx5,hdr5,hl5,tu,to⟩
     rw[List.length_map] at bb tu
     rw[List.drop_length] at tu
     have hta5:=fx5.2.2.2.1 j ta u.e hbj he
     refine⟨Sm,fun l0 hl0=>?_⟩
     have s6:=Ak hl0 (.lst [])
     have hdr6:=s6.get hdr5
     refine⟨_,rfl,_,rfl,dr,_,rfl,HQ.t (k:=u.e.key) hdr6 (s6.get hta5) (BL (by show(rs.map _).length<_;rw[List.length_map];omega)),?_⟩
     rw[Po (rt:=[]) ndz huj]
     have kl6:∀c ys,(upd H5 l0 (.lst [])) c=some (.lst ys)→(upd (upd H5 l0 (.lst [])) dr (.dT (Fm (rs.set j ⟨u.e,l0,[]⟩)))) c=some (.lst ys):=fun c ys h=>by rw[Ai (Av h hdr6 (by intro z;cases z))];exact h
     have hB6:Cp Aa (upd (upd H5 l0 (.lst [])) dr (.dT (Fm (rs.set j ⟨u.e,l0,[]⟩)))) x ds bs n .non:=HF (hB5.same s6) hdr6
     have fx6:Fx a so dl dw tl tb es ps (upd (upd H5 l0 (.lst [])) dr (.dT (Fm (rs.set j ⟨u.e,l0,[]⟩)))):=(fx5.same s6).dict hdr6 nlr (Ne.symm nrw)
     have hl6:(upd (upd H5 l0 (.lst [])) dr (.dT (Fm (rs.set j ⟨u.e,l0,[]⟩)))) l0=some (.lst (([]:List Int).map V.int)):=kl6 _ _ Ad
     have hr6:∀r∈rs,(upd (upd H5 l0 (.lst [])) dr (.dT (Fm (rs.set j ⟨u.e,l0,[]⟩)))) r.l=some (.lst (r.rt.map V.int)):=fun r hr=>kl6 _ _ (s6.get (hl5 r hr))
     have hd6:(upd (upd H5 l0 (.lst [])) dr (.dT (Fm (rs.set j ⟨u.e,l0,[]⟩)))) dr=some (.dT (Fm (rs.set j ⟨u.e,l0,[]⟩))):=Ad
     dsimp only
     generalize upd (upd H5 l0 (.lst [])) dr (.dT (Fm (rs.set j ⟨u.e,l0,[]⟩)))=H6 at hB6 fx6 hl6 hr6 hd6
     clear kl6 hB5 fx5 hdr5 hl5 s6 hdr6
     have er1:(rs.set j ⟨u.e,l0,[]⟩).map (·.e)=es:=by rw[QC huj];exact er
     have lj':j<rs.length:=by omega
     have hj1:(rs.set j ⟨u.e,l0,[]⟩)[j]?=some ⟨u.e,l0,[]⟩:=by rw[List.getElem?_set,if_pos rfl,if_pos lj']
     have ndz1:((rs.set j ⟨u.e,l0,[]⟩).map (·.e.z)).Nodup:=by
      have:(rs.set j ⟨u.e,l0,[]⟩).map (·.e.z)=es.map (·.z):=by rw[←er1,List.map_map];rfl
      rw[this];exact nd
     have hta6:=fx6.2.2.2.1 j ta u.e hbj he
     refine⟨_,rfl,_,rfl,_,rfl,_,rfl,?_⟩
     dsimp only[Gj,List.append_nil]
     refine told bs n (rs.set j ⟨u.e,l0,[]⟩) (.ref ta) H6 _ hB6 lb fx6 hd6 er1 (fun r hr=>?_) (.inr ⟨ta,⟨u.e,l0,[]⟩,rfl,List.mem_of_getElem? hj1,hta6,rfl,fun r hr h=>?_⟩) fun H7 s7=>⟨_,rfl,AS rfl ?_⟩
     ·rcases Hi ndz huj hr with rfl|⟨h1,h2⟩
      ·exact⟨hl6,tu⟩
      ·exact⟨hr6 r h1,to r h1 h2⟩
     ·rcases Hi ndz huj hr with rfl|⟨h1,h2⟩
      ·exact absurd rfl h
      ·exact ne4 r h1
     have hB7:=hB6.same s7
     have fx7:=fx6.same s7
     have hta7:=s7.get hta6
     have gL:Dl H7 dl (.ref ta) (some u.e.v):=by
      have:=Dl.t (k:=u.e.key) fx7.1 hta7
      rw[show CL (dE es) u.e.key=some u.e.v from Ja (by unfold dE;rw[List.map_map];exact Ea (g:=fun e:Ld=>e) nd) (List.mem_map.mpr ⟨u.e,hue,rfl⟩)] at this
      exact this
     have b0:0<bs.length:=by omega
     refine⟨_,rfl,_,rfl,ta,_,_,_,rfl,rfl,AW.of hta7,rfl,_,rfl,ta,_,_,_,rfl,rfl,AW.of hta7,rfl,_,rfl,_,rfl,dl,_,rfl,gL,x,ds,bs,n,.non,u.e.z,u.e.y,u.e.v,u.e.bk,rfl,hB7,.inl rfl,b0,(fun c hc=>by have:=bb c hc;omega),fx7.2.2.2.2.2.1 _ hue,uok.2,uok.1,(fun k k2 nz e0=>?_),fun nz H8 hB8 kb8=>?_⟩
     ·rcases k with _|_|k
      ·exact nomatch(show V.non=V.int 0 from e0)
      ·exact nomatch(show V.non=V.int 0 from e0)
      ·omega
     have fx8:=fx7.kb hB7 kb8
     have hd8:=Ly hB7 kb8 (s7.get hd6)
     have hr8:∀r∈rs,H8 r.l=some (.lst (r.rt.map V.int)):=fun r hr=>GX hB7 kb8 (s7.get (hr6 r hr))
     have hta8:=fx8.2.2.2.1 j ta u.e hbj he
     have lw:(wr bs u.e.z (Bp (DV u.e.z u.e.y u.e.bk)) (BK bs u.e.z)).length=bs.length:=Hw _ _ _ _
     have tu8:Tells (wr bs u.e.z (Bp (DV u.e.z u.e.y u.e.bk)) (BK bs u.e.z)) u.e (BK bs u.e.z):=tu.laid uok b0
     have to8:∀r∈rs,r≠u→Tells (wr bs u.e.z (Bp (DV u.e.z u.e.y u.e.bk)) (BK bs u.e.z)) r.e r.rt:=fun r hr h=>(to r hr h).by b0 (oz r hr h)
     have hB8':Cp Aa H8 x ds (wr bs u.e.z (Bp (DV u.e.z u.e.y u.e.bk)) (BK bs u.e.z)) (n+2) .non:=hB8
     clear hB8 kb8 fx7 hB7 gL hta7 s7 hB6 fx6 hr6 hd6 hl6 hta6
     generalize wr bs u.e.z (Bp (DV u.e.z u.e.y u.e.bk)) (BK bs u.e.z)=bs8 at hB8' lw tu8 to8
     refine⟨_,rfl,ta,_,_,_,rfl,rfl,AW.of hta8,rfl,_,rfl,_,_,rfl,rfl,m0,_,rfl,ta,_,_,_,rfl,rfl,AW.of hta8,rfl,_,_,rfl,rfl,_,rfl,_,_,rfl,rfl,m0,Jn,fun l9 hl9=>?_⟩
     have s9:=Ak hl9 (.lst [V.int (u.e.z%(m:Int)),V.int ((u.e.z+1)%(m:Int))])
     have hd9:=s9.get hd8
     refine⟨_,rfl,_,rfl,dr,_,rfl,HQ.t (k:=u.e.key) hd9 (s9.get hta8) (BL (by show((rs.set j ⟨u.e,l0,[]⟩).map _).length<_;rw[List.length_map,List.length_set];omega)),?_⟩
     rw[Po (r:=⟨u.e,l0,[]⟩) (rt:=BK bs u.e.z) ndz1 hj1]
     have kl9:∀c ys,(upd H8 l9 (.lst [V.int (u.e.z%(m:Int)),V.int ((u.e.z+1)%(m:Int))])) c=some (.lst ys)→(upd (upd H8 l9 (.lst [V.int (u.e.z%(m:Int)),V.int ((u.e.z+1)%(m:Int))])) dr (.dT (Fm ((rs.set j ⟨u.e,l0,[]⟩).set j ⟨u.e,l9,BK bs u.e.z⟩)))) c=some (.lst ys):=fun c ys h=>by rw[Ai (Av h hd9 (by intro z;cases z))];exact h
     have hl9':(upd (upd H8 l9 (.lst [V.int (u.e.z%(m:Int)),V.int ((u.e.z+1)%(m:Int))])) dr (.dT (Fm ((rs.set j ⟨u.e,l0,[]⟩).set j ⟨u.e,l9,BK bs u.e.z⟩)))) l9=some (.lst ((BK bs u.e.z).map V.int)):=kl9 _ _ (by rw[Ad];unfold BK;rw[lb];rfl)
     refine⟨_,rfl,_,rfl,_,rfl,?_⟩
     dsimp only[Us,tC,Gj,List.append_nil,List.cons_append,List.nil_append]
     refine told bs8 (n+2) ((rs.set j ⟨u.e,l0,[]⟩).set j ⟨u.e,l9,BK bs u.e.z⟩) .non _ _ (HF (hB8'.same s9) hd9) (by omega) ((fx8.same s9).dict hd9 nlr (Ne.symm nrw)) Ad (by rw[QC (r:=⟨u.e,l0,[]⟩) hj1];exact er1) (fun r hr=>?_) (.inl ⟨rfl,fun r hr=>?_⟩) fun H11 s11=>q _
     ·rcases Hi ndz1 hj1 hr with rfl|⟨h1,h2⟩
      ·exact⟨hl9',tu8⟩
      ·rcases Hi ndz huj h1 with rfl|⟨h3,h4⟩
       ·exact absurd rfl h2
       ·exact⟨kl9 _ _ (s9.get (hr8 r h3)),to8 r h3 h4⟩
     ·rcases Hi ndz1 hj1 hr with rfl|⟨h1,h2⟩
      ·exact fun z=>nomatch(show BK bs u.e.z=[] from z)
      ·rcases Hi ndz huj h1 with rfl|⟨h3,h4⟩
       ·exact absurd rfl h2
       ·exact ne4 r h3
end
theorem all_mk {l:W.OpenLaw} {w:World} {K:W.Frag} {h:Heap} {mg:Str→Option Value} {fa:Addr} (X:K.In h) (G:h.Ns mainGlobals mg) (hfa:mg "law"=some (.ref fa))
  {f0:Addr} {od0 an0:Option Addr} {sl0:Array (Option Value)} {oc0 kV0 dc0 pm0 cd0 ct0:Value}
  {f1:Addr} {od1 an1:Option Addr} {sl1:Array (Option Value)} {oc1 kV1 dc1 pm1 cd1 ct1:Value}
  {f2:Addr} {od2 an2:Option Addr} {sl2:Array (Option Value)} {oc2 kV2 dc2 pm2 cd2 ct2:Value}
  {f3:Addr} {od3 an3:Option Addr} {sl3:Array (Option Value)} {oc3 kV3 dc3 pm3 cd3 ct3:Value}
  {f4:Addr} {od4 an4:Option Addr} {sl4:Array (Option Value)} {oc4 kV4 dc4 pm4 cd4 ct4:Value}
  {f5:Addr} {od5 an5:Option Addr} {sl5:Array (Option Value)} {oc5 kV5 dc5 pm5 cd5 ct5:Value}
  {f6:Addr} {od6 an6:Option Addr} {sl6:Array (Option Value)} {oc6 kV6 dc6 pm6 cd6 ct6:Value}
  {f7:Addr} {od7 an7:Option Addr} {sl7:Array (Option Value)} {oc7 kV7 dc7 pm7 cd7 ct7:Value}
  {f8:Addr} {od8 an8:Option Addr} {sl8:Array (Option Value)} {oc8 kV8 dc8 pm8 cd8 ct8:Value}
  {f9:Addr} {od9 an9:Option Addr} {sl9:Array (Option Value)} {oc9 kV9 dc9 pm9 cd9 ct9:Value}
  {f10:Addr} {od10 an10:Option Addr} {sl10:Array (Option Value)} {oc10 kV10 dc10 pm10 cd10 ct10:Value}
  {f11:Addr} {od11 an11:Option Addr} {sl11:Array (Option Value)} {oc11 kV11 dc11 pm11 cd11 ct11:Value}
  {f12:Addr} {od12 an12:Option Addr} {sl12:Array (Option Value)} {oc12 kV12 dc12 pm12 cd12 ct12:Value}
  {f13:Addr} {od13 an13:Option Addr} {sl13:Array (Option Value)} {oc13 kV13 dc13 pm13 cd13 ct13:Value}
  {f14:Addr} {od14 an14:Option Addr} {sl14:Array (Option Value)} {oc14 kV14 dc14 pm14 cd14 ct14:Value}
  {f15:Addr} {od15 an15:Option Addr} {sl15:Array (Option Value)} {oc15 kV15 dc15 pm15 cd15 ct15:Value}
  {f16:Addr} {od16 an16:Option Addr} {sl16:Array (Option Value)} {oc16 kV16 dc16 pm16 cd16 ct16:Value}
  {f17:Addr} {od17 an17:Option Addr} {sl17:Array (Option Value)} {oc17 kV17 dc17 pm17 cd17 ct17:Value}
  {f18:Addr} {od18 an18:Option Addr} {sl18:Array (Option Value)} {oc18 kV18 dc18 pm18 cd18 ct18:Value}
  {f19:Addr} {od19 an19:Option Addr} {sl19:Array (Option Value)} {oc19 kV19 dc19 pm19 cd19 ct19:Value}
  {f20:Addr} {od20 an20:Option Addr} {sl20:Array (Option Value)} {oc20 kV20 dc20 pm20 cd20 ct20:Value}
  {f21:Addr} {od21 an21:Option Addr} {sl21:Array (Option Value)} {oc21 kV21 dc21 pm21 cd21 ct21:Value}
  {f22:Addr} {od22 an22:Option Addr} {sl22:Array (Option Value)} {oc22 kV22 dc22 pm22 cd22 ct22:Value}
  {f23:Addr} {od23 an23:Option Addr} {sl23:Array (Option Value)} {oc23 kV23 dc23 pm23 cd23 ct23:Value}
  {f24:Addr} {od24 an24:Option Addr} {sl24:Array (Option Value)} {oc24 kV24 dc24 pm24 cd24 ct24:Value}
  {f25:Addr} {od25 an25:Option Addr} {sl25:Array (Option Value)} {oc25 kV25 dc25 pm25 cd25 ct25:Value}
  {f26:Addr} {od26 an26:Option Addr} {sl26:Array (Option Value)} {oc26 kV26 dc26 pm26 cd26 ct26:Value}
  {f27:Addr} {od27 an27:Option Addr} {sl27:Array (Option Value)} {oc27 kV27 dc27 pm27 cd27 ct27:Value}
  {f28:Addr} {od28 an28:Option Addr} {sl28:Array (Option Value)} {oc28 kV28 dc28 pm28 cd28 ct28:Value}
  {f29:Addr} {od29 an29:Option Addr} {sl29:Array (Option Value)} {oc29 kV29 dc29 pm29 cd29 ct29:Value}
  {f30:Addr} {od30 an30:Option Addr} {sl30:Array (Option Value)} {oc30 kV30 dc30 pm30 cd30 ct30:Value}
  {f31:Addr} {od31 an31:Option Addr} {sl31:Array (Option Value)} {oc31 kV31 dc31 pm31 cd31 ct31:Value}
  {f32:Addr} {od32 an32:Option Addr} {sl32:Array (Option Value)} {oc32 kV32 dc32 pm32 cd32 ct32:Value}
  {f33:Addr} {od33 an33:Option Addr} {sl33:Array (Option Value)} {oc33 kV33 dc33 pm33 cd33 ct33:Value}
  {f34:Addr} {od34 an34:Option Addr} {sl34:Array (Option Value)} {oc34 kV34 dc34 pm34 cd34 ct34:Value}
  {f35:Addr} {od35 an35:Option Addr} {sl35:Array (Option Value)} {oc35 kV35 dc35 pm35 cd35 ct35:Value}
  {f36:Addr} {od36 an36:Option Addr} {sl36:Array (Option Value)} {oc36 kV36 dc36 pm36 cd36 ct36:Value}
  {f37:Addr} {od37 an37:Option Addr} {sl37:Array (Option Value)} {oc37 kV37 dc37 pm37 cd37 ct37:Value}
  {f38:Addr} {od38 an38:Option Addr} {sl38:Array (Option Value)} {oc38 kV38 dc38 pm38 cd38 ct38:Value}
  {f39:Addr} {od39 an39:Option Addr} {sl39:Array (Option Value)} {oc39 kV39 dc39 pm39 cd39 ct39:Value}
  {f40:Addr} {od40 an40:Option Addr} {sl40:Array (Option Value)} {oc40 kV40 dc40 pm40 cd40 ct40:Value}
  {f41:Addr} {od41 an41:Option Addr} {sl41:Array (Option Value)} {oc41 kV41 dc41 pm41 cd41 ct41:Value}
  {f42:Addr} {od42 an42:Option Addr} {sl42:Array (Option Value)} {oc42 kV42 dc42 pm42 cd42 ct42:Value}
  {f43:Addr} {od43 an43:Option Addr} {sl43:Array (Option Value)} {oc43 kV43 dc43 pm43 cd43 ct43:Value}
  {f44:Addr} {od44 an44:Option Addr} {sl44:Array (Option Value)} {oc44 kV44 dc44 pm44 cd44 ct44:Value}
  {f45:Addr} {od45 an45:Option Addr} {sl45:Array (Option Value)} {oc45 kV45 dc45 pm45 cd45 ct45:Value}
  {f46:Addr} {od46 an46:Option Addr} {sl46:Array (Option Value)} {oc46 kV46 dc46 pm46 cd46 ct46:Value}
  {f47:Addr} {od47 an47:Option Addr} {sl47:Array (Option Value)} {oc47 kV47 dc47 pm47 cd47 ct47:Value}
  {f48:Addr} {od48 an48:Option Addr} {sl48:Array (Option Value)} {oc48 kV48 dc48 pm48 cd48 ct48:Value}
  {f49:Addr} {od49 an49:Option Addr} {sl49:Array (Option Value)} {oc49 kV49 dc49 pm49 cd49 ct49:Value}
  {f50:Addr} {od50 an50:Option Addr} {sl50:Array (Option Value)} {oc50 kV50 dc50 pm50 cd50 ct50:Value}
  {Ac:Addr}
  {Aa:Addr}
  {BB:Addr}
  {Cc:Addr}
  {Bs:Addr}
  {t_SIGNS:Tok}
  {t_MOST_NUMBER:Tok}
  {t_MOST_SIGNS:Tok}
  {t_MOST_PARTS:Tok}
  {t_MOST_DEEP:Tok}
  {t_NUMBER_WORD:Tok}
  {t_TEXT_WORD:Tok}
  {t_TUPLE_WORD:Tok}
  {t_PIECE:Tok}
  {t_ROW:Tok}
  {t_FOLDER:Tok}
  {t_FILE_ENTRY:Tok}
  {t_FOLDER_ENTRY:Tok}
  {t_NAME_SIGNS:Tok}
  {t_MOST_NAME_SIGNS:Tok}
  {t_MOST_CELL:Tok}
  {t_MOST_BIRTH:Tok}
  {t_SUM_RESTS:Tok}
  {t_MOST_PIECE_SIGNS:Tok}
  {t_MOST_LEVEL:Tok}
  {t_MOST_TAGS:Tok}
  {t_MOST_ENTRIES:Tok}
  {t_MARK_RESTS:Tok}
  {t_LEAST_BOARDS:Tok}
  {t_MOST_BOARDS:Tok}
  (a0:W.nsIn K mainGlobals "is_whole"=some (some (.ref f0))) (l0:K.lookup f0=some ⟨oc0,od0,.func (W.fnOf "is_whole" "is_whole" (Aq DB) (Ao DB) (Ah DB) .none kV0 dc0 pm0 an0 cd0 ct0),sl0⟩) (c0:W.codeIn K cd0 "is_whole"=true) (k0:W.keepIn K (.ref f0)=true)
  (a1:W.nsIn K mainGlobals "is_between"=some (some (.ref f1))) (l1:K.lookup f1=some ⟨oc1,od1,.func (W.fnOf "is_between" "is_between" (Aq CC) (Ao CC) (Ah CC) .none kV1 dc1 pm1 an1 cd1 ct1),sl1⟩) (c1:W.codeIn K cd1 "is_between"=true) (k1:W.keepIn K (.ref f1)=true)
  (a2:W.nsIn K mainGlobals "is_tuple_of"=some (some (.ref f2))) (l2:K.lookup f2=some ⟨oc2,od2,.func (W.fnOf "is_tuple_of" "is_tuple_of" (Aq Cf) (Ao Cf) (Ah Cf) .none kV2 dc2 pm2 an2 cd2 ct2),sl2⟩) (c2:W.codeIn K cd2 "is_tuple_of"=true) (k2:W.keepIn K (.ref f2)=true)
  (a3:W.nsIn K mainGlobals "number_of"=some (some (.ref f3))) (l3:K.lookup f3=some ⟨oc3,od3,.func (W.fnOf "number_of" "number_of" (Aq C4) (Ao C4) (Ah C4) .none kV3 dc3 pm3 an3 cd3 ct3),sl3⟩) (c3:W.codeIn K cd3 "number_of"=true) (k3:W.keepIn K (.ref f3)=true)
  (a4:W.nsIn K mainGlobals "sign_of"=some (some (.ref f4))) (l4:K.lookup f4=some ⟨oc4,od4,.func (W.fnOf "sign_of" "sign_of" (Aq D8) (Ao D8) (Ah D8) .none kV4 dc4 pm4 an4 cd4 ct4),sl4⟩) (c4:W.codeIn K cd4 "sign_of"=true) (k4:W.keepIn K (.ref f4)=true)
  (a5:W.nsIn K mainGlobals "is_text"=some (some (.ref f5))) (l5:K.lookup f5=some ⟨oc5,od5,.func (W.fnOf "is_text" "is_text" (Aq Eb) (Ao Eb) (Ah Eb) .none kV5 dc5 pm5 an5 cd5 ct5),sl5⟩) (c5:W.codeIn K cd5 "is_text"=true) (k5:W.keepIn K (.ref f5)=true)
  (a6:W.findIn K (.ref Bs) "__init__"=some (some (.ref f6))) (i6:W.isFn K (.ref f6)=true) (l6:K.lookup f6=some ⟨oc6,od6,.func (W.fnOf "__init__" "Lost.__init__" (Aq CW) (Ao CW) (Ah CW) .none kV6 dc6 pm6 an6 cd6 ct6),sl6⟩) (c6:W.codeIn K cd6 "Lost.__init__"=true) (k6:W.keepIn K (.ref f6)=true)
  (a7:W.nsIn K mainGlobals "words_of"=some (some (.ref f7))) (l7:K.lookup f7=some ⟨oc7,od7,.func (W.fnOf "words_of" "words_of" (Aq Cv) (Ao Cv) (Ah Cv) .none kV7 dc7 pm7 an7 cd7 ct7),sl7⟩) (c7:W.codeIn K cd7 "words_of"=true) (k7:W.keepIn K (.ref f7)=true)
  (a8:W.nsIn K mainGlobals "thing_of"=some (some (.ref f8))) (l8:K.lookup f8=some ⟨oc8,od8,.func (W.fnOf "thing_of" "thing_of" (Aq Dr) (Ao Dr) (Ah Dr) .none kV8 dc8 pm8 an8 cd8 ct8),sl8⟩) (c8:W.codeIn K cd8 "thing_of"=true) (k8:W.keepIn K (.ref f8)=true)
  (a9:W.findIn K (.ref Ac) "__init__"=some (some (.ref f9))) (i9:W.isFn K (.ref f9)=true) (l9:K.lookup f9=some ⟨oc9,od9,.func (W.fnOf "__init__" "WordReader.__init__" (Aq Bo) (Ao Bo) (Ah Bo) .none kV9 dc9 pm9 an9 cd9 ct9),sl9⟩) (c9:W.codeIn K cd9 "WordReader.__init__"=true) (k9:W.keepIn K (.ref f9)=true)
  (a10:W.findIn K (.ref Ac) "is_through"=some (some (.ref f10))) (i10:W.isFn K (.ref f10)=true) (l10:K.lookup f10=some ⟨oc10,od10,.func (W.fnOf "is_through" "WordReader.is_through" (Aq AU) (Ao AU) (Ah AU) .none kV10 dc10 pm10 an10 cd10 ct10),sl10⟩) (c10:W.codeIn K cd10 "WordReader.is_through"=true) (k10:W.keepIn K (.ref f10)=true)
  (a11:W.findIn K (.ref Ac) "word_to"=some (some (.ref f11))) (i11:W.isFn K (.ref f11)=true) (l11:K.lookup f11=some ⟨oc11,od11,.func (W.fnOf "word_to" "WordReader.word_to" (Aq A7) (Ao A7) (Ah A7) .none kV11 dc11 pm11 an11 cd11 ct11),sl11⟩) (c11:W.codeIn K cd11 "WordReader.word_to"=true) (k11:W.keepIn K (.ref f11)=true)
  (a12:W.nsIn K mainGlobals "read_thing"=some (some (.ref f12))) (l12:K.lookup f12=some ⟨oc12,od12,.func (W.fnOf "read_thing" "read_thing" (Aq BI) (Ao BI) (Ah BI) .none kV12 dc12 pm12 an12 cd12 ct12),sl12⟩) (c12:W.codeIn K cd12 "read_thing"=true) (k12:W.keepIn K (.ref f12)=true)
  (a13:W.nsIn K mainGlobals "read_text"=some (some (.ref f13))) (l13:K.lookup f13=some ⟨oc13,od13,.func (W.fnOf "read_text" "read_text" (Aq C2) (Ao C2) (Ah C2) .none kV13 dc13 pm13 an13 cd13 ct13),sl13⟩) (c13:W.codeIn K cd13 "read_text"=true) (k13:W.keepIn K (.ref f13)=true)
  (a14:W.nsIn K mainGlobals "is_name"=some (some (.ref f14))) (l14:K.lookup f14=some ⟨oc14,od14,.func (W.fnOf "is_name" "is_name" (Aq D7) (Ao D7) (Ah D7) .none kV14 dc14 pm14 an14 cd14 ct14),sl14⟩) (c14:W.codeIn K cd14 "is_name"=true) (k14:W.keepIn K (.ref f14)=true)
  (a15:W.nsIn K mainGlobals "is_tag"=some (some (.ref f15))) (l15:K.lookup f15=some ⟨oc15,od15,.func (W.fnOf "is_tag" "is_tag" (Aq Ft) (Ao Ft) (Ah Ft) .none kV15 dc15 pm15 an15 cd15 ct15),sl15⟩) (c15:W.codeIn K cd15 "is_tag"=true) (k15:W.keepIn K (.ref f15)=true)
  (a16:W.nsIn K mainGlobals "is_block"=some (some (.ref f16))) (l16:K.lookup f16=some ⟨oc16,od16,.func (W.fnOf "is_block" "is_block" (Aq Ds) (Ao Ds) (Ah Ds) .none kV16 dc16 pm16 an16 cd16 ct16),sl16⟩) (c16:W.codeIn K cd16 "is_block"=true) (k16:W.keepIn K (.ref f16)=true)
  (a17:W.nsIn K mainGlobals "are_row_tags"=some (some (.ref f17))) (l17:K.lookup f17=some ⟨oc17,od17,.func (W.fnOf "are_row_tags" "are_row_tags" (Aq BX) (Ao BX) (Ah BX) .none kV17 dc17 pm17 an17 cd17 ct17),sl17⟩) (c17:W.codeIn K cd17 "are_row_tags"=true) (k17:W.keepIn K (.ref f17)=true)
  (a18:W.nsIn K mainGlobals "are_entries"=some (some (.ref f18))) (l18:K.lookup f18=some ⟨oc18,od18,.func (W.fnOf "are_entries" "are_entries" (Aq Ck) (Ao Ck) (Ah Ck) .none kV18 dc18 pm18 an18 cd18 ct18),sl18⟩) (c18:W.codeIn K cd18 "are_entries"=true) (k18:W.keepIn K (.ref f18)=true)
  (a19:W.nsIn K mainGlobals "is_entry"=some (some (.ref f19))) (l19:K.lookup f19=some ⟨oc19,od19,.func (W.fnOf "is_entry" "is_entry" (Aq Dy) (Ao Dy) (Ah Dy) .none kV19 dc19 pm19 an19 cd19 ct19),sl19⟩) (c19:W.codeIn K cd19 "is_entry"=true) (k19:W.keepIn K (.ref f19)=true)
  (a20:W.nsIn K mainGlobals "sum_of"=some (some (.ref f20))) (l20:K.lookup f20=some ⟨oc20,od20,.func (W.fnOf "sum_of" "sum_of" (Aq Fu) (Ao Fu) (Ah Fu) .none kV20 dc20 pm20 an20 cd20 ct20),sl20⟩) (c20:W.codeIn K cd20 "sum_of"=true) (k20:W.keepIn K (.ref f20)=true)
  (a21:W.nsIn K mainGlobals "numbers_told"=some (some (.ref f21))) (l21:K.lookup f21=some ⟨oc21,od21,.func (W.fnOf "numbers_told" "numbers_told" (Aq BW) (Ao BW) (Ah BW) .none kV21 dc21 pm21 an21 cd21 ct21),sl21⟩) (c21:W.codeIn K cd21 "numbers_told"=true) (k21:W.keepIn K (.ref f21)=true)
  (a22:W.nsIn K mainGlobals "mark_of"=some (some (.ref f22))) (l22:K.lookup f22=some ⟨oc22,od22,.func (W.fnOf "mark_of" "mark_of" (Aq Ef) (Ao Ef) (Ah Ef) .none kV22 dc22 pm22 an22 cd22 ct22),sl22⟩) (c22:W.codeIn K cd22 "mark_of"=true) (k22:W.keepIn K (.ref f22)=true)
  (a23:W.nsIn K mainGlobals "sealed"=some (some (.ref f23))) (l23:K.lookup f23=some ⟨oc23,od23,.func (W.fnOf "sealed" "sealed" (Aq Fi) (Ao Fi) (Ah Fi) .none kV23 dc23 pm23 an23 cd23 ct23),sl23⟩) (c23:W.codeIn K cd23 "sealed"=true) (k23:W.keepIn K (.ref f23)=true)
  (a24:W.nsIn K mainGlobals "unsealed"=some (some (.ref f24))) (l24:K.lookup f24=some ⟨oc24,od24,.func (W.fnOf "unsealed" "unsealed" (Aq Du) (Ao Du) (Ah Du) .none kV24 dc24 pm24 an24 cd24 ct24),sl24⟩) (c24:W.codeIn K cd24 "unsealed"=true) (k24:W.keepIn K (.ref f24)=true)
  (a25:W.nsIn K mainGlobals "lay"=some (some (.ref f25))) (l25:K.lookup f25=some ⟨oc25,od25,.func (W.fnOf "lay" "lay" (Aq LC) (Ao LC) (Ah LC) .none kV25 dc25 pm25 an25 cd25 ct25),sl25⟩) (c25:W.codeIn K cd25 "lay"=true) (k25:W.keepIn K (.ref f25)=true)
  (a26:W.nsIn K mainGlobals "right_copies"=some (some (.ref f26))) (l26:K.lookup f26=some ⟨oc26,od26,.func (W.fnOf "right_copies" "right_copies" (Aq BZ) (Ao BZ) (Ah BZ) .none kV26 dc26 pm26 an26 cd26 ct26),sl26⟩) (c26:W.codeIn K cd26 "right_copies"=true) (k26:W.keepIn K (.ref f26)=true)
  (a27:W.nsIn K mainGlobals "fetched"=some (some (.ref f27))) (l27:K.lookup f27=some ⟨oc27,od27,.func (W.fnOf "fetched" "fetched" (Aq Eg) (Ao Eg) (Ah Eg) .none kV27 dc27 pm27 an27 cd27 ct27),sl27⟩) (c27:W.codeIn K cd27 "fetched"=true) (k27:W.keepIn K (.ref f27)=true)
  (a28:W.nsIn K mainGlobals "block_on"=some (some (.ref f28))) (l28:K.lookup f28=some ⟨oc28,od28,.func (W.fnOf "block_on" "block_on" (Aq DA) (Ao DA) (Ah DA) .none kV28 dc28 pm28 an28 cd28 ct28),sl28⟩) (c28:W.codeIn K cd28 "block_on"=true) (k28:W.keepIn K (.ref f28)=true)
  (a29:W.nsIn K mainGlobals "thing_on"=some (some (.ref f29))) (l29:K.lookup f29=some ⟨oc29,od29,.func (W.fnOf "thing_on" "thing_on" (Aq Dq) (Ao Dq) (Ah Dq) .none kV29 dc29 pm29 an29 cd29 ct29),sl29⟩) (c29:W.codeIn K cd29 "thing_on"=true) (k29:W.keepIn K (.ref f29)=true)
  (a30:W.findIn K (.ref Aa) "__init__"=some (some (.ref f30))) (i30:W.isFn K (.ref f30)=true) (l30:K.lookup f30=some ⟨oc30,od30,.func (W.fnOf "__init__" "Boards.__init__" (Aq Cm) (Ao Cm) (Ah Cm) .none kV30 dc30 pm30 an30 cd30 ct30),sl30⟩) (c30:W.codeIn K cd30 "Boards.__init__"=true) (k30:W.keepIn K (.ref f30)=true)
  (a31:W.findIn K (.ref Aa) "many"=some (some (.ref f31))) (i31:W.isFn K (.ref f31)=true) (l31:K.lookup f31=some ⟨oc31,od31,.func (W.fnOf "many" "Boards.many" (Aq Cd) (Ao Cd) (Ah Cd) .none kV31 dc31 pm31 an31 cd31 ct31),sl31⟩) (c31:W.codeIn K cd31 "Boards.many"=true) (k31:W.keepIn K (.ref f31)=true)
  (a32:W.findIn K (.ref Aa) "write"=some (some (.ref f32))) (i32:W.isFn K (.ref f32)=true) (l32:K.lookup f32=some ⟨oc32,od32,.func (W.fnOf "write" "Boards.write" (Aq BU) (Ao BU) (Ah BU) .none kV32 dc32 pm32 an32 cd32 ct32),sl32⟩) (c32:W.codeIn K cd32 "Boards.write"=true) (k32:W.keepIn K (.ref f32)=true)
  (a33:W.findIn K (.ref Aa) "cell"=some (some (.ref f33))) (i33:W.isFn K (.ref f33)=true) (l33:K.lookup f33=some ⟨oc33,od33,.func (W.fnOf "cell" "Boards.cell" (Aq Ce) (Ao Ce) (Ah Ce) .none kV33 dc33 pm33 an33 cd33 ct33),sl33⟩) (c33:W.codeIn K cd33 "Boards.cell"=true) (k33:W.keepIn K (.ref f33)=true)
  (a34:W.findIn K (.ref Aa) "spoil"=some (some (.ref f34))) (i34:W.isFn K (.ref f34)=true) (l34:K.lookup f34=some ⟨oc34,od34,.func (W.fnOf "spoil" "Boards.spoil" (Aq BY) (Ao BY) (Ah BY) .none kV34 dc34 pm34 an34 cd34 ct34),sl34⟩) (c34:W.codeIn K cd34 "Boards.spoil"=true) (k34:W.keepIn K (.ref f34)=true)
  (a35:W.findIn K (.ref Aa) "lose"=some (some (.ref f35))) (i35:W.isFn K (.ref f35)=true) (l35:K.lookup f35=some ⟨oc35,od35,.func (W.fnOf "lose" "Boards.lose" (Aq Ci) (Ao Ci) (Ah Ci) .none kV35 dc35 pm35 an35 cd35 ct35),sl35⟩) (c35:W.codeIn K cd35 "Boards.lose"=true) (k35:W.keepIn K (.ref f35)=true)
  (a36:W.findIn K (.ref Aa) "twins"=some (some (.ref f36))) (i36:W.isFn K (.ref f36)=true) (l36:K.lookup f36=some ⟨oc36,od36,.func (W.fnOf "twins" "Boards.twins" (Aq BQ) (Ao BQ) (Ah BQ) .none kV36 dc36 pm36 an36 cd36 ct36),sl36⟩) (c36:W.codeIn K cd36 "Boards.twins"=true) (k36:W.keepIn K (.ref f36)=true)
  (a37:W.findIn K (.ref Aa) "shelf"=some (some (.ref f37))) (i37:W.isFn K (.ref f37)=true) (l37:K.lookup f37=some ⟨oc37,od37,.func (W.fnOf "shelf" "Boards.shelf" (Aq BO) (Ao BO) (Ah BO) .none kV37 dc37 pm37 an37 cd37 ct37),sl37⟩) (c37:W.codeIn K cd37 "Boards.shelf"=true) (k37:W.keepIn K (.ref f37)=true)
  (a38:W.nsIn K mainGlobals "_law_cell_at"=some (some (.ref f38))) (l38:K.lookup f38=some ⟨oc38,od38,.func (W.fnOf "_law_cell_at" "_law_cell_at" (Aq BV) (Ao BV) (Ah BV) .none kV38 dc38 pm38 an38 cd38 ct38),sl38⟩) (c38:W.codeIn K cd38 "_law_cell_at"=true) (k38:W.keepIn K (.ref f38)=true)
  (a39:W.nsIn K mainGlobals "_law_numbers"=some (some (.ref f39))) (l39:K.lookup f39=some ⟨oc39,od39,.func (W.fnOf "_law_numbers" "_law_numbers" (Aq BP) (Ao BP) (Ah BP) .none kV39 dc39 pm39 an39 cd39 ct39),sl39⟩) (c39:W.codeIn K cd39 "_law_numbers"=true) (k39:W.keepIn K (.ref f39)=true)
  (a40:W.nsIn K mainGlobals "_law_signs"=some (some (.ref f40))) (l40:K.lookup f40=some ⟨oc40,od40,.func (W.fnOf "_law_signs" "_law_signs" (Aq Cw) (Ao Cw) (Ah Cw) .none kV40 dc40 pm40 an40 cd40 ct40),sl40⟩) (c40:W.codeIn K cd40 "_law_signs"=true) (k40:W.keepIn K (.ref f40)=true)
  (a41:W.nsIn K mainGlobals "_law_tag"=some (some (.ref f41))) (l41:K.lookup f41=some ⟨oc41,od41,.func (W.fnOf "_law_tag" "_law_tag" (Aq Dz) (Ao Dz) (Ah Dz) .none kV41 dc41 pm41 an41 cd41 ct41),sl41⟩) (c41:W.codeIn K cd41 "_law_tag"=true) (k41:W.keepIn K (.ref f41)=true)
  (a42:W.nsIn K mainGlobals "_law_name"=some (some (.ref f42))) (l42:K.lookup f42=some ⟨oc42,od42,.func (W.fnOf "_law_name" "_law_name" (Aq C3) (Ao C3) (Ah C3) .none kV42 dc42 pm42 an42 cd42 ct42),sl42⟩) (c42:W.codeIn K cd42 "_law_name"=true) (k42:W.keepIn K (.ref f42)=true)
  (a43:W.nsIn K mainGlobals "_law_block"=some (some (.ref f43))) (l43:K.lookup f43=some ⟨oc43,od43,.func (W.fnOf "_law_block" "_law_block" (Aq CF) (Ao CF) (Ah CF) .none kV43 dc43 pm43 an43 cd43 ct43),sl43⟩) (c43:W.codeIn K cd43 "_law_block"=true) (k43:W.keepIn K (.ref f43)=true)
  (a44:W.nsIn K mainGlobals "_law_told"=some (some (.ref f44))) (l44:K.lookup f44=some ⟨oc44,od44,.func (W.fnOf "_law_told" "_law_told" (Aq C1) (Ao C1) (Ah C1) .none kV44 dc44 pm44 an44 cd44 ct44),sl44⟩) (c44:W.codeIn K cd44 "_law_told"=true) (k44:W.keepIn K (.ref f44)=true)
  (a45:W.nsIn K mainGlobals "_law_sum"=some (some (.ref f45))) (l45:K.lookup f45=some ⟨oc45,od45,.func (W.fnOf "_law_sum" "_law_sum" (Aq Dt) (Ao Dt) (Ah Dt) .none kV45 dc45 pm45 an45 cd45 ct45),sl45⟩) (c45:W.codeIn K cd45 "_law_sum"=true) (k45:W.keepIn K (.ref f45)=true)
  (a46:W.nsIn K mainGlobals "_law_laid"=some (some (.ref f46))) (l46:K.lookup f46=some ⟨oc46,od46,.func (W.fnOf "_law_laid" "_law_laid" (Aq CZ) (Ao CZ) (Ah CZ) .none kV46 dc46 pm46 an46 cd46 ct46),sl46⟩) (c46:W.codeIn K cd46 "_law_laid"=true) (k46:W.keepIn K (.ref f46)=true)
  (a47:W.nsIn K mainGlobals "_law_spoilt"=some (some (.ref f47))) (l47:K.lookup f47=some ⟨oc47,od47,.func (W.fnOf "_law_spoilt" "_law_spoilt" (Aq Cj) (Ao Cj) (Ah Cj) .none kV47 dc47 pm47 an47 cd47 ct47),sl47⟩) (c47:W.codeIn K cd47 "_law_spoilt"=true) (k47:W.keepIn K (.ref f47)=true)
  (a48:W.nsIn K mainGlobals "_law_is_lost"=some (some (.ref f48))) (l48:K.lookup f48=some ⟨oc48,od48,.func (W.fnOf "_law_is_lost" "_law_is_lost" (Aq BR) (Ao BR) (Ah BR) .none kV48 dc48 pm48 an48 cd48 ct48),sl48⟩) (c48:W.codeIn K cd48 "_law_is_lost"=true) (k48:W.keepIn K (.ref f48)=true)
  (a49:W.nsIn K mainGlobals "_law_all_told"=some (some (.ref f49))) (l49:K.lookup f49=some ⟨oc49,od49,.func (W.fnOf "_law_all_told" "_law_all_told" (Aq BE) (Ao BE) (Ah BE) .none kV49 dc49 pm49 an49 cd49 ct49),sl49⟩) (c49:W.codeIn K cd49 "_law_all_told"=true) (k49:W.keepIn K (.ref f49)=true)
  (a50:W.nsIn K mainGlobals "law"=some (some (.ref f50))) (l50:K.lookup f50=some ⟨oc50,od50,.func (W.fnOf "law" "law" (Aq HV) (Ao HV) (Ah HV) .none kV50 dc50 pm50 an50 cd50 ct50),sl50⟩) (c50:W.codeIn K cd50 "law"=true) (k50:W.keepIn K (.ref f50)=true)
  (Fe:W.nsIn K mainGlobals "WordReader"=some (some (.ref Ac))) (Fc:W.plainGet K Ac Str.empty=true) (E9:W.hasDictIn K Ac=true) (E7:W.plainOver K Ac=true) (EW:W.findIn K (.ref Ac) "__setattr__"=some (some (.builtin "object.__setattr__"))) (EU:W.makesIn K Ac=true) (EZ:W.keepIn K (.ref Ac)=true)
  (n_WordReader_words:W.findIn K (.ref Ac) "words"=some none)
  (n_WordReader_place:W.findIn K (.ref Ac) "place"=some none)
  (IQ:W.nsIn K mainGlobals "Boards"=some (some (.ref Aa))) (Je:W.plainGet K Aa Str.empty=true) (IT:W.hasDictIn K Aa=true) (IZ:W.plainOver K Aa=true) (Jp:W.findIn K (.ref Aa) "__setattr__"=some (some (.builtin "object.__setattr__"))) (Jd:W.makesIn K Aa=true) (Jm:W.keepIn K (.ref Aa)=true)
  (n_Boards_shelves:W.findIn K (.ref Aa) "shelves"=some none)
  (n_Boards_writes:W.findIn K (.ref Aa) "writes"=some none)
  (n_Boards_writes_left:W.findIn K (.ref Aa) "writes_left"=some none)
  (x_NoThing:W.nsIn K mainGlobals "NoThing"=some (some (.ref BB)))
  (x_Stopped:W.nsIn K mainGlobals "Stopped"=some (some (.ref Cc)))
  (x_Lost:W.nsIn K mainGlobals "Lost"=some (some (.ref Bs)))
  (q_Stopped:W.excIn K Cc [.type "ValueError",.type "Exception",.type "BaseException",.type "object"] "ValueError.__new__"=true)
  (q_NoThing:W.excIn K BB [.type "ValueError",.type "Exception",.type "BaseException",.type "object"] "ValueError.__new__"=true)
  (m_NoThing_NoThing:W.exmOne K (.ref BB) (.ref BB)=some true)
  (m_Lost_Lost:W.exmOne K (.ref Bs) (.ref Bs)=some true)
  (M5:W.findIn K (.ref Bs) "__getattribute__"=some (some (.builtin "BaseException.__getattribute__")))
  (M8:W.findIn K (.ref Bs) "__getattr__"=some none)
  (Mm:W.findIn K (.ref Bs) "__class__"=some (some (.builtin "object.__class__")))
  (MW:W.specialIn K (.builtin "object.__class__") "__get__"=some (some (.builtin "getset_descriptor.__get__")))
  (Me:W.takesIn K (.builtin "object.__class__")=some true)
  (MA:W.mroIn K Bs (.type "object")=some true)
  (Nj:W.mroIn K Bs (.type "BaseException")=some true)
  (Ni:Nz K Bs=true)
  (Nh:XQ K Bs=true)
  (MO:W.findIn K (.ref Bs) "__setattr__"=some (some (.builtin "object.__setattr__")))
  (MM:W.hasDictIn K Bs=true)
  (Mo:W.keepIn K (.ref Bs)=true)
  (Nb:W.findIn K (.ref Bs) "number"=some none)
  (S7:W.nsIn K mainGlobals "all"=some none)
  (Px:W.nsIn K mainGlobals "bool"=some none)
  (GP:W.nsIn K mainGlobals "enumerate"=some none)
  (Sa:W.nsIn K mainGlobals "int"=some none)
  (FM:W.nsIn K mainGlobals "isinstance"=some none)
  (TZ:W.nsIn K mainGlobals "len"=some none)
  (P7:W.nsIn K mainGlobals "list"=some none)
  (TU:W.nsIn K mainGlobals "max"=some none)
  (MJ:W.nsIn K mainGlobals "range"=some none)
  (TK:W.nsIn K mainGlobals "set"=some none)
  (KY:W.nsIn K mainGlobals "sorted"=some none)
  (SN:W.nsIn K mainGlobals "str"=some none)
  (SU:W.nsIn K mainGlobals "sum"=some none)
  (MV:W.nsIn K mainGlobals "tuple"=some none)
  (Mi:W.nsIn K mainGlobals "SIGNS"=some (some (.str (PySem.Str.ofString " !\"#$&'()*+,-./0123456789:;<=>?@ABCDEFGHIJKLMNOPQRSTUVWXYZ[\\]^_`abcdefghijklmnopqrstuvwxyz{|}~") t_SIGNS)))
  (E4:W.nsIn K mainGlobals "MOST_NUMBER"=some (some (.int 999999999 t_MOST_NUMBER)))
  (FD:W.nsIn K mainGlobals "MOST_SIGNS"=some (some (.int 400 t_MOST_SIGNS)))
  (FS:W.nsIn K mainGlobals "MOST_PARTS"=some (some (.int 100 t_MOST_PARTS)))
  (GO:W.nsIn K mainGlobals "MOST_DEEP"=some (some (.int 8 t_MOST_DEEP)))
  (ES:W.nsIn K mainGlobals "NUMBER_WORD"=some (some (.int 0 t_NUMBER_WORD)))
  (Gz:W.nsIn K mainGlobals "TEXT_WORD"=some (some (.int 1 t_TEXT_WORD)))
  (FP:W.nsIn K mainGlobals "TUPLE_WORD"=some (some (.int 2 t_TUPLE_WORD)))
  (MH:W.nsIn K mainGlobals "PIECE"=some (some (.int 0 t_PIECE)))
  (SW:W.nsIn K mainGlobals "ROW"=some (some (.int 1 t_ROW)))
  (K8:W.nsIn K mainGlobals "FOLDER"=some (some (.int 2 t_FOLDER)))
  (FY:W.nsIn K mainGlobals "FILE_ENTRY"=some (some (.int 1 t_FILE_ENTRY)))
  (EF:W.nsIn K mainGlobals "FOLDER_ENTRY"=some (some (.int 2 t_FOLDER_ENTRY)))
  (Fy:W.nsIn K mainGlobals "NAME_SIGNS"=some (some (.str (PySem.Str.ofString "0123456789abcdefghijklmnopqrstuvwxyz") t_NAME_SIGNS)))
  (C9:W.nsIn K mainGlobals "MOST_NAME_SIGNS"=some (some (.int 8 t_MOST_NAME_SIGNS)))
  (Gy:W.nsIn K mainGlobals "MOST_CELL"=some (some (.int 999999 t_MOST_CELL)))
  (FU:W.nsIn K mainGlobals "MOST_BIRTH"=some (some (.int 999999999 t_MOST_BIRTH)))
  (GK:W.nsIn K mainGlobals "SUM_RESTS"=some (some (.int 997 t_SUM_RESTS)))
  (CU:W.nsIn K mainGlobals "MOST_PIECE_SIGNS"=some (some (.int 8 t_MOST_PIECE_SIGNS)))
  (FA:W.nsIn K mainGlobals "MOST_LEVEL"=some (some (.int 9 t_MOST_LEVEL)))
  (GC:W.nsIn K mainGlobals "MOST_TAGS"=some (some (.int 8 t_MOST_TAGS)))
  (EB:W.nsIn K mainGlobals "MOST_ENTRIES"=some (some (.int 16 t_MOST_ENTRIES)))
  (FB:W.nsIn K mainGlobals "MARK_RESTS"=some (some (.int 2147483647 t_MARK_RESTS)))
  (Ey:W.nsIn K mainGlobals "LEAST_BOARDS"=some (some (.int 2 t_LEAST_BOARDS)))
  (EX:W.nsIn K mainGlobals "MOST_BOARDS"=some (some (.int 4 t_MOST_BOARDS))) :
  ∃fd:FuncData,(∀(s:Shared) (v:Value),BindsTo s fd ⟨[v],[]⟩ [("_law_script",v)])∧∀base:Heap,K.In base→base.Ns mainGlobals mg→FnOk l.prog w K mg base Dp 20 fa fd ["_law_script"] (M4 K):=by
 have e:=hfa.symm.trans (W.mg_of X G a50)
 cases e
 have T:Txt K mg Ac Aa (fun n=>match n with|0=>BB|1=>Cc|2=>Bs|_=>0):=⟨⟨Fc,E9,E7,EW⟩,n_WordReader_words,n_WordReader_place,⟨Je,IT,IZ,Jp⟩,n_Boards_shelves,n_Boards_writes,n_Boards_writes_left,W.mg_of X G x_NoThing,W.mg_of X G x_Stopped,W.mg_of X G x_Lost,q_Stopped,q_NoThing,m_NoThing_NoThing,m_Lost_Lost,⟨⟨M5,M8,Mm,MW,Me,MA,Nj⟩,MO,Nh,MM⟩,Nb,W.mg_none_of X G S7,W.mg_none_of X G Px,W.mg_none_of X G GP,W.mg_none_of X G Sa,W.mg_none_of X G FM,W.mg_none_of X G TZ,W.mg_none_of X G P7,W.mg_none_of X G TU,W.mg_none_of X G MJ,W.mg_none_of X G TK,W.mg_none_of X G KY,W.mg_none_of X G SN,W.mg_none_of X G SU,W.mg_none_of X G MV,⟨_,W.mg_of X G Mi⟩,⟨_,W.mg_of X G E4⟩,⟨_,W.mg_of X G FD⟩,⟨_,W.mg_of X G FS⟩,⟨_,W.mg_of X G GO⟩,⟨_,W.mg_of X G ES⟩,⟨_,W.mg_of X G Gz⟩,⟨_,W.mg_of X G FP⟩,⟨_,W.mg_of X G MH⟩,⟨_,W.mg_of X G SW⟩,⟨_,W.mg_of X G K8⟩,⟨_,W.mg_of X G FY⟩,⟨_,W.mg_of X G EF⟩,⟨_,W.mg_of X G Fy⟩,⟨_,W.mg_of X G C9⟩,⟨_,W.mg_of X G Gy⟩,⟨_,W.mg_of X G FU⟩,⟨_,W.mg_of X G GK⟩,⟨_,W.mg_of X G CU⟩,⟨_,W.mg_of X G FA⟩,⟨_,W.mg_of X G GC⟩,⟨_,W.mg_of X G EB⟩,⟨_,W.mg_of X G FB⟩,⟨_,W.mg_of X G Ey⟩,⟨_,W.mg_of X G EX⟩⟩
 have F0:=AE (st:=DB) l0 c0 k0
 have b0:=F0.binds (ps:=["thing"]) fun _ _ _ _ _ _ us hl=>match us,hl with|[_],_=>rfl
 have F1:=AE (st:=CC) l1 c1 k1
 have b1:=F1.binds (ps:=["thing","least","most"]) fun _ _ _ _ _ _ us hl=>match us,hl with|[_,_,_],_=>rfl
 have F2:=AE (st:=Cf) l2 c2 k2
 have b2:=F2.binds (ps:=["thing","many"]) fun _ _ _ _ _ _ us hl=>match us,hl with|[_,_],_=>rfl
 have F3:=AE (st:=C4) l3 c3 k3
 have b3:=F3.binds (ps:=["sign"]) fun _ _ _ _ _ _ us hl=>match us,hl with|[_],_=>rfl
 have F4:=AE (st:=D8) l4 c4 k4
 have b4:=F4.binds (ps:=["number"]) fun _ _ _ _ _ _ us hl=>match us,hl with|[_],_=>rfl
 have F5:=AE (st:=Eb) l5 c5 k5
 have b5:=F5.binds (ps:=["thing","least","most"]) fun _ _ _ _ _ _ us hl=>match us,hl with|[_,_,_],_=>rfl
 have F6:=AE (st:=CW) l6 c6 k6
 have b6:=F6.binds (ps:=["self","number"]) fun _ _ _ _ _ _ us hl=>match us,hl with|[_,_],_=>rfl
 have F7:=AE (st:=Cv) l7 c7 k7
 have b7:=F7.binds (ps:=["thing"]) fun _ _ _ _ _ _ us hl=>match us,hl with|[_],_=>rfl
 have F8:=AE (st:=Dr) l8 c8 k8
 have b8:=F8.binds (ps:=["words"]) fun _ _ _ _ _ _ us hl=>match us,hl with|[_],_=>rfl
 have F9:=AE (st:=Bo) l9 c9 k9
 have b9:=F9.binds (ps:=["self","words"]) fun _ _ _ _ _ _ us hl=>match us,hl with|[_,_],_=>rfl
 have F10:=AE (st:=AU) l10 c10 k10
 have b10:=F10.binds (ps:=["self"]) fun _ _ _ _ _ _ us hl=>match us,hl with|[_],_=>rfl
 have F11:=AE (st:=A7) l11 c11 k11
 have b11:=F11.binds (ps:=["self","most"]) fun _ _ _ _ _ _ us hl=>match us,hl with|[_,_],_=>rfl
 have F12:=AE (st:=BI) l12 c12 k12
 have b12:=F12.binds (ps:=["reader","deep"]) fun _ _ _ _ _ _ us hl=>match us,hl with|[_,_],_=>rfl
 have F13:=AE (st:=C2) l13 c13 k13
 have b13:=F13.binds (ps:=["reader"]) fun _ _ _ _ _ _ us hl=>match us,hl with|[_],_=>rfl
 have F14:=AE (st:=D7) l14 c14 k14
 have b14:=F14.binds (ps:=["thing"]) fun _ _ _ _ _ _ us hl=>match us,hl with|[_],_=>rfl
 have F15:=AE (st:=Ft) l15 c15 k15
 have b15:=F15.binds (ps:=["thing"]) fun _ _ _ _ _ _ us hl=>match us,hl with|[_],_=>rfl
 have F16:=AE (st:=Ds) l16 c16 k16
 have b16:=F16.binds (ps:=["thing"]) fun _ _ _ _ _ _ us hl=>match us,hl with|[_],_=>rfl
 have F17:=AE (st:=BX) l17 c17 k17
 have b17:=F17.binds (ps:=["thing","level"]) fun _ _ _ _ _ _ us hl=>match us,hl with|[_,_],_=>rfl
 have F18:=AE (st:=Ck) l18 c18 k18
 have b18:=F18.binds (ps:=["thing"]) fun _ _ _ _ _ _ us hl=>match us,hl with|[_],_=>rfl
 have F19:=AE (st:=Dy) l19 c19 k19
 have b19:=F19.binds (ps:=["thing"]) fun _ _ _ _ _ _ us hl=>match us,hl with|[_],_=>rfl
 have F20:=AE (st:=Fu) l20 c20 k20
 have b20:=F20.binds (ps:=["block"]) fun _ _ _ _ _ _ us hl=>match us,hl with|[_],_=>rfl
 have F21:=AE (st:=BW) l21 c21 k21
 have b21:=F21.binds (ps:=["block"]) fun _ _ _ _ _ _ us hl=>match us,hl with|[_],_=>rfl
 have F22:=AE (st:=Ef) l22 c22 k22
 have b22:=F22.binds (ps:=["words"]) fun _ _ _ _ _ _ us hl=>match us,hl with|[_],_=>rfl
 have F23:=AE (st:=Fi) l23 c23 k23
 have b23:=F23.binds (ps:=["words"]) fun _ _ _ _ _ _ us hl=>match us,hl with|[_],_=>rfl
 have F24:=AE (st:=Du) l24 c24 k24
 have b24:=F24.binds (ps:=["row"]) fun _ _ _ _ _ _ us hl=>match us,hl with|[_],_=>rfl
 have F25:=AE (st:=LC) l25 c25 k25
 have b25:=F25.binds (ps:=["boards","number","birth","block"]) fun _ _ _ _ _ _ us hl=>match us,hl with|[_,_,_,_],_=>rfl
 have F26:=AE (st:=BZ) l26 c26 k26
 have b26:=F26.binds (ps:=["boards","tag"]) fun _ _ _ _ _ _ us hl=>match us,hl with|[_,_],_=>rfl
 have F27:=AE (st:=Eg) l27 c27 k27
 have b27:=F27.binds (ps:=["boards","tag"]) fun _ _ _ _ _ _ us hl=>match us,hl with|[_,_],_=>rfl
 have F28:=AE (st:=DA) l28 c28 k28
 have b28:=F28.binds (ps:=["boards","board","tag"]) fun _ _ _ _ _ _ us hl=>match us,hl with|[_,_,_],_=>rfl
 have F29:=AE (st:=Dq) l29 c29 k29
 have b29:=F29.binds (ps:=["boards","board","number"]) fun _ _ _ _ _ _ us hl=>match us,hl with|[_,_,_],_=>rfl
 have F30:=AE (st:=Cm) l30 c30 k30
 have b30:=F30.binds (ps:=["self","many"]) fun _ _ _ _ _ _ us hl=>match us,hl with|[_,_],_=>rfl
 have F31:=AE (st:=Cd) l31 c31 k31
 have b31:=F31.binds (ps:=["self"]) fun _ _ _ _ _ _ us hl=>match us,hl with|[_],_=>rfl
 have F32:=AE (st:=BU) l32 c32 k32
 have b32:=F32.binds (ps:=["self","board","number","row"]) fun _ _ _ _ _ _ us hl=>match us,hl with|[_,_,_,_],_=>rfl
 have F33:=AE (st:=Ce) l33 c33 k33
 have b33:=F33.binds (ps:=["self","board","number"]) fun _ _ _ _ _ _ us hl=>match us,hl with|[_,_,_],_=>rfl
 have F34:=AE (st:=BY) l34 c34 k34
 have b34:=F34.binds (ps:=["self","board","number","row"]) fun _ _ _ _ _ _ us hl=>match us,hl with|[_,_,_,_],_=>rfl
 have F35:=AE (st:=Ci) l35 c35 k35
 have b35:=F35.binds (ps:=["self","board"]) fun _ _ _ _ _ _ us hl=>match us,hl with|[_,_],_=>rfl
 have F36:=AE (st:=BQ) l36 c36 k36
 have b36:=F36.binds (ps:=["self","number"]) fun _ _ _ _ _ _ us hl=>match us,hl with|[_,_],_=>rfl
 have F37:=AE (st:=BO) l37 c37 k37
 have b37:=F37.binds (ps:=["self","board"]) fun _ _ _ _ _ _ us hl=>match us,hl with|[_,_],_=>rfl
 have F38:=AE (st:=BV) l38 c38 k38
 have b38:=F38.binds (ps:=["_law_script","_law_k"]) fun _ _ _ _ _ _ us hl=>match us,hl with|[_,_],_=>rfl
 have F39:=AE (st:=BP) l39 c39 k39
 have b39:=F39.binds (ps:=["_law_cell","_law_many"]) fun _ _ _ _ _ _ us hl=>match us,hl with|[_,_],_=>rfl
 have F40:=AE (st:=Cw) l40 c40 k40
 have b40:=F40.binds (ps:=[]) fun _ _ _ _ _ _ us hl=>match us,hl with|[],_=>rfl
 have F41:=AE (st:=Dz) l41 c41 k41
 have b41:=F41.binds (ps:=["_law_number"]) fun _ _ _ _ _ _ us hl=>match us,hl with|[_],_=>rfl
 have F42:=AE (st:=C3) l42 c42 k42
 have b42:=F42.binds (ps:=["_law_number"]) fun _ _ _ _ _ _ us hl=>match us,hl with|[_],_=>rfl
 have F43:=AE (st:=CF) l43 c43 k43
 have b43:=F43.binds (ps:=["_law_some"]) fun _ _ _ _ _ _ us hl=>match us,hl with|[_],_=>rfl
 have F44:=AE (st:=C1) l44 c44 k44
 have b44:=F44.binds (ps:=["_law_block_here"]) fun _ _ _ _ _ _ us hl=>match us,hl with|[_],_=>rfl
 have F45:=AE (st:=Dt) l45 c45 k45
 have b45:=F45.binds (ps:=["_law_block_here"]) fun _ _ _ _ _ _ us hl=>match us,hl with|[_],_=>rfl
 have F46:=AE (st:=CZ) l46 c46 k46
 have b46:=F46.binds (ps:=["_law_boards","_law_cells"]) fun _ _ _ _ _ _ us hl=>match us,hl with|[_,_],_=>rfl
 have F47:=AE (st:=Cj) l47 c47 k47
 have b47:=F47.binds (ps:=["_law_boards","_law_board","_law_tag_here","_law_some","_law_rows"]) fun _ _ _ _ _ _ us hl=>match us,hl with|[_,_,_,_,_],_=>rfl
 have F48:=AE (st:=BR) l48 c48 k48
 have b48:=F48.binds (ps:=["_law_boards","_law_tag_here"]) fun _ _ _ _ _ _ us hl=>match us,hl with|[_,_],_=>rfl
 have F49:=AE (st:=BE) l49 c49 k49
 have b49:=F49.binds (ps:=["_law_boards","_law_laid_here","_law_right","_law_but"]) fun _ _ _ _ _ _ us hl=>match us,hl with|[_,_,_,_],_=>rfl
 have F50:=AE (st:=HV) l50 c50 k50
 refine⟨W.fnOf "law" "law" (Aq HV) (Ao HV) (Ah HV) .none kV50 dc50 pm50 an50 cd50 ct50,fun s v=>.of_eq rfl,fun base _ _=>?_⟩
 have A9:Def l.prog w K mg base 1 "is_whole" ["thing"] (Cu K):=⟨_,_,Oe T F0 ,W.mg_of X G a0,k0,b0⟩
 have Bh:Def l.prog w K mg base 1 "is_tuple_of" ["thing","many"] (Cr K):=⟨_,_,KR T F2 ,W.mg_of X G a2,k2,b2⟩
 have Bb:Def l.prog w K mg base 1 "number_of" ["sign"] (CB K):=⟨_,_,Ng T F3 ,W.mg_of X G a3,k3,b3⟩
 have IP:Def l.prog w K mg base 1 "sign_of" ["number"] (HB K):=⟨_,_,Pa T F4 ,W.mg_of X G a4,k4,b4⟩
 have Eh:Def l.prog w K mg base 1 "is_text" ["thing","least","most"] (FL K):=⟨_,_,Pt T F5 ,W.mg_of X G a5,k5,b5⟩
 have GT:Wh l.prog w K mg base 1 "Lost" Bs "number" ["self","number"]:=⟨_,_,⟨Ni,a6,i6,Mo⟩,Mr T F6,W.mg_of X G x_Lost,b6⟩
 have Df:T7 l.prog w K mg base 1 Ac "WordReader" ["self","words"] (CV K Ac):=⟨_,_,HU T F9 ,⟨EU,a9,i9,EZ⟩,W.mg_of X G Fe,b9⟩
 have AV:DI l.prog w K mg base 1 Ac "is_through" ["self"] (Bi K Ac):=⟨_,_,EO T F10 ,⟨a10,i10,k10⟩,b10⟩
 have D9:Def l.prog w K mg base 1 "mark_of" ["words"] (FO K):=⟨_,_,Py T F22 ,W.mg_of X G a22,k22,b22⟩
 have A8:DI l.prog w K mg base 1 Aa "many" ["self"] (Cq K Aa):=⟨_,_,KJ T F31 ,⟨a31,i31,k31⟩,b31⟩
 have De:Def l.prog w K mg base 1 "_law_cell_at" ["_law_script","_law_k"] (DZ K):=⟨_,_,J0 T F38 ,W.mg_of X G a38,k38,b38⟩
 have BN:Def l.prog w K mg base 1 "_law_numbers" ["_law_cell","_law_many"] (CQ K):=⟨_,_,J1 T F39 ,W.mg_of X G a39,k39,b39⟩
 have B4:Def l.prog w K mg base 1 "_law_signs" [] (DD K):=⟨_,_,Lp T F40 ,W.mg_of X G a40,k40,b40⟩
 have FC:Def l.prog w K mg base 1 "_law_tag" ["_law_number"] (GV K):=⟨_,_,NK T F41 ,W.mg_of X G a41,k41,b41⟩
 have Gs:Def l.prog w K mg base 1 "_law_name" ["_law_number"] (FH K):=⟨_,_,Mg T F42 ,W.mg_of X G a42,k42,b42⟩
 have AA:Def l.prog w K mg base 2 "is_between" ["thing","least","most"] (Bg K):=⟨_,_,Lh T F1 A9,W.mg_of X G a1,k1,b1⟩
 have IY:Def l.prog w K mg base 2 "is_name" ["thing"] (HJ K):=⟨_,_,O4 T F14 Eh,W.mg_of X G a14,k14,b14⟩
 have Em:Def l.prog w K mg base 2 "numbers_told" ["block"] (DW K):=⟨_,_,JL T F21 Bb,W.mg_of X G a21,k21,b21⟩
 have KZ:Def l.prog w K mg base 2 "sealed" ["words"] (IM K):=⟨_,_,RJ T F23 D9,W.mg_of X G a23,k23,b23⟩
 have Ba:DI l.prog w K mg base 2 Aa "twins" ["self","number"] (Ca K Aa):=⟨_,_,JS T F36 A8,⟨a36,i36,k36⟩,b36⟩
 have FX:Def l.prog w K mg base 2 "_law_block" ["_law_some"] (E3 K):=⟨_,_,Ln T F43 Gs FC B4,W.mg_of X G a43,k43,b43⟩
 have Gv:Def l.prog w K mg base 2 "_law_told" ["_law_block_here"] (FF K):=⟨_,_,MS T F44 B4,W.mg_of X G a44,k44,b44⟩
 have Au:Js l.prog w K mg base 3 Ac "word_to" ["self","most"] (A4 K Ac (fun n=>match n with|0=>BB|1=>Cc|2=>Bs|_=>0)):=⟨_,_,Ge T F11 AV AA,⟨a11,i11,k11⟩,b11⟩
 have Fo:Def l.prog w K mg base 3 "is_tag" ["thing"] (Hg K):=⟨_,_,RH T F15 AA Bh,W.mg_of X G a15,k15,b15⟩
 have KQ:Def l.prog w K mg base 3 "sum_of" ["block"] (Jj K):=⟨_,_,Q8 T F20 Em,W.mg_of X G a20,k20,b20⟩
 have HH:Def l.prog w K mg base 3 "unsealed" ["row"] (Gn K):=⟨_,_,NC T F24 D9 AA,W.mg_of X G a24,k24,b24⟩
 have EV:T7 l.prog w K mg base 3 Aa "Boards" ["self","many"] (Ei K Aa):=⟨_,_,K9 T F30 AA,⟨Jd,a30,i30,Jm⟩,W.mg_of X G IQ,b30⟩
 have AO:DI l.prog w K mg base 3 Aa "shelf" ["self","board"] (BD K Aa):=⟨_,_,JQ T F37 AA A8,⟨a37,i37,k37⟩,b37⟩
 have HC:Def l.prog w K mg base 3 "_law_sum" ["_law_block_here"] (GD K):=⟨_,_,Os T F45 Gv,W.mg_of X G a45,k45,b45⟩
 have B0:Iy l.prog w K mg base 4 "read_text" ["reader"] (Di K Ac (fun n=>match n with|0=>BB|1=>Cc|2=>Bs|_=>0)):=⟨_,_,MK T F13 Au IP,W.mg_of X G a13,k13,b13⟩
 have ED:Def l.prog w K mg base 4 "are_row_tags" ["thing","level"] (DY K):=⟨_,_,JK T F17 Fo,W.mg_of X G a17,k17,b17⟩
 have HE:Def l.prog w K mg base 4 "is_entry" ["thing"] (Gm K):=⟨_,_,NT T F19 AA Fo Bh IY,W.mg_of X G a19,k19,b19⟩
 have EG:Js l.prog w K mg base 4 Aa "write" ["self","board","number","row"] (DU K Aa (fun n=>match n with|0=>BB|1=>Cc|2=>Bs|_=>0)):=⟨_,_,JV T F32 AO,⟨a32,i32,k32⟩,b32⟩
 have Cg:DI l.prog w K mg base 4 Aa "cell" ["self","board","number"] (Dh K Aa):=⟨_,_,Kl T F33 AO,⟨a33,i33,k33⟩,b33⟩
 have BM:DI l.prog w K mg base 4 Aa "spoil" ["self","board","number","row"] (B8 K Aa):=⟨_,_,JW T F34 AO,⟨a34,i34,k34⟩,b34⟩
 have EN:DI l.prog w K mg base 4 Aa "lose" ["self","board"] (Ez K Aa):=⟨_,_,KO T F35 AO,⟨a35,i35,k35⟩,b35⟩
 have EL:Def l.prog w K mg base 5 "are_entries" ["thing"] (Eo K):=⟨_,_,Kw T F18 HE,W.mg_of X G a18,k18,b18⟩
 have Fd:Def l.prog w K mg base 5 "_law_spoilt" ["_law_boards","_law_board","_law_tag_here","_law_some","_law_rows"] (Eu K Aa):=⟨_,_,K4 T F47 BM,W.mg_of X G a47,k47,b47⟩
 have HI:Def l.prog w K mg base 6 "is_block" ["thing"] (Gr K):=⟨_,_,NH T F16 EL A9 Eh AA ED,W.mg_of X G a16,k16,b16⟩
 have EC:Def l.prog w K mg base 9 "words_of" ["thing"] (GA K):=⟨_,_,N8 T F7 A9 Bb (W.mg_of X G a7) k7 b7,W.mg_of X G a7,k7,b7⟩
 have LA:Iy l.prog w K mg base 10 "lay" ["boards","number","birth","block"] (Nf K Aa (fun n=>match n with|0=>BB|1=>Cc|2=>Bs|_=>0)):=⟨_,_,Wd T F25 KZ Ba EC EG,W.mg_of X G a25,k25,b25⟩
 have GF:Def l.prog w K mg base 11 "_law_laid" ["_law_boards","_law_cells"] (FQ K Aa):=⟨_,_,Mt T F46 BN FX LA HC,W.mg_of X G a46,k46,b46⟩
 have Da:Iy l.prog w K mg base 13 "read_thing" ["reader","deep"] (Ff K Ac (fun n=>match n with|0=>BB|1=>Cc|2=>Bs|_=>0)):=⟨_,_,Lj T F12 Au B0 (W.mg_of X G a12) k12 b12,W.mg_of X G a12,k12,b12⟩
 have Hx:Iy l.prog w K mg base 14 "thing_of" ["words"] (G0 K (fun n=>match n with|0=>BB|1=>Cc|2=>Bs|_=>0)):=⟨_,_,Nv T F8 Df Da AV,W.mg_of X G a8,k8,b8⟩
 have HG:Def l.prog w K mg base 15 "thing_on" ["boards","board","number"] (GB K Aa):=⟨_,_,OL T F29 Cg HH Hx,W.mg_of X G a29,k29,b29⟩
 have Dw:Def l.prog w K mg base 16 "block_on" ["boards","board","tag"] (DL K Aa):=⟨_,_,Nr T F28 HG Bh HI KQ,W.mg_of X G a28,k28,b28⟩
 have Ew:Def l.prog w K mg base 17 "right_copies" ["boards","tag"] (DX K Aa):=⟨_,_,JO T F26 Ba Dw,W.mg_of X G a26,k26,b26⟩
 have Ed:SQ l.prog w K mg base 17 "fetched" ["boards","tag"] (Ej K Aa (fun n=>match n with|0=>BB|1=>Cc|2=>Bs|_=>0)):=⟨_,_,P9 T F27 Ba GT Dw,W.mg_of X G a27,k27,b27⟩
 have Ep:Def l.prog w K mg base 18 "_law_is_lost" ["_law_boards","_law_tag_here"] (DQ K Aa):=⟨_,_,JR T F48 Ed,W.mg_of X G a48,k48,b48⟩
 have B6:Def l.prog w K mg base 19 "_law_all_told" ["_law_boards","_law_laid_here","_law_right","_law_but"] (CA K Aa):=⟨_,_,Jl T F49 Ew Ep Ed,W.mg_of X G a49,k49,b49⟩
 exact WB T F50 De EV A8 GF LA B6 Cg BN EN BM Fd
theorem walk {l:W.OpenLaw} {q:Program} {loose:List Str} {XP:(Str→Option Value)→Heap→Prop} {YP:World→Heap→Prop} {d:DefRec} {K:Params→W.Frag} (hn:l.most=some 63) (hdf:d.params.defaults=[])
  (hY:∀(w:World) (h:Heap),YP w h→(K w.params).In h)
  (F:∀(w:World) (mg:Str→Option Value) (fa:Addr) (h:Heap),(K w.params).In h→h.Ns mainGlobals mg→mg d.name=some (.ref fa)→
   ∃fd:FuncData,(∀(s:Shared) (u:Value),BindsTo s fd ⟨[u],[]⟩ [("_law_script",u)])∧∀base:Heap,(K w.params).In base→base.Ns mainGlobals mg→FnOk l.prog w (K w.params) mg base Dp 20 fa fd ["_law_script"] (M4 (K w.params))) :
  W.WalkO q loose XP YP l.row.toRowW d [] (fun f vs=>PySem.call f vs):=
 L2.U3 (n:=63) (k:=20) (x:="_law_script") (CX:=fun _=>Dp) (sp:=fun w=>M4 (K w.params)) hn (by decide) hdf ⟨rfl,by decide,by decide⟩ hY F (fun _ _ a ns hl _ hS=>⟨a,ns,rfl,hS,hl,fun _=>rfl⟩) fun _ _ _ _ _ z=>z
end K20
def PySem.W.Fast.tw15641715125113993005:Type:=PySem.Expr
theorem PySem.W.Fast.te15641715125113993005:PySem.Expr = PySem.W.Fast.tw15641715125113993005:=rfl
def PySem.W.Fast.tw90343872475197607:Type:=PySem.Params
theorem PySem.W.Fast.te90343872475197607:PySem.Params = PySem.W.Fast.tw90343872475197607:=rfl
open PySem PySem.W PyProof.Rows
set_option maxRecDepth 100000 in
set_option maxHeartbeats 0 in
theorem PySem.Challenge.cw_stemshelf_k20_whole_one_copy_is_enough_holds : PySem.Challenge.rw_stemshelf_k20_whole_one_copy_is_enough.Holds := by
 w_on;o_law;k_head;(case hw=>w_witness2)
 k_fill
 refine K20.walk (l:=PySem.Challenge.rw_stemshelf_k20_whole_one_copy_is_enough) rfl rfl (fun w h Y=>W.kIn_of Y) ?F
 case F=>
  intro w mg fa h KX G hmg
  refine' K20.all_mk KX G hmg ?a0 ?l0 ?c0 ?k0 ?a1 ?l1 ?c1 ?k1 ?a2 ?l2 ?c2 ?k2 ?a3 ?l3 ?c3 ?k3 ?a4 ?l4 ?c4 ?k4 ?a5 ?l5 ?c5 ?k5 ?a6 ?i6 ?l6 ?c6 ?k6 ?a7 ?l7 ?c7 ?k7 ?a8 ?l8 ?c8 ?k8 ?a9 ?i9 ?l9 ?c9 ?k9 ?a10 ?i10 ?l10 ?c10 ?k10 ?a11 ?i11 ?l11 ?c11 ?k11 ?a12 ?l12 ?c12 ?k12 ?a13 ?l13 ?c13 ?k13 ?a14 ?l14 ?c14 ?k14 ?a15 ?l15 ?c15 ?k15 ?a16 ?l16 ?c16 ?k16 ?a17 ?l17 ?c17 ?k17 ?a18 ?l18 ?c18 ?k18 ?a19 ?l19 ?c19 ?k19 ?a20 ?l20 ?c20 ?k20 ?a21 ?l21 ?c21 ?k21 ?a22 ?l22 ?c22 ?k22 ?a23 ?l23 ?c23 ?k23 ?a24 ?l24 ?c24 ?k24 ?a25 ?l25 ?c25 ?k25 ?a26 ?l26 ?c26 ?k26 ?a27 ?l27 ?c27 ?k27 ?a28 ?l28 ?c28 ?k28 ?a29 ?l29 ?c29 ?k29 ?a30 ?i30 ?l30 ?c30 ?k30 ?a31 ?i31 ?l31 ?c31 ?k31 ?a32 ?i32 ?l32 ?c32 ?k32 ?a33 ?i33 ?l33 ?c33 ?k33 ?a34 ?i34 ?l34 ?c34 ?k34 ?a35 ?i35 ?l35 ?c35 ?k35 ?a36 ?i36 ?l36 ?c36 ?k36 ?a37 ?i37 ?l37 ?c37 ?k37 ?a38 ?l38 ?c38 ?k38 ?a39 ?l39 ?c39 ?k39 ?a40 ?l40 ?c40 ?k40 ?a41 ?l41 ?c41 ?k41 ?a42 ?l42 ?c42 ?k42 ?a43 ?l43 ?c43 ?k43 ?a44 ?l44 ?c44 ?k44 ?a45 ?l45 ?c45 ?k45 ?a46 ?l46 ?c46 ?k46 ?a47 ?l47 ?c47 ?k47 ?a48 ?l48 ?c48 ?k48 ?a49 ?l49 ?c49 ?k49 ?a50 ?l50 ?c50 ?k50 ?Fe ?Fc ?E9 ?E7 ?EW ?EU ?EZ ?n_WordReader_words ?n_WordReader_place ?IQ ?Je ?IT ?IZ ?Jp ?Jd ?Jm ?n_Boards_shelves ?n_Boards_writes ?n_Boards_writes_left ?x_NoThing ?x_Stopped ?x_Lost ?q_Stopped ?q_NoThing ?m_NoThing_NoThing ?m_Lost_Lost ?M5 ?M8 ?Mm ?MW ?Me ?MA ?Nj ?Ni ?Nh ?MO ?MM ?Mo ?Nb ?S7 ?Px ?GP ?Sa ?FM ?TZ ?P7 ?TU ?MJ ?TK ?KY ?SN ?SU ?MV ?Mi ?E4 ?FD ?FS ?GO ?ES ?Gz ?FP ?MH ?SW ?K8 ?FY ?EF ?Fy ?C9 ?Gy ?FU ?GK ?CU ?FA ?GC ?EB ?FB ?Ey ?EX
  (case Fe|IQ|x_NoThing|x_Stopped|x_Lost|a0|l0|c0|k0|a1|l1|c1|k1|a2|l2|c2|k2|a3|l3|c3|k3|a4|l4|c4|k4|a5|l5|c5|k5|a6|i6|l6|c6|k6|a7|l7|c7|k7|a8|l8|c8|k8|a9|i9|l9|c9|k9|a10|i10|l10|c10|k10|a11|i11|l11|c11|k11|a12|l12|c12|k12|a13|l13|c13|k13|a14|l14|c14|k14|a15|l15|c15|k15|a16|l16|c16|k16|a17|l17|c17|k17|a18|l18|c18|k18|a19|l19|c19|k19|a20|l20|c20|k20|a21|l21|c21|k21|a22|l22|c22|k22|a23|l23|c23|k23|a24|l24|c24|k24|a25|l25|c25|k25|a26|l26|c26|k26|a27|l27|c27|k27|a28|l28|c28|k28|a29|l29|c29|k29|a30|i30|l30|c30|k30|a31|i31|l31|c31|k31|a32|i32|l32|c32|k32|a33|i33|l33|c33|k33|a34|i34|l34|c34|k34|a35|i35|l35|c35|k35|a36|i36|l36|c36|k36|a37|i37|l37|c37|k37|a38|l38|c38|k38|a39|l39|c39|k39|a40|l40|c40|k40|a41|l41|c41|k41|a42|l42|c42|k42|a43|l43|c43|k43|a44|l44|c44|k44|a45|l45|c45|k45|a46|l46|c46|k46|a47|l47|c47|k47|a48|l48|c48|k48|a49|l49|c49|k49|a50|l50|c50|k50|Fc|E9|E7|EW|EU|EZ|n_WordReader_words|n_WordReader_place|Je|IT|IZ|Jp|Jd|Jm|n_Boards_shelves|n_Boards_writes|n_Boards_writes_left=>k_is)
  (case q_Stopped|q_NoThing=>k_exc)
  (case m_NoThing_NoThing|m_Lost_Lost=>kts_exm)
  (case M5|M8|Mm|MW|Me|MA|Nj=>k_is)
  (case Ni|Nh=>kernel_rfl)
  (case MO|MM|Mo|Nb|S7|Px|GP|Sa|FM|TZ|P7|TU|MJ|TK|KY|SN|SU|MV|Mi|E4|FD|FS|GO|ES|Gz|FP|MH|SW|K8|FY|EF|Fy|C9|Gy|FU|GK|CU|FA|GC|EB|FB|Ey|EX=>k_is)
