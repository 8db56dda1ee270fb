import PyProof.Rows.All
import Wide.All
import OpenK.AllK
import Wide.FinOn
import Lean
import PyProof.EqAt
import PyProof.EqKinds
import PyProof.TupleCall
import PySem.Challenge.RW_stemshelf_k26_counts_through_deeds
set_option Elab.async false
set_option linter.all false
set_option maxRecDepth 100000
namespace L2
open PySem PySem.Spec PyProof.Rows
abbrev Key:=Sum Int Str
def ME:Key->Value->Bool
 | .inl k,v=>Value.isInt k v
 | .inr x,v=>Value.isStrOf x v
def YN (w:World):Key->Int
 | .inl k=>hashInt k
 | .inr x=>hashStr w x
theorem Bz:∀{k:Key} {v:Value},ME k v=true->(∃i t,k=Sum.inl i/\v=Value.int i t)\/(∃x t,k=Sum.inr x/\v=Value.str x t)
 | .inl i,v,h=>by
  obtain⟨t,e⟩:=Value.isInt_shape (k:=i) (v:=v) h;exact .inl ⟨i,t,rfl,e⟩
 | .inr x,v,h=>by
  obtain⟨t,e⟩:=Value.isStrOf_shape (x:=x) (v:=v) h;exact .inr ⟨x,t,rfl,e⟩
theorem R8 (i:Int)(t:Tok):ME (.inl i) (.int i t)=true:=by simp[ME,Value.isInt]
theorem RY (x:Str)(t:Tok):ME (.inr x) (.str x t)=true:=by simp[ME,Value.isStrOf]
theorem XD (a b:Int):decide ((Sum.inl a:Key)=Sum.inl b)=(a == b):=by
 by_cases e:a=b
 ·subst e;simp
 ·have h:¬(Sum.inl a:Key)=Sum.inl b:=fun q=>e (Sum.inl.inj q)
  rw[decide_eq_false h];exact(beq_eq_false_iff_ne.mpr e).symm
theorem Xj (a b:Str):decide ((Sum.inr a:Key)=Sum.inr b)=decide (a=b):=by
 by_cases e:a=b
 ·subst e;simp
 ·have h:¬(Sum.inr a:Key)=Sum.inr b:=fun q=>e (Sum.inr.inj q)
  rw[decide_eq_false h,decide_eq_false e]
theorem WR (a:Int)(b:Str):decide ((Sum.inl a:Key)=Sum.inr b)=false:=decide_eq_false (fun q=>nomatch q)
theorem Xu (a:Str)(b:Int):decide ((Sum.inr a:Key)=Sum.inl b)=false:=decide_eq_false (fun q=>nomatch q)
def AU (prog:Program)(w:World):PySem.KeyKind prog w Key where
 is:=ME
 hash:=YN w
 inj:=fun v a b ha hb=>by
  rcases Bz ha with⟨i,t,rfl,rfl⟩|⟨x,t,rfl,rfl⟩
  ·rcases Bz hb with⟨j,u,rfl,e⟩|⟨y,u,rfl,e⟩
   ·injection e with e1 _;rw[e1]
   ·exact nomatch e
  ·rcases Bz hb with⟨j,u,rfl,e⟩|⟨y,u,rfl,e⟩
   ·exact nomatch e
   ·injection e with e1 _;rw[e1]
 byValue:=fun k v h=>by
  rcases Bz h with⟨i,t,rfl,rfl⟩|⟨x,t,rfl,rfl⟩<;>rfl
 pyHash:=fun hv h=>by
  rcases Bz hv with⟨i,t,rfl,rfl⟩|⟨x,t,rfl,rfl⟩
  ·exact wpAny_pyHash_int h
  ·exact wpAny_pyHash_str h
 eqBool:=fun hu hv h=>by
  rcases Bz hu with⟨i,t,rfl,rfl⟩|⟨x,t,rfl,rfl⟩
  ·rcases Bz hv with⟨j,u,rfl,rfl⟩|⟨y,u,rfl,rfl⟩
   ·rw[XD] at h;exact wpAny_eqBool_int h
   ·rw[WR] at h;exact SeqAt.EqAt.int_str i t y u _ _ _ _ h
  ·rcases Bz hv with⟨j,u,rfl,rfl⟩|⟨y,u,rfl,rfl⟩
   ·rw[Xu] at h;exact SeqAt.EqAt.str_int x t j u _ _ _ _ h
   ·rw[Xj] at h;exact wpAny_eqBool_str h
 «strs»:=fun k x t v h=>by
  rcases Bz h with⟨i,u,rfl,e⟩|⟨y,u,rfl,e⟩
  ·exact nomatch e
  ·injection e with e1 _
   subst e1;cases v<;>rfl
theorem O0 (prog:Program)(w:World)(i:Int)(t:Tok):(AU prog w).is (.inl i) (.int i t)=true:=R8 i t
theorem Pm (prog:Program)(w:World)(x:Str)(t:Tok):(AU prog w).is (.inr x) (.str x t)=true:=RY x t
inductive V where
 |non|bl (b:Bool)|int (i:Int)|str (x:Str)|byt (b:Array UInt8)|flt (b:UInt64)|ref (a:Addr)|ty (n:String)
 deriving DecidableEq
def RelV:V->Value->Prop
 | .non,u=>u=Value.none
 | .bl b,u=>u=Value.bool b
 | .int i,u=>∃t,u=Value.int i t
 | .str x,u=>∃t,u=Value.str x t
 | .byt b,u=>∃t,u=Value.bytes b t
 | .flt b,u=>∃t,u=Value.float b t
 | .ref a,u=>u=Value.ref a
 | .ty n,u=>u=Value.type n
abbrev AL:List V->List Value->Prop:=Paired RelV
theorem AL.length {xs:List V}{us:List Value}(r:AL xs us):xs.length=us.length:=Paired.length r
theorem AL.get:∀{xs:List V} {us:List Value} {i:Nat} {x:V},AL xs us->xs[i]?=some x->∃u,us[i]?=some u/\RelV x u
 |_,_,_,_,.nil,e=>by simp at e
 |_,_,0,_,.cons r _,e=>by simp at e;subst e;exact⟨_,rfl,r⟩
 |_,_,i+1,x,.cons _ t,e=>by
  obtain⟨u,h1,h2⟩:=AL.get (i:=i) (x:=x) t (by simpa using e);exact⟨u,by simpa using h1,h2⟩
theorem AL.set {x:V}{u:Value}(r:RelV x u):∀{xs:List V} {us:List Value} (i:Nat),AL xs us->AL (xs.set i x) (us.set i u)
 |_,_,_,.nil=>.nil
 |_,_,0,.cons _ t=>.cons r t
 |_,_,i+1,.cons q t=>.cons q (AL.set r i t)
theorem AL.append:∀{xs ys:List V} {us ws:List Value},AL xs us->AL ys ws->AL (xs++ys) (us++ws)
 |_,_,_,_,.nil,s=>s
 |_,_,_,_,.cons r t,s=>.cons r (AL.append t s)
theorem AL.take:∀{xs:List V} {us:List Value} (n:Nat),AL xs us->AL (xs.take n) (us.take n)
 |_,_,0,_=>.nil
 |_,_,_+1,.nil=>.nil
 |_,_,n+1,.cons r t=>.cons r (AL.take n t)
theorem AL.drop:∀{xs:List V} {us:List Value} (n:Nat),AL xs us->AL (xs.drop n) (us.drop n)
 |_,_,0,r=>r
 |_,_,_+1,.nil=>.nil
 |_,_,n+1,.cons _ t=>AL.drop n t
theorem AL.none_of:∀{xs:List V} {us:List Value} {i:Nat},AL xs us->xs[i]?=none->us[i]?=none:=fun{xs us i} r e=>by
 have h1:=r.length;have h2:xs.length<=i:=List.getElem?_eq_none_iff.mp e;exact List.getElem?_eq_none_iff.mpr (by omega)
def Fv:Option V->Option Value->Prop
 |some v,some u=>RelV v u
 |none,none=>True
 |_,_=>False
def KV {κ:Type}:List (κ×V)->List (κ×Value)->Prop:=Paired fun(p:κ×V) (q:κ×Value)=>p.1=q.1/\RelV p.2 q.2
def kV:Key->V
 | .inl i=>.int i
 | .inr x=>.str x
inductive HO where
 |lst (xs:List V)
 |tup (xs:List V)
 |dK (kvs:List (Key×V))|dT (kvs:List (List Key×V))
 |set (S:Int->Bool) (n:Nat)
 |ins (C dx:Addr) (fs:List (Str×V))
 |own (x:Addr)
 |xd (fs:List (Str×V))
 |met (f x:Addr)
 |rng (lo hi:Int)
 |frz (o:Obj) (u:HO)
 |tbl (ps:Array Value)
 |ext (φ:Heap->Prop)
abbrev Hp:=Addr->Option HO
def upd (H:Hp)(a:Addr)(o:HO):Hp:=fun b=>if b=a then some o else H b
theorem Af {H:Hp}{a:Addr}{o:HO}:upd H a o a=some o:=by unfold upd;rw[if_pos rfl]
theorem Ag {H:Hp}{a b:Addr}{o:HO}(h:b≠a):upd H a o b=H b:=by unfold upd;rw[if_neg h]
theorem FB {H:Hp}{a:Addr}{o u:HO}:upd (upd H a o) a u=upd H a u:=by
 funext b;unfold upd;split<;>rfl
theorem AM {H:Hp}{a b:Addr}{o u:HO}(h:H a=some o)(h':H b=some u)(d:o≠u):a≠b:=by
 intro e;subst e;rw[h] at h';exact d (Option.some.inj h')
theorem AF {H:Hp}{a b:Addr}{o:HO}(h:H a=some o)(h':H b=none):a≠b:=by
 intro e;subst e;rw[h] at h';cases h'
section
variable (P:Program)(w:World)
def Bm (H:Hp)(h:Heap)(a:Addr):HO->Prop
 | .lst xs=>xs.length<=sizeLine/\∃(its:List Value) (n:Nat),AL xs its/\h.get? a=some { cls:=.type "list",data:=.seq its.toArray n }
 | .tup xs=>xs.length<=sizeLine/\∃its:List Value,AL xs its/\IsTup h a its.toArray
 | .dK kvs=>kvs.length<=sizeLine/\(a == sysModules)=false/\∃vs,KV kvs vs/\h.DictOf (AU P w) a vs
 | .dT kvs=>kvs.length<=sizeLine/\(a == sysModules)=false/\∃xs:List (List Key×Addr×Value),
   Paired (fun(p:List Key×V) (q:List Key×Addr×Value)=>p.1=q.1/\H q.2.1=some (.tup (p.1.map kV))/\RelV p.2 q.2.2) kvs xs/\
   ∃o es ep,h.get? a=some o/\o.ExactDict/\o.data=.dict es ep/\es.toList=xs.map (entryOfKey (tupleKind (AU P w)))/\(xs.map (·.1)).Nodup
 | .set S n=>h.SetOf (intKind P w) a S n
 | .ins C dx fs=>H dx=some (.own a)/\fs.length<=1000/\dx≠a/\h.get? a=some (PySem.W.instObj C dx)/\
   ∃mA,h.Ns1 dx mA/\(∀f,Fv (fs.lookup f) (mA f))/\PySem.Within mA (fs.map (·.1))
 | .own _=>∃o,h.get? a=some o
 | .xd fs=>∃mA,h.Ns1 a mA/\∀f,Fv (fs.lookup f) (mA f)
 | .rng lo hi=>∃t u v,h.get? a=some { cls:=.type "range",data:=.fields #[.int lo t,.int hi u,.int 1 v] }
 | .frz o u=>h.get? a=some o/\Bm H h a u
 | .tbl ps=>h.get? a=some { cls:=.none,data:=.fields ps }
 | .met f x=>h.get? a=some (PySem.W.methodObj (.ref f) (.ref x))
 | .ext φ=>φ h/\(∃o,h.get? a=some o)/\∀h1 h2:Heap,φ h1->(∀o,h1.get? a=some o->h2.get? a=some o)->φ h2
def IS (H:Hp)(h:Heap):Prop:=∀a o,H a=some o->Bm P w H h a o
end
section
variable {P:Program}{w:World}{H H':Hp}{h h':Heap}{a:Addr}{o:HO}
theorem Bm.lt (x:Bm P w H h a o):a<h.objs.size:=by
 cases o with
 |lst xs=>obtain⟨_,_,_,_,e⟩:=x;exact Heap.lt_size e
 |tup xs=>obtain⟨_,_,_,p⟩:=x;exact p.lt
 |dK kvs=>obtain⟨_,_,_,_,o,_,_,e,_⟩:=x;exact Heap.lt_size e
 |dT kvs=>obtain⟨_,_,_,_,o,_,_,e,_⟩:=x;exact Heap.lt_size e
 |set S n=>obtain⟨o,_,_,_,e,_⟩:=x;exact Heap.lt_size e
 |ins C dx fs=>obtain⟨_,_,_,e,_⟩:=x;exact Heap.lt_size e
 |own y=>obtain⟨_,e⟩:=x;exact Heap.lt_size e
 |xd fs=>obtain⟨_,⟨_,_,_,e,_⟩,_⟩:=x;exact Heap.lt_size e
 |rng lo hi=>obtain⟨_,_,_,e⟩:=x;exact Heap.lt_size e
 |frz ob u=>obtain⟨e,_⟩:=x;exact Heap.lt_size e
 |tbl ps=>exact Heap.lt_size (show h.get? a=some _ from x)
 |met f y=>exact Heap.lt_size (show h.get? a=some _ from x)
 |ext φ=>obtain⟨_,⟨_,e⟩,_⟩:=x;exact Heap.lt_size e
theorem Paired.mapP {α β:Type}{F G:α->β->Prop}:∀{l₁:List α} {l₂:List β},Paired F l₁ l₂->(∀a b,F a b->G a b)->Paired G l₁ l₂
 |_,_,.nil,_=>.nil
 |_,_,.cons r t,f=>.cons (f _ _ r) (Paired.mapP t f)
theorem Bm.stay (x:Bm P w H h a o) (k:∀b u,(b=a\/H b=some (.own a))->h.get? b=some u->h'.get? b=some u)
  (ho:∀b,H b=some (.own a)->H' b=some (.own a)) (ht:∀b xs,H b=some (.tup xs)->H' b=some (.tup xs)):Bm P w H' h' a o:=by
 induction o with
 |lst xs=>obtain⟨z,its,n,r,e⟩:=x;exact⟨z,its,n,r,k _ _ (.inl rfl) e⟩
 |tup xs=>obtain⟨z,its,r,ob,e,c⟩:=x;exact⟨z,its,r,ob,k _ _ (.inl rfl) e,c⟩
 |dK kvs=>obtain⟨z,y,vs,r,ob,es,ep,e,c⟩:=x;exact⟨z,y,vs,r,ob,es,ep,k _ _ (.inl rfl) e,c⟩
 |dT kvs=>
  obtain⟨z,y,xs,r,ob,es,ep,e,c⟩:=x;exact⟨z,y,xs,Paired.mapP r fun p q z=>⟨z.1,ht _ _ z.2.1,z.2.2⟩,ob,es,ep,k _ _ (.inl rfl) e,c⟩
 |set S n=>obtain⟨ob,es,ep,t,e,c⟩:=x;exact⟨ob,es,ep,t,k _ _ (.inl rfl) e,c⟩
 |ins C dx fs=>
  obtain⟨d,z,ne,e,mA,⟨od,es,ep,e2,c⟩,r⟩:=x;exact⟨ho _ d,z,ne,k _ _ (.inl rfl) e,mA,⟨od,es,ep,k _ _ (.inr d) e2,c⟩,r⟩
 |own y=>obtain⟨ob,e⟩:=x;exact⟨ob,k _ _ (.inl rfl) e⟩
 |xd fs=>obtain⟨mA,⟨od,es,ep,e,c⟩,r⟩:=x;exact⟨mA,⟨od,es,ep,k _ _ (.inl rfl) e,c⟩,r⟩
 |rng lo hi=>obtain⟨t,u,v,e⟩:=x;exact⟨t,u,v,k _ _ (.inl rfl) e⟩
 |frz ob u ih=>obtain⟨e,q⟩:=x;exact⟨k _ _ (.inl rfl) e,ih q⟩
 |tbl ps=>
  have e:h.get? a=some { cls:=.none,data:=.fields ps }:=x;show h'.get? a=some { cls:=.none,data:=.fields ps };exact k a _ (.inl rfl) e
 |met f y=>
  have e:h.get? a=some (PySem.W.methodObj (.ref f) (.ref y)):=x;show h'.get? a=some (PySem.W.methodObj (.ref f) (.ref y));exact k a _ (.inl rfl) e
 |ext φ=>obtain⟨p,⟨o,e⟩,st⟩:=x;exact⟨st _ _ p fun o q=>k _ _ (.inl rfl) q,⟨o,k _ _ (.inl rfl) e⟩,st⟩
theorem IS.lt (x:IS P w H h)(e:H a=some o):a<h.objs.size:=(x a o e).lt
theorem IS.fresh (x:IS P w H h)(e:h.objs.size<=a):H a=none:=by
 cases q:H a with
 |none=>rfl
 |some u=>exact absurd (Nat.lt_of_lt_of_le (x.lt q) e) (Nat.lt_irrefl _)
theorem IS.kept (x:IS P w H h)(k:∀b u,h.get? b=some u->h'.get? b=some u):IS P w H h':=fun a o e=>
 (x a o e).stay (fun b u _ q=>k b u q) (fun _ q=>q) fun _ _ q=>q
theorem IS.laid (x:IS P w H h)(k:∀b u,h.get? b=some u->h'.get? b=some u)(hp:h.objs.size<=a)(new:Bm P w (upd H a o) h' a o):IS P w (upd H a o) h':=fun b u e=>by
 have hn:=x.fresh hp
 by_cases hb:b=a
 ·subst hb;rw[Af] at e;cases e;exact new
 ·rw[Ag hb] at e;exact(x b u e).stay (fun c v _ q=>k c v q) (fun c q=>by rw[Ag (AF q hn)];exact q) fun c xs q=>by rw[Ag (AF q hn)];exact q
end
def Rd (H:Hp)(a:Addr)(u:HO):Prop:=H a=some u\/∃o,H a=some (.frz o u)
theorem Rd.of {H:Hp}{a:Addr}{u:HO}(h:H a=some u):Rd H a u:=.inl h
theorem Rd.ok {P:Program}{w:World}{H:Hp}{h:Heap}{a:Addr}{u:HO}(r:Rd H a u)(x:IS P w H h):Bm P w H h a u:=by
 rcases r with r|⟨o,r⟩
 ·exact x a u r
 ·obtain⟨_,q⟩:=x a _ r;exact q
def Yo:Option HO->Prop
 |some (.lst _)=>True
 |some (.dK _)=>True
 |some (.dT _)=>True
 |some (.set _ _)=>True
 |some (.ins _ _ _)=>True
 |some (.ext _)=>True
 |_=>False
section
variable {P:Program}{w:World}{H:Hp}{h h':Heap}{x e:Addr}{o':HO}
theorem IS.write (ok:IS P w H h) (mu:Yo (H x)) (he:e=x\/H e=some (.own x)) (k:∀b u,b≠e->h.get? b=some u->h'.get? b=some u) (heo:∃u,h'.get? e=some u)
  (new:Bm P w (upd H x o') h' x o'):IS P w (upd H x o') h':=fun b u q=>by
 have nown:∀c y,H c=some (.own y)->c≠x:=fun c y r z=>by subst z;rw[r] at mu;exact mu
 have ntup:∀c xs,H c=some (.tup xs)->c≠x:=fun c xs r z=>by subst z;rw[r] at mu;exact mu
 by_cases hb:b=x
 ·subst hb;rw[Af] at q;cases q;exact new
 ·rw[Ag hb] at q
  by_cases hbe:b=e
  ·have q':H b=some (.own x):=by
    rcases he with z|z
    ·exact absurd (hbe.trans z) hb
    ·rw[hbe];exact z
   rw[q] at q';cases q';obtain⟨v,hv⟩:=heo;exact⟨v,by rw[hbe];exact hv⟩
  ·refine(ok b u q).stay (fun c v hc r=>k c v ?_ r) (fun c r=>by rw[Ag (nown c b r)];exact r) fun c xs r=>by rw[Ag (ntup c xs r)];exact r
   rcases hc with rfl|hc
   ·exact hbe
   ·rintro rfl
    rcases he with z|z
    ·exact nown c b hc z
    ·rw[hc] at z;cases z;exact hb rfl
end
structure Un (fs ex:List Addr) (H H':Hp) (h h':Heap):Prop where
 keep:∀b o,h.get? b=some o->H b=none->b∉fs->b∉ex->h'.get? b=some o
 slot:∀b o,h.get? b=some o->H b=none->b∈fs->b∉ex->∃sl,h'.get? b=some { o with slots:=sl }
 free:∀b o,h.get? b=some o->H b=none->b∉ex->H' b=none
 there:∀b o,h.get? b=some o->b∉ex->∃o',h'.get? b=some o'
 tups:∀b xs,H b=some (.tup xs)->H' b=some (.tup xs)
 frzs:∀b o u,H b=some (.frz o u)->H' b=some (.frz o u)
 tbls:∀b ps,H b=some (.tbl ps)->∃more,H' b=some (.tbl (ps++more))
section
variable {fs fs' ex ex':List Addr}{H H1 H2:Hp}{h h1 h2 h':Heap}{a x e:Addr}{o:HO}
theorem Un.any (u:Un fs ex H H1 h h1){b:Addr}{ob:Obj}(q:h.get? b=some ob)(n:H b=none)(hx:b∉ex):∃sl,h1.get? b=some { ob with slots:=sl }:=by
 by_cases hb:b∈fs
 ·exact u.slot b ob q n hb hx
 ·exact⟨ob.slots,u.keep b ob q n hb hx⟩
theorem Un.trans (a:Un fs ex H H1 h h1)(b:Un fs ex H1 H2 h1 h2):Un fs ex H H2 h h2 where
 keep:=fun c ob q n hc hx=>b.keep c ob (a.keep c ob q n hc hx) (a.free c ob q n hx) hc hx
 slot:=fun c ob q n hc hx=>by
  obtain⟨sl,e1⟩:=a.slot c ob q n hc hx;obtain⟨sl',e2⟩:=b.slot c _ e1 (a.free c ob q n hx) hc hx;exact⟨sl',e2⟩
 free:=fun c ob q n hx=>by
  obtain⟨o',e1⟩:=a.there c ob q hx;exact b.free c o' e1 (a.free c ob q n hx) hx
 there:=fun c ob q hx=>by
  obtain⟨o',e1⟩:=a.there c ob q hx;exact b.there c o' e1 hx
 tups:=fun c xs q=>b.tups c xs (a.tups c xs q)
 frzs:=fun c ob xs q=>b.frzs c ob xs (a.frzs c ob xs q)
 tbls:=fun c ps q=>by
  obtain⟨m1,e1⟩:=a.tbls c ps q;obtain⟨m2,e2⟩:=b.tbls c _ e1;exact⟨m1++m2,by rw[e2,Array.append_assoc]⟩
theorem Un.kept (k:∀b u,h.get? b=some u->h'.get? b=some u):Un fs ex H H h h':=
 ⟨fun b ob q _ _ _=>k b ob q,fun b ob q _ _ _=>⟨ob.slots,k b ob q⟩,fun _ _ _ n _=>n,fun b ob q _=>⟨ob,k b ob q⟩,fun _ _ q=>q,fun _ _ _ q=>q,fun _ ps q=>⟨#[],by rw[q];simp⟩⟩
theorem Un.refl:Un fs ex H H h h:=Un.kept fun _ _ q=>q
theorem Un.laid (k:∀b u,h.get? b=some u->h'.get? b=some u)(hp:h.objs.size<=a)(hn:H a=none):Un fs ex H (upd H a o) h h' where
 keep:=fun b u q _ _ _=>k b u q
 slot:=fun b u q _ _ _=>⟨u.slots,k b u q⟩
 free:=fun b u q n _=>by rw[Ag (Nat.ne_of_lt (Nat.lt_of_lt_of_le (Heap.lt_size q) hp))];exact n
 there:=fun b u q _=>⟨u,k b u q⟩
 tups:=fun b xs q=>by rw[Ag (AF q hn)];exact q
 frzs:=fun b u xs q=>by rw[Ag (AF q hn)];exact q
 tbls:=fun b ps q=>⟨#[],by rw[Ag (AF q hn),q];simp⟩
theorem Un.write (mu:Yo (H x))(he:e=x\/H e=some (.own x))(k:∀b u,b≠e->h.get? b=some u->h'.get? b=some u)(heo:∃u,h'.get? e=some u):Un fs ex H (upd H x o) h h':=by
 have hx:∀b,H b=none->b≠x:=fun b n z=>by subst z;rw[n] at mu;exact mu
 have hb:∀b,H b=none->b≠e:=fun b n z=>by
  subst z;rcases he with r|r
  ·exact hx b n r
  ·rw[n] at r;cases r
 have hm:∀b u,H b=some u->¬Yo (some u)->b≠x:=fun b u q nm z=>by subst z;rw[q] at mu;exact nm mu
 refine⟨fun b u q n _ _=>k b u (hb b n) q,fun b u q n _ _=>⟨u.slots,k b u (hb b n) q⟩,fun b u q n _=>by rw[Ag (hx b n)];exact n,fun b u q _=>?_,
  fun b xs q=>by rw[Ag (hm b _ q fun z=>z)];exact q,fun b u xs q=>by rw[Ag (hm b _ q fun z=>z)];exact q,fun b ps q=>⟨#[],by rw[Ag (hm b _ q fun z=>z),q];simp⟩⟩
 by_cases hbe:b=e
 ·subst hbe;exact heo
 ·exact⟨u,k b u hbe q⟩
theorem Un.mono (u:Un fs ex H H1 h h1)(hs:∀b∈fs,b∈fs')(hx:∀b∈ex,b∈ex'):Un fs' ex' H H1 h h1:=
 ⟨fun b ob q n hb he=>u.keep b ob q n (fun z=>hb (hs b z)) fun z=>he (hx b z),fun _ _ q n _ he=>u.any q n fun z=>he (hx _ z),fun b ob q n he=>u.free b ob q n fun z=>he (hx b z),fun b ob q he=>u.there b ob q fun z=>he (hx b z),u.tups,u.frzs,u.tbls⟩
end
def YE (h:Heap)(H:Hp):List Addr:=(List.range h.objs.size).filter fun a=>(H a).isSome
def NH (h:Heap)(H:Hp):Heap:=PySem.W.hideAll h (YE h H)
theorem RG (h:Heap)(H:Hp):(NH h H).objs.size=h.objs.size:=PySem.W.hideAll_size _ _
theorem Tp {h:Heap}{H:Hp}{b:Addr}{o:Obj}(e:h.get? b=some o)(n:H b=none):(NH h H).get? b=some o:=
 PySem.W.hideAll_get _ e fun hm=>by
  have q:(H b).isSome=true:=(List.mem_filter.mp hm).2;rw[n] at q;simp at q
theorem Vq {h:Heap}{H:Hp}{b:Addr}{o:Obj}(e:(NH h H).get? b=some o):h.get? b=some o/\H b=none:=by
 have e':h.get? b=some o:=PySem.W.of_hideAll (YE h H) e;refine⟨e',?_⟩;cases q:H b with
 |none=>rfl
 |some x=>
  have hm:b∈YE h H:=List.mem_filter.mpr ⟨List.mem_range.mpr (Heap.lt_size e'),by simp[q]⟩;have z:(NH h H).get? b=none:=PySem.W.hideAll_none (YE h H) hm;rw[z] at e;cases e
def Wj (g h:Heap)(L:Addr):List (Addr×Obj):=(List.range h.objs.size).filterMap fun a=>if a=L\/(g.get? a).isSome=true then none else(h.get? a).map fun o=>(a,o)
def rest (g h:Heap)(L d:Addr):List (Addr×Obj):=(Wj g h L).filter fun p=>decide (p.1≠d)
structure Mod (K:PySem.W.Frag) (mg:Str->Option Value) (base:Heap):Prop where
 kin:K.In base
 glob:base.Ns mainGlobals mg
 blt:∃mb,base.Ns builtinsNs mb/\∀x:Str,x≠"__name__"->mb x=bootBuiltins x
 nolimit:base.NoLimit
structure Cx where
 prog:Program
 w:World
 K:PySem.W.Frag
 mg:Str->Option Value
 base:Heap
 A:Around
 N:List Str
 s₀:Shared
 H₀:Hp
 env:Env
 outer:List Env
 stack:List Env
 ex:List Addr
 fn:Str->Bool
 calm:Bool
 pn:List (Addr×Obj)
 xe:Value->Shared->Prop
def Oc (l:List Env):List Addr:=l.filterMap (·.frame)
abbrev Cx.fs (X:Cx):List Addr:=Oc X.outer
def YZ (sc:Scope)(x:Str):Prop:=sc.names.lookup x=some .local\/sc.names.lookup x=some .cell\/sc.names.lookup x=some .free
def Loc (sc:Scope)(x:Str):Prop:=sc.names.lookup x=some .local\/sc.names.lookup x=some .cell
def Look (env:Env)(h:Heap)(m:Str->Option Value)(x:Str)(u:Value):Prop:=
 (env.kindOf x=some .local/\m x=some u)\/((env.kindOf x=some .cell\/env.kindOf x=some .free)/\∃c,env.cells.lookup x=some c/\h.IsCell c (some u))
structure Cx.Ok (X:Cx):Prop where
 mod:Mod X.K X.mg X.base
 kind:X.env.scope.kind=.function
 glob:X.env.globals=mainGlobals
 blt:X.env.builtins=builtinsNs
 above:X.s₀.heap.objs.size<=X.env.locals
 inj:∀x y c,X.env.cells.lookup x=some c->X.env.cells.lookup y=some c->x=y
 has:∀x,(X.env.kindOf x=some .cell\/X.env.kindOf x=some .free)->∃c,X.env.cells.lookup x=some c
 cab:∀x c,X.fn x=true->X.env.cells.lookup x=some c->X.s₀.heap.objs.size<=c
 hd:X.calm=true->X.A.handled=none
 frames:X.A.frames=some X.stack
 stk:X.stack=X.outer\/(X.stack=X.env::X.outer/\X.env.frame=some X.env.locals)
 exf:∀b∈X.ex,b≠X.env.locals/\∀x c,X.env.cells.lookup x=some c->c≠b
 bs:∀b o,X.base.get? b=some o->X.s₀.heap.get? b=some o/\X.H₀ b=none
 bsz:X.base.objs.size<=X.s₀.heap.objs.size
 noex:∀b o,X.base.get? b=some o->b∉X.ex
 exfs:∀b∈X.ex,b∉X.fs
 funs:X.s₀.heap.FunFrames X.base X.outer
 frf:∀b∈X.fs,X.H₀ b=none
structure Inv (X:Cx) (pins:List (Addr×Obj)) (σ:List (Option V)) (H:Hp) (s:Shared):Prop where
 ok:X.Ok
 os:s.os=X.s₀.os
 bare:AllBare s.gens
 base:Un X.fs X.ex X.H₀ H X.s₀.heap s.heap
 loc:∃m,s.heap.Ns X.env.locals m/\∀(i:Nat) (x:Str) (v:V),X.N[i]?=some x->σ[i]?=some (some v)->YZ X.env.scope x->∃u,RelV v u/\Look X.env s.heap m x u
 cell:∀x c,X.env.cells.lookup x=some c->∃v,s.heap.IsCell c v
 free:H X.env.locals=none
 freeC:∀x c,X.env.cells.lookup x=some c->H c=none
 pin:∀p∈X.pn++pins,s.heap.get? p.1=some p.2/\H p.1=none/\p.1≠X.env.locals/\p.1∉X.fs/\∀v,p.2.data≠.cell v
 hok:IS X.prog X.w H s.heap
 len:σ.length=X.N.length
section
variable {X:Cx}{pins:List (Addr×Obj)}{σ:List (Option V)}{H H':Hp}{s:Shared}{h':Heap}
theorem Cx.Ok.nofr (ok:X.Ok){b:Addr}{o:Obj}(e:X.base.get? b=some o):b∉X.fs:=fun hb=>by
 have:=(ok.funs.mem hb).1;rw[e] at this;cases this
theorem Inv.bs (I:Inv X pins σ H s):∀b o,X.base.get? b=some o->s.heap.get? b=some o/\H b=none:=fun b o e=>
 ⟨I.base.keep b o (I.ok.bs b o e).1 (I.ok.bs b o e).2 (I.ok.nofr e) (I.ok.noex b o e),I.base.free b o (I.ok.bs b o e).1 (I.ok.bs b o e).2 (I.ok.noex b o e)⟩
theorem Inv.bk (I:Inv X pins σ H s):∀b o,X.base.get? b=some o->s.heap.get? b=some o:=fun b o e=>(I.bs b o e).1
theorem Inv.mod (I:Inv X pins σ H s):Mod X.K X.mg X.base:=I.ok.mod
theorem Inv.kIn (I:Inv X pins σ H s):X.K.In s.heap:=I.ok.mod.kin.keeps I.bk
theorem Inv.nolimit (I:Inv X pins σ H s):s.heap.NoLimit:=I.ok.mod.nolimit.keeps I.bk
theorem Inv.fr (I:Inv X pins σ H s):∃m,Fr X.base X.env.locals s.heap m:=
 let⟨m,hn,_⟩:=I.loc
 ⟨m,hn,I.bk,Nat.le_trans I.ok.bsz I.ok.above⟩
theorem Inv.lt (I:Inv X pins σ H s):X.env.locals<s.heap.objs.size:=let⟨_,hn,_⟩:=I.loc;hn.lt
theorem Inv.sz (I:Inv X pins σ H s):X.s₀.heap.objs.size<=s.heap.objs.size:=Nat.le_trans I.ok.above (Nat.le_of_lt I.lt)
theorem Inv.nofs (I:Inv X pins σ H s){a:Addr}(h:s.heap.objs.size<=a):a∉X.fs:=fun hb=>by
 obtain⟨_,o,ho,_⟩:=I.ok.funs.mem hb;exact absurd (Nat.lt_of_lt_of_le (Heap.lt_size ho) (Nat.le_trans I.sz h)) (Nat.lt_irrefl _)
theorem Inv.cne (I:Inv X pins σ H s):∀x c,X.env.cells.lookup x=some c->c≠X.env.locals:=fun x c e z=>by
 obtain⟨v,o,ho,hd⟩:=I.cell x c e;obtain⟨m,⟨o',es,ep,ho',hd',_⟩,_⟩:=I.loc;rw[z,ho'] at ho;cases ho;rw[hd'] at hd;cases hd
theorem Inv.funs (I:Inv X pins σ H s):s.heap.FunFrames X.base X.outer:=by
 have all:∀(l:List Env),(∀b∈Oc l,b∈X.fs)->X.s₀.heap.FunFrames X.base l->s.heap.FunFrames X.base l:=by
  intro l
  induction l with
  |nil=>intro _ _;trivial
  |cons env r ih=>
   intro hs hl;obtain⟨hk,⟨L,o,hf,hn,ho,hd⟩,hr⟩:=hl;have hL:L∈X.fs:=hs L (by unfold Oc;rw[List.filterMap_cons,hf];exact List.mem_cons_self);obtain⟨sl,e⟩:=I.base.slot L o ho (I.ok.frf L hL) hL fun z=>I.ok.exfs L z hL
   exact⟨hk,⟨L,_,hf,hn,e,hd⟩,ih (fun b hb=>hs b (by unfold Oc;rw[List.filterMap_cons,hf];exact List.mem_cons_of_mem _ hb)) hr⟩
 exact all X.outer (fun _ hb=>hb) I.ok.funs
theorem Inv.stack (I:Inv X pins σ H s):s.heap.FunFrames X.base X.stack:=by
 rcases I.ok.stk with e|⟨e,hf⟩
 ·rw[e];exact I.funs
 ·rw[e];obtain⟨m,hn,_⟩:=I.loc;refine .cons (by rw[I.ok.kind];decide) hf hn ?_ I.funs;exact Heap.get?_none_of_le (Nat.le_trans I.ok.bsz I.ok.above)
theorem Inv.stkSub (I:Inv X pins σ H s):∀b∈Oc X.stack,b∈X.env.locals::X.fs:=fun b hb=>by
 rcases I.ok.stk with e|⟨e,hf⟩
 ·rw[e] at hb;exact List.mem_cons_of_mem _ hb
 ·rw[e] at hb;unfold Oc at hb;rw[List.filterMap_cons,hf] at hb;exact hb
theorem Inv.stkFree (I:Inv X pins σ H s):∀b∈Oc X.stack,H b=none:=fun b hb=>by
 rcases List.mem_cons.mp (I.stkSub b hb) with e|hb
 ·rw[e];exact I.free
 ·obtain⟨_,o,ho,_⟩:=I.ok.funs.mem hb;exact I.base.free b o ho (I.ok.frf b hb) fun z=>I.ok.exfs b z hb
theorem Inv.step {g':Array GenState} {t':Nat} {d':Drawn} {ch:List Addr} (I:Inv X pins σ H s)
  (hch:∀b∈ch,(b∈X.ex\/X.s₀.heap.objs.size<=b)/\b≠X.env.locals/\(∀x c,X.env.cells.lookup x=some c->c≠b)/\∀p∈X.pn++pins,p.1≠b)
  (keep:∀b o,b≠X.env.locals->b∉X.fs->b∉ch->s.heap.get? b=some o->H b=none->h'.get? b=some o)
  (slot:∀b o,b≠X.env.locals->b∈X.fs->b∉ch->s.heap.get? b=some o->H b=none->∃sl,h'.get? b=some { o with slots:=sl }) (free:∀b o,b∉ch->s.heap.get? b=some o->H b=none->H' b=none)
  (there:∀b o,b∉ch->s.heap.get? b=some o->∃o',h'.get? b=some o')
  (tups:∀b xs,H b=some (.tup xs)->H' b=some (.tup xs)) (frzs:∀b o u,H b=some (.frz o u)->H' b=some (.frz o u)) (tbls:∀b ps,H b=some (.tbl ps)->∃more,H' b=some (.tbl (ps++more)))
  (ns:∀m,s.heap.Ns X.env.locals m->h'.Ns X.env.locals m) (hok:IS X.prog X.w H' h') (hg:AllBare g') :
  Inv X pins σ H' { s with heap:=h',gens:=g',drawn:=d',toks:=t' }:=by
 have neL:∀b o,X.s₀.heap.get? b=some o->b≠X.env.locals:=fun b o e=>Nat.ne_of_lt (Nat.lt_of_lt_of_le (Heap.lt_size e) I.ok.above)
 have neC:∀b o,X.s₀.heap.get? b=some o->b∉X.ex->b∉ch:=fun b o e hx hb=>by
  rcases(hch b hb).1 with z|z
  ·exact hx z
  ·exact absurd (Nat.lt_of_lt_of_le (Heap.lt_size e) z) (Nat.lt_irrefl _)
 have cellK:∀x c,X.env.cells.lookup x=some c->∀v,s.heap.IsCell c v->h'.IsCell c v:=fun x c e v ⟨o,ho,hd⟩=>by
  have nch:c∉ch:=fun z=>(hch c z).2.2.1 x c e rfl
  by_cases hc:c∈X.fs
  ·obtain⟨sl,q⟩:=slot c o (I.cne x c e) hc nch ho (I.freeC x c e);exact⟨_,q,hd⟩
  ·exact⟨o,keep c o (I.cne x c e) hc nch ho (I.freeC x c e),hd⟩
 refine⟨I.ok,I.os,hg,⟨fun b o e n hb hx=>?_,fun b o e n hb hx=>?_,fun b o e n hx=>?_,fun b o e hx=>?_,fun b xs e=>tups b xs (I.base.tups b xs e),fun b o xs e=>frzs b o xs (I.base.frzs b o xs e),fun b ps e=>?_⟩,?_,fun x c e=>?_,?_,fun x c e=>?_,fun p hp=>?_,hok,I.len⟩
 ·exact keep b o (neL b o e) hb (neC b o e hx) (I.base.keep b o e n hb hx) (I.base.free b o e n hx)
 ·obtain⟨sl,e1⟩:=I.base.slot b o e n hb hx;obtain⟨sl',e2⟩:=slot b _ (neL b o e) hb (neC b o e hx) e1 (I.base.free b o e n hx);exact⟨sl',e2⟩
 ·obtain⟨o',e1⟩:=I.base.there b o e hx;exact free b o' (neC b o e hx) e1 (I.base.free b o e n hx)
 ·obtain⟨o',e1⟩:=I.base.there b o e hx;exact there b o' (neC b o e hx) e1
 ·obtain⟨m1,e1⟩:=I.base.tbls b ps e;obtain⟨m2,e2⟩:=tbls b _ e1;exact⟨m1++m2,by rw[e2,Array.append_assoc]⟩
 ·obtain⟨m,hn,hl⟩:=I.loc;refine⟨m,ns m hn,fun i x v e1 e2 e3=>?_⟩;obtain⟨u,r,l⟩:=hl i x v e1 e2 e3;refine⟨u,r,?_⟩;rcases l with l|⟨k,c,e,z⟩
  ·exact .inl l
  ·exact .inr ⟨k,c,e,cellK x c e _ z⟩
 ·obtain⟨v,z⟩:=I.cell x c e;exact⟨v,cellK x c e v z⟩
 ·obtain⟨m,⟨o,_,_,ho,_⟩,_⟩:=I.loc;exact free _ o (fun z=>(hch _ z).2.1 rfl) ho I.free
 ·obtain⟨v,o,ho,hd⟩:=I.cell x c e;exact free c o (fun z=>(hch c z).2.2.1 x c e rfl) ho (I.freeC x c e)
 ·obtain⟨e,n,ne,nf,d⟩:=I.pin p hp;have nch:p.1∉ch:=fun z=>(hch p.1 z).2.2.2 p hp rfl
  exact⟨keep p.1 p.2 ne nf nch e n,free p.1 p.2 nch e n,ne,nf,d⟩
theorem Inv.un {t':Nat}(I:Inv X pins σ H s)(u:Un X.fs [] H H' s.heap h')(hok:IS X.prog X.w H' h'):Inv X pins σ H' { s with heap:=h',toks:=t' }:=by
 obtain⟨m,⟨o,es,ep,ho,r⟩,_⟩:=id I.loc;obtain⟨sl,hL⟩:=u.any ho I.free (by simp);exact I.step (g':=s.gens) (d':=s.drawn) (ch:=[]) (fun _ z=>nomatch z) (fun b o _ hb _ e n=>u.keep b o e n hb (by simp)) (fun b o _ hb _ e n=>u.slot b o e n hb (by simp)) (fun b o _ e n=>u.free b o e n (by simp)) (fun b o _ e=>u.there b o e (by simp)) u.tups u.frzs u.tbls (fun m' hm=>by
  obtain⟨o',es',ep',ho',r'⟩:=hm;rw[ho] at ho';cases ho';exact⟨_,es',ep',hL,r'⟩) hok I.bare
theorem Inv.call {g':Array GenState} {t':Nat} {d':Drawn} {ch:List Addr} (I:Inv X pins σ H s) (u:Un (Oc X.stack) ch H H' s.heap h') (hok:IS X.prog X.w H' h') (hg:AllBare g')
  (hch:∀b∈ch,(b∈X.ex\/X.s₀.heap.objs.size<=b)/\b≠X.env.locals/\(∀x c,X.env.cells.lookup x=some c->c≠b)/\∀p∈X.pn++pins,p.1≠b) :
  Inv X pins σ H' { s with heap:=h',gens:=g',drawn:=d',toks:=t' }:=by
 obtain⟨m,⟨o,es,ep,ho,r⟩,_⟩:=id I.loc;obtain⟨sl,hL⟩:=u.any ho I.free fun z=>(hch _ z).2.1 rfl
 exact I.step (ch:=ch) hch (fun b o hL hb hc e n=>u.keep b o e n (fun z=>(List.mem_cons.mp (I.stkSub b z)).elim hL hb) hc) (fun b o _ _ hc e n=>u.any e n hc) (fun b o hc e n=>u.free b o e n hc) (fun b o hc e=>u.there b o e hc) u.tups u.frzs u.tbls (fun m' hm=>by
  obtain⟨o',es',ep',ho',r'⟩:=hm;rw[ho] at ho';cases ho';exact⟨_,es',ep',hL,r'⟩) hok hg
theorem Inv.turned {t':Nat} {it:Addr} (I:Inv X pins σ H s) (k:∀b o,b≠it->s.heap.get? b=some o->h'.get? b=some o) (hn:H it=none) (hL:it≠X.env.locals)
  (h1:it∈X.ex\/X.s₀.heap.objs.size<=it) (h2:∀x c,X.env.cells.lookup x=some c->c≠it) (h3:∀p∈X.pn++pins,p.1≠it):Inv X pins σ H { s with heap:=h',toks:=t' }:=by
 have nit:∀b u,H b=some u->b≠it:=fun b u e z=>by rw[z,hn] at e;cases e
 refine I.step (g':=s.gens) (d':=s.drawn) (ch:=[it]) (fun b hb=>?_) (fun b o _ _ hc e _=>k b o (fun z=>hc (by simp[z])) e) (fun b o _ _ hc e _=>⟨o.slots,k b o (fun z=>hc (by simp[z])) e⟩) (fun _ _ _ _ n=>n)
  (fun b o hc e=>⟨o,k b o (fun z=>hc (by simp[z])) e⟩) (fun _ _ e=>e) (fun _ _ _ e=>e) (fun b ps e=>⟨#[],by rw[e];simp⟩) (fun m hm=>?_) (fun b u e=>?_) I.bare
 ·have e:b=it:=by simpa using hb
  subst e;exact⟨h1,hL,h2,h3⟩
 ·obtain⟨o,es,ep,ho,r⟩:=hm;exact⟨o,es,ep,k _ o (Ne.symm hL) ho,r⟩
 ·refine(I.hok b u e).stay (fun c v hc q=>k c v ?_ q) (fun _ q=>q) fun _ _ q=>q
  rcases hc with z|z
  ·rw[z];exact nit b u e
  ·exact nit c _ z
theorem Inv.tok (I:Inv X pins σ H s)(t:Nat):Inv X pins σ H { s with toks:=t }:=I.un (h':=s.heap) (t':=t) Un.refl I.hok
theorem Inv.kept {t':Nat}(I:Inv X pins σ H s)(k:∀b u,s.heap.get? b=some u->h'.get? b=some u):Inv X pins σ H { s with heap:=h',toks:=t' }:=I.un (Un.kept k) (I.hok.kept k)
theorem Inv.laid {a:Addr}{o:HO}{t':Nat}(I:Inv X pins σ H s)(k:∀b u,s.heap.get? b=some u->h'.get? b=some u)(hp:s.heap.objs.size<=a)(new:Bm X.prog X.w (upd H a o) h' a o) :
  Inv X pins σ (upd H a o) { s with heap:=h',toks:=t' }:=I.un (Un.laid k hp (I.hok.fresh hp)) (I.hok.laid k hp new)
theorem Inv.write {x e:Addr} {o:HO} {t':Nat} (I:Inv X pins σ H s) (mu:Yo (H x)) (he:e=x\/H e=some (.own x)) (k:∀b u,b≠e->s.heap.get? b=some u->h'.get? b=some u) (heo:∃u,h'.get? e=some u)
  (new:Bm X.prog X.w (upd H x o) h' x o):Inv X pins σ (upd H x o) { s with heap:=h',toks:=t' }:=I.un (Un.write mu he k heo) (I.hok.write mu he k heo new)
theorem Inv.weak {σ':List (Option V)}(I:Inv X pins σ H s)(hl:σ'.length=σ.length)(w:∀(i:Nat) v,σ'[i]?=some (some v)->σ[i]?=some (some v)):Inv X pins σ' H s:=
 ⟨I.ok,I.os,I.bare,I.base,let⟨m,hn,hl'⟩:=I.loc;⟨m,hn,fun i x v e1 e2 e3=>hl' i x v e1 (w i v e2) e3⟩,I.cell,I.free,I.freeC,I.pin,I.hok,hl.trans I.len⟩
theorem Inv.pins_of {pins':List (Addr×Obj)}(I:Inv X pins σ H s)(h:∀p∈pins',s.heap.get? p.1=some p.2/\H p.1=none/\p.1≠X.env.locals/\p.1∉X.fs/\∀v,p.2.data≠.cell v):Inv X pins' σ H s:=
 ⟨I.ok,I.os,I.bare,I.base,I.loc,I.cell,I.free,I.freeC,fun p hp=>(List.mem_append.mp hp).elim (fun z=>I.pin p (List.mem_append_left _ z)) (h p),I.hok,I.len⟩
theorem Oy {N:List Str}(hN:N.Nodup){i j:Nat}{x:Str}(a:N[i]?=some x)(b:N[j]?=some x):i=j:=by
 obtain⟨h1,e1⟩:=List.getElem?_eq_some_iff.mp a;obtain⟨h2,e2⟩:=List.getElem?_eq_some_iff.mp b;exact(List.getElem_inj hN).mp (e1.trans e2.symm)
theorem R9 {M:Model} {A:Around} {E:Value->Shared->Prop} {i:Nat} {x:Str} {v:V} {u:Value} {Q:Unit->Shared->Prop} (I:Inv X pins σ H s) (hN:X.N.Nodup) (hi:X.N[i]?=some x) (hx:Loc X.env.scope x) (r:RelV v u)
  (h:∀s',Inv X pins (σ.set i (some v)) H s'->(∃a,Heap.SameBut a s.heap s'.heap/\(a=X.env.locals\/X.env.cells.lookup x=some a))->Q () s') (hf:X.fn x=true\/X.env.scope.names.lookup x=some .local:=by first|exact .inl rfl|exact .inr rfl|assumption):wpAny M A (storeName X.env x u) Q E s:=by
 obtain⟨m,hn,hl⟩:=id I.loc;have hcls:(X.env.scope.kind == .class||(X.env.scope.kind == .module&&X.env.locals != X.env.globals))=false:=by rw[I.ok.kind];rfl
 have hiσ:i<σ.length:=by rw[I.len];exact(List.getElem?_eq_some_iff.mp hi).1
 have cne:=I.cne;have tracked:∀{a:Addr} {h':Heap},(∃o,s.heap.get? a=some o/\H a=none)->Heap.SameBut a s.heap h'->IS X.prog X.w H h':=fun{a h'} ha hs b ob e=>by
  obtain⟨_,_,hfree⟩:=ha;refine(I.hok b ob e).stay (fun c w' hc q=>(hs.2 c ?_).trans q) (fun _ q=>q) fun _ _ q=>q
  rintro rfl
  rcases hc with rfl|hc
  ·rw[hfree] at e;cases e
  ·rw[hfree] at hc;cases hc
 rcases hx with hk|hk
 ·refine wpAny_storeName_local hk hn (fun h' hn' hs=>?_) hcls;obtain⟨oL,_,_,hoL,_⟩:=id hn;refine h _ ⟨I.ok,I.os,I.bare,⟨fun b o e n hb hx=>?_,fun b o e n hb hx=>?_,I.base.free,fun b o e hx=>?_,I.base.tups,I.base.frzs,I.base.tbls⟩,⟨_,hn',fun j y v' e1 e2 e3=>?_⟩,fun y c e=>?_,I.free,I.freeC,fun p hp=>?_,tracked ⟨oL,hoL,I.free⟩ hs,by simpa using I.len⟩ ⟨_,hs,.inl rfl⟩
  ·exact(hs.2 b (Nat.ne_of_lt (Nat.lt_of_lt_of_le (Heap.lt_size e) I.ok.above))).trans (I.base.keep b o e n hb hx)
  ·obtain⟨sl,e1⟩:=I.base.slot b o e n hb hx;exact⟨sl,(hs.2 b (Nat.ne_of_lt (Nat.lt_of_lt_of_le (Heap.lt_size e) I.ok.above))).trans e1⟩
  ·obtain⟨o',e1⟩:=I.base.there b o e hx;exact⟨o',(hs.2 b (Nat.ne_of_lt (Nat.lt_of_lt_of_le (Heap.lt_size e) I.ok.above))).trans e1⟩
  ·by_cases hj:j=i
   ·subst hj;rw[hi] at e1;cases e1;rw[List.getElem?_set_self hiσ] at e2;cases e2;exact⟨u,r,.inl ⟨hk,by simp⟩⟩
   ·rw[List.getElem?_set_ne (Ne.symm hj)] at e2;obtain⟨u',r',q⟩:=hl j y v' e1 e2 e3;refine⟨u',r',?_⟩;rcases q with⟨k,e⟩|⟨k,c,e,z⟩
    ·refine .inl ⟨k,?_⟩;have:y≠x:=fun e=>hj (Oy hN e1 (e▸hi))
     simp[this,e]
    ·exact .inr ⟨k,c,e,z.sameBut hs (cne y c e)⟩
  ·obtain⟨w',z⟩:=I.cell y c e;exact⟨w',z.sameBut hs (cne y c e)⟩
  ·obtain⟨e,n,ne,nf,d⟩:=I.pin p hp;exact⟨(hs.2 p.1 ne).trans e,n,ne,nf,d⟩
 ·have hfn:X.fn x=true:=by
   rcases hf with z|z
   ·exact z
   ·rw[z] at hk;cases hk
  obtain⟨c,hc⟩:=I.ok.has x (.inl hk);obtain⟨w',z⟩:=I.cell x c hc;refine wpAny_storeName_cell I.ok.kind hk hc z (fun h' hc' hs=>?_);obtain⟨oc,hoc,hocd⟩:=id z;refine h { s with heap:=h' } ⟨I.ok,I.os,I.bare,⟨fun b o e n hb hx=>?_,fun b o e n hb hx=>?_,I.base.free,fun b o e hx=>?_,I.base.tups,I.base.frzs,I.base.tbls⟩,⟨m,hn.sameBut hs (Ne.symm (cne x c hc)),fun j y v' e1 e2 e3=>?_⟩,fun y c' e=>?_,I.free,I.freeC,fun p hp=>?_,tracked ⟨oc,hoc,I.freeC x c hc⟩ hs,by simpa using I.len⟩ ⟨c,hs,.inr hc⟩
  ·exact(hs.2 b (Nat.ne_of_lt (Nat.lt_of_lt_of_le (Heap.lt_size e) (I.ok.cab x c hfn hc)))).trans (I.base.keep b o e n hb hx)
  ·obtain⟨sl,e1⟩:=I.base.slot b o e n hb hx;exact⟨sl,(hs.2 b (Nat.ne_of_lt (Nat.lt_of_lt_of_le (Heap.lt_size e) (I.ok.cab x c hfn hc)))).trans e1⟩
  ·obtain⟨o',e1⟩:=I.base.there b o e hx;exact⟨o',(hs.2 b (Nat.ne_of_lt (Nat.lt_of_lt_of_le (Heap.lt_size e) (I.ok.cab x c hfn hc)))).trans e1⟩
  ·by_cases hj:j=i
   ·subst hj;rw[hi] at e1;cases e1;rw[List.getElem?_set_self hiσ] at e2;cases e2;exact⟨u,r,.inr ⟨.inl hk,c,hc,hc'⟩⟩
   ·rw[List.getElem?_set_ne (Ne.symm hj)] at e2;obtain⟨u',r',q⟩:=hl j y v' e1 e2 e3;refine⟨u',r',?_⟩;rcases q with q|⟨k,c',e,z'⟩
    ·exact .inl q
    ·refine .inr ⟨k,c',e,z'.sameBut hs ?_⟩
     rintro rfl
     exact hj (Oy hN e1 (I.ok.inj _ _ _ e hc▸hi))
  ·by_cases hcc:c'=c
   ·subst hcc;exact⟨_,hc'⟩
   ·obtain⟨w2,z2⟩:=I.cell y c' e;exact⟨w2,z2.sameBut hs hcc⟩
  ·obtain⟨e,n,ne,nf,d⟩:=I.pin p hp;refine⟨(hs.2 p.1 ?_).trans e,n,ne,nf,d⟩;intro q;rw[q,hoc] at e;have q':oc=p.2:=Option.some.inj e;exact d w' (by rw[<-q'];exact hocd)
theorem Lv {M:Model} {A:Around} {E:Value->Shared->Prop} {i:Nat} {x:Str} {v:V} {u:Value} {Q:Unit->Shared->Prop} (I:Inv X pins σ H s) (hN:X.N.Nodup) (hi:X.N[i]?=some x) (hx:Loc X.env.scope x) (r:RelV v u)
  (h:∀s',Inv X pins (σ.set i (some v)) H s'->Q () s') (hf:X.fn x=true\/X.env.scope.names.lookup x=some .local:=by first|exact .inl rfl|exact .inr rfl|assumption):wpAny M A (storeName X.env x u) Q E s:=
 R9 I hN hi hx r (fun s' I' _=>h s' I') hf
theorem Inv.call' {s':Shared} {ch:List Addr} (I:Inv X pins σ H s) (ho:s'.os=s.os) (u:Un (Oc X.stack) ch H H' s.heap s'.heap) (hok:IS X.prog X.w H' s'.heap) (hg:AllBare s'.gens)
  (hch:∀b∈ch,(b∈X.ex\/X.s₀.heap.objs.size<=b)/\b≠X.env.locals/\(∀x c,X.env.cells.lookup x=some c->c≠b)/\∀p∈X.pn++pins,p.1≠b):Inv X pins σ H' s':=by
 obtain⟨h',g',d',t',o'⟩:=s';have e:o'=s.os:=ho;subst e;exact I.call (g':=g') (t':=t') (d':=d') u hok hg hch
end
abbrev XK:=Value->Option Addr->Hp->Prop
abbrev St:=List (Option V)
abbrev VK:=V->Hp->Prop
abbrev TE:=St->Hp->VK->Prop
abbrev TT:=St->Hp->(Bool->Hp->Prop)->Prop
abbrev TA:=St->Hp->(List V->Hp->Prop)->Prop
structure Ends where
 nx:St->Hp->Prop
 rt:VK
 bk:St->Hp->Prop:=fun _ _=>False
 ct:St->Hp->Prop:=fun _ _=>False
abbrev TS:=Ends->St->Hp->Prop
def EP (X:Cx)(pins:List (Addr×Obj))(σ:St)(Q:VK)(u:Value)(s':Shared):Prop:=∃v H',Inv X pins σ H' s'/\RelV v u/\Q v H'
def TP (X:Cx)(pins:List (Addr×Obj))(σ:St)(Q:Bool->Hp->Prop)(b:Bool)(s':Shared):Prop:=∃H',Inv X pins σ H' s'/\Q b H'
def AP (X:Cx)(pins:List (Addr×Obj))(σ:St)(Q:List V->Hp->Prop)(us:List Value)(s':Shared):Prop:=∃vs H',Inv X pins σ H' s'/\AL vs us/\Q vs H'
def SP (X:Cx)(pins:List (Addr×Obj))(D:Ends)(f:Flow)(s':Shared):Prop:=
 match f with
 | .next=>∃σ' H',Inv X pins σ' H' s'/\D.nx σ' H'
 | .brk=>∃σ' H',Inv X pins σ' H' s'/\D.bk σ' H'
 | .cont=>∃σ' H',Inv X pins σ' H' s'/\D.ct σ' H'
 | .ret u=>∃v σ' H',Inv X pins σ' H' s'/\RelV v u/\D.rt v H'
def PE (X:Cx)(e:Expr)(t:TE):Prop:=
 ∀(pins:List (Addr×Obj)) (s:Shared) (σ:St) (H:Hp) (Q:VK),Inv X pins σ H s->t σ H Q->wpAny (model X.prog X.w) X.A (eval e X.env) (EP X pins σ Q) X.xe s
def PT (X:Cx)(e:Expr)(t:TT):Prop:=
 ∀(pins:List (Addr×Obj)) (s:Shared) (σ:St) (H:Hp) (Q:Bool->Hp->Prop),Inv X pins σ H s->t σ H Q->wpAny (model X.prog X.w) X.A (isTrue e X.env (eval e X.env)) (TP X pins σ Q) X.xe s
def PW (X:Cx)(e:Expr)(t:TT):Prop:=
 ∀(whole:Sem Value) (pins:List (Addr×Obj)) (s:Shared) (σ:St) (H:Hp) (Q:Bool->Hp->Prop),Inv X pins σ H s->t σ H Q->wpAny (model X.prog X.w) X.A (isTrue e X.env whole) (TP X pins σ Q) X.xe s
theorem PW.pt {X:Cx}{e:Expr}{t:TT}(h:PW X e t):PT X e t:=h _
def PA (X:Cx)(es:List Expr)(t:TA):Prop:=
 ∀(pos:Pos) (pins:List (Addr×Obj)) (s:Shared) (σ:St) (H:Hp) (Q:List V->Hp->Prop),Inv X pins σ H s->t σ H Q->wpAny (model X.prog X.w) X.A (spliced (backTo pos (starEach es X.env))) (AP X pins σ Q) X.xe s
def PS (X:Cx)(st:Stmt)(t:TS):Prop:=
 ∀(pins:List (Addr×Obj)) (s:Shared) (σ:St) (H:Hp) (D:Ends),Inv X pins σ H s->t D σ H->wpAny (model X.prog X.w) X.A (exec st X.env) (SP X pins D) X.xe s
def Qp (X:Cx)(st:List Stmt)(t:TS):Prop:=
 ∀(pins:List (Addr×Obj)) (s:Shared) (σ:St) (H:Hp) (D:Ends),Inv X pins σ H s->t D σ H->wpAny (model X.prog X.w) X.A (execs st X.env) (SP X pins D) X.xe s
theorem Br {α:Type}{t:Sem α}{Q Q':α->Shared->Prop}{M:Model}{A:Around}{E:Value->Shared->Prop}{s:Shared}(h:wpAny M A t Q E s)(hQ:∀a s,Q a s->Q' a s):wpAny M A t Q' E s:=wpAny_mono h hQ fun _ _ x=>x
section
variable {X:Cx}
def RM (i:Nat):TE:=fun σ H Q=>∃v,σ[i]?=some (some v)/\Q v H
def tC (v:V):TE:=fun _ H Q=>Q v H
theorem XZ {i:Nat}{x:Str}{pos:Pos}(hN:X.N[i]?=some x)(hv:YZ X.env.scope x)(hd:(x == ("__debug__":Str))=false:=by decide)(hcd:(x == ("__classdict__":Str))=false:=by decide):PE X (.Name x pos) (RM i):=by
 intro pins s σ H Q I h;obtain⟨v,e,h⟩:=h;obtain⟨m,hn,hl⟩:=I.loc;obtain⟨u,r,l⟩:=hl i x v hN e hv;have fin:EP X pins σ Q u s:=⟨v,H,I,r,h⟩
 rcases l with⟨hk,hm⟩|⟨hk,c,hc,hcell⟩
 ·exact wpAny_Name (wpAny_loadName_local I.ok.kind hk hn hm fin) hd
 ·rcases hk with hk|hk
  ·exact wpAny_Name (wpAny_loadName_cell I.ok.kind hk hc hcell fin) hd
  ·exact wpAny_Name (wpAny_loadName_free I.ok.kind hk hc hcell fin hcd) hd
theorem Ak {i j pos}:PE X (.Constant (.int i) j pos) (tC (.int i)):=fun _ _ _ H _ I h=>wpAny_Constant_int ⟨.int i,H,I.tok _,⟨_,rfl⟩,h⟩
theorem Hh {b j pos}:PE X (.Constant (.bool b) j pos) (tC (.bl b)):=fun _ _ _ H _ I h=>Constant_bool ⟨.bl b,H,I,rfl,h⟩
theorem Fk {j pos}:PE X (.Constant .none j pos) (tC .non):=fun _ _ _ H _ I h=>Constant_none ⟨.non,H,I,rfl,h⟩
theorem L8 {x j pos}:PE X (.Constant (.str x) j pos) (tC (.str x)):=fun _ _ _ H _ I h=>Calls.Constant_str ⟨.str x,H,I.tok _,⟨_,rfl⟩,h⟩
def Gl (X:Cx)(x:Str):Prop:=X.env.kindOf x=some .globalImplicit
theorem Jp {E:Value->Shared->Prop} {pins:List (Addr×Obj)} {s:Shared} {σ:St} {H:Hp} {x:Str} {u:Value} {pos:Pos} {Q:Value->Shared->Prop} (I:Inv X pins σ H s) (hg:Gl X x) (hm:X.mg x=some u) (h:Q u s)
  (hd:(x == ("__debug__":Str))=false:=by decide):wpAny (model X.prog X.w) X.A (eval (.Name x pos) X.env) Q E s:=
 Calls.Name_function_global I.ok.kind hg (Calls.loadGlobal_global (by rw[I.ok.glob];exact I.mod.glob.keeps I.bk) hm h) hd
theorem Km {E:Value->Shared->Prop} {pins:List (Addr×Obj)} {s:Shared} {σ:St} {H:Hp} {x:Str} {u:Value} {pos:Pos} {Q:Value->Shared->Prop} (I:Inv X pins σ H s) (hg:Gl X x) (hm:X.mg x=none) (hv:bootBuiltins x=some u) (h:Q u s)
  (hn:x≠"__name__":=by decide) (hd:(x == ("__debug__":Str))=false:=by decide):wpAny (model X.prog X.w) X.A (eval (.Name x pos) X.env) Q E s:=by
 obtain⟨mb,h1,h2⟩:=I.mod.blt;exact Calls.Name_function_global I.ok.kind hg (Calls.loadGlobal_builtin (by rw[I.ok.glob];exact I.mod.glob.keeps I.bk) hm (by rw[I.ok.blt];exact h1.keeps I.bk) ((h2 x hn).trans hv) h) hd
theorem Ri {x:Str}{v:V}{u:Value}{pos:Pos}(hg:Gl X x)(hm:X.mg x=some u)(r:RelV v u)(hd:(x == ("__debug__":Str))=false:=by decide):PE X (.Name x pos) (tC v):=
 fun _ _ _ H _ I h=>Jp I hg hm ⟨v,H,I,r,h⟩ hd
theorem Vw {x:Str}{v:V}{u:Value}{pos:Pos}(hg:Gl X x)(hm:X.mg x=none)(hv:bootBuiltins x=some u)(r:RelV v u)(hn:x≠"__name__":=by decide)(hd:(x == ("__debug__":Str))=false:=by decide):PE X (.Name x pos) (tC v):=
 fun _ _ _ H _ I h=>Km I hg hm hv ⟨v,H,I,r,h⟩ hn hd
variable {a b:Expr}{ta tb:TE}{pos:Pos}
def PC (X:Cx)(op:CmpOp)(a b:Expr)(t:TE):Prop:=
 ∀(pins:List (Addr×Obj)) (s:Shared) (σ:St) (H:Hp) (Q:VK),Inv X pins σ H s->t σ H Q->
  wpAny (model X.prog X.w) X.A (eval a X.env) (fun v s₁=>wpAny (model X.prog X.w) X.A (eval b X.env) (fun u s₂=>wpAny (model X.prog X.w) X.A (compareOp op v u) (EP X pins σ Q) X.xe s₂) X.xe s₁) X.xe s
theorem Df (b:Expr){op:CmpOp}(h:op≠.In)(h2:op≠.NotIn):behindInMarks op b=false:=by
 have e1:(op == CmpOp.In)=false:=by cases op<;>first|rfl|exact absurd rfl h
 have e2:(op == CmpOp.NotIn)=false:=by cases op<;>first|rfl|exact absurd rfl h2
 cases b<;>simp[behindInMarks,e1,e2]
def YO (ta:TE):TE:=fun σ H Q=>ta σ H fun x H1=>Q (.bl (decide (x=.non))) H1
def Yi (ta:TE):TE:=fun σ H Q=>ta σ H fun x H1=>Q (.bl (!decide (x=.non))) H1
theorem RelV.none_iff {x:V}{v:Value}(r:RelV x v):(v == Value.none)=decide (x=.non):=by
 cases x with
 |non=>cases r;rfl
 |bl _=>cases r;rfl
 |int _=>obtain⟨t,rfl⟩:=r;rfl
 |str _=>obtain⟨t,rfl⟩:=r;rfl
 |byt _=>obtain⟨t,rfl⟩:=r;rfl
 |flt _=>obtain⟨t,rfl⟩:=r;rfl
 |ref _=>cases r;rfl
 |ty _=>cases r;rfl
theorem Pt {j pos'}(ha:PE X a ta):PC X .Is a (.Constant .none j pos') (YO ta):=by
 intro pins s σ H Q I h;refine Br (ha pins s σ H _ I h) fun v s1 ⟨x,H1,I1,r1,q1⟩=>?_
 exact Constant_none (is_none_gen ⟨.bl _,H1,I1,by rw[r1.none_iff];rfl,q1⟩)
theorem NU {j pos'}(ha:PE X a ta):PC X .IsNot a (.Constant .none j pos') (Yi ta):=by
 intro pins s σ H Q I h;refine Br (ha pins s σ H _ I h) fun v s1 ⟨x,H1,I1,r1,q1⟩=>?_
 exact Constant_none (isnot_none_gen ⟨.bl _,H1,I1,by rw[r1.none_iff];rfl,q1⟩)
def tB (t:TE):TT:=fun σ H Q=>t σ H fun x H1=>∃c,x=.bl c/\Q c H1
theorem GB {op:CmpOp}{t:TE}(h:PC X op a b t)(h1:behindInMarks op b=false:=by first|exact Df _ (by decide) (by decide)|rfl):PT X (.Compare a [op] [b] pos) (tB t):=by
 intro pins s σ H Q I hw;refine wpAny_isTrue_Compare1 (Br (h pins s σ H _ I hw) fun v s1 h1=>Br h1 fun u s2 h2=>Br h2 fun c s3 ⟨x,H1,I1,r1,q1⟩=>?_) h1;obtain⟨d,rfl,q⟩:=q1;cases r1;exact wpAny_truthy_bool ⟨H1,I1,q⟩
theorem BK {e:Expr}{t:TE}(h:PE X e t)(he:∀whole,isTrue e X.env whole=(do let v <-whole;standAt e.pos;holding [v] (truthy v)):=by intro _;rfl):PT X e (tB t):=by
 intro pins s σ H Q I hw;refine isTrue_plain (Br (h pins s σ H _ I hw) fun v s1 ⟨x,H1,I1,r1,q1⟩=>?_) (he _);obtain⟨d,rfl,q⟩:=q1;cases r1;exact wpAny_truthy_bool ⟨H1,I1,q⟩
variable {tA tB':TT}{rest:List Expr}
def WY (t u:TT):TT:=fun σ H Q=>t σ H fun c H1=>if c=true then u σ H1 Q else Q false H1
def YD (t u:TT):TT:=fun σ H Q=>t σ H fun c H1=>if c=true then Q true H1 else u σ H1 Q
def YX (t:TT):TT:=fun σ H Q=>t σ H fun c H1=>Q (!c) H1
theorem Nw (ha:PT X a tA):PW X (.BoolOp .And [a] pos) tA:=by
 intro wh pins s σ H Q I h;refine isTrue_and (Br (ha pins s σ H Q I h) fun c s1 e=>?_);cases c with
 |true=>exact isTrue_and_nil e
 |false=>exact e
theorem Fc (ha:PT X a tA):PW X (.BoolOp .Or [a] pos) tA:=by
 intro wh pins s σ H Q I h;refine isTrue_or (Br (ha pins s σ H Q I h) fun c s1 e=>?_);cases c with
 |false=>exact isTrue_or_nil e
 |true=>exact e
theorem PN (ha:PT X a tA)(hb:PW X (.BoolOp .And (b::rest) pos) tB'):PW X (.BoolOp .And (a::b::rest) pos) (WY tA tB'):=by
 intro wh pins s σ H Q I h;refine isTrue_and (Br (ha pins s σ H _ I h) fun c s1 ⟨H1,I1,q1⟩=>?_);cases c with
 |true=>exact hb wh pins s1 σ H1 Q I1 q1
 |false=>exact⟨H1,I1,q1⟩
theorem Hf (ha:PT X a tA)(hb:PW X (.BoolOp .Or (b::rest) pos) tB'):PW X (.BoolOp .Or (a::b::rest) pos) (YD tA tB'):=by
 intro wh pins s σ H Q I h;refine isTrue_or (Br (ha pins s σ H _ I h) fun c s1 ⟨H1,I1,q1⟩=>?_);cases c with
 |true=>exact⟨H1,I1,q1⟩
 |false=>exact hb wh pins s1 σ H1 Q I1 q1
theorem Cd (ha:PT X a tA):PT X (.UnaryOp .Not a pos) (YX tA):=by
 intro pins s σ H Q I h;exact isTrue_not (ha pins s σ H (fun c H1=>Q (!c) H1) I h)
def Ww (ta tb:TE):TE:=fun σ H Q=>ta σ H fun x H1=>∃c,x=.bl c/\if c=true then tb σ H1 Q else Q (.bl false) H1
def X5 (ta:TE):TE:=fun σ H Q=>ta σ H fun x H1=>∃c,x=.bl c/\Q (.bl (!c)) H1
theorem FL {op}{t:TE}(h:PE X a t):PE X (.BoolOp op [a] pos) t:=fun pins s σ H Q I hw=>BoolOp_one (h pins s σ H Q I hw)
theorem ED (ha:PE X a ta)(hb:PE X (.BoolOp .And (b::rest) pos) tb):PE X (.BoolOp .And (a::b::rest) pos) (Ww ta tb):=by
 intro pins s σ H Q I h;refine BoolOp_and (Br (ha pins s σ H _ I h) fun v s1 ⟨x,H1,I1,r1,q1⟩=>?_);obtain⟨c,rfl,q1⟩:=q1;cases r1;refine wpAny_truthy_bool ?_;cases c with
 |true=>exact hb pins s1 σ H1 Q I1 q1
 |false=>exact⟨.bl false,H1,I1,rfl,q1⟩
theorem XM (ha:PE X a ta):PE X (.UnaryOp .Not a pos) (X5 ta):=by
 intro pins s σ H Q I h;refine UnaryOp_ (Br (ha pins s σ H _ I h) fun v s1 ⟨x,H1,I1,r1,q1⟩=>?_);obtain⟨c,rfl,q1⟩:=q1;cases r1;exact not_of (wpAny_truthy_bool ⟨.bl (!c),H1,I1,rfl,q1⟩)
def Zo (t:TT)(ta tb:TE):TE:=fun σ H Q=>t σ H fun c H1=>if c=true then ta σ H1 Q else tb σ H1 Q
theorem OQ {c:Expr}(hc:PT X c tA)(ha:PE X a ta)(hb:PE X b tb):PE X (.IfExp c a b pos) (Zo tA ta tb):=by
 intro pins s σ H Q I h;refine wpAny_IfExp (Br (hc pins s σ H _ I h) fun d s1 ⟨H1,I1,q1⟩=>?_);cases d with
 |true=>exact ha pins s1 σ H1 Q I1 q1
 |false=>exact hb pins s1 σ H1 Q I1 q1
end
def AO (K:PySem.W.Frag)(H:Hp)(a:Addr)(xs:List V):Prop:=
 Rd H a (.lst xs)\/
  ∃(o:Obj) (its:Array Value) (n:Nat),K.lookup a=some o/\o.cls=.type "list"/\o.dict=none/\o.data=.seq its n/\its.size<=sizeLine/\AL xs its.toList
def AW (K:PySem.W.Frag)(H:Hp)(a:Addr)(xs:List V):Prop:=
 Rd H a (.tup xs)\/
  ∃(o:Obj) (its:Array Value) (n:Nat),K.lookup a=some o/\o.cls=.type "tuple"/\o.data=.seq its n/\its.size<=sizeLine/\AL xs its.toList
def Zd:Value->Option V
 | .none=>some .non
 | .bool b=>some (.bl b)
 | .int i _=>some (.int i)
 | .str x _=>some (.str x)
 | .bytes b _=>some (.byt b)
 | .float b _=>some (.flt b)
 | .ref a=>some (.ref a)
 | .type n=>some (.ty n)
 |_=>none
theorem RelV.abs {x:V}{u:Value}(r:RelV x u):Zd u=some x:=by
 cases x with
 |non=>cases r;rfl
 |bl _=>cases r;rfl
 |int _=>obtain⟨t,rfl⟩:=r;rfl
 |str _=>obtain⟨t,rfl⟩:=r;rfl
 |byt _=>obtain⟨t,rfl⟩:=r;rfl
 |flt _=>obtain⟨t,rfl⟩:=r;rfl
 |ref _=>cases r;rfl
 |ty _=>cases r;rfl
theorem RelV.inj {x y:V}{u:Value}(r:RelV x u)(q:RelV y u):x=y:=Option.some.inj (r.abs.symm.trans q.abs)
theorem AL.inj:∀{xs ys:List V} {us:List Value},AL xs us->AL ys us->xs=ys
 |_,_,_,.nil,.nil=>rfl
 |_,_,_,.cons r t,.cons r' t'=>by rw[r.inj r',AL.inj t t']
section
variable {X:Cx}{pins:List (Addr×Obj)}{σ:St}{H:Hp}{s:Shared}{a:Addr}{xs ys:List V}
theorem AO.of {K:PySem.W.Frag}(h:H a=some (.lst xs)):AO K H a xs:=.inl (.inl h)
theorem AW.of {K:PySem.W.Frag}(h:H a=some (.tup xs)):AW K H a xs:=.inl (.inl h)
theorem Inv.list (I:Inv X pins σ H s)(h:AO X.K H a xs):∃its:List Value,AL xs its/\PlainL s.heap a its.toArray/\xs.length<=sizeLine:=by
 rcases h with h|⟨o,its,n,hk,hc,hd,hs,hz,r⟩
 ·obtain⟨z,its,n,r,e⟩:=h.ok I.hok;exact⟨its,r,⟨_,n,e,rfl,rfl,rfl⟩,z⟩
 ·refine⟨its.toList,r,⟨o,n,I.kIn a o hk,hc,hd,by simpa using hs⟩,?_⟩;have e:=r.length;simp only[Array.length_toList] at e;omega
theorem Inv.tuple (I:Inv X pins σ H s)(h:AW X.K H a xs):∃its:List Value,AL xs its/\IsTup s.heap a its.toArray/\xs.length<=sizeLine:=by
 rcases h with h|⟨o,its,n,hk,hc,hs,hz,r⟩
 ·obtain⟨z,its,r,p⟩:=h.ok I.hok;exact⟨its,r,p,z⟩
 ·refine⟨its.toList,r,⟨o,I.kIn a o hk,hc,n,by simpa using hs⟩,?_⟩;have e:=r.length;simp only[Array.length_toList] at e;omega
theorem Inv.list_inj (I:Inv X pins σ H s)(h:AO X.K H a xs)(h':AO X.K H a ys):xs=ys:=by
 obtain⟨its,r,⟨o,n,e,_,_,d⟩,_⟩:=I.list h;obtain⟨its',r',⟨o',n',e',_,_,d'⟩,_⟩:=I.list h';rw[e] at e';cases e';rw[d] at d';injection d' with d1 _
 have:its=its':=by simpa using congrArg Array.toList d1
 subst this;exact r.inj r'
theorem Inv.tuple_inj (I:Inv X pins σ H s)(h:AW X.K H a xs)(h':AW X.K H a ys):xs=ys:=by
 obtain⟨its,r,⟨o,e,_,n,d⟩,_⟩:=I.tuple h;obtain⟨its',r',⟨o',e',_,n',d'⟩,_⟩:=I.tuple h';rw[e] at e';cases e';rw[d] at d';injection d' with d1 _
 have:its=its':=by simpa using congrArg Array.toList d1
 subst this;exact r.inj r'
end
abbrev Cx.wish (X:Cx)(E:Value->Shared->Prop):Cx:={ X with xe:=E }
abbrev Cx.nox (X:Cx):Cx:=X.wish fun _ _=>False
theorem Cx.Ok.wish {X:Cx}(ok:X.Ok)(E:Value->Shared->Prop):(X.wish E).Ok:=
 ⟨ok.mod,ok.kind,ok.glob,ok.blt,ok.above,ok.inj,ok.has,ok.cab,ok.hd,ok.frames,ok.stk,ok.exf,ok.bs,ok.bsz,ok.noex,ok.exfs,ok.funs,ok.frf⟩
theorem Cx.Ok.unwish {X:Cx}{E:Value->Shared->Prop}(ok:(X.wish E).Ok):X.Ok:=
 ⟨ok.mod,ok.kind,ok.glob,ok.blt,ok.above,ok.inj,ok.has,ok.cab,ok.hd,ok.frames,ok.stk,ok.exf,ok.bs,ok.bsz,ok.noex,ok.exfs,ok.funs,ok.frf⟩
section
variable {X:Cx}{pins:List (Addr×Obj)}{σ:St}{H:Hp}{s:Shared}{E:Value->Shared->Prop}
theorem Inv.wish (I:Inv X pins σ H s)(E:Value->Shared->Prop):Inv (X.wish E) pins σ H s:=⟨I.ok.wish E,I.os,I.bare,I.base,I.loc,I.cell,I.free,I.freeC,I.pin,I.hok,I.len⟩
theorem Inv.unwish (I:Inv (X.wish E) pins σ H s):Inv X pins σ H s:=⟨I.ok.unwish,I.os,I.bare,I.base,I.loc,I.cell,I.free,I.freeC,I.pin,I.hok,I.len⟩
theorem SP.unwish {D:Ends}{f:Flow}{s':Shared}(h:SP (X.wish E) pins D f s'):SP X pins D f s':=by
 cases f with
 |next=>obtain⟨σ',H',I,q⟩:=h;exact⟨σ',H',I.unwish,q⟩
 |brk=>obtain⟨σ',H',I,q⟩:=h;exact⟨σ',H',I.unwish,q⟩
 |cont=>obtain⟨σ',H',I,q⟩:=h;exact⟨σ',H',I.unwish,q⟩
 |ret u=>obtain⟨v,σ',H',I,r,q⟩:=h;exact⟨v,σ',H',I.unwish,r,q⟩
theorem PE.nox {e:Expr}{t:TE}(h:PE X.nox e t):PE X e t:=fun pins s σ H Q I hw=>
 wpAny_mono (h pins s σ H Q (I.wish _) hw) (fun _ _ ⟨v,H',I',r,q⟩=>⟨v,H',I'.unwish,r,q⟩) fun _ _ z=>False.elim z
theorem PT.nox {e:Expr}{t:TT}(h:PT X.nox e t):PT X e t:=fun pins s σ H Q I hw=>
 wpAny_mono (h pins s σ H Q (I.wish _) hw) (fun _ _ ⟨H',I',q⟩=>⟨H',I'.unwish,q⟩) fun _ _ z=>False.elim z
theorem Qp.nox {st:List Stmt}{t:TS}(h:Qp X.nox st t):Qp X st t:=fun pins s σ H D I hw=>
 wpAny_mono (h pins s σ H D (I.wish _) hw) (fun _ _ q=>q.unwish) fun _ _ z=>False.elim z
end
section
variable {X:Cx}{st:Stmt}{rest:List Stmt}{t u:TS}{e:Expr}{te:TE}{pos:Pos}
def Pi:TS:=fun D σ H=>D.nx σ H
def Xp (t u:TS):TS:=fun D σ H=>t { D with nx:=u D } σ H
theorem Aw:Qp X [] Pi:=fun _ _ σ H _ I h=>wpAny_execs_nil ⟨σ,H,I,h⟩
theorem Ah (h1:PS X st t)(h2:Qp X rest u):Qp X (st::rest) (Xp t u):=by
 intro pins s σ H D I h;refine wpAny_execs_cons (Br (h1 pins s σ H { D with nx:=u D } I h) fun f s1 q=>?_);cases f with
 |next=>
  obtain⟨σ',H',I',q⟩:=q;exact h2 pins s1 σ' H' D I' q
 |ret v=>exact q
 |brk=>exact q
 |cont=>exact q
theorem Al (h1:PS X st t):Qp X [st] t:=by
 intro pins s σ H D I h;refine wpAny_execs_cons (Br (h1 pins s σ H D I h) fun f s1 q=>?_);cases f with
 |next=>exact wpAny_execs_nil q
 |ret v=>exact q
 |brk=>exact q
 |cont=>exact q
theorem Inv.quiet {pins:List (Addr×Obj)}{σ:St}{H:Hp}{s:Shared}(I:Inv X pins σ H s):interactive X.env=false:=by simp[interactive,I.ok.kind]
def Yk (te:TE):TS:=fun D σ H=>te σ H fun _ H1=>D.nx σ H1
theorem Bb (he:PE X e te)(hs:swapsWith e none pos.line X.env=pure false:=by rfl):PS X (.Expr e pos) (Yk te):=by
 intro pins s σ H D I h;exact wpAny_Expr_any (Br (he pins s σ H _ I h) fun v s1 ⟨x,H1,I1,r1,q1⟩=>⟨σ,H1,I1,q1⟩) I.quiet hs
def X8 (te:TE):TS:=fun D σ H=>te σ H D.rt
theorem An (he:PE X e te):PS X (.Return (some e) pos) (X8 te):=by
 intro pins s σ H D I h;exact wpAny_Return_some (Br (he pins s σ H _ I h) fun v s1 ⟨x,H1,I1,r1,q1⟩=>⟨x,σ,H1,I1,r1,q1⟩)
def V6 (c:TT)(t u:TS):TS:=fun D σ H=>c σ H fun b H1=>if b=true then t D σ H1 else u D σ H1
theorem AS {c:Expr}{a b:List Stmt}{tc:TT}(hc:PT X c tc)(ha:Qp X a t)(hb:Qp X b u):PS X (.If c a b pos) (V6 tc t u):=by
 intro pins s σ H D I h;refine wpAny_If (Br (hc pins s σ H _ I h) fun d s1 ⟨H1,I1,q1⟩=>?_);cases d with
 |true=>exact ha pins s1 σ H1 D I1 q1
 |false=>exact hb pins s1 σ H1 D I1 q1
def XX:TS:=fun _ _ _=>False
theorem C9:PS X st XX:=fun _ _ _ _ _ _ h=>h.elim
end
abbrev TG:=V->St->Hp->(St->Hp->Prop)->Prop
abbrev WL:=List V->St->Hp->(St->Hp->Prop)->Prop
def PG (X:Cx)(target:Expr)(t:TG):Prop:=
 ∀(pins:List (Addr×Obj)) (s:Shared) (σ:St) (H:Hp) (v:V) (u:Value) (Q:St->Hp->Prop),Inv X pins σ H s->RelV v u->t v σ H Q->
  wpAny (model X.prog X.w) X.A (assign target X.env u) (fun _ s'=>∃σ' H',Inv X pins σ' H' s'/\Q σ' H') X.xe s
def X4 (X:Cx)(ts:List Expr)(t:WL):Prop:=
 ∀(pins:List (Addr×Obj)) (s:Shared) (σ:St) (H:Hp) (vs:List V) (us:List Value) (Q:St->Hp->Prop),Inv X pins σ H s->AL vs us->t vs σ H Q->
  wpAny (model X.prog X.w) X.A (assignInOrder ((assignEach ts X.env).map (·.2)) us) (fun _ s'=>∃σ' H',Inv X pins σ' H' s'/\Q σ' H') X.xe s
section
variable {X:Cx}{pos:Pos}
def Ci (i:Nat):TG:=fun v σ H Q=>Q (σ.set i (some v)) H
theorem Aq {i:Nat}{x:Str}(hN:X.N.Nodup)(hi:X.N[i]?=some x)(hx:Loc X.env.scope x)(hf:X.fn x=true\/X.env.scope.names.lookup x=some .local:=by first|exact .inl rfl|exact .inr rfl|assumption):PG X (.Name x pos) (Ci i):=by
 intro pins s σ H v u Q I r h;exact wpAny_assign_Name (Lv I hN hi hx r (fun s' I'=>⟨_,H,I',h⟩) hf)
def QO:WL:=fun vs σ H Q=>vs=[]/\Q σ H
def Fj (t:TG)(u:WL):WL:=fun vs σ H Q=>∃v r,vs=v::r/\t v σ H fun σ' H'=>u r σ' H' Q
theorem BO:X4 X [] QO:=by
 intro pins s σ H vs us Q I r h;obtain⟨e,h⟩:=h;subst e;cases r;exact assignInOrder_nil ⟨σ,H,I,h⟩
theorem AD {e:Expr} {es:List Expr} {t:TG} {u:WL} (h1:PG X e t) (h2:X4 X es u)
  (hs:(assignEach (e::es) X.env).map (·.2)=assign e X.env::(assignEach es X.env).map (·.2):=by rfl):X4 X (e::es) (Fj t u):=by
 intro pins s σ H vs us Q I r h;obtain⟨v,vr,e1,h⟩:=h;subst e1;cases r with
 |cons r rr=>
  rw[hs];refine assignInOrder_cons (Br (h1 pins s σ H _ _ _ I r h) fun _ s1 ⟨σ1,H1,I1,q1⟩=>?_);exact h2 pins s1 σ1 H1 _ _ Q I1 rr q1
def Pg (K:PySem.W.Frag)(n:Nat)(t:WL):TG:=fun v σ H Q=>∃a xs,v=.ref a/\AW K H a xs/\xs.length=n/\t xs σ H Q
theorem NW {es:List Expr} {k:Nat} {t:WL} {n:Nat} (hc:X.calm=true) (h:X4 X es t)
  (hn:(assignEach es X.env).length=n:=by rfl) (hst:(assignEach es X.env).findIdx? (·.1)=none:=by rfl):PG X (.Tuple es k pos) (Pg X.K n t):=by
 intro pins s σ H v u Q I r hw;obtain⟨a,xs,e1,hq,hl,hw⟩:=hw;subst e1;cases r;obtain⟨its,rv,ht,hz⟩:=I.tuple hq;refine assign_Tuple_tuple (I.ok.hd hc) ht (by simp[hn,<-hl,rv.length]) hst fun h' hx=>?_
 have I1:Inv X pins σ H { s with heap:=h' }:=I.kept (t':=s.toks) fun b o e=>hx b o (Nat.ne_of_lt (Heap.lt_size e)) e
 exact h pins _ σ H xs _ Q I1 (by simpa using rv) hw
def Vz (te:TE)(g:TG):TS:=fun D σ H=>te σ H fun x H1=>g x σ H1 D.nx
theorem AG {i:Nat}{x:Str}{e:Expr}{te:TE}{pos':Pos}(hN:X.N.Nodup)(hi:X.N[i]?=some x)(hx:Loc X.env.scope x)(he:PE X e te)(hs:swapsWith e (some (.Name x pos')) pos.line X.env=pure false:=by rfl)(hf:X.fn x=true\/X.env.scope.names.lookup x=some .local:=by first|exact .inl rfl|exact .inr rfl|assumption) :
  PS X (.Assign [.Name x pos'] e pos) (Vz te (Ci i)):=by
 intro pins s σ H D I h;refine wpAny_Assign_Name (Br (he pins s σ H _ I h) fun v s1 ⟨y,H1,I1,r1,q1⟩=>?_) hs;exact Lv I1 hN hi hx r1 (fun s2 I2=>⟨_,H1,I2,q1⟩) hf
end
section
variable {X:Cx}{pos:Pos}
def Xh (c:TT)(tb:TS):TS:=fun D σ H=>∃W:Nat->St->Hp->Prop,(∃m,W m σ H)/\∀m σ H,W m σ H->
 c σ H fun b H1=>if b=true then ∃N:St->Hp->Prop,(∀σ' H',N σ' H'->∃m',m'<m/\W m' σ' H')/\tb { D with nx:=N,ct:=N,bk:=D.nx } σ H1 else D.nx σ H1
theorem L9 {c:Expr}{body:List Stmt}{tc:TT}{tb:TS}(hp:PassesOwn (model X.prog X.w) X.A X.env X.xe)(hc:PT X c tc)(hb:Qp X body tb):PS X (.While c body [] pos) (Xh tc tb):=by
 intro pins s σ H D I h;obtain⟨W,⟨m0,w0⟩,turn⟩:=h;refine wpAny_While (codeAny_whileLoop (fun n s'=>∃σ' H',Inv X pins σ' H' s'/\W n σ' H') ?_ m0 ⟨σ,H,I,w0⟩)
 rintro n s1 ⟨σ1,H1,I1,w1⟩
 refine wpAny_passesOwn hp (Br (hc pins s1 σ1 H1 _ I1 (turn n σ1 H1 w1)) fun b s2 ⟨H2,I2,q2⟩=>?_);cases b with
 |true=>
  obtain⟨N,hN,q2⟩:=q2;rw[if_pos rfl];refine wpAny_passesOwn hp (Br (hb pins s2 σ1 H2 _ I2 q2) fun f s3 q3=>?_);cases f with
  |next=>
   obtain⟨σ3,H3,I3,n3⟩:=q3;obtain⟨m',hm,w3⟩:=hN σ3 H3 n3;exact⟨m',hm,σ3,H3,I3,w3⟩
  |cont=>
   obtain⟨σ3,H3,I3,n3⟩:=q3;obtain⟨m',hm,w3⟩:=hN σ3 H3 n3;exact⟨m',hm,σ3,H3,I3,w3⟩
  |brk=>exact q3
  |ret v=>exact q3
 |false=>
  rw[if_neg Bool.false_ne_true];exact wpAny_execs_nil ⟨σ1,H2,I2,q2⟩
end
structure It where
 go:Nat->Hp->Prop
 yld:Nat->Hp->V->Hp->Prop
 stop:Nat->Hp->Prop
def JD (X:Cx)(pins:List (Addr×Obj))(H:Hp)(b:Addr):Prop:=
 H b=none/\b≠X.env.locals/\b∉X.fs/\(b∈X.ex\/X.s₀.heap.objs.size<=b)/\(∀x c,X.env.cells.lookup x=some c->c≠b)/\∀p∈X.pn++pins,p.1≠b
theorem Inv.fpOk {X:Cx}{pins:List (Addr×Obj)}{σ:St}{H H':Hp}{s:Shared}{b:Addr}(I:Inv X pins σ H s)(hb:s.heap.objs.size<=b)(hn:H' b=none):JD X pins H' b:=by
 refine⟨hn,Nat.ne_of_gt (Nat.lt_of_lt_of_le I.lt hb),I.nofs hb,.inr (Nat.le_trans I.sz hb),fun x c e z=>?_,fun p hp z=>?_⟩
 ·obtain⟨v,q⟩:=I.cell x c e;exact absurd (Nat.lt_of_lt_of_le q.lt (by rw[z];exact hb)) (Nat.lt_irrefl _)
 ·exact absurd (Nat.lt_of_lt_of_le (Heap.lt_size (I.pin p hp).1) (by rw[z];exact hb)) (Nat.lt_irrefl _)
structure Turn (P:Program) (w:World) (K:PySem.W.Frag) (tg:Expr) (J:It) (fp:List Addr) (it:Addr) (tn:Nat->Heap->Prop):Prop where
 mem:it∈fp
 obj:∀i h,tn i h->∀b∈fp,∃o,h.get? b=some o/\∀v,o.data≠.cell v
 keep:∀i h h',tn i h->(∀b∈fp,∀o,h.get? b=some o->h'.get? b=some o)->tn i h'
 item:∀(X:Cx),X.prog=P->X.w=w->X.K=K->X.calm=true->∀(i:Nat) (pins:List (Addr×Obj)) (s:Shared) (σ:St) (H:Hp) (E:Value->Shared->Prop),Inv X pins σ H s->(∀b∈fp,JD X pins H b)->tn i s.heap->J.go i H->
  wpAny (model P w) X.A (pyNext (.ref it)) (fun r s1=>∃u,r=some u/\
   wpAny (model P w) X.A (letOwnedTupleGo tg (.ref it) u) (fun _ s2=>∃x H',Inv X pins σ H' s2/\RelV x u/\J.yld i H x H'/\tn (i+1) s2.heap/\∀b∈fp,H' b=none) E s1) E s
 done:∀(X:Cx),X.prog=P->X.w=w->X.K=K->X.calm=true->∀(i:Nat) (pins:List (Addr×Obj)) (s:Shared) (σ:St) (H:Hp) (E:Value->Shared->Prop),Inv X pins σ H s->(∀b∈fp,JD X pins H b)->tn i s.heap->J.stop i H->
  wpAny (model P w) X.A (pyNext (.ref it)) (fun r s1=>r=none/\Inv X pins σ H s1) E s
 self:∀(A:Around) (i:Nat) (s:Shared) (Q:Value->Shared->Prop) (E:Value->Shared->Prop),tn i s.heap->Q (.ref it) s->wpAny (model P w) A (pyIter (.ref it)) Q E s
abbrev TI:=St->Hp->(It->Hp->Prop)->Prop
def Zk (X:Cx)(pins:List (Addr×Obj))(σ:St)(tg:Expr)(R:It->Hp->Prop)(itv:Value)(s2:Shared):Prop:=
 ∃(it:Addr) (fp:List Addr) (tn:Nat->Heap->Prop) (J:It) (H':Hp),itv=.ref it/\Inv X pins σ H' s2/\Turn X.prog X.w X.K tg J fp it tn/\tn 0 s2.heap/\(∀b∈fp,JD X pins H' b)/\R J H'
def PI (X:Cx)(tg iter:Expr)(wi:TI):Prop:=
 ∀(pins:List (Addr×Obj)) (s:Shared) (σ:St) (H:Hp) (R:It->Hp->Prop),Inv X pins σ H s->wi σ H R->
  wpAny (model X.prog X.w) X.A (eval iter X.env) (fun v s1=>wpAny (model X.prog X.w) X.A (pyIter v) (Zk X pins σ tg R) X.xe s1) X.xe s
theorem OV {M:Model} {A:Around} {E:Value->Shared->Prop} {s:Shared} {tg:Expr} {it:Addr} {u:Value} {o:Obj} {n:String} {vs:Array Value} {Q:Unit->Shared->Prop} (ho:s.heap.get? it=some o) (hc:o.cls=.type n) (hd:o.data=.fields vs)
  (hn:["enumerate","zip","dict_itemiterator","dict_reverseitemiterator","odict_iterator","itertools.zip_longest","itertools.pairwise"].contains n=false) (hQ:Q () s):wpAny M A (letOwnedTupleGo tg (.ref it) u) Q E s:=by
 unfold letOwnedTupleGo;cases tg<;>first
  |exact wpAny_pure hQ
  |(cases u<;>first
    |exact wpAny_pure hQ
    |(refine wpAny_bind (wpAny_load ho ?_)
      rw[hc,hd];show wpAny M A (if(["enumerate","zip","dict_itemiterator","dict_reverseitemiterator","odict_iterator","itertools.zip_longest","itertools.pairwise"].contains n&&vs[0]? == some (rawInt _))=true then _ else _) Q E s;rw[if_neg (by intro h;rw[hn,Bool.false_and] at h;cases h)];exact wpAny_pure hQ))
def Vc (K:PySem.W.Frag)(a:Addr):It:=
 ⟨fun i H=>∃xs x,AO K H a xs/\xs[i]?=some x,fun i H x H'=>H'=H/\∀xs,AO K H a xs->xs[i]?=some x,fun i H=>∃xs,AO K H a xs/\xs.length<=i⟩
def X3 (K:PySem.W.Frag)(a:Addr):It:=
 ⟨fun i H=>∃xs x,AW K H a xs/\xs[i]?=some x,fun i H x H'=>H'=H/\∀xs,AW K H a xs->xs[i]?=some x,fun i H=>∃xs,AW K H a xs/\xs.length<=i⟩
def Vb (lo:Int)(n:Nat):It:=⟨fun i _=>i<n,fun i H x H'=>H'=H/\x=.int (lo+i),fun i _=>n<=i⟩
theorem RJ {P:Program}{w:World}{K:PySem.W.Frag}{tg:Expr}(a it:Addr):Turn P w K tg (Vc K a) [it] it (fun i h=>h.IsListIter it a i) where
 mem:=by simp
 obj:=fun i h st b hb=>by
  have e:b=it:=by simpa using hb
  subst e;obtain⟨o,e,c,d⟩:=st;exact⟨o,e,fun v z=>by rw[d] at z;cases z⟩
 keep:=fun i h h' st k=>st.at fun o e=>k it (by simp) o e
 item:=by
  intro X hP hw hK hc i pins s σ H E I hf st hg;subst hP hw hK;obtain⟨xs,x,hq,hx⟩:=hg;obtain⟨its,rv,p,hz⟩:=I.list hq;obtain⟨u,hu,ru⟩:=rv.get hx;obtain⟨f0,f1,f2,f3,f4,f5⟩:=hf it (by simp);refine wpAny_pyNext_list_item st p.isList (x:=u) (by simpa using hu) fun h' st' sb=>?_
  have I1:Inv X pins σ H { s with heap:=h' }:=I.turned (t':=s.toks) (fun b o hb e=>(sb.2 b hb).trans e) f0 f1 f3 f4 f5;obtain⟨o,e,c,d⟩:=id st';exact⟨u,rfl,OV (s:={ s with heap:=h' }) e c d (by decide) ⟨x,H,I1,ru,⟨rfl,fun ys hy=>by rw[I.list_inj hy hq];exact hx⟩,st',fun b hb=>(hf b hb).1⟩⟩
 done:=by
  intro X hP hw hK hc i pins s σ H E I hf st hg;subst hP hw hK;obtain⟨xs,hq,hx⟩:=hg;obtain⟨its,rv,p,hz⟩:=I.list hq;obtain⟨f0,f1,f2,f3,f4,f5⟩:=hf it (by simp);have hl:=rv.length;exact wpAny_pyNext_list_end (I.ok.hd hc) st p.isList (by simp;omega) fun h' eb=>⟨rfl,I.turned (t':=s.toks) (fun b o hb e=>eb b o hb e) f0 f1 f3 f4 f5⟩
 self:=fun _ _ _ _ _ st h=>wpAny_pyIter_listiter st h
theorem QN {P:Program}{w:World}{K:PySem.W.Frag}{tg:Expr}(a it:Addr):Turn P w K tg (X3 K a) [it] it (fun i h=>h.IsTupleIter it a i) where
 mem:=by simp
 obj:=fun i h st b hb=>by
  have e:b=it:=by simpa using hb
  subst e;obtain⟨o,e,c,d⟩:=st;exact⟨o,e,fun v z=>by rw[d] at z;cases z⟩
 keep:=fun i h h' st k=>st.at fun o e=>k it (by simp) o e
 item:=by
  intro X hP hw hK hc i pins s σ H E I hf st hg;subst hP hw hK;obtain⟨xs,x,hq,hx⟩:=hg;obtain⟨its,rv,p,hz⟩:=I.tuple hq;obtain⟨u,hu,ru⟩:=rv.get hx;obtain⟨f0,f1,f2,f3,f4,f5⟩:=hf it (by simp);refine wpAny_pyNext_tuple_item st (show s.heap.IsTuple a its.toArray from p) (x:=u) (by simpa using hu) fun h' st' sb=>?_
  have I1:Inv X pins σ H { s with heap:=h' }:=I.turned (t':=s.toks) (fun b o hb e=>(sb.2 b hb).trans e) f0 f1 f3 f4 f5;obtain⟨o,e,c,d⟩:=id st';exact⟨u,rfl,OV (s:={ s with heap:=h' }) e c d (by decide) ⟨x,H,I1,ru,⟨rfl,fun ys hy=>by rw[I.tuple_inj hy hq];exact hx⟩,st',fun b hb=>(hf b hb).1⟩⟩
 done:=by
  intro X hP hw hK hc i pins s σ H E I hf st hg;subst hP hw hK;obtain⟨xs,hq,hx⟩:=hg;obtain⟨its,rv,p,hz⟩:=I.tuple hq;obtain⟨f0,f1,f2,f3,f4,f5⟩:=hf it (by simp);have hl:=rv.length;exact wpAny_pyNext_tuple_end (I.ok.hd hc) st (show s.heap.IsTuple a its.toArray from p) (by simp;omega) fun h' eb=>⟨rfl,I.turned (t':=s.toks) (fun b o hb e=>eb b o hb e) f0 f1 f3 f4 f5⟩
 self:=fun _ _ _ _ _ st h=>wpAny_pyIter_tupleiter st h
theorem Pz {P:Program}{w:World}{K:PySem.W.Frag}{tg:Expr}(it:Addr)(lo:Int)(n:Nat):Turn P w K tg (Vb lo n) [it] it (fun i h=>IsRangeIter h it (lo+(i:Nat)*1) ((n:Int)-(i:Nat)) 1) where
 mem:=by simp
 obj:=fun i h st b hb=>by
  have e:b=it:=by simpa using hb
  subst e;exact⟨_,st,fun v z=>by
   have z':Data.fields _=Data.cell v:=z;cases z'⟩
 keep:=fun i h h' st k=>k it (by simp) _ st
 item:=by
  intro X hP hw hK hc i pins s σ H E I hf st hg;subst hP hw hK;obtain⟨f0,f1,f2,f3,f4,f5⟩:=hf it (by simp);have W:=Walks.range (prog:=X.prog) (w:=X.w) (I.ok.hd hc) it lo 1 n;refine W.item i s _ _ hg st fun v h' tk hv st' kk=>?_
  obtain⟨t,rfl⟩:=hv;have I1:Inv X pins σ H { s with heap:=h',toks:=tk }:=I.turned (fun b o hb e=>kk b o (by simpa using hb) e) f0 f1 f3 f4 f5;refine⟨_,rfl,OV (s:={ s with heap:=h',toks:=tk }) (n:="range_iterator") st' rfl rfl (by decide) ⟨.int (lo+i),H,I1,⟨t,?_⟩,⟨rfl,rfl⟩,st',fun b hb=>(hf b hb).1⟩⟩;rw[Int.mul_one]
 done:=by
  intro X hP hw hK hc i pins s σ H E I hf st hg;subst hP hw hK;obtain⟨f0,f1,f2,f3,f4,f5⟩:=hf it (by simp);exact wpAny_pyNext_range_end (I.ok.hd hc) st (by have:n<=i:=hg;omega) fun h' eb=>⟨rfl,I.turned (t':=s.toks) (fun b o hb e=>eb b o hb e) f0 f1 f3 f4 f5⟩
 self:=fun _ _ _ _ _ st h=>wpAny_pyIter_rangeiter st h
section
variable {X:Cx}{tg:Expr}
def Yb (K:PySem.W.Frag)(tl:TE):TI:=fun σ H R=>tl σ H fun x H1=>∃a,x=.ref a/\(∃xs,AO K H1 a xs)/\R (Vc K a) H1
def YT (K:PySem.W.Frag)(tl:TE):TI:=fun σ H R=>tl σ H fun x H1=>∃a,x=.ref a/\(∃xs,AW K H1 a xs)/\R (X3 K a) H1
theorem Bc {l:Expr}{tl:TE}(hl:PE X l tl):PI X tg l (Yb X.K tl):=by
 intro pins s σ H R I h;refine Br (hl pins s σ H _ I h) fun v s1 ⟨x,H1,I1,r1,q1⟩=>?_
 obtain⟨a,e,⟨xs,hq⟩,q⟩:=q1;subst e;cases r1;obtain⟨its,rv,p,hz⟩:=I1.list hq;refine wpAny_pyIter_list p.isList ?_;refine⟨s1.heap.objs.size,[s1.heap.objs.size],_,_,H1,rfl,I1.kept (t':=s1.toks) fun b o e=>Heap.get?_push_of_some _ e,RJ a _,⟨_,Heap.get?_push_size _ rfl,rfl,rfl⟩,fun b hb=>?_,q⟩;have e:b=s1.heap.objs.size:=by simpa using hb
 subst e;exact I1.fpOk (Nat.le_refl _) (I1.hok.fresh (Nat.le_refl _))
theorem EB {l:Expr}{tl:TE}(hl:PE X l tl):PI X tg l (YT X.K tl):=by
 intro pins s σ H R I h;refine Br (hl pins s σ H _ I h) fun v s1 ⟨x,H1,I1,r1,q1⟩=>?_
 obtain⟨a,e,⟨xs,hq⟩,q⟩:=q1;subst e;cases r1;obtain⟨its,rv,p,hz⟩:=I1.tuple hq;refine wpAny_pyIter_tuple (show s1.heap.IsTuple a its.toArray from p) ?_;refine⟨s1.heap.objs.size,[s1.heap.objs.size],_,_,H1,rfl,I1.kept (t':=s1.toks) fun b o e=>Heap.get?_push_of_some _ e,QN a _,⟨_,Heap.get?_push_size _ rfl,rfl,rfl⟩,fun b hb=>?_,q⟩;have e:b=s1.heap.objs.size:=by simpa using hb
 subst e;exact I1.fpOk (Nat.le_refl _) (I1.hok.fresh (Nat.le_refl _))
theorem To {pins:List (Addr×Obj)} {σ:St} {H:Hp} {s:Shared} {R:It->Hp->Prop} {E:Value->Shared->Prop} {lo hi:Int} {t u v:Tok} {tk:Nat} (I:Inv X pins σ H s) (h1:-(2^62)<=lo) (h2:lo<2^62) (h3:-(2^62)<=hi) (h4:hi<2^62)
  (q:R (Vb lo (hi-lo).toNat) H):wpAny (model X.prog X.w) X.A (pyIter (.ref s.heap.objs.size)) (Zk X pins σ tg R) E { s with heap:=s.heap.push { cls:=.type "range",data:=.fields #[.int lo t,.int hi u,.int 1 v] },toks:=tk }:=by
 refine wpAny_pyIter_range (IsRange.new ..) (small_one h1 h2 h3 h4) ?_;have I1:Inv X pins σ H { s with heap:=s.heap.push { cls:=.type "range",data:=.fields #[.int lo t,.int hi u,.int 1 v] },toks:=tk }:=I.kept fun b o e=>Heap.get?_push_of_some _ e
 refine⟨(s.heap.push { cls:=.type "range",data:=.fields #[.int lo t,.int hi u,.int 1 v] }).objs.size,[(s.heap.push { cls:=.type "range",data:=.fields #[.int lo t,.int hi u,.int 1 v] }).objs.size],_,_,H,rfl,
  I1.kept (t':=tk) fun b o e=>Heap.get?_push_of_some _ e,Pz _ lo (hi-lo).toNat,?_,fun b hb=>?_,q⟩
 ·have e1:lo+((0:Nat):Int)*1=lo:=by simp
  have e2:(((hi-lo).toNat:Nat):Int)-((0:Nat):Int)=Builtin.Range.rangeSize lo hi 1:=by rw[rangeSize_one];split<;>omega
  show IsRangeIter _ _ (lo+((0:Nat):Int)*1) ((((hi-lo).toNat:Nat):Int)-((0:Nat):Int)) 1;rw[e1,e2];exact Heap.get?_push_size _ rfl
 ·have e:b=(s.heap.push { cls:=.type "range",data:=.fields #[.int lo t,.int hi u,.int 1 v] }).objs.size:=by simpa using hb
  subst e;exact I1.fpOk (Nat.le_refl _) (I1.hok.fresh (Nat.le_refl _))
def Yw (ta:TA):TI:=fun σ H R=>ta σ H fun vs H1=>∃j:Int,vs=[.int j]/\-(2^62)<=j/\j<2^62/\R (Vb 0 j.toNat) H1
theorem Ed {a:Expr}{ta:TA}{p pos:Pos}(hg:Gl X "range")(hm:X.mg "range"=none)(ha:PA X [a] ta)(hs:starEach [a] X.env=[(false,eval a X.env)]:=by rfl):PI X tg (.Call (.Name "range" p) [a] [] pos) (Yw ta):=by
 intro pins s σ H R I h;refine Call_ (Km I hg hm boot_range (PyProof.Rows.callWith_type1 (Br (ha pos pins s σ H _ I h) fun us s1 ⟨vs,H1,I1,r1,q1⟩=>?_) hs rfl));obtain⟨j,e,q1,q2,q⟩:=q1;subst e;cases r1 with
 |cons r rr=>
  cases rr;obtain⟨t,rfl⟩:=r;exact call_range_1 (To I1 (by omega) (by omega) q1 q2 (by simpa using q))
def YS (wi:TI)(g:TG)(tb:TS):TS:=fun D σ H=>wi σ H fun J H1=>∃W:Nat->Nat->St->Hp->Prop,(∃m,W 0 m σ H1)/\∀i m σ H,W i m σ H->
 (J.stop i H/\D.nx σ H)\/(J.go i H/\∃N:St->Hp->Prop,(∀σ' H',N σ' H'->∃m',m'<m/\W (i+1) m' σ' H')/\∀x H',J.yld i H x H'->g x σ H' fun σ2 H2=>tb { D with nx:=N,ct:=N,bk:=D.nx } σ2 H2)
def Lr (fp:List Addr)(h:Heap):List (Addr×Obj):=fp.filterMap fun b=>(h.get? b).map fun o=>(b,o)
theorem GX {fp:List Addr}{h:Heap}{b:Addr}{o:Obj}(hb:b∈fp)(e:h.get? b=some o):(b,o)∈Lr fp h:=List.mem_filterMap.mpr ⟨b,hb,by rw[e];rfl⟩
theorem SJ {fp:List Addr}{h:Heap}{p:Addr×Obj}(hp:p∈Lr fp h):p.1∈fp/\h.get? p.1=some p.2:=by
 obtain⟨b,hb,e⟩:=List.mem_filterMap.mp hp;cases q:h.get? b with
 |none=>rw[q] at e;cases e
 |some o=>
  rw[q] at e;have e':(b,o)=p:=Option.some.inj e;subst e';exact⟨hb,q⟩
theorem Inv.pinned {pins:List (Addr×Obj)}{σ:St}{H:Hp}{s:Shared}{fp:List Addr}(I:Inv X pins σ H s)(hf:∀b∈fp,JD X pins H b)(ho:∀b∈fp,∃o,s.heap.get? b=some o/\∀v,o.data≠.cell v):Inv X (pins++Lr fp s.heap) σ H s:=
 I.pins_of fun p hp=>(List.mem_append.mp hp).elim (fun z=>I.pin p (List.mem_append_right _ z)) fun z=>by
  obtain⟨hb,e⟩:=SJ z;obtain⟨f0,f1,f2,_⟩:=hf p.1 hb;obtain⟨o,e',d⟩:=ho p.1 hb;rw[e] at e';cases e';exact⟨e,f0,f1,f2,d⟩
theorem Inv.unpinned {pins pl:List (Addr×Obj)}{σ:St}{H:Hp}{s:Shared}(I:Inv X (pins++pl) σ H s):Inv X pins σ H s:=I.pins_of fun p hp=>I.pin p (List.mem_append_right _ (List.mem_append_left _ hp))
theorem Ck {iter:Expr} {body:List Stmt} {wi:TI} {g:TG} {tb:TS} {pos:Pos} (hp:PassesOwn (model X.prog X.w) X.A X.env X.xe) (hc:X.calm=true) (hi:PI X tg iter wi) (hg:PG X tg g) (hb:Qp X body tb)
  (hs:∀x,foldedSetIterable iter X.env x=pure x:=by intro _;rfl):PS X (.For tg iter body [] pos) (YS wi g tb):=by
 intro pins s σ H D I h;refine wpAny_For (Br (hi pins s σ H _ I h) fun v s1 h1=>Br h1 fun itv s2 h2=>?_) hs;obtain⟨it,fp,tn,J,H2,e,I2,T,st2,f2,W,⟨m0,w0⟩,turn⟩:=h2;subst e;have stat:∀{H':Hp},(∀b∈fp,H' b=none)->∀b∈fp,JD X pins H' b:=fun hn b hb=>⟨hn b hb,(f2 b hb).2⟩
 refine codeAny_forLoop_any (fun n s'=>∃i σ' H',Inv X pins σ' H' s'/\tn i s'.heap/\(∀b∈fp,H' b=none)/\W i n σ' H') ?_ m0 ⟨0,σ,H2,I2,st2,fun b hb=>(f2 b hb).1,w0⟩
 rintro n s3 ⟨i,σ3,H3,I3,st3,fr3,w3⟩
 rcases turn i n σ3 H3 w3 with⟨stop,qn⟩|⟨go,N,hN,step⟩
 ·refine wpAny_passesOwn hp (Br (T.done X rfl rfl rfl hc i pins s3 σ3 H3 X.xe I3 (stat fr3) st3 stop) fun r s4 ⟨hr,I4⟩=>?_);subst hr;exact wpAny_execs_nil ⟨σ3,H3,I4,qn⟩
 ·refine wpAny_passesOwn hp (Br (T.item X rfl rfl rfl hc i pins s3 σ3 H3 X.xe I3 (stat fr3) st3 go) fun r s4 ⟨u,hr,h4⟩=>?_);subst hr;refine wpAny_passesOwn hp (Br h4 fun _ s5 ⟨x,H5,I5,r5,y5,st5,fr5⟩=>?_);have I5':=I5.pinned (stat fr5) (T.obj _ _ st5);refine wpAny_passesOwn hp (Br (hg _ s5 σ3 H5 x u _ I5' r5 (step x H5 y5)) fun _ s6 ⟨σ6,H6,I6,q6⟩=>?_);refine wpAny_passesOwn hp (Br (hb _ s6 σ6 H6 _ I6 q6) fun f s7 q7=>?_);have again:∀{σ7:St} {H7:Hp},Inv X (pins++Lr fp s5.heap) σ7 H7 s7->N σ7 H7->∃m,m<n/\∃i σ' H',Inv X pins σ' H' s7/\tn i s7.heap/\(∀b∈fp,H' b=none)/\W i m σ' H':=fun{σ7 H7} I7 n7=>by
   obtain⟨m',hm,w7⟩:=hN σ7 H7 n7;refine⟨m',hm,i+1,σ7,H7,I7.unpinned,T.keep _ _ _ st5 fun b hb o e=>(I7.pin (b,o) (List.mem_append_right _ (List.mem_append_right _ (GX hb e)))).1,fun b hb=>?_,w7⟩;obtain⟨o,e,d⟩:=T.obj _ _ st5 b hb;exact(I7.pin (b,o) (List.mem_append_right _ (List.mem_append_right _ (GX hb e)))).2.1
  cases f with
  |next=>obtain⟨σ7,H7,I7,n7⟩:=q7;exact again I7 n7
  |cont=>obtain⟨σ7,H7,I7,n7⟩:=q7;exact again I7 n7
  |brk=>obtain⟨σ7,H7,I7,q7⟩:=q7;exact⟨σ7,H7,I7.unpinned,q7⟩
  |ret v=>obtain⟨x7,σ7,H7,I7,r7,q7⟩:=q7;exact⟨x7,σ7,H7,I7.unpinned,r7,q7⟩
end
theorem Cp {K:PySem.W.Frag} {a:Addr} {xs:List V} {g:TG} {tb:TS} {D:Ends} {σ:St} {H:Hp} (Pv:Nat->St->Hp->Prop) (h0:Pv 0 σ H) (hl:∀i σ H,i<=xs.length->Pv i σ H->AO K H a xs)
  (hs:∀i x σ H,xs[i]?=some x->Pv i σ H->g x σ H fun σ2 H2=>tb { D with nx:=Pv (i+1),ct:=Pv (i+1),bk:=D.nx } σ2 H2) (hd:∀σ H,Pv xs.length σ H->D.nx σ H) :
  ∃W:Nat->Nat->St->Hp->Prop,(∃m,W 0 m σ H)/\∀i m σ H,W i m σ H->
   ((Vc K a).stop i H/\D.nx σ H)\/((Vc K a).go i H/\∃N:St->Hp->Prop,(∀σ' H',N σ' H'->∃m',m'<m/\W (i+1) m' σ' H')/\∀x H',(Vc K a).yld i H x H'->g x σ H' fun σ2 H2=>tb { D with nx:=N,ct:=N,bk:=D.nx } σ2 H2):=by
 refine⟨fun i m σ H=>m=xs.length-i/\i<=xs.length/\Pv i σ H,⟨xs.length,by simp,Nat.zero_le _,h0⟩,?_⟩
 rintro i m σ H ⟨rfl,hi,p⟩
 have q:=hl i σ H hi p
 by_cases hlt:i<xs.length
 ·refine .inr ⟨⟨xs,xs[i],q,by simp[hlt]⟩,Pv (i+1),fun σ' H' p'=>⟨xs.length-(i+1),by omega,rfl,hlt,p'⟩,fun x H' y=>?_⟩;obtain⟨e,y⟩:=y;subst e;exact hs i x σ _ (y xs q) p
 ·have e:i=xs.length:=by omega
  subst e;exact .inl ⟨⟨xs,q,Nat.le_refl _⟩,hd σ H p⟩
theorem Lb {K:PySem.W.Frag} {a:Addr} {xs:List V} {g:TG} {tb:TS} {D:Ends} {σ:St} {H:Hp} (Pv:Nat->St->Hp->Prop) (h0:Pv 0 σ H) (hl:∀i σ H,i<=xs.length->Pv i σ H->AW K H a xs)
  (hs:∀i x σ H,xs[i]?=some x->Pv i σ H->g x σ H fun σ2 H2=>tb { D with nx:=Pv (i+1),ct:=Pv (i+1),bk:=D.nx } σ2 H2) (hd:∀σ H,Pv xs.length σ H->D.nx σ H) :
  ∃W:Nat->Nat->St->Hp->Prop,(∃m,W 0 m σ H)/\∀i m σ H,W i m σ H->
   ((X3 K a).stop i H/\D.nx σ H)\/((X3 K a).go i H/\∃N:St->Hp->Prop,(∀σ' H',N σ' H'->∃m',m'<m/\W (i+1) m' σ' H')/\∀x H',(X3 K a).yld i H x H'->g x σ H' fun σ2 H2=>tb { D with nx:=N,ct:=N,bk:=D.nx } σ2 H2):=by
 refine⟨fun i m σ H=>m=xs.length-i/\i<=xs.length/\Pv i σ H,⟨xs.length,by simp,Nat.zero_le _,h0⟩,?_⟩
 rintro i m σ H ⟨rfl,hi,p⟩
 have q:=hl i σ H hi p
 by_cases hlt:i<xs.length
 ·refine .inr ⟨⟨xs,xs[i],q,by simp[hlt]⟩,Pv (i+1),fun σ' H' p'=>⟨xs.length-(i+1),by omega,rfl,hlt,p'⟩,fun x H' y=>?_⟩;obtain⟨e,y⟩:=y;subst e;exact hs i x σ _ (y xs q) p
 ·have e:i=xs.length:=by omega
  subst e;exact .inl ⟨⟨xs,q,Nat.le_refl _⟩,hd σ H p⟩
theorem Ki {lo:Int} {n:Nat} {g:TG} {tb:TS} {D:Ends} {σ:St} {H:Hp} (Pv:Nat->St->Hp->Prop) (h0:Pv 0 σ H)
  (hs:∀i σ H,i<n->Pv i σ H->g (.int (lo+i)) σ H fun σ2 H2=>tb { D with nx:=Pv (i+1),ct:=Pv (i+1),bk:=D.nx } σ2 H2) (hd:∀σ H,Pv n σ H->D.nx σ H) :
  ∃W:Nat->Nat->St->Hp->Prop,(∃m,W 0 m σ H)/\∀i m σ H,W i m σ H->
   ((Vb lo n).stop i H/\D.nx σ H)\/((Vb lo n).go i H/\∃N:St->Hp->Prop,(∀σ' H',N σ' H'->∃m',m'<m/\W (i+1) m' σ' H')/\∀x H',(Vb lo n).yld i H x H'->g x σ H' fun σ2 H2=>tb { D with nx:=N,ct:=N,bk:=D.nx } σ2 H2):=by
 refine⟨fun i m σ H=>m=n-i/\i<=n/\Pv i σ H,⟨n,by simp,Nat.zero_le _,h0⟩,?_⟩
 rintro i m σ H ⟨rfl,hi,p⟩
 by_cases hlt:i<n
 ·refine .inr ⟨hlt,Pv (i+1),fun σ' H' p'=>⟨n-(i+1),by omega,rfl,hlt,p'⟩,fun x H' y=>?_⟩;obtain⟨e,y⟩:=y;subst e y;exact hs i σ _ hlt p
 ·have e:i=n:=by omega
  subst e;exact .inl ⟨Nat.le_refl _,hd σ H p⟩
abbrev R2:=V->V->Hp->VK->Prop
def Il (X:Cx)(f:Value->Value->Sem Value)(r:R2):Prop:=
 ∀(pins:List (Addr×Obj)) (s:Shared) (σ:St) (H:Hp) (x y:V) (v u:Value) (Q:VK),Inv X pins σ H s->RelV x v->RelV y u->r x y H Q->
  wpAny (model X.prog X.w) X.A (f v u) (EP X pins σ Q) X.xe s
def Y4 (X:Cx)(f:Value->Sem Value)(r:V->Hp->VK->Prop):Prop:=
 ∀(pins:List (Addr×Obj)) (s:Shared) (σ:St) (H:Hp) (x:V) (v:Value) (Q:VK),Inv X pins σ H s->RelV x v->r x H Q->
  wpAny (model X.prog X.w) X.A (f v) (EP X pins σ Q) X.xe s
def DW (X:Cx)(f:Value)(r:List V->Hp->VK->Prop):Prop:=
 ∀(pins:List (Addr×Obj)) (s:Shared) (σ:St) (H:Hp) (xs:List V) (us:List Value) (Q:VK),Inv X pins σ H s->AL xs us->r xs H Q->
  wpAny (model X.prog X.w) X.A (call f us) (EP X pins σ Q) X.xe s
def Wv (r:R2)(ta tb:TE):TE:=fun σ H Q=>ta σ H fun x H1=>tb σ H1 fun y H2=>r x y H2 Q
def Zq (r:V->Hp->VK->Prop)(ta:TE):TE:=fun σ H Q=>ta σ H fun x H1=>r x H1 Q
def rI (C:Int->Int->Prop)(g:Int->Int->V):R2:=fun x y H Q=>∃i j,x=.int i/\y=.int j/\C i j/\Q (g i j) H
def UK (g:Int->Int->V):R2:=fun x y H Q=>∃i j,x=.int i/\y=.int j/\Q (g i j) H
def rU (g:Int->V):V->Hp->VK->Prop:=fun x H Q=>∃i,x=.int i/\Q (g i) H
section
variable {X:Cx}{a b c:Expr}{ta tb tc:TE}{pos:Pos}
theorem XY (ha:PE X a ta) (hb:PE X b tb) {pins:List (Addr×Obj)} {s:Shared} {σ:St} {H:Hp} {R:V->V->Hp->Prop} (I:Inv X pins σ H s)
  (h:ta σ H fun x H1=>tb σ H1 fun y H2=>R x y H2) {Q:Value->Shared->Prop} {f:Value->Value->Sem Value}
  (hf:∀v u s2 x y H2,Inv X pins σ H2 s2->RelV x v->RelV y u->R x y H2->wpAny (model X.prog X.w) X.A (f v u) Q X.xe s2) :
  wpAny (model X.prog X.w) X.A (eval a X.env) (fun v s₁=>wpAny (model X.prog X.w) X.A (eval b X.env) (fun u s₂=>wpAny (model X.prog X.w) X.A (f v u) Q X.xe s₂) X.xe s₁) X.xe s:=by
 refine Br (ha pins s σ H _ I h) fun v s1 ⟨x,H1,I1,r1,q1⟩=>?_
 refine Br (hb pins s1 σ H1 _ I1 q1) fun u s2 ⟨y,H2,I2,r2,q2⟩=>?_
 exact hf v u s2 x y H2 I2 r1 r2 q2
theorem AB {op:Operator}{r:R2}(ho:Il X (binaryOp op) r)(ha:PE X a ta)(hb:PE X b tb):PE X (.BinOp a op b pos) (Wv r ta tb):=by
 intro pins s σ H Q I h;exact wpAny_BinOp (XY ha hb I h fun v u s2 x y H2 I2 rx ry q=>ho pins s2 σ H2 x y v u Q I2 rx ry q)
theorem Wu {op:UnaryOp}{r:V->Hp->VK->Prop}(ho:Y4 X (unaryOp op) r)(ha:PE X a ta):PE X (.UnaryOp op a pos) (Zq r ta):=by
 intro pins s σ H Q I h;exact UnaryOp_ (Br (ha pins s σ H _ I h) fun v s1 ⟨x,H1,I1,r1,q1⟩=>ho pins s1 σ H1 x v Q I1 r1 q1)
theorem YF {f:Value->Value->Sem Value} {C:Int->Int->Prop} {g:Int->Int->Int}
  (rule:∀(i j:Int) (t u:Tok) (s:Shared) (Q:Value->Shared->Prop) (E:Value->Shared->Prop),C i j->Q (.int (g i j) s.toks) { s with toks:=s.toks+1 }->wpAny (model X.prog X.w) X.A (f (.int i t) (.int j u)) Q E s) :
  Il X f (rI C fun i j=>.int (g i j)):=by
 intro pins s σ H x y v u Q I rx ry h;obtain⟨i,j,rfl,rfl,hc,q⟩:=h;obtain⟨t,rfl⟩:=rx;obtain⟨t',rfl⟩:=ry;exact rule i j t t' s _ _ hc ⟨.int (g i j),H,I.tok _,⟨_,rfl⟩,q⟩
theorem VG {f:Value->Value->Sem Value} {g:Int->Int->Int}
  (rule:∀(i j:Int) (t u:Tok) (s:Shared) (Q:Value->Shared->Prop) (E:Value->Shared->Prop),Q (.int (g i j) s.toks) { s with toks:=s.toks+1 }->wpAny (model X.prog X.w) X.A (f (.int i t) (.int j u)) Q E s) :
  Il X f (UK fun i j=>.int (g i j)):=by
 intro pins s σ H x y v u Q I rx ry h;obtain⟨i,j,rfl,rfl,q⟩:=h;obtain⟨t,rfl⟩:=rx;obtain⟨t',rfl⟩:=ry;exact rule i j t t' s _ _ ⟨.int (g i j),H,I.tok _,⟨_,rfl⟩,q⟩
theorem WW {f:Value->Value->Sem Value} {g:Int->Int->Bool}
  (rule:∀(i j:Int) (t u:Tok) (s:Shared) (Q:Value->Shared->Prop) (E:Value->Shared->Prop),Q (.bool (g i j)) s->wpAny (model X.prog X.w) X.A (f (.int i t) (.int j u)) Q E s) :
  Il X f (UK fun i j=>.bl (g i j)):=by
 intro pins s σ H x y v u Q I rx ry h;obtain⟨i,j,rfl,rfl,q⟩:=h;obtain⟨t,rfl⟩:=rx;obtain⟨t',rfl⟩:=ry;exact rule i j t t' s _ _ ⟨.bl (g i j),H,I,rfl,q⟩
def Y7 (i j:Int):Prop:=0<j/\j<1073741824
def Yr (i j:Int):Prop:=0<=j/\j<=1000000/\i.natAbs<2^64
def Xz (i j:Int):Prop:=(-(2^64)<i/\i<2^64)\/(-(2^64)<j/\j<2^64)
theorem Xz.ok {i j:Int}(h:Xz i j):IntMulOk i j:=by
 rcases h with⟨h1,h2⟩|⟨h1,h2⟩
 ·exact .of_left (intBits_le_64 h1 h2)
 ·exact .of_right (intBits_le_64 h1 h2)
theorem Bw:Il X (binaryOp .Add) (UK fun i j=>.int (i+j)):=VG fun _ _ _ _ _ _ _ q=>add_int q
theorem HS:Il X (binaryOp .Sub) (UK fun i j=>.int (i-j)):=VG fun _ _ _ _ _ _ _ q=>sub_int q
theorem IW:Il X (binaryOp .Mult) (rI Xz fun i j=>.int (i*j)):=YF fun _ _ _ _ _ _ _ hc q=>mul_int q hc.ok
theorem JK:Il X (binaryOp .FloorDiv) (rI Y7 fun i j=>.int (i/j)):=YF fun i j _ _ _ _ _ hc q=>by
 have h1:(0:Int)<j:=hc.1;have h2:j<1073741824:=hc.2;exact floordiv_int (by omega) (by rw[Int.fdiv_eq_ediv_of_nonneg i (by omega)];exact q) (.inl (PyProof.noPylong_small (by omega)))
theorem Bj:Il X (binaryOp .Mod) (rI (fun _ j=>0<j) fun i j=>.int (i%j)):=YF fun i j _ _ _ _ _ hc q=>by
 have h1:(0:Int)<j:=hc;exact mod_int' (by omega) (by rw[Int.fmod_eq_emod_of_nonneg i (by omega)];exact q)
theorem LI:Il X (binaryOp .Pow) (rI Yr fun i j=>.int (i^j.toNat)):=YF fun _ _ _ _ _ _ _ hc q=>pow_int_small hc.1 hc.2.1 hc.2.2 q
theorem La:Il X (inplaceOp .Add) (UK fun i j=>.int (i+j)):=VG fun _ _ _ _ _ _ _ q=>iadd_int q
theorem Vr:Il X (inplaceOp .Sub) (UK fun i j=>.int (i-j)):=VG fun _ _ _ _ _ _ _ q=>isub_int q
theorem Zt {f:Value->Sem Value} {g:Int->Int}
  (rule:∀(i:Int) (t:Tok) (s:Shared) (Q:Value->Shared->Prop) (E:Value->Shared->Prop),Q (.int (g i) s.toks) { s with toks:=s.toks+1 }->wpAny (model X.prog X.w) X.A (f (.int i t)) Q E s) :
  Y4 X f (rU fun i=>.int (g i)):=by
 intro pins s σ H x v Q I rx h;obtain⟨i,rfl,q⟩:=h;obtain⟨t,rfl⟩:=rx;exact rule i t s _ _ ⟨.int (g i),H,I.tok _,⟨_,rfl⟩,q⟩
theorem UF:Y4 X (unaryOp .USub) (rU fun i=>.int (-i)):=Zt fun _ _ _ _ _ q=>neg_int q
end
def Qv:V->V->Bool
 | .non,.non=>true | .non,.int _=>true | .int _,.non=>true | .non,.bl _=>true | .bl _,.non=>true | .non,.str _=>true | .str _,.non=>true
 | .int _,.int _=>true | .bl _,.bl _=>true | .str _,.str _=>true | .byt _,.byt _=>true
 | .int _,.str _=>true | .str _,.int _=>true | .bl _,.str _=>true | .str _,.bl _=>true
 |_,_=>false
def Zs:R2:=fun x y H Q=>Qv x y=true/\Q (.bl (decide (x=y))) H
def Zr:R2:=fun x y H Q=>Qv x y=true/\Q (.bl (!decide (x=y))) H
theorem Ie {i j:Int}:decide (V.int i=V.int j)=(i == j):=by
 rw[Bool.eq_iff_iff];simp
theorem UJ {i j:Bool}:decide (V.bl i=V.bl j)=(i == j):=by
 rw[Bool.eq_iff_iff];simp
theorem Ng {i j:Str}:decide (V.str i=V.str j)=(i == j):=by
 rw[Bool.eq_iff_iff];simp
theorem RF {i j:Array UInt8}:decide (V.byt i=V.byt j)=(i.toList == j.toList):=by
 rw[Bool.eq_iff_iff];cases i;cases j;simp
section
variable {X:Cx}{a b c:Expr}{ta tb tc:TE}{pos:Pos}
theorem A6 {pins:List (Addr×Obj)}{σ:St}{H:Hp}{s:Shared}{Q:VK}{k k':Bool}(I:Inv X pins σ H s)(q:Q (.bl k) H)(e:k=k'):EP X pins σ Q (.bool k') s:=by
 subst e;exact⟨.bl k,H,I,rfl,q⟩
theorem Bh:Il X (compareOp .Eq) Zs:=by
 intro pins s σ H x y v u Q I rx ry h;obtain⟨hs,q⟩:=h;cases x with
 |non=>
  cases rx;cases y with
  |non=>cases ry;exact PySem.EqNone.eq_none_none (A6 I q (by simp))
  |bl j=>cases ry;exact PySem.EqNone.eq_none_bool (A6 I q (by simp))
  |int j=>obtain⟨t',rfl⟩:=ry;exact PySem.EqNone.eq_none_int (A6 I q (by simp))
  |str j=>obtain⟨t',rfl⟩:=ry;exact PySem.EqNone.eq_none_str (A6 I q (by simp))
  |_=>exact absurd (show false=true from hs) Bool.false_ne_true
 |bl i=>
  cases rx;cases y with
  |non=>cases ry;exact PySem.EqNone.eq_bool_none (A6 I q (by simp))
  |bl j=>cases ry;exact eq_bool (A6 I q UJ)
  |str j=>obtain⟨t',rfl⟩:=ry;exact PySem.EqMixed.eq_bool_str (A6 I q (by simp))
  |_=>exact absurd (show false=true from hs) Bool.false_ne_true
 |int i=>
  obtain⟨t,rfl⟩:=rx;cases y with
  |non=>cases ry;exact PySem.EqNone.eq_int_none (A6 I q (by simp))
  |int j=>obtain⟨t',rfl⟩:=ry;exact eq_int (A6 I q Ie)
  |str j=>obtain⟨t',rfl⟩:=ry;exact PySem.EqMixed.eq_int_str (A6 I q (by simp))
  |_=>exact absurd (show false=true from hs) Bool.false_ne_true
 |str i=>
  obtain⟨t,rfl⟩:=rx;cases y with
  |non=>cases ry;exact PySem.EqNone.eq_str_none (A6 I q (by simp))
  |bl j=>cases ry;exact PySem.EqMixed.eq_str_bool (A6 I q (by simp))
  |int j=>obtain⟨t',rfl⟩:=ry;exact PySem.EqMixed.eq_str_int (A6 I q (by simp))
  |str j=>obtain⟨t',rfl⟩:=ry;exact eq_str (A6 I q Ng)
  |_=>exact absurd (show false=true from hs) Bool.false_ne_true
 |byt i=>
  obtain⟨t,rfl⟩:=rx;cases y with
  |byt j=>obtain⟨t',rfl⟩:=ry;exact PySem.W.eq_bytes (A6 I q RF)
  |_=>exact absurd (show false=true from hs) Bool.false_ne_true
 |_=>cases y<;>exact absurd (show false=true from hs) Bool.false_ne_true
theorem U5:Il X (compareOp .NotEq) Zr:=by
 intro pins s σ H x y v u Q I rx ry h;obtain⟨hs,q⟩:=h;cases x with
 |non=>
  cases rx;cases y with
  |non=>cases ry;exact PySem.EqNone.ne_none_none (A6 I q (by simp))
  |bl j=>cases ry;exact PySem.EqNone.ne_none_bool (A6 I q (by simp))
  |int j=>obtain⟨t',rfl⟩:=ry;exact PySem.EqNone.ne_none_int (A6 I q (by simp))
  |str j=>obtain⟨t',rfl⟩:=ry;exact PySem.EqNone.ne_none_str (A6 I q (by simp))
  |_=>exact absurd (show false=true from hs) Bool.false_ne_true
 |bl i=>
  cases rx;cases y with
  |non=>cases ry;exact PySem.EqNone.ne_bool_none (A6 I q (by simp))
  |bl j=>cases ry;exact ne_bool (A6 I q (congrArg not UJ))
  |str j=>obtain⟨t',rfl⟩:=ry;exact PySem.EqMixed.ne_bool_str (A6 I q (by simp))
  |_=>exact absurd (show false=true from hs) Bool.false_ne_true
 |int i=>
  obtain⟨t,rfl⟩:=rx;cases y with
  |non=>cases ry;exact PySem.EqNone.ne_int_none (A6 I q (by simp))
  |int j=>obtain⟨t',rfl⟩:=ry;exact ne_int (A6 I q (congrArg not Ie))
  |str j=>obtain⟨t',rfl⟩:=ry;exact PySem.EqMixed.ne_int_str (A6 I q (by simp))
  |_=>exact absurd (show false=true from hs) Bool.false_ne_true
 |str i=>
  obtain⟨t,rfl⟩:=rx;cases y with
  |non=>cases ry;exact PySem.EqNone.ne_str_none (A6 I q (by simp))
  |bl j=>cases ry;exact PySem.EqMixed.ne_str_bool (A6 I q (by simp))
  |int j=>obtain⟨t',rfl⟩:=ry;exact PySem.EqMixed.ne_str_int (A6 I q (by simp))
  |str j=>obtain⟨t',rfl⟩:=ry;exact ne_str (A6 I q (congrArg not Ng))
  |_=>exact absurd (show false=true from hs) Bool.false_ne_true
 |byt i=>
  obtain⟨t,rfl⟩:=rx;cases y with
  |byt j=>obtain⟨t',rfl⟩:=ry;exact PySem.W.ne_bytes (A6 I q (congrArg not RF))
  |_=>exact absurd (show false=true from hs) Bool.false_ne_true
 |_=>cases y<;>exact absurd (show false=true from hs) Bool.false_ne_true
theorem OH:Il X (compareOp .Lt) (UK fun i j=>.bl (decide (i<j))):=WW fun _ _ _ _ _ _ _ q=>lt_int q
theorem Rz:Il X (compareOp .LtE) (UK fun i j=>.bl (decide (i<=j))):=WW fun _ _ _ _ _ _ _ q=>le_int q
theorem MX:Il X (compareOp .Gt) (UK fun i j=>.bl (decide (j<i))):=WW fun _ _ _ _ _ _ _ q=>gt_int q
theorem ML:Il X (compareOp .In) (fun x y H Q=>∃i j,x=.str i/\y=.str j/\Q (.bl (!(Builtin.Str.occurrences j i 0 j.length 1).isEmpty)) H):=by
 intro pins s σ H x y v u Q I rx ry h;obtain⟨i,j,rfl,rfl,q⟩:=h;obtain⟨t,rfl⟩:=rx;obtain⟨t',rfl⟩:=ry;exact in_str (A6 I q rfl)
theorem AC (b:Expr){op:CmpOp}(h:op≠.In:=by decide)(h2:op≠.NotIn:=by decide):behindInMarks op b=false:=by
 have e1:(op == CmpOp.In)=false:=by cases op<;>first|rfl|exact absurd rfl h
 have e2:(op == CmpOp.NotIn)=false:=by cases op<;>first|rfl|exact absurd rfl h2
 cases b<;>simp[behindInMarks,e1,e2]
theorem CU {op:CmpOp}{r:R2}(ho:Il X (compareOp op) r)(ha:PE X a ta)(hb:PE X b tb)(hm:behindInMarks op b=false):PE X (.Compare a [op] [b] pos) (Wv r ta tb):=by
 intro pins s σ H Q I h;exact wpAny_Compare1 (XY ha hb I h fun v u s2 x y H2 I2 rx ry q=>ho pins s2 σ H2 x y v u Q I2 rx ry q) hm
def Tx (t:TE):TT:=fun σ H Q=>t σ H fun x H'=>∃k,x=.bl k/\Q k H'
theorem AA {op:CmpOp}{r:R2}(ho:Il X (compareOp op) r)(ha:PE X a ta)(hb:PE X b tb)(hm:behindInMarks op b=false):PT X (.Compare a [op] [b] pos) (Tx (Wv r ta tb)):=by
 intro pins s σ H Q I h;refine wpAny_isTrue_Compare1 (Br (ha pins s σ H _ I h) fun v s1 ⟨x,H1,I1,r1,q1⟩=>Br (hb pins s1 σ H1 _ I1 q1) fun u s2 ⟨y,H2,I2,r2,q2⟩=>
  Br (ho pins s2 σ H2 x y v u _ I2 r1 r2 q2) fun c s3 ⟨z,H3,I3,r3,k,e,q3⟩=>?_) hm
 subst e;cases r3;exact wpAny_truthy_bool ⟨H3,I3,q3⟩
def UU (r r':R2)(ta tb tc:TE):TE:=fun σ H Q=>ta σ H fun x H1=>tb σ H1 fun y H2=>r x y H2 fun z H3=>∃k,z=.bl k/\
 (if k=true then tc σ H3 fun w' H4=>r' y w' H4 Q else Q (.bl false) H3)
theorem Ud {op op':CmpOp} {r r':R2} (ho:Il X (compareOp op) r) (ho':Il X (compareOp op') r') (ha:PE X a ta) (hb:PE X b tb) (hc:PE X c tc)
  (hm:lastMarks [op,op'] [b,c]=false:=by with_unfolding_all rfl):PE X (.Compare a [op,op'] [b,c] pos) (UU r r' ta tb tc):=by
 intro pins s σ H Q I h;refine Compare_chain (Br (ha pins s σ H _ I h) fun v s1 ⟨x,H1,I1,r1,q1⟩=>chain_link (Br (hb pins s1 σ H1 _ I1 q1) fun u s2 ⟨y,H2,I2,r2,q2⟩=>
  Br (ho pins s2 σ H2 x y v u _ I2 r1 r2 q2) fun d s3 ⟨z,H3,I3,r3,k,e,q3⟩=>?_)) hm
 subst e;cases r3;refine wpAny_truthy_bool ?_;cases k with
 |false=>exact ite_ff ⟨.bl false,H3,I3,rfl,q3⟩
 |true=>exact ite_tt (chain_last (Br (hc pins s3 σ H3 _ I3 q3) fun w' s4 ⟨z',H4,I4,r4,q4⟩=>ho' pins s4 σ H4 y z' u w' Q I4 r2 r4 q4))
theorem TU {op op':CmpOp} {r r':R2} (ho:Il X (compareOp op) r) (ho':Il X (compareOp op') r') (ha:PE X a ta) (hb:PE X b tb) (hc:PE X c tc)
  (hm:lastMarks [op,op'] [b,c]=false:=by with_unfolding_all rfl):PT X (.Compare a [op,op'] [b,c] pos) (Tx (UU r r' ta tb tc)):=by
 intro pins s σ H Q I h;refine isTrue_chain (Br (ha pins s σ H _ I h) fun v s1 ⟨x,H1,I1,r1,q1⟩=>test_link (Br (hb pins s1 σ H1 _ I1 q1) fun u s2 ⟨y,H2,I2,r2,q2⟩=>
  Br (ho pins s2 σ H2 x y v u _ I2 r1 r2 q2) fun d s3 ⟨z,H3,I3,r3,k,e,q3⟩=>?_)) hm
 subst e;cases r3;refine wpAny_truthy_bool ?_;cases k with
 |false=>
  obtain⟨k',e',q'⟩:=q3;cases e';exact ite_ff ⟨H3,I3,q'⟩
 |true=>
  refine ite_tt (test_last (Br (hc pins s3 σ H3 _ I3 q3) fun w' s4 ⟨z',H4,I4,r4,q4⟩=>Br (ho' pins s4 σ H4 y z' u w' _ I4 r2 r4 q4) fun d' s5 ⟨z2,H5,I5,r5,k2,e2,q5⟩=>?_));subst e2;cases r5;exact wpAny_truthy_bool ⟨H5,I5,q5⟩
theorem Ll:(sizeLine:Nat)<2^63:=by rw[sizeLine_eq];decide
theorem Pu:Il X (binaryOp .Add) (fun x y H Q=>∃i j,x=.str i/\y=.str j/\i.length+j.length<=sizeLine/\Q (.str (i++j)) H):=by
 intro pins s σ H x y v u Q I rx ry h;obtain⟨i,j,rfl,rfl,hz,q⟩:=h;obtain⟨t,rfl⟩:=rx;obtain⟨t',rfl⟩:=ry;exact add_str (fun t' tk=>⟨.str (i++j),H,I.tok _,⟨_,rfl⟩,q⟩) hz
theorem vals1 {x:V}{us:List Value}(r:AL [x] us):∃u,us=[u]/\RelV x u:=by
 cases r with
 |cons r1 r2=>cases r2;exact⟨_,rfl,r1⟩
theorem vals2 {x y:V}{us:List Value}(r:AL [x,y] us):∃u w',us=[u,w']/\RelV x u/\RelV y w':=by
 cases r with
 |cons r1 r2=>
  cases r2 with
  |cons r3 r4=>cases r4;exact⟨_,_,rfl,r1,r3⟩
theorem OF:DW X (.builtin "abs") (fun xs H Q=>∃i,xs=[.int i]/\Q (.int (if i<0 then -i else i)) H):=by
 intro pins s σ H xs us Q I r h;obtain⟨i,rfl,q⟩:=h;obtain⟨u,rfl,t,rfl⟩:=vals1 r;exact call_abs_int fun u tk=>⟨.int (if i<0 then -i else i),H,I.tok _,⟨_,rfl⟩,q⟩
theorem R3 (hc:X.calm=true):DW X (.builtin "min") (fun xs H Q=>∃i j,xs=[.int i,.int j]/\Q (.int (if j<i then j else i)) H):=by
 intro pins s σ H xs us Q I r h;obtain⟨i,j,rfl,q⟩:=h;obtain⟨u,w',rfl,⟨t,rfl⟩,⟨t',rfl⟩⟩:=vals2 r;refine min_two_ints (I.ok.hd hc) fun h' tk k=>⟨_,H,I.kept k,?_,q⟩
 by_cases hj:j<i
 ·rw[if_pos hj,if_pos hj];exact⟨_,rfl⟩
 ·rw[if_neg hj,if_neg hj];exact⟨_,rfl⟩
theorem RO:DW X (.type "int") (fun xs H Q=>(∃i,xs=[.int i]/\Q (.int i) H)\/∃k,xs=[.bl k]/\Q (.int (if k then 1 else 0)) H):=by
 intro pins s σ H xs us Q I r h;rcases h with⟨i,rfl,q⟩|⟨k,rfl,q⟩
 ·obtain⟨u,rfl,t,rfl⟩:=vals1 r;exact call_int_int ⟨.int i,H,I,⟨_,rfl⟩,q⟩
 ·obtain⟨u,rfl,r1⟩:=vals1 r;cases r1;exact call_int_bool ⟨.int (if k then 1 else 0),H,I.tok _,⟨_,rfl⟩,q⟩
end
structure ObjM (h:Heap) (x dx C:Addr) (mA:Str->Option Value):Prop where
 obj:h.get? x=some (PySem.W.instObj C dx)
 ns:h.Ns1 dx mA
 ne:dx≠x
theorem Su {h:Heap}{dx:Addr}{mA:Str->Option Value}(n:h.Ns1 dx mA):∃od,h.get? dx=some od/\∀name,PySem.W.lookIn name od=some (mA name):=by
 obtain⟨o,es,ep,ho,hd,hk,_,hm⟩:=n;refine⟨o,ho,fun name=>?_⟩;have e:=hm name;unfold nsFind findBy at e;rw[<-Array.find?_toList] at e;unfold PySem.W.lookIn;rw[hd];dsimp only
 split
 ·rename_i y q
  rw[q] at e;exact congrArg some e
 ·rename_i q
  rw[q] at e;have a:es.toList.any (·.refKey)=false:=by
   rw[List.any_eq_false];intro y hy;obtain⟨z,t,hkey⟩:=hk y (Array.mem_toList_iff.mp hy);simp[DictEntry.refKey,hkey]
  have a':¬es.toList.any (·.refKey)=true:=by rw[a];exact Bool.false_ne_true
  rw[if_neg a'];exact congrArg some e
theorem ObjM.look {h:Heap}{x dx C:Addr}{mA:Str->Option Value}(I:ObjM h x dx C mA):∃od,PySem.W.InstAt h x (PySem.W.instObj C dx) C (some od)/\∀name,PySem.W.lookIn name od=some (mA name):=
 let⟨od,ho,hl⟩:=Su I.ns
 ⟨od,⟨I.obj,rfl,rfl,ho⟩,hl⟩
section
variable {prog:Program}{w:World}{A:Around}{E:Value->Shared->Prop}{s:Shared}{K:PySem.W.Frag}{x dx C f:Addr}{mA:Str->Option Value}{name:Str}{v:Value}
theorem get_map {expr:Bool} {Q:Value->Shared->Prop} (X:K.In s.heap) (I:ObjM s.heap x dx C mA) (hg:PySem.W.plainGet K C name=true) (hh:PySem.W.hasDictIn K C=true)
  (ha:PySem.W.findIn K (.ref C) name=some none) (hv:mA name=some v) (hv':PySem.W.handedIn v=true) (h:Q v { s with toks:=s.toks+1 }) :
  wpAny (model prog w) A (getAttr (.ref x) name expr) Q E s:=by
 obtain⟨od,J,hl⟩:=I.look;exact PySem.W.get_value X J (PySem.W.plainGet_of hg).1 (PySem.W.findObj_own hh ha rfl (by rw[hl,hv])) hv' h
theorem TR {pl:Sem Bool} {Q:Value×List Value->Shared->Prop} (X:K.In s.heap) (I:ObjM s.heap x dx C mA) (hg:PySem.W.plainGet K C name=true)
  (hf:PySem.W.findIn K (.ref C) name=some (some (.ref f))) (ht:PySem.W.isFn K (.ref f)=true) (hv:mA name=none) (h:Q (.ref f,[.ref x]) s) :
  wpAny (model prog w) A (getMethod (.ref x) name pl) Q E s:=by
 obtain⟨od,J,hl⟩:=I.look;exact PySem.W.method_fn X J (PySem.W.plainGet_of hg).1 (PySem.W.plainGet_of hg).2 hf (beq_iff_eq.mp ht) (by show(PySem.W.lookIn name od).map (·.isSome)=some false;rw[hl,hv];rfl) h
theorem VJ {ns:List Str} {Q:Unit->Shared->Prop} (X:K.In s.heap) (I:ObjM s.heap x dx C mA)
  (hs:PySem.W.findIn K (.ref C) "__setattr__"=some (some (.builtin "object.__setattr__"))) (hp:PySem.W.plainOver K C=true) (ht:PySem.W.takerIn K C name=some none) (hh:PySem.W.hasDictIn K C=true)
  (hw:PySem.Within mA ns) (hsz:ns.length<=sizeLine)
  (h:∀h',ObjM h' x dx C (fun y=>if y=name then some v else mA y)->Heap.SameBut dx s.heap h'->Q () { s with heap:=h',toks:=s.toks+2 }) :
  wpAny (model prog w) A (setAttr (.ref x) name v) Q E s:=by
 obtain⟨od,J,hl⟩:=I.look;refine PySem.W.set_plain X J hs (PySem.W.osa_open (s:={ s with toks:=s.toks+1 }) (r:=none) X J hp ht fun b=>?_);obtain⟨cd,hc,hd'⟩:=PySem.W.any_some hh;have hx:s.heap.get? x=some ⟨.ref C,some dx,.plain,#[]⟩:=I.obj;refine wpAny_bind (wpAny_pure (wpAny_bind (wpAny_bind (wpAny_loadPart hx (wpAny_bind (PySem.W.Looks.here (s:={ s with toks:=s.toks+1 }) (PySem.W.looks_clsIn X hc) ?_))))));rw[hd'];refine wpAny_pure (a:=some dx) (wpAny_bind (wpAny_pure (wpAny_bind ?_)));refine wpAny_nsSet1 (s:={ s with toks:=s.toks+1 }) I.ns fun h' hn2 hs2=>?_
 obtain⟨oD,esD,epD,hoD,hdD,hcD⟩:=hn2.count (PySem.Within.cons name v hw);refine wpAny_bind (wpAny_lookBehind hoD (by rw[hdD];exact pastItsLine_dict (Nat.le_trans hcD (by rw[List.length_cons];omega))) ?_);exact wpAny_pure (h _ ⟨(hs2.2 _ (Ne.symm I.ne)).trans I.obj,hn2,I.ne⟩ hs2)
theorem Tc {R:Result->Shared->Prop} {vs:List Value} {kw:List (Str×Value)} (X:K.In s.heap) (hm:PySem.W.makesIn K C=true)
  (hi:PySem.W.findIn K (.ref C) "__init__"=some (some (.ref f))) (hf:PySem.W.typeIn K (.ref f)=some (.type "function"))
  (h:codeAny (model prog w) (A.under (.builtin "type.__call__" ⟨.ref C::vs,kw⟩)) (.call (.ref f) ⟨.ref (s.heap.objs.size+1)::vs,kw⟩) (PySem.W.InitBack (s.heap.objs.size+1) R)
   { s with heap:=(s.heap.push PySem.W.emptyDict).push (PySem.W.instObj C s.heap.objs.size) }) :
  codeAny (model prog w) A (.call (.ref C) ⟨vs,kw⟩) R s:=by
 obtain⟨hh,g,d,t,os⟩:=s;exact PySem.W.make_core (PySem.W.makes_of X hm) (PySem.W.looks_findIn X hi) (fun self=>PySem.W.bind_fn X self hf) (.inl rfl) h
end
def Eu (f:Str)(v:V):List (Str×V)->List (Str×V)
 |[]=>[(f,v)]
 |(g,x)::r=>if g=f then(g,v)::r else(g,x)::Eu f v r
theorem Kw (f g:Str)(v:V):∀fs:List (Str×V),(Eu f v fs).lookup g=if g=f then some v else fs.lookup g
 |[]=>by
  show List.lookup g [(f,v)]=_
  by_cases h:g=f
  ·have hb:(g == f)=true:=beq_iff_eq.mpr h;simp only[List.lookup,hb,if_pos h]
  ·have hb:(g == f)=false:=beq_eq_false_iff_ne.mpr h;simp only[List.lookup,hb,if_neg h]
 |(k,x)::r=>by
  have ih:=Kw f g v r;rw[show Eu f v ((k,x)::r)=(if k=f then(k,v)::r else(k,x)::Eu f v r) from rfl]
  by_cases hk:k=f
  ·rw[if_pos hk]
   by_cases h:g=k
   ·have hb:(g == k)=true:=beq_iff_eq.mpr h;simp only[List.lookup,hb,if_pos (h.trans hk)]
   ·have hb:(g == k)=false:=beq_eq_false_iff_ne.mpr h;simp only[List.lookup,hb,if_neg (fun e:g=f=>h (e.trans hk.symm))]
  ·rw[if_neg hk]
   by_cases h:g=k
   ·have hb:(g == k)=true:=beq_iff_eq.mpr h;simp only[List.lookup,hb,if_neg (fun e:g=f=>hk (h.symm.trans e))]
   ·have hb:(g == k)=false:=beq_eq_false_iff_ne.mpr h;simp only[List.lookup,hb];exact ih
theorem Ko (f:Str)(v:V):∀fs:List (Str×V),f∈(Eu f v fs).map (·.1)/\∀g,g∈fs.map (·.1)->g∈(Eu f v fs).map (·.1)
 |[]=>⟨by simp[Eu],fun g h=>by simp at h⟩
 |(k,x)::r=>by
  obtain⟨i1,i2⟩:=Ko f v r;rw[show Eu f v ((k,x)::r)=(if k=f then(k,v)::r else(k,x)::Eu f v r) from rfl]
  by_cases hk:k=f
  ·rw[if_pos hk];subst hk;exact⟨by simp,fun g h=>by simpa using h⟩
  ·rw[if_neg hk];refine⟨?_,fun g h=>?_⟩
   ·rw[List.map_cons];exact List.mem_cons_of_mem _ i1
   ·rw[List.map_cons] at h ⊢;rcases List.mem_cons.mp h with e|e
    ·exact List.mem_cons.mpr (.inl e)
    ·exact List.mem_cons_of_mem _ (i2 g e)
theorem Kv (f:Str)(v:V):∀fs:List (Str×V),(Eu f v fs).length<=fs.length+1
 |[]=>by simp[Eu]
 |(k,x)::r=>by
  have ih:=Kv f v r;rw[show Eu f v ((k,x)::r)=(if k=f then(k,v)::r else(k,x)::Eu f v r) from rfl]
  by_cases hk:k=f
  ·rw[if_pos hk,List.length_cons,List.length_cons];omega
  ·rw[if_neg hk,List.length_cons,List.length_cons];omega
theorem Fv.some_of {v:V}{o:Option Value}(r:Fv (some v) o):∃u,o=some u/\RelV v u:=by
 cases o with
 |none=>exact(show False from r).elim
 |some u=>exact⟨u,rfl,r⟩
theorem Fv.none_of {o:Option Value}(r:Fv none o):o=none:=by
 cases o with
 |none=>rfl
 |some u=>exact(show False from r).elim
theorem Sm {v:V}{u:Value}(r:RelV v u):PySem.W.handedIn u=true:=by
 cases v with
 |non=>cases(show u=Value.none from r);rfl
 |bl b=>cases(show u=Value.bool b from r);rfl
 |int i=>obtain⟨t,e⟩:=(show ∃t,u=Value.int i t from r);cases e;rfl
 |str x=>obtain⟨t,e⟩:=(show ∃t,u=Value.str x t from r);cases e;rfl
 |byt b=>obtain⟨t,e⟩:=(show ∃t,u=Value.bytes b t from r);cases e;rfl
 |flt b=>obtain⟨t,e⟩:=(show ∃t,u=Value.float b t from r);cases e;rfl
 |ref a=>cases(show u=Value.ref a from r);rfl
 |ty n=>cases(show u=Value.type n from r);rfl
section
variable {P:Program}{w:World}{H H':Hp}{h h':Heap}{a C dx:Addr}{fs fs':List (Str×V)}
theorem K6 (hok:IS P w H h)(e:H a=some (.ins C dx fs)):∃mA,ObjM h a dx C mA/\(∀f,Fv (fs.lookup f) (mA f))/\PySem.Within mA (fs.map (·.1))/\fs.length<=1000/\H dx=some (.own a):=by
 obtain⟨d,z,ne,ob,mA,n,r,q⟩:=(show Bm P w H h a (.ins C dx fs) from hok a _ e)
 exact⟨mA,⟨ob,n,ne⟩,r,q,z,d⟩
end
structure Cls (K:PySem.W.Frag) (C:Addr):Prop where
 pg:PySem.W.plainGet K C Str.empty=true
 hd:PySem.W.hasDictIn K C=true
 po:PySem.W.plainOver K C=true
 sa:PySem.W.findIn K (.ref C) "__setattr__"=some (some (.builtin "object.__setattr__"))
theorem Cls.get {K:PySem.W.Frag}{C:Addr}(c:Cls K C)(f:Str):PySem.W.plainGet K C f=true:=c.pg
def BE (K:PySem.W.Frag)(C:Addr)(f:Str):Prop:=PySem.W.findIn K (.ref C) f=some none
theorem BE.taker {K:PySem.W.Frag}{C:Addr}{f:Str}(n:BE K C f):PySem.W.takerIn K C f=some none:=by
 unfold PySem.W.takerIn;rw[show PySem.W.findIn K (.ref C) f=some none from n];rfl
structure Con (K:PySem.W.Frag) (C:Addr) (f:Str) (v:V) (u:Value):Prop where
 at_:PySem.W.findIn K (.ref C) f=some (some u)
 rel:RelV v u
 get:PySem.W.specialIn K u "__get__"=some none
 cp:PySem.W.copiedNames.contains f=false
structure Meth (K:PySem.W.Frag) (C:Addr) (m:Str) (f:Addr):Prop where
 at_:PySem.W.findIn K (.ref C) m=some (some (.ref f))
 fn:PySem.W.isFn K (.ref f)=true
 kp:PySem.W.keepIn K (.ref f)=true
section
variable {X:Cx}{pins:List (Addr×Obj)}{σ:St}{H:Hp}{s:Shared}{a C dx:Addr}{fs:List (Str×V)}{f:Str}{v:V}{A:Around}{E:Value->Shared->Prop}
theorem Lq {b:Bool} {Q:Value->Shared->Prop} (I:Inv X pins σ H s) (e:H a=some (.ins C dx fs)) (c:Cls X.K C) (n:BE X.K C f) (l:fs.lookup f=some v)
  (h:∀u s',Inv X pins σ H s'->RelV v u->Q u s'):wpAny (model X.prog X.w) A (getAttr (.ref a) f b) Q E s:=by
 obtain⟨mA,O,r,_,_,_⟩:=K6 I.hok e;obtain⟨u,hu,ru⟩:=Fv.some_of (v:=v) (o:=mA f) (by rw[<-l];exact r f);exact get_map I.kIn O (c.get f) c.hd n hu (Sm ru) (h u _ (I.tok _) ru)
theorem LA {m:Str} {g:Addr} {pl:Sem Bool} {Q:Value×List Value->Shared->Prop} (I:Inv X pins σ H s) (e:H a=some (.ins C dx fs)) (c:Cls X.K C) (k:Meth X.K C m g) (l:fs.lookup m=none)
  (h:Q (.ref g,[.ref a]) s):wpAny (model X.prog X.w) A (getMethod (.ref a) m pl) Q E s:=by
 obtain⟨mA,O,r,_,_,_⟩:=K6 I.hok e;have hn:mA m=none:=Fv.none_of (by rw[<-l];exact r m);exact TR I.kIn O (c.get m) k.at_ k.fn hn h
theorem LD {y:V} {u:Value} {Q:Unit->Shared->Prop} (I:Inv X pins σ H s) (e:H a=some (.ins C dx fs)) (c:Cls X.K C) (n:BE X.K C f) (hl:fs.length<1000) (ry:RelV y u)
  (h:∀s',Inv X pins σ (upd H a (.ins C dx (Eu f y fs))) s'->Q () s'):wpAny (model X.prog X.w) A (setAttr (.ref a) f u) Q E s:=by
 obtain⟨mA,O,r,wi,_,ho⟩:=K6 I.hok e;have hz:(fs.map (·.1)).length<=sizeLine:=by rw[List.length_map,sizeLine_eq];omega
 refine VJ I.kIn O c.sa c.po n.taker c.hd wi hz fun h' O' sb=>h _ ?_
 have hd:∃o,h'.get? dx=some o:=let⟨o,_,_,e',_⟩:=O'.ns;⟨o,e'⟩;refine I.write (x:=a) (e:=dx) (by rw[e];exact True.intro) (.inr ho) (fun b q hb z=>(sb.2 b hb).trans z) hd ?_;refine⟨by rw[Ag O.ne];exact ho,?_,O.ne,O'.obj,_,O'.ns,fun g=>?_,fun g hg=>?_⟩
 ·have:=Kv f y fs;omega
 ·show Fv ((Eu f y fs).lookup g) (if g=f then some u else mA g);rw[Kw]
  by_cases q:g=f
  ·rw[if_pos q,if_pos q];exact ry
  ·rw[if_neg q,if_neg q];exact r g
 ·by_cases q:g=f
  ·rw[q];exact(Ko f y fs).1
  ·refine(Ko f y fs).2 g (wi g fun z=>hg ?_);show(if g=f then some u else mA g)=none;rw[if_neg q];exact z
theorem Inv.made (I:Inv X pins σ H s):Inv X pins σ (upd (upd H s.heap.objs.size (.own (s.heap.objs.size+1))) (s.heap.objs.size+1) (.ins C s.heap.objs.size []))
  { s with heap:=(s.heap.push PySem.W.emptyDict).push (PySem.W.instObj C s.heap.objs.size) }:=by
 have e1:(s.heap.push PySem.W.emptyDict).get? s.heap.objs.size=some PySem.W.emptyDict:=Heap.get?_push_size s.heap rfl;have e2:((s.heap.push PySem.W.emptyDict).push (PySem.W.instObj C s.heap.objs.size)).get? (s.heap.objs.size+1)=some (PySem.W.instObj C s.heap.objs.size):=by
  have:=Heap.get?_push_size (s.heap.push PySem.W.emptyDict) (o:=PySem.W.instObj C s.heap.objs.size) rfl
  rwa [Heap.size_push] at this
 have e3:(s.heap.push PySem.W.emptyDict).Ns s.heap.objs.size (fun _=>none):=⟨PySem.W.emptyDict,#[],_,e1,rfl,(fun e he=>absurd he (by simp)),fun _=>rfl⟩
 have I1:=I.laid (a:=s.heap.objs.size) (o:=.own (s.heap.objs.size+1)) (h':=s.heap.push PySem.W.emptyDict) (t':=s.toks) (fun b u q=>Heap.get?_push_of_some _ q) (Nat.le_refl _) ⟨_,e1⟩;refine I1.laid (a:=s.heap.objs.size+1) (o:=.ins C s.heap.objs.size []) (t':=s.toks) (fun b u q=>Heap.get?_push_of_some _ q) (Nat.le_of_eq (Heap.size_push _ _)) ?_;have ne:s.heap.objs.size≠s.heap.objs.size+1:=Nat.ne_of_lt (Nat.lt_succ_self _);refine⟨by rw[Ag ne,Af],Nat.zero_le _,ne,e2,fun _=>none,(Heap.Ns1.of_empty e3).at fun o q=>Heap.get?_push_of_some _ q,fun _=>True.intro,fun y hy=>absurd rfl hy⟩
theorem Vf {prog:Program} {w:World} {env:Env} {e:Expr} {f:Str} {pos:Pos} {s:Shared} {Q:Value->Shared->Prop} (hb:attributeBase e f env (eval e env)=eval e env)
  (h:wpAny (model prog w) A (eval e env) (fun o s₁=>wpAny (model prog w) A (getAttr o f true) Q E s₁) E s):wpAny (model prog w) A (eval (.Attribute e f pos) env) Q E s:=
 Attribute_any_ h (by rw[arm_eval_Attribute,hb])
end
def Zb (K:PySem.W.Frag)(ta:TE)(f:Str):TE:=fun σ H Q=>ta σ H fun x H1=>∃a C dx fs v,x=.ref a/\H1 a=some (.ins C dx fs)/\Cls K C/\BE K C f/\fs.lookup f=some v/\Q v H1
def Y9 (K:PySem.W.Frag)(ta tv:TE)(f:Str):TS:=fun D σ H=>tv σ H fun y H1=>ta σ H1 fun x H2=>∃a C dx fs,x=.ref a/\H2 a=some (.ins C dx fs)/\Cls K C/\BE K C f/\fs.length<1000/\
 D.nx σ (upd H2 a (.ins C dx (Eu f y fs)))
def YQ (X:Cx)(op:Operator)(rd:V->V->Hp->VK->Prop):Prop:=
 ∀(pins:List (Addr×Obj)) (s:Shared) (σ:St) (H:Hp) (x y:V) (u v:Value) (Q:VK),Inv X pins σ H s->RelV x u->RelV y v->rd x y H Q->wpAny (model X.prog X.w) X.A (inplaceOp op u v) (EP X pins σ Q) X.xe s
def Vl (K:PySem.W.Frag)(ta tv:TE)(rd:V->V->Hp->VK->Prop)(f:Str):TS:=fun D σ H=>ta σ H fun x H1=>∃a C dx fs v,x=.ref a/\H1 a=some (.ins C dx fs)/\Cls K C/\BE K C f/\fs.lookup f=some v/\
 tv σ H1 fun y H2=>rd v y H2 fun z H3=>∃dx' fs',H3 a=some (.ins C dx' fs')/\fs'.length<1000/\D.nx σ (upd H3 a (.ins C dx' (Eu f z fs')))
section
variable {X:Cx}{o e value:Expr}{f:Str}{pos pos' tpos:Pos}{ta tv:TE}
theorem AQ (he:PE X e ta)(hb:attributeBase e f X.env (eval e X.env)=eval e X.env):PE X (.Attribute e f pos) (Zb X.K ta f):=by
 intro pins s σ H Q I h;refine Vf hb (Br (he pins s σ H _ I h) fun u s1 ⟨x,H1,I1,rx,a,C,dx,fs,v,ex,ea,c,n,l,q⟩=>?_);subst ex;obtain rfl:u=Value.ref a:=rx;exact Lq I1 ea c n l fun u' s2 I2 ru=>⟨v,H1,I2,ru,q⟩
theorem Cm (ha:PE X o ta)(hv:PE X value tv)(hs:swapsWith value (some (.Attribute o f pos')) pos.line X.env=pure false):PS X (.Assign [.Attribute o f pos'] value pos) (Y9 X.K ta tv f):=by
 intro pins s σ H D I h;refine plainObj_wpAny_Assign_Attribute (Br (hv pins s σ H _ I h) fun u s1 ⟨y,H1,I1,ry,q⟩=>Br (ha pins s1 σ H1 _ I1 q) fun ov s2 ⟨x,H2,I2,rx,a,C,dx,fs,ex,ea,c,n,l,q2⟩=>?_) hs;subst ex;obtain rfl:ov=Value.ref a:=rx;exact LD I2 ea c n l ry fun s3 I3=>⟨σ,_,I3,q2⟩
theorem Gh {op:Operator}{rd:V->V->Hp->VK->Prop}(ha:PE X o ta)(hv:PE X value tv)(hop:YQ X op rd):PS X (.AugAssign (.Attribute o f tpos) op value pos) (Vl X.K ta tv rd f):=by
 intro pins s σ H D I h;refine wpAny_AugAssign_AttributeAny (Br (ha pins s σ H _ I h) fun ov s1 ⟨x,H1,I1,rx,a,C,dx,fs,v,ex,ea,c,n,l,q⟩=>?_);subst ex;obtain rfl:ov=Value.ref a:=rx;refine Lq I1 ea c n l fun u s2 I2 ru=>Br (hv pins s2 σ H1 _ I2 q) fun w3 s3 ⟨y,H2,I3,ry,q3⟩=>Br (hop pins s3 σ H2 v y u w3 _ I3 ru ry q3) fun w4 s4 ⟨z,H3,I4,rz,dx',fs',ea',l',q4⟩=>?_
 exact LD I4 ea' c n l' rz fun s5 I5=>⟨σ,_,I5,q4⟩
end
section
variable {X:Cx}{pins:List (Addr×Obj)}{σ:St}{H:Hp}{s:Shared}{A:Around}{E:Value->Shared->Prop}{Q:Value->Shared->Prop}{c:Value}{b:Bool}
inductive TyOf (K:PySem.W.Frag) (H:Hp):V->Value->Prop where
 |non:TyOf K H .non (.type "NoneType")
 |bl (x:Bool):TyOf K H (.bl x) (.type "bool")
 |int (i:Int):TyOf K H (.int i) (.type "int")
 |str (x:Str):TyOf K H (.str x) (.type "str")
 |flt (x:UInt64):TyOf K H (.flt x) (.type "float")
 |lst {a:Addr} {xs:List V} (e:H a=some (.lst xs)):TyOf K H (.ref a) (.type "list")
 |frz {a:Addr} {o:Obj} {xs:List V} (e:H a=some (.frz o (.lst xs))):TyOf K H (.ref a) (.type "list")
 |tup {a:Addr} {xs:List V} (e:H a=some (.tup xs)):TyOf K H (.ref a) (.type "tuple")
 |dK {a:Addr} {kvs:List (Key×V)} (e:H a=some (.dK kvs)):TyOf K H (.ref a) (.type "dict")
 |dT {a:Addr} {kvs:List (List Key×V)} (e:H a=some (.dT kvs)):TyOf K H (.ref a) (.type "dict")
 |ins {a C dx:Addr} {fs:List (Str×V)} (e:H a=some (.ins C dx fs)) (cl:Cls K C) (ha:PySem.W.findIn K (.ref C) "__class__"=some (some (.builtin "object.__class__")))
   (hn:PySem.W.specialIn K (.builtin "object.__class__") "__get__"=some (some (.builtin "getset_descriptor.__get__"))) (htk:PySem.W.takesIn K (.builtin "object.__class__")=some true)
   (hm:PySem.W.mroIn K C (.type "object")=some true):TyOf K H (.ref a) (.ref C)
theorem SQ {x:V}{u t:Value}(I:Inv X pins σ H s)(rx:RelV x u)(ty:TyOf X.K H x t)(e:PySem.W.kitOne X.K t c=some b)(h:∀tk,Q (.bool b) { s with toks:=tk }) :
  wpAny (model X.prog X.w) A (call (.builtin "isinstance") [u,c]) Q E s:=by
 cases ty with
 |non=>cases(show u=Value.none from rx);exact PySem.W.kia_one PySem.W.kitx_none I.kIn True.intro e (fun z=>nomatch z) h
 |bl y=>cases(show u=Value.bool y from rx);exact PySem.W.kia_one PySem.W.kitx_bool I.kIn True.intro e (fun z=>nomatch z) h
 |int i=>obtain⟨t,q⟩:=(show ∃t,u=Value.int i t from rx);cases q;exact PySem.W.kia_one PySem.W.kitx_int I.kIn True.intro e (fun z=>nomatch z) h
 |str y=>obtain⟨t,q⟩:=(show ∃t,u=Value.str y t from rx);cases q;exact PySem.W.kia_one PySem.W.kitx_str I.kIn True.intro e (fun z=>nomatch z) h
 |flt y=>obtain⟨t,q⟩:=(show ∃t,u=Value.float y t from rx);cases q;exact PySem.W.kia_one PySem.W.kitx_float I.kIn True.intro e (fun z=>nomatch z) h
 |@lst a xs ea=>
  cases(show u=Value.ref a from rx);obtain⟨_,_,n,_,h1⟩:=(show Bm X.prog X.w H s.heap a (.lst xs) from I.hok a _ ea)
  exact PySem.W.kia_one PySem.W.kitx_list I.kIn ⟨_,h1,rfl⟩ e (fun z=>nomatch z) h
 |@frz a ob xs ea=>
  cases(show u=Value.ref a from rx);obtain⟨_,_,_,n,_,h1⟩:=(show Bm X.prog X.w H s.heap a (.frz ob (.lst xs)) from I.hok a _ ea)
  exact PySem.W.kia_one PySem.W.kitx_list I.kIn ⟨_,h1,rfl⟩ e (fun z=>nomatch z) h
 |@tup a xs ea=>
  cases(show u=Value.ref a from rx);obtain⟨_,_,_,p⟩:=(show Bm X.prog X.w H s.heap a (.tup xs) from I.hok a _ ea)
  obtain⟨o,h1,h2,_⟩:=p;exact PySem.W.kia_one PySem.W.kitx_tuple I.kIn ⟨o,h1,h2⟩ e (fun z=>nomatch z) h
 |@dK a kvs ea=>
  cases(show u=Value.ref a from rx);obtain⟨_,_,vs,_,p⟩:=(show Bm X.prog X.w H s.heap a (.dK kvs) from I.hok a _ ea)
  obtain⟨o,es,ep,h1,h2,_⟩:=p;exact PySem.W.kia_one PySem.W.kitx_dict I.kIn ⟨o,h1,h2.1⟩ e (fun z=>nomatch z) h
 |@dT a kvs ea=>
  cases(show u=Value.ref a from rx);obtain⟨_,_,xs,_,o,es,ep,h1,h2,_⟩:=(show Bm X.prog X.w H s.heap a (.dT kvs) from I.hok a _ ea)
  exact PySem.W.kia_one PySem.W.kitx_dict I.kIn ⟨o,h1,h2.1⟩ e (fun z=>nomatch z) h
 |@ins a C dx fs ea cl ha hn htk hm=>
  cases(show u=Value.ref a from rx);obtain⟨mA,O,_⟩:=K6 I.hok ea;obtain⟨od,J,_⟩:=O.look;exact PySem.W.kia_one (PySem.W.kitx_own (cl.get _) cl.hd ha hn htk hm) I.kIn J e (fun z=>nomatch z) h
end
structure Room (k:Nat) (A:Around):Prop where
 hd:A.handled=none
 dp:A.depth+3*k+5<recursionLimit
 un:A.units+16*k+200<cLine
theorem Room.mono {j k:Nat}{A:Around}(r:Room k A)(h:j<=k):Room j A:=⟨r.hd,by have:=r.dp;omega,by have:=r.un;omega⟩
theorem Room.deeper {k:Nat}{A:Around}(r:Room (k+1) A)(env:Env):Room k (A.deeper env):=
 ⟨r.hd,by have:=r.dp;show A.depth+1+3*k+5<_;omega,by have:=r.un;show A.units+3+16*k+200<_;omega⟩
theorem Room.in1 {k:Nat}{A:Around}(r:Room (k+1) A):Room k A.in1:=
 ⟨r.hd,by have:=r.dp;show A.depth+3*k+5<_;omega,by have:=r.un;show A.units+1+16*k+200<_;omega⟩
theorem QH {A:Around}{C:Addr}{us:List Value}{kw:List (Str×Value)}:(A.under (.builtin "type.__call__" ⟨.ref C::us,kw⟩)).depth=A.depth+1:=by
 first|rfl|simp[Around.under,Code.weight,Code.isCreation,Code.isGuard,Code.isCaller,Code.frames,Code.isFrame,guardIds]
theorem PP {A:Around}{C:Addr}{us:List Value}{kw:List (Str×Value)}:(A.under (.builtin "type.__call__" ⟨.ref C::us,kw⟩)).units=A.units+1:=by
 first|rfl|simp[Around.under,Code.cUnits,Code.frames,Code.isFrame]
theorem Room.make {k:Nat}{A:Around}(r:Room (k+1) A)(C:Addr)(us:List Value)(kw:List (Str×Value)):Room k (A.under (.builtin "type.__call__" ⟨.ref C::us,kw⟩)):=
 ⟨r.hd,by have:=r.dp;rw[QH];omega,by have:=r.un;rw[PP];omega⟩
theorem Room.depth {k:Nat}{A:Around}(r:Room k A):A.depth<recursionLimit:=by have:=r.dp;omega
theorem Room.units {k:Nat}{A:Around}(r:Room k A):A.units+64<cLine:=by have:=r.un;omega
def Nm:TA:=fun _ H Q=>Q [] H
def Rg (ta:TE)(tr:TA):TA:=fun σ H Q=>ta σ H fun x H1=>tr σ H1 fun xs H2=>Q (x::xs) H2
section
variable {X:Cx}{e:Expr}{es:List Expr}{te:TE}{t:TA}{pos:Pos}
theorem Aj:PA X [] Nm:=fun _ _ _ _ H Q I h=>Calls.spliced_nil ⟨[],H,I,.nil,h⟩
theorem Ac (ha:PE X e te)(hr:PA X es t)(hs:starEach (e::es) X.env=(false,eval e X.env)::starEach es X.env:=by rfl):PA X (e::es) (Rg te t):=by
 intro pos pins s σ H Q I h;rw[hs];show wpAny _ _ (spliced ((false,eval e X.env)::backTo pos (starEach es X.env))) _ _ s;refine Calls.spliced_cons (Br (ha pins s σ H _ I h) fun u s1 ⟨x,H1,I1,r1,q1⟩=>?_);exact Br (hr pos pins s1 σ H1 _ I1 q1) fun us s2 ⟨xs,H2,I2,r2,q2⟩=>⟨x::xs,H2,I2,.cons r1 r2,q2⟩
def YA (t:TA):TE:=fun σ H Q=>t σ H fun xs H1=>xs.length<=sizeLine/\∀p,H1 p=none->Q (.ref p) (upd H1 p (.tup xs))
def Y6 (t:TA):TE:=fun σ H Q=>t σ H fun xs H1=>xs.length<=sizeLine/\∀p,H1 p=none->Q (.ref p) (upd H1 p (.lst xs))
theorem EF {x1}(h:PA X es t):PE X (.Tuple es x1 pos) (YA t):=by
 intro pins s σ H Q I hq;refine wpAny_Tuple_spliced (Br (h pos pins s σ H _ I hq) fun us s1 ⟨xs,H1,I1,r,z,q⟩=>⟨by rw[<-r.length];exact z,?_⟩);have hf:H1 s1.heap.objs.size=none:=I1.hok.fresh (Nat.le_refl _);refine⟨.ref s1.heap.objs.size,upd H1 s1.heap.objs.size (.tup xs),I1.laid (t':=s1.toks) (fun b u e=>Heap.get?_push_of_some _ e) (Nat.le_refl _) ?_,rfl,q _ hf⟩;exact⟨z,us,r,⟨_,Heap.get?_push_size _ rfl,rfl,_,rfl⟩⟩
theorem BY (h:PA X es t):PE X (.List es pos) (Y6 t):=by
 intro pins s σ H Q I hq;refine wpAny_List_spliced (Br (h pos pins s σ H _ I hq) fun us s1 ⟨xs,H1,I1,r,z,q⟩=>⟨by rw[<-r.length];exact z,?_⟩);have hf:H1 s1.heap.objs.size=none:=I1.hok.fresh (Nat.le_refl _);refine⟨.ref s1.heap.objs.size,upd H1 s1.heap.objs.size (.lst xs),I1.laid (t':=s1.toks) (fun b u e=>Heap.get?_push_of_some _ e) (Nat.le_refl _) ?_,rfl,q _ hf⟩;exact⟨z,us,0,r,Heap.get?_push_size _ rfl⟩
end
abbrev Sp:=List V->Hp->VK->XK->Prop
abbrev SC:=List Env->Hp->Shared->XK->Value->Shared->Prop
structure Env0 (P:Program) (w:World) (K:PySem.W.Frag) (mg:Str->Option Value) (base:Heap) (A:Around) (outer:List Env) (s:Shared) (H:Hp):Prop where
 frames:A.frames=some outer
 mod:Mod K mg base
 bs:∀b o,base.get? b=some o->s.heap.get? b=some o/\H b=none
 bsz:base.objs.size<=s.heap.objs.size
 funs:s.heap.FunFrames base outer
 frf:∀b∈Oc outer,H b=none
 hok:IS P w H s.heap
 bare:AllBare s.gens
def CE (outer:List Env)(P:Program)(w:World)(H:Hp)(s:Shared)(Q:VK)(u:Value)(s':Shared):Prop:=
 ∃v H',s'.os=s.os/\AllBare s'.gens/\Un (Oc outer) [] H H' s.heap s'.heap/\IS P w H' s'.heap/\RelV v u/\Q v H'
def CR (CX:SC)(outer:List Env)(P:Program)(w:World)(H:Hp)(s:Shared)(Q:VK)(E:XK)(r:Result)(s':Shared):Prop:=
 match r with
 | .ok (.ret u)=>CE outer P w H s Q u s'
 | .ok _=>False
 | .error e=>CX outer H s E e s'
structure FnOk (P:Program) (w:World) (K:PySem.W.Frag) (mg:Str->Option Value) (base:Heap) (CX:SC) (k:Nat) (f:Addr) (fd:FuncData) (ps:List Str) (sp:Sp):Prop where
 len:∀vs H Q E,sp vs H Q E->vs.length=ps.length
 run:∀(A:Around) (outer:List Env) (s:Shared) (H:Hp) (args:Args) (us:List Value) (vs:List V) (Q:VK) (E:XK),Room k A->Env0 P w K mg base A outer s H->BindsTo s fd args (ps.zip us)->AL vs us->sp vs H Q E->
  codeAny (model P w) A (.call (.ref f) args) (CR CX outer P w H s Q E) s
theorem FnOk.mono {P:Program}{w:World}{K:PySem.W.Frag}{mg:Str->Option Value}{base:Heap}{CX:SC}{j k:Nat}{f:Addr}{fd:FuncData}{ps:List Str}{sp:Sp}(F:FnOk P w K mg base CX j f fd ps sp)(h:j<=k) :
  FnOk P w K mg base CX k f fd ps sp:=⟨F.len,fun A outer s H args us vs Q E hr=>F.run A outer s H args us vs Q E (hr.mono h)⟩
theorem FnOk.imp {P:Program} {w:World} {K:PySem.W.Frag} {mg:Str->Option Value} {base:Heap} {CX:SC} {k:Nat} {f:Addr} {fd:FuncData} {ps:List Str} {sp sp':Sp} (F:FnOk P w K mg base CX k f fd ps sp)
  (h:∀vs H Q E,sp' vs H Q E->sp vs H Q E):FnOk P w K mg base CX k f fd ps sp':=
 ⟨fun vs H Q E q=>F.len vs H Q E (h _ _ _ _ q),fun A outer s H args us vs Q E hr he hb hv hs=>F.run A outer s H args us vs Q E hr he hb hv (h _ _ _ _ hs)⟩
theorem Env0.make {P:Program}{w:World}{K:PySem.W.Frag}{mg:Str->Option Value}{base:Heap}{A:Around}{outer:List Env}{s:Shared}{H:Hp}(e:Env0 P w K mg base A outer s H)(C:Addr)(us:List Value)(kw:List (Str×Value)) :
  Env0 P w K mg base (A.under (.builtin "type.__call__" ⟨.ref C::us,kw⟩)) outer s H:=⟨by first|exact e.frames|(simpa [Around.under,Code.envs,Code.isFrame,pushEnvs] using e.frames),e.mod,e.bs,e.bsz,e.funs,e.frf,e.hok,e.bare⟩
theorem Env0.in1 {P:Program}{w:World}{K:PySem.W.Frag}{mg:Str->Option Value}{base:Heap}{A:Around}{outer:List Env}{s:Shared}{H:Hp}(e:Env0 P w K mg base A outer s H) :
  Env0 P w K mg base A.in1 outer s H:=⟨e.frames,e.mod,e.bs,e.bsz,e.funs,e.frf,e.hok,e.bare⟩
section
variable {X:Cx}{pins:List (Addr×Obj)}{σ:St}{H:Hp}{s s':Shared}
theorem Inv.env0 (I:Inv X pins σ H s):Env0 X.prog X.w X.K X.mg X.base X.A X.stack s H:=
 ⟨I.ok.frames,I.ok.mod,I.bs,Nat.le_trans I.ok.bsz I.sz,I.stack,I.stkFree,I.hok,I.bare⟩
theorem Inv.after {Q:VK}{u:Value}(I:Inv X pins σ H s)(h:CE X.stack X.prog X.w H s Q u s'):EP X pins σ Q u s':=by
 obtain⟨v,H',os,bare,un,hok,r,q⟩:=h;obtain⟨hh,g,d,t,os'⟩:=s';obtain rfl:os'=s.os:=os;exact⟨v,H',I.call (h':=hh) (g':=g) (d':=d) (t':=t) (ch:=[]) un hok bare (fun b z=>absurd z (by simp)),r,q⟩
end
def RD (sp:Sp)(dvs:List V)(E:XK)(t:TA):TE:=fun σ H Q=>t σ H fun vs H1=>sp (vs++dvs) H1 Q E
def Rb (C:Addr)(m:Str)(sp:Sp)(dvs:List V)(E:XK)(ta:TE)(t:TA):TE:=fun σ H Q=>ta σ H fun x H1=>∃a dx fs,x=.ref a/\H1 a=some (.ins C dx fs)/\fs.lookup m=none/\
 t σ H1 fun vs H2=>sp (x::(vs++dvs)) H2 Q E
def WK (C:Addr)(sp:Sp)(dvs:List V)(E:XK)(t:TA):TE:=fun σ H Q=>t σ H fun vs H1=>∀x dx,H1 x=none->H1 dx=none->dx≠x->
 sp (.ref x::(vs++dvs)) (upd (upd H1 dx (.own x)) x (.ins C dx [])) (fun v H2=>v=.non/\Q (.ref x) H2) E
def Binds (K:PySem.W.Frag)(fd:FuncData)(ps:List Str)(ds:List Value):Prop:=
 ∀(s:Shared) (us:List Value),K.In s.heap->(us++ds).length=ps.length->BindsTo s fd ⟨us,[]⟩ (ps.zip (us++ds))
theorem Binds.all {K:PySem.W.Frag}{fd:FuncData}{ps:List Str}(h:∀us:List Value,us.length=ps.length->bindArgs fd ⟨us,[]⟩=pure (ps.zip us)):Binds K fd ps []:=fun s us _ hl=>by
 rw[List.append_nil] at hl ⊢;exact .of_eq (h us hl)
def HZ (CX:SC)(X:Cx)(E:XK):Prop:=∀(pins:List (Addr×Obj)) (σ:St) (H:Hp) (s:Shared) (e:Value) (s':Shared),Inv X pins σ H s->CX X.stack H s E e s'->X.xe e s'
section
variable {X:Cx}{CX:SC}{k:Nat}{f C:Addr}{fd:FuncData}{ps:List Str}{sp:Sp}{dvs:List V}{ds:List Value}{E:XK}{x m:Str}{p pos apos:Pos}{e o:Expr}{es:List Expr}{ta:TE}{t:TA}
theorem Nc {pins:List (Addr×Obj)} {σ:St} {H:Hp} {s:Shared} {Q:VK} {us:List Value} {vs:List V} (F:FnOk X.prog X.w X.K X.mg X.base CX k f fd ps sp) (hr:Room k X.A) (hb:Binds X.K fd ps ds) (hd:AL dvs ds) (hx:HZ CX X E)
  (I:Inv X pins σ H s) (r:AL vs us) (h:sp (vs++dvs) H Q E):wpAny (model X.prog X.w) X.A (call (.ref f) us) (EP X pins σ Q) X.xe s:=by
 have r2:AL (vs++dvs) (us++ds):=r.append hd;have hl:(us++ds).length=ps.length:=by rw[<-r2.length];exact F.len _ _ _ _ h
 refine wpAny_call (codeAny_mono (F.run X.A X.stack s H ⟨us,[]⟩ (us++ds) (vs++dvs) Q E hr I.env0 (hb s us I.kIn hl) r2 h) fun r s' hq=>?_);cases r with
 |error e=>exact hx pins σ H s e s' I hq
 |ok fl=>
  cases fl with
  |ret u=>exact I.after hq
  |next=>exact False.elim hq
  |brk=>exact False.elim hq
  |cont=>exact False.elim hq
theorem V9 (F:FnOk X.prog X.w X.K X.mg X.base CX k f fd ps sp) (hr:Room k X.A) (hg:Gl X x) (hm:X.mg x=some (.ref f)) (hk:PySem.W.keepIn X.K (.ref f)=true) (hb:Binds X.K fd ps ds) (hd:AL dvs ds) (hx:HZ CX X E)
  (ha:PA X (e::es) t) (hdb:(x == ("__debug__":Str))=false:=by decide) (he:starEach (e::es) X.env=(false,eval e X.env)::starEach es X.env:=by rfl) (hpl:(backTo pos (starEach es X.env)).any (·.1)=false:=by rfl) :
  PE X (.Call (.Name x p) (e::es) [] pos) (RD sp dvs E t):=by
 intro pins s σ H Q I h;refine wpAny_Call_Name_kw (Jp I hg hm ?_ hdb);refine PySem.W.callWith_K (h₀:=X.base) I.ok.mod.kin hk (Br (ha pos pins s σ H _ I h) fun us s1 ⟨vs,H1,I1,r,q⟩=>⟨I1.kIn,?_⟩) he hpl;exact Nc F hr hb hd hx I1 r q
theorem TC (F:FnOk X.prog X.w X.K X.mg X.base CX k f fd ps sp) (hr:Room k X.A) (hg:Gl X x) (hm:X.mg x=some (.ref f)) (hk:PySem.W.keepIn X.K (.ref f)=true) (hb:Binds X.K fd ps ds) (hd:AL dvs ds) (hx:HZ CX X E)
  (hdb:(x == ("__debug__":Str))=false:=by decide):PE X (.Call (.Name x p) [] [] pos) (RD sp dvs E Nm):=by
 intro pins s σ H Q I h;refine wpAny_Call_Name_kw (Jp I hg hm ?_ hdb);exact PySem.W.callWith_K0 I.kIn hk (Nc (us:=[]) F hr hb hd hx I .nil h)
theorem Wp {pl:Sem Bool} (he:PE X o ta) (c:Cls X.K C) (hm:Meth X.K C m f) (F:FnOk X.prog X.w X.K X.mg X.base CX k f fd ps sp) (hr:Room k X.A) (hb:Binds X.K fd ps ds) (hd:AL dvs ds) (hx:HZ CX X E) (ha:PA X (e::es) t)
  (hst:starEach (e::es) X.env=(false,eval e X.env)::starEach es X.env:=by rfl) (hpl:(backTo pos (starEach es X.env)).any (·.1)=false:=by rfl)
  (ht:eval (.Call (.Attribute o m apos) (e::es) [] pos) X.env=(do
   let ov <-eval o X.env
   standAt apos.atName
   let(f,first) <-holding [ov] (getMethod ov m pl)
   callWith pos f first (backTo pos (starEach (e::es) X.env)) (backToKw pos (keywordEach [] X.env))):=by rfl) :
  PE X (.Call (.Attribute o m apos) (e::es) [] pos) (Rb C m sp dvs E ta t):=by
 intro pins s σ H Q I h;refine PySem.W.methodCall_KW (pl:=pl) (Br (he pins s σ H _ I h) fun u s1 ⟨x,H1,I1,rx,a,dx,fs,ex,ea,l,q⟩=>?_) ht;subst ex;obtain rfl:u=Value.ref a:=rx;refine LA I1 ea c hm l ?_;refine PySem.W.callWith_K (first:=[.ref a]) (h₀:=X.base) I.ok.mod.kin hm.kp (Br (ha pos pins s1 σ H1 _ I1 q) fun us s2 ⟨vs,H2,I2,r,q2⟩=>⟨I2.kIn,?_⟩) hst hpl;exact Nc (us:=.ref a::us) (vs:=.ref a::vs) F hr hb hd hx I2 (.cons rfl r) q2
theorem S0 {pl:Sem Bool} (he:PE X o ta) (c:Cls X.K C) (hm:Meth X.K C m f) (F:FnOk X.prog X.w X.K X.mg X.base CX k f fd ps sp) (hr:Room k X.A) (hb:Binds X.K fd ps ds) (hd:AL dvs ds) (hx:HZ CX X E)
  (ht:eval (.Call (.Attribute o m apos) [] [] pos) X.env=(do
   let ov <-eval o X.env
   standAt apos.atName
   let(f,first) <-holding [ov] (getMethod ov m pl)
   callWith pos f first (backTo pos (starEach [] X.env)) (backToKw pos (keywordEach [] X.env))):=by rfl) :
  PE X (.Call (.Attribute o m apos) [] [] pos) (Rb C m sp dvs E ta Nm):=by
 intro pins s σ H Q I h;refine PySem.W.methodCall_KW (pl:=pl) (Br (he pins s σ H _ I h) fun u s1 ⟨x,H1,I1,rx,a,dx,fs,ex,ea,l,q⟩=>?_) ht;subst ex;obtain rfl:u=Value.ref a:=rx;refine LA I1 ea c hm l ?_;exact PySem.W.callWith_K0 (first:=[.ref a]) I1.kIn hm.kp (Nc (us:=[.ref a]) (vs:=[.ref a]) F hr hb hd hx I1 (.cons rfl .nil) q)
structure Mk (K:PySem.W.Frag) (C f:Addr):Prop where
 makes:PySem.W.makesIn K C=true
 init:PySem.W.findIn K (.ref C) "__init__"=some (some (.ref f))
 fn:PySem.W.isFn K (.ref f)=true
 kp:PySem.W.keepIn K (.ref C)=true
theorem U4 {pins:List (Addr×Obj)} {σ:St} {H:Hp} {s:Shared} {Q:VK} {us:List Value} {vs:List V} (M:Mk X.K C f) (F:FnOk X.prog X.w X.K X.mg X.base CX k f fd ps sp) (hr:Room (k+1) X.A) (hb:Binds X.K fd ps ds) (hd:AL dvs ds)
  (hx:HZ CX X E) (I:Inv X pins σ H s) (r:AL vs us)
  (h:∀x dx,H x=none->H dx=none->dx≠x->sp (.ref x::(vs++dvs)) (upd (upd H dx (.own x)) x (.ins C dx [])) (fun v H2=>v=.non/\Q (.ref x) H2) E) :
  wpAny (model X.prog X.w) X.A (call (.ref C) us) (EP X pins σ Q) X.xe s:=by
 have hq:=h (s.heap.objs.size+1) s.heap.objs.size (I.hok.fresh (Nat.le_succ _)) (I.hok.fresh (Nat.le_refl _)) (Nat.ne_of_lt (Nat.lt_succ_self _));have I2:=Inv.made (C:=C) I;have r2:AL (V.ref (s.heap.objs.size+1)::(vs++dvs)) (Value.ref (s.heap.objs.size+1)::(us++ds)):=.cons rfl (r.append hd);have hl:(Value.ref (s.heap.objs.size+1)::us++ds).length=ps.length:=by
  have e:=r2.length;rw[F.len _ _ _ _ hq] at e;exact e.symm
 refine wpAny_call (Tc (f:=f) I.kIn M.makes M.init (beq_iff_eq.mp M.fn) (codeAny_mono (F.run _ X.stack _ _ ⟨Value.ref (s.heap.objs.size+1)::us,[]⟩ (Value.ref (s.heap.objs.size+1)::(us++ds)) _ _ E (hr.make C us [])
  (I2.env0.make C us []) (hb _ (Value.ref (s.heap.objs.size+1)::us) I2.kIn hl) r2 hq) fun r s' hq'=>?_))
 cases r with
 |error e=>exact hx pins σ _ _ e s' I2 hq'
 |ok fl=>
  cases fl with
  |ret u=>
   obtain⟨v,H',I3,rv,ev,q3⟩:=I2.after hq';subst ev;exact⟨rv,⟨V.ref (s.heap.objs.size+1),H',I3,rfl,q3⟩⟩
  |next=>exact False.elim hq'
  |brk=>exact False.elim hq'
  |cont=>exact False.elim hq'
theorem VE (M:Mk X.K C f) (F:FnOk X.prog X.w X.K X.mg X.base CX k f fd ps sp) (hr:Room (k+1) X.A) (hg:Gl X x) (hm:X.mg x=some (.ref C)) (hb:Binds X.K fd ps ds) (hd:AL dvs ds) (hx:HZ CX X E)
  (ha:PA X (e::es) t) (hdb:(x == ("__debug__":Str))=false:=by decide) (he:starEach (e::es) X.env=(false,eval e X.env)::starEach es X.env:=by rfl) (hpl:(backTo pos (starEach es X.env)).any (·.1)=false:=by rfl) :
  PE X (.Call (.Name x p) (e::es) [] pos) (WK C sp dvs E t):=by
 intro pins s σ H Q I h;refine wpAny_Call_Name_kw (Jp I hg hm ?_ hdb);refine PySem.W.callWith_K (h₀:=X.base) I.ok.mod.kin M.kp (Br (ha pos pins s σ H _ I h) fun us s1 ⟨vs,H1,I1,r,q⟩=>⟨I1.kIn,?_⟩) he hpl;exact U4 M F hr hb hd hx I1 r q
end
section
variable {X:Cx}{CX:SC}{k:Nat}{f C:Addr}{fd:FuncData}{ps ks:List Str}{sp:Sp}{E:XK}{x m:Str}{p pos apos kpos:Pos}{e o:Expr}{es:List Expr}{kws:List Keyword}{te ta:TE}{t tk:TA}{nm:Option Str}
structure KBinds (K:PySem.W.Frag) (fd:FuncData) (ps ks:List Str) (g:List Value->List Value->List Value) (gV:List V->List V->List V):Prop where
 to:∀(s:Shared) (us ws:List Value),K.In s.heap->(g us ws).length=ps.length->BindsTo s fd ⟨us,ks.zip ws⟩ (ps.zip (g us ws))
 rel:∀{vs:List V} {us:List Value} {zs:List V} {ws:List Value},AL vs us->AL zs ws->AL (gV vs zs) (g us ws)
variable {g:List Value->List Value->List Value}{gV:List V->List V->List V}
end
structure FnScope (N P:List Str) (sc:Scope):Prop where
 kind:sc.kind=.function
 co:sc.isCoroutine=false
 gen:sc.isGenerator=false
 nd:N.Nodup
 pre:N.take P.length=P
 par:∀x∈P,sc.names.lookup x=some .local\/sc.names.lookup x=some .cell
 nofree:∀y∈sc.names,y.2≠.free
theorem MS {kindOf:Str->Option NameKind}{x:Str}:∀{binds:List (Str×Value)} {m:Str->Option Value},(∀v,(x,v)∉binds)->bindL kindOf binds m x=m x
 |[],_,_=>rfl
 |(n,v)::r,m,h=>by
  unfold bindL;rw[MS fun w hw=>h w (List.mem_cons_of_mem _ hw)]
  split
  ·have:x≠n:=by rintro rfl;exact h v List.mem_cons_self
   simp[this]
  ·rfl
theorem MO {kindOf:Str->Option NameKind}{x:Str}:∀{binds:List (Str×Value)} {m:Str->Option Value},(∀v,(x,v)∉binds)->bindC kindOf binds m x=m x
 |[],_,_=>rfl
 |(n,v)::r,m,h=>by
  unfold bindC;rw[MO fun w hw=>h w (List.mem_cons_of_mem _ hw)]
  split
  ·rfl
  ·have:x≠n:=by rintro rfl;exact h v List.mem_cons_self
   simp[this]
theorem MZ {kindOf:Str->Option NameKind}{x:Str}{v:Value}:∀{P:List Str} {vs:List Value} {i:Nat} {m:Str->Option Value},P.Nodup->P[i]?=some x->vs[i]?=some v->kindOf x=some .local->
  bindL kindOf (P.zip vs) m x=some v
 |[],_,_,_,_,h,_,_=>by simp at h
 |_::_,[],_,_,_,_,h,_=>by simp at h
 |p::P,w::vs,0,m,nd,h1,h2,hk=>by
  simp at h1 h2;subst h1;subst h2;show bindL kindOf ((p,w)::P.zip vs) m p=_;unfold bindL;rw[MS fun v hv=>(List.nodup_cons.mp nd).1 (List.of_mem_zip hv).1,if_pos hk];simp
 |p::P,w::vs,i+1,m,nd,h1,h2,hk=>by
  show bindL kindOf ((p,w)::P.zip vs) m x=_;unfold bindL;exact MZ (i:=i) (List.nodup_cons.mp nd).2 (by simpa using h1) (by simpa using h2) hk
theorem MT {kindOf:Str->Option NameKind}{x:Str}{v:Value}:∀{P:List Str} {vs:List Value} {i:Nat} {m:Str->Option Value},P.Nodup->P[i]?=some x->vs[i]?=some v->kindOf x≠some .local->
  bindC kindOf (P.zip vs) m x=some v
 |[],_,_,_,_,h,_,_=>by simp at h
 |_::_,[],_,_,_,_,h,_=>by simp at h
 |p::P,w::vs,0,m,nd,h1,h2,hk=>by
  simp at h1 h2;subst h1;subst h2;show bindC kindOf ((p,w)::P.zip vs) m p=_;unfold bindC;rw[MO fun v hv=>(List.nodup_cons.mp nd).1 (List.of_mem_zip hv).1,if_neg hk];simp
 |p::P,w::vs,i+1,m,nd,h1,h2,hk=>by
  show bindC kindOf ((p,w)::P.zip vs) m x=_;unfold bindC;exact MT (i:=i) (List.nodup_cons.mp nd).2 (by simpa using h1) (by simpa using h2) hk
def start (N:List Str)(vs:List V):St:=vs.map some++List.replicate (N.length-vs.length) none
def BP (CX:SC)(P:Program)(w:World)(K:PySem.W.Frag)(mg:Str->Option Value)(base:Heap)(N:List Str)(qual:Str)(scope:Scope)(f:Addr)(cd:Value)(A:Around)(outer:List Env)(s:Shared)(H:Hp)(E:XK):Cx where
 prog:=P
 w:=w
 K:=K
 mg:=mg
 base:=base
 A:=A.deeper (envOfC qual scope s.heap.objs.size f cd)
 N:=N
 s₀:=s
 H₀:=H
 env:=envOfC qual scope s.heap.objs.size f cd
 outer:=outer
 stack:=envOfC qual scope s.heap.objs.size f cd::outer
 ex:=[]
 calm:=true
 fn:=fun _=>true
 pn:=[]
 xe:=fun e s'=>wpAny (model P w) (A.deeper (envOfC qual scope s.heap.objs.size f cd)) (leaving (envOfC qual scope s.heap.objs.size f cd) e) (fun _ s''=>CX outer H s E e s'') (fun e' s''=>CX outer H s E e' s'') s'
theorem Ph {sc:Scope}{n:Nat}{x:Str}(h:sc.names.lookup x=some .cell):∃c,(cellsFrom n sc.names []).lookup x=some c:=by
 have q:=PySem.W.cellsFrom_some sc.names n [] (.inl h);exact Option.isSome_iff_exists.mp q
theorem SA {CX:SC} {P:Program} {w:World} {K:PySem.W.Frag} {mg:Str->Option Value} {base:Heap} {N ps:List Str} {qual:Str} {scope:Scope} {f:Addr} {cd:Value} {A:Around} {outer:List Env} {s s1:Shared} {H:Hp} {E:XK} {us:List Value} {vs:List V}
  (S:FnScope N ps scope) (hd:A.handled=none) (e0:Env0 P w K mg base A outer s H) (hl:vs.length=ps.length) (r:AL vs us)
  (x:InCallC s s.heap.objs.size (bindL (envOfC qual scope s.heap.objs.size f cd).kindOf (ps.zip us) fun _=>none) (cellsFrom (s.heap.objs.size+1) scope.names []) (bindC (envOfC qual scope s.heap.objs.size f cd).kindOf (ps.zip us) fun _=>none) s1) :
  Inv (BP CX P w K mg base N qual scope f cd A outer s H E) [] (start N vs) H s1:=by
 have hpl:ps.length<=N.length:=by have:=congrArg List.length S.pre;rw[List.length_take] at this;omega
 obtain⟨h1,tk,rfl,hk⟩:=x.done;have noA:∀b:Addr,b∉(BP CX P w K mg base N qual scope f cd A outer s H E).ex:=fun b z=>absurd (show b∈([]:List Addr) from z) (by simp)
 refine⟨⟨e0.mod,S.kind,rfl,rfl,Nat.le_refl _,fun y z c h1 h2=>?_,fun y hy=>?_,fun y c _ h=>?_,fun _=>hd,Around.frames_deeper e0.frames,.inr ⟨rfl,rfl⟩,fun b z=>absurd z (noA b),e0.bs,e0.bsz,fun b _ _=>noA b,fun b z=>absurd z (noA b),e0.funs,e0.frf⟩,
  rfl,e0.bare,Un.kept hk,⟨_,x.toInCall.ns,fun i y v h1 h2 h3=>?_⟩,fun y c h=>⟨_,x.cell y c h⟩,e0.hok.fresh (Nat.le_refl _),fun y c h=>?_,fun p hp=>absurd (show p∈([]:List (Addr×Obj)) from hp) (by simp),e0.hok.kept hk,?_⟩
 ·exact name_of_addr x.apart (PySem.mem_of_lookup h1) (PySem.mem_of_lookup h2)
 ·have hy:scope.names.lookup y=some .cell\/scope.names.lookup y=some .free:=hy;rcases hy with hy|hy
  ·exact Ph hy
  ·exact absurd rfl (S.nofree _ (PySem.mem_of_lookup hy))
 ·exact Nat.le_of_lt (x.above y c (PySem.mem_of_lookup h))
 ·have hi:i<vs.length:=by
   unfold start at h2
   by_cases hi:i<vs.length
   ·exact hi
   ·rw[List.getElem?_append_right (by simpa using hi)] at h2;rw[List.getElem?_replicate] at h2
    split at h2<;>cases h2
  have ha:vs[i]?=some v:=by
   unfold start at h2;rw[List.getElem?_append_left (by simpa using hi),List.getElem?_map] at h2;cases e:vs[i]? with
   |none=>rw[e] at h2;cases h2
   |some a=>rw[e] at h2;cases h2;rfl
  obtain⟨u,hu,rv⟩:=r.get ha;have hp:ps[i]?=some y:=by
   rw[<-S.pre,List.getElem?_take_of_lt (by omega)];exact h1
  have ndP:ps.Nodup:=by rw[<-S.pre];exact S.nd.sublist (List.take_sublist _ _)
  refine⟨u,rv,?_⟩;rcases S.par y (List.mem_of_getElem? hp) with k|k
  ·exact .inl ⟨k,MZ ndP hp hu k⟩
  ·obtain⟨c,e⟩:=Ph (n:=s.heap.objs.size+1) k;refine .inr ⟨.inl k,c,e,?_⟩;have q:=x.cell y c e;rw[MT ndP hp hu (by show scope.names.lookup y≠_;rw[k];decide)] at q;exact q
 ·exact e0.hok.fresh (Nat.le_of_lt (x.above y c (PySem.mem_of_lookup h)))
 ·unfold start;show _=N.length;rw[List.length_append,List.length_map,List.length_replicate];omega
theorem Yh {CX:SC} {P:Program} {w:World} {K:PySem.W.Frag} {mg:Str->Option Value} {base:Heap} {k:Nat} {f:Addr} {name qual:Str} {params:Arguments} {body:List Stmt} {scope:Scope} {dV kV doc pm cdv ct oc:Value} {an od:Option Addr}
  {osl:Array (Option Value)} {N ps:List Str} {sp:Sp} (lk:K.lookup f=some ⟨oc,od,.func (PySem.W.fnOf name qual params body scope dV kV doc pm an cdv ct),osl⟩) (hcd:PySem.W.codeIn K cdv qual=true) (S:FnScope N ps scope)
  (len:∀vs H Q E,sp vs H Q E->vs.length=ps.length)
  (hbody:∀(A:Around) (outer:List Env) (s:Shared) (H:Hp) (vs:List V) (Q:VK) (E:XK),Room k (A.deeper (envOfC qual scope s.heap.objs.size f cdv))->sp vs H Q E->
   ∃t,Qp (BP CX P w K mg base N qual scope f cdv A outer s H E) body t/\t { nx:=fun _ H'=>Q .non H',rt:=Q } (start N vs) H) :
  FnOk P w K mg base CX (k+1) f (PySem.W.fnOf name qual params body scope dV kV doc pm an cdv ct) ps sp:=by
 refine⟨len,fun A outer s H args us vs Q E hr e0 hb r hsp=>?_⟩;have hl:=len _ _ _ _ hsp;have KX:K.In s.heap:=e0.mod.kin.keeps fun b o e=>(e0.bs b o e).1
 have lim:s.heap.NoLimit:=e0.mod.nolimit.keeps fun b o e=>(e0.bs b o e).1
 have hkind:∀y∈ps.zip us,scope.names.lookup y.1=some .local\/(scope.names.lookup y.1=some .cell/\((cellsFrom (s.heap.objs.size+1) scope.names []).lookup y.1).isSome=true):=fun⟨n,v⟩ hy=>by
  rcases S.par n (List.of_mem_zip hy).1 with q|q
  ·exact .inl q
  ·exact .inr ⟨q,PySem.W.cellsFrom_some _ _ _ (.inl q)⟩
 refine codeAny_call_function hr.depth (KX _ _ lk) rfl S.co S.gen rfl (PySem.W.codeRec_of KX hcd) (hb _ _ _ _ ?_);refine wpAny_newFunctionEnv_cells S.kind hkind fun env he s1 x=>?_
 subst he;refine⟨lim.keeps x.toInCall.keep,codeAny_func ?_⟩;obtain⟨t,ht,hq⟩:=hbody A outer s H vs Q E (hr.deeper _) hsp;have I:Inv (BP CX P w K mg base N qual scope f cdv A outer s H E) [] (start N vs) H s1:=SA S hr.hd e0 hl r x;refine wpAny_mono (ht [] s1 (start N vs) H _ I hq) (fun fl s' hs=>?_) fun e s' hs=>hs
 have fin:∀{σ':St} {H':Hp} {v:V} {u:Value},Inv (BP CX P w K mg base N qual scope f cdv A outer s H E) [] σ' H' s'->RelV v u->Q v H'->CE outer P w H s Q u s':=
  fun{σ' H' v u} J rv q=>⟨v,H',J.os,J.bare,J.base,J.hok,rv,q⟩
 cases fl with
 |ret u=>
  obtain⟨v,σ',H',J,rv,q⟩:=hs;exact fin J rv q
 |next=>
  obtain⟨σ',H',J,q⟩:=hs;exact fin (v:=V.non) (u:=Value.none) J rfl q
 |brk=>
  obtain⟨_,_,_,q⟩:=hs;exact False.elim q
 |cont=>
  obtain⟨_,_,_,q⟩:=hs;exact False.elim q
section
variable {X:Cx}{x:Str}{p pos:Pos}{e:Expr}{es:List Expr}{t:TA}{id T:String}{r:List V->Hp->VK->Prop}
def Y3 (r:List V->Hp->VK->Prop)(t:TA):TE:=fun σ H Q=>t σ H fun vs H1=>r vs H1 Q
theorem Au (hc:DW X (.builtin id) r) (hg:Gl X x) (hm:X.mg x=none) (hv:bootBuiltins x=some (.builtin id)) (ha:PA X (e::es) t) (hn:x≠"__name__":=by decide) (hdb:(x == ("__debug__":Str))=false:=by decide)
  (he:starEach (e::es) X.env=(false,eval e X.env)::starEach es X.env:=by rfl) (hpl:(backTo pos (starEach es X.env)).any (·.1)=false:=by rfl):PE X (.Call (.Name x p) (e::es) [] pos) (Y3 r t):=by
 intro pins s σ H Q I h;refine wpAny_Call_Name_kw (Km I hg hm hv ?_ hn hdb);exact PyProof.Rows.callWith_builtin1 (Br (ha pos pins s σ H _ I h) fun us s1 ⟨vs,H1,I1,r1,q1⟩=>hc pins s1 σ H1 vs us Q I1 r1 q1) he hpl
theorem BL (hc:DW X (.type T) r) (hg:Gl X x) (hm:X.mg x=none) (hv:bootBuiltins x=some (.type T)) (ha:PA X (e::es) t) (hn:x≠"__name__":=by decide) (hdb:(x == ("__debug__":Str))=false:=by decide)
  (he:starEach (e::es) X.env=(false,eval e X.env)::starEach es X.env:=by rfl) (hpl:(backTo pos (starEach es X.env)).any (·.1)=false:=by rfl):PE X (.Call (.Name x p) (e::es) [] pos) (Y3 r t):=by
 intro pins s σ H Q I h;refine wpAny_Call_Name_kw (Km I hg hm hv ?_ hn hdb);exact PyProof.Rows.callWith_type1 (Br (ha pos pins s σ H _ I h) fun us s1 ⟨vs,H1,I1,r1,q1⟩=>hc pins s1 σ H1 vs us Q I1 r1 q1) he hpl
end
end L2
namespace HT
open PySem PyProof.Rows
section
variable {prog:Program}{w:World}{A:Around}{E:Value->Shared->Prop}{s:Shared}
def DY (n d:Nat):Option Int->Nat
 |none=>d
 |some v=>if v<0 then(v+(n:Int)).toNat else min v.toNat n
theorem Uk (n d:Nat):DY n d none=d:=rfl
theorem VC (n d k:Nat):DY n d (some (k:Int))=min k n:=by
 show(if(k:Int)<0 then((k:Int)+(n:Int)).toNat else min (k:Int).toNat n)=min k n;rw[if_neg (by omega),Int.toNat_natCast]
theorem Xi (n d:Nat)(hd:d<=n)(o:Option Int):DY n d o<=n:=by
 cases o with
 |none=>exact hd
 |some v=>
  show(if v<0 then(v+(n:Int)).toNat else min v.toNat n)<=n
  by_cases hv:v<0
  ·rw[if_pos hv];omega
  ·rw[if_neg hv];exact Nat.min_le_right _ _
theorem Rm (v:Int)(n d:Nat):(if v<0 then max (v+(n:Int)) 0 else min v (n:Int))=((DY n d (some v):Nat):Int):=by
 show(if v<0 then max (v+(n:Int)) 0 else min v (n:Int))=(((if v<0 then(v+(n:Int)).toNat else min v.toNat n):Nat):Int)
 by_cases hv:v<0
 ·simp only[if_pos hv];omega
 ·simp only[if_neg hv];omega
theorem PR (lo hi:Option Int)(n:Nat):Builtin.Slice.sliceAdjust lo hi 1 (n:Int)=(((DY n 0 lo:Nat):Int),((DY n n hi:Nat):Int)):=by
 have h1:¬((1:Int)<0):=by omega
 unfold Builtin.Slice.sliceAdjust;simp only[h1,if_false];refine Prod.ext ?_ ?_
 ·cases lo with
  |none=>rfl
  |some v=>exact Rm v n 0
 ·cases hi with
  |none=>rfl
  |some v=>exact Rm v n n
theorem PM (i j:Nat):Builtin.Slice.slicePlaces (i:Int) (j:Int) 1=j-i:=by
 unfold Builtin.Slice.slicePlaces;have h1:(1:Int)>0:=by omega
 simp only[h1,if_true,Int.ediv_one]
 split<;>omega
theorem Ma {v:Value}{o:Option Int}{Q:Option Int->Shared->Prop}(p:IsPart v o)(h:Q o s):wpAny (model prog w) A (Builtin.Slice.slicePartIndex v) Q E s:=by
 cases p with
 |none=>exact slicePart_none h
 |int i t=>exact slicePart_int h
theorem JV {sl:Addr} {vl vu:Value} {lo hi:Option Int} {n:Nat} {Q:Int×Int×Nat->Shared->Prop} (hs:s.heap.IsSliceOf sl vl vu .none) (pl:IsPart vl lo) (pu:IsPart vu hi)
  (h:Q (((DY n 0 lo:Nat):Int),1,DY n n hi-DY n 0 lo) s):wpAny (model prog w) A (Builtin.Slice.sliceApplied (.ref sl) (pure (n:Int))) Q E s:=by
 obtain⟨os,hos,hcs,hds⟩:=id hs;unfold Builtin.Slice.sliceApplied Builtin.Slice.sliceFields;refine wpAny_bind (wpAny_bind (wpAny_field hos hds (x:=vl) rfl (wpAny_bind (wpAny_field hos hds (x:=vu) rfl (wpAny_bind (wpAny_field hos hds (x:=.none) rfl (wpAny_pure ?_)))))));refine wpAny_bind (slicePart_none ?_);show wpAny _ _ (if((1:Int) == 0)=true then _ else _) _ _ s;rw[if_neg (by decide)];refine wpAny_bind (Ma pl (wpAny_bind (Ma pu (wpAny_bind (wpAny_pure ?_)))));show wpAny _ _ (match Builtin.Slice.sliceAdjust lo hi 1 (n:Int) with|(lo,hi)=>pure (lo,(1:Int),Builtin.Slice.slicePlaces lo hi 1)) _ _ s;rw[PR lo hi n];show wpAny _ _ (pure (((DY n 0 lo:Nat):Int),(1:Int),Builtin.Slice.slicePlaces ((DY n 0 lo:Nat):Int) ((DY n n hi:Nat):Int) 1)) _ _ s;rw[PM];exact wpAny_pure h
theorem U6 (xs:Array Value)(i k:Nat):((List.range k).filterMap fun(m:Nat)=>xs[((i:Int)+(m:Int)*1).toNat]?).toArray=((xs.toList.drop i).take k).toArray:=by
 have e:(fun(m:Nat)=>xs[((i:Int)+(m:Int)*1).toNat]?)=fun m=>xs[i+m]?:=by
  funext m
  have:((i:Int)+(m:Int)*1).toNat=i+m:=by omega
  rw[this]
 rw[e];have:=pick_run xs i k;rw[List.filterMap_map] at this;have e2:((fun x=>xs[x]?)∘fun x=>i+x)=fun m=>xs[i+m]?:=rfl
 rw[e2] at this;rw[this]
theorem JL {t sl:Addr} {items:Array Value} {vl vu:Value} {lo hi:Option Int} {Q:Value->Shared->Prop} (ht:IsTup s.heap t items) (hs:s.heap.IsSliceOf sl vl vu .none) (pl:IsPart vl lo) (pu:IsPart vu hi)
  (hw:¬(DY items.size 0 lo=0/\DY items.size items.size hi=items.size))
  (h:Q (.ref s.heap.objs.size) { s with heap:=s.heap.push { cls:=.type "tuple",data:=.seq ((items.toList.drop (DY items.size 0 lo)).take (DY items.size items.size hi-DY items.size 0 lo)).toArray } })
  (hsz:items.size<=sizeLine):wpAny (model prog w) A (getItem (.ref t) (.ref sl)) Q E s:=by
 have htake:sizeOk (.seq ((items.toList.drop (DY items.size 0 lo)).take (DY items.size items.size hi-DY items.size 0 lo)).toArray):=by
  show((items.toList.drop (DY items.size 0 lo)).take (DY items.size items.size hi-DY items.size 0 lo)).toArray.size<=sizeLine;rw[List.size_toArray,List.length_take,List.length_drop,Array.length_toList];omega
 have hj:DY items.size items.size hi<=items.size:=Xi _ _ (Nat.le_refl _) hi;obtain⟨os,hos,hcs,hds⟩:=id hs;have hTs:s.TypeIs (.ref sl) "slice":=⟨os,hos,hcs⟩
 unfold getItem
 try with_reducible refine wpAny_holding ?_
 first|refine wpAny_bind (wpAny_pure ?_)|skip
 refine wpAny_bind (wpAny_sequenceKey ht.typeIs (by decide) ?_);refine wpAny_bind (wpAny_callSpecial?_slot (name:=Str.ofString "__getitem__") ht.typeIs PyProof.Rows.slot_tuple_getitem
  (wpAny_call_entry PyProof.Rows.slot_tuple_getitem ht.typeIs entry_tuple_getitem ?_ (args_tuple_getitem _ _)))
 show wpAny _ _ (Builtin.Tuple.tupleItemsOf (.ref t) >>= _) _ _ s;refine wpAny_bind (tupleItemsOf_ ht ?_);refine wpAny_bind (wpAny_typeOf hTs ?_);rw[if_pos (by decide)];refine wpAny_bind (JV hs pl pu ?_);have hno:¬((((DY items.size 0 lo:Nat):Int) == 0&&(1:Int) == 1&&(DY items.size items.size hi-DY items.size 0 lo) == items.size)=true):=by
  intro q;rw[Bool.and_eq_true,Bool.and_eq_true] at q;have q1:((DY items.size 0 lo:Nat):Int)=0:=eq_of_beq q.1.1;have q2:DY items.size items.size hi-DY items.size 0 lo=items.size:=eq_of_beq q.2;exact hw ⟨by omega,by omega⟩
 show wpAny _ _ (if(((DY items.size 0 lo:Nat):Int) == 0&&(1:Int) == 1&&(DY items.size items.size hi-DY items.size 0 lo) == items.size)=true then _ else _) _ _ s;rw[if_neg hno,U6]
 first
  |exact wpAny_bind (m:=Builtin.Tuple.tupleExact _) (wpAny_newObj_type (wpAny_pure ⟨_,rfl,wpAny_pure h⟩) htake)
  |exact wpAny_bind (m:=Builtin.Tuple.tupleExact _) (wpAny_newObj_type (wpAny_bind (wpAny_pure (wpAny_pure ⟨_,rfl,wpAny_pure h⟩))) htake)
  |exact wpAny_bind (wpAny_bind (m:=Builtin.Tuple.tupleExact _) (wpAny_newObj_type (wpAny_pure (wpAny_pure ⟨_,rfl,wpAny_pure h⟩)) htake))
  |exact wpAny_bind (wpAny_bind (m:=Builtin.Tuple.tupleExact _) (wpAny_newObj_type (wpAny_pure ⟨_,rfl,wpAny_pure h⟩) htake))
end
end HT
namespace L2
open PySem PySem.Spec PyProof.Rows
abbrev TO:=St->Hp->(Option Int->Hp->Prop)->Prop
def PO (X:Cx)(e:Option Expr)(t:TO):Prop:=
 ∀(pins:List (Addr×Obj)) (s:Shared) (σ:St) (H:Hp) (Q:Option Int->Hp->Prop),Inv X pins σ H s->t σ H Q->
  wpAny (model X.prog X.w) X.A (evalPart e X.env) (fun u s'=>∃o H',Inv X pins σ H' s'/\IsPart u o/\Q o H') X.xe s
def Vk:TO:=fun _ H Q=>Q none H
def Yq (t:TE):TO:=fun σ H Q=>t σ H fun x H1=>∃i,x=.int i/\Q (some i) H1
theorem intsAre_of {ns:List Int}:∀{us:List Value},AL (ns.map V.int) us->IntsAre us ns:=by
 induction ns with
 |nil=>intro us r;rw[List.map_nil] at r;cases r;exact .nil
 |cons n ns ih=>
  intro us r;rw[List.map_cons] at r;cases r with
  |cons r1 r2=>
   obtain⟨t,e⟩:=r1;subst e;exact .cons n t (ih r2)
section
variable {X:Cx}{e:Expr}{te:TE}{lo hi:Option Expr}{tl th:TO}{pos p2:Pos}
theorem Ld:PO X none Vk:=by
 intro pins s σ H Q I h;rw[evalPart_none];exact wpAny_pure ⟨none,H,I,.none,h⟩
theorem K8 (h:PE X e te):PO X (some e) (Yq te):=by
 intro pins s σ H Q I hw;rw[evalPart_some];refine Br (h pins s σ H _ I hw) fun u s1 ⟨x,H1,I1,r1,q1⟩=>?_
 obtain⟨i,rfl,q⟩:=q1;obtain⟨t,rfl⟩:=r1;exact⟨some i,H1,I1,.int i t,q⟩
def Zh (X:Cx)(r:V->Option Int->Option Int->Hp->VK->Prop):Prop:=
 ∀(pins:List (Addr×Obj)) (s:Shared) (σ:St) (H:Hp) (x:V) (v vl vu:Value) (lo hi:Option Int) (sl:Addr) (Q:VK),Inv X pins σ H s->RelV x v->s.heap.IsSliceOf sl vl vu .none->IsPart vl lo->IsPart vu hi->r x lo hi H Q->
  ∃T id,typeLookup (.type T) "__getitem__"=pure (some (.builtin id))/\s.TypeIs v T/\wpAny (model X.prog X.w) X.A (getItem v (.ref sl)) (EP X pins σ Q) X.xe s
def Zu (r:V->Option Int->Option Int->Hp->VK->Prop)(te:TE)(tl th:TO):TE:=fun σ H Q=>te σ H fun x H1=>tl σ H1 fun l H2=>th σ H2 fun u H3=>r x l u H3 Q
theorem JG {r:V->Option Int->Option Int->Hp->VK->Prop}(hr:Zh X r)(he:PE X e te)(hl:PO X lo tl)(hu:PO X hi th):PE X (.Subscript e (.Slice lo hi none p2) pos) (Zu r te tl th):=by
 intro pins s σ H Q I h;refine Subscript_ (Br (he pins s σ H _ I h) fun v s1 ⟨x,H1,I1,r1,q1⟩=>?_);refine wpAny_Slice (Br (hl pins s1 σ H1 _ I1 q1) fun vl s2 ⟨l,H2,I2,pl,q2⟩=>Br (hu pins s2 σ H2 _ I2 q2) fun vu s3 ⟨u,H3,I3,pu,q3⟩=>?_);rw[evalPart_none];refine wpAny_pure ?_;have I4:Inv X pins σ H3 { s3 with heap:=s3.heap.push { cls:=.type "slice",data:=.fields #[vl,vu,.none] } }:=I3.kept (t':=s3.toks) fun b ob q=>Heap.get?_push_of_some _ q
 obtain⟨T,id,hT,ht,hg⟩:=hr pins { s3 with heap:=s3.heap.push { cls:=.type "slice",data:=.fields #[vl,vu,.none] } } σ H3 x v vl vu l u s3.heap.objs.size Q I4 r1 (Heap.IsSliceOf.new ..) pl pu q3;show wpAny (model X.prog X.w) X.A (subscriptTail e (.Slice lo hi none p2) v (.ref s3.heap.objs.size)) (EP X pins σ Q) X.xe { s3 with heap:=s3.heap.push { cls:=.type "slice",data:=.fields #[vl,vu,.none] } };exact tail_any (ops:=[.ref s3.heap.objs.size,v]) ht hT hg (by with_unfolding_all rfl)
def Kj (xs:List V)(lo hi:Option Int):List V:=(xs.drop (HT.DY xs.length 0 lo)).take (HT.DY xs.length xs.length hi-HT.DY xs.length 0 lo)
theorem Kz (xs:List V)(lo hi:Option Int):(Kj xs lo hi).length<=xs.length:=by
 unfold Kj;rw[List.length_take,List.length_drop];omega
def YW (K:PySem.W.Frag):V->Option Int->Option Int->Hp->VK->Prop:=fun x lo hi H Q=>∃a xs,x=.ref a/\AW K H a xs/\
 ¬(HT.DY xs.length 0 lo=0/\HT.DY xs.length xs.length hi=xs.length)/\∀p,H p=none->Q (.ref p) (upd H p (.tup (Kj xs lo hi)))
theorem Ub:Zh X (YW X.K):=by
 intro pins s σ H x v vl vu lo hi sl Q I rx hs pl pu h;obtain⟨a,xs,rfl,hx,hw,q⟩:=h;cases rx;obtain⟨its,r,ht,hz⟩:=I.tuple hx;have hlen:its.toArray.size=xs.length:=by rw[List.size_toArray];exact r.length.symm
 refine⟨"tuple",_,PyProof.Rows.slot_tuple_getitem.lookup,ht.typeIs,?_⟩;refine HT.JL ht hs pl pu (by rw[hlen];exact hw) ?_ (by rw[hlen];exact hz);rw[hlen];refine⟨.ref s.heap.objs.size,_,I.laid (t':=s.toks) (o:=.tup (Kj xs lo hi)) (fun b ob q=>Heap.get?_push_of_some _ q) (Nat.le_refl _) ?_,rfl,q _ (I.hok.fresh (Nat.le_refl _))⟩;exact⟨Nat.le_trans (Kz xs lo hi) hz,_,(r.drop (HT.DY xs.length 0 lo)).take (HT.DY xs.length xs.length hi-HT.DY xs.length 0 lo),IsTup.new _ _⟩
end
def Va (n:Nat)(i:Int):Option Nat:=if 0<=i then(if i<n then some i.toNat else none) else if -(n:Int)<=i then some (i+n).toNat else none
def Kt {α:Type}(xs:List α)(i:Int):Option α:=(Va xs.length i).bind fun j=>xs[j]?
theorem We {n:Nat}{i:Int}{j:Nat}(h:Va n i=some j):seqIndex? i n=some j/\j<n/\-(n:Int)<=i/\i<n:=by
 unfold Va at h
 by_cases h0:0<=i
 ·rw[if_pos h0] at h
  by_cases h1:i<n
  ·rw[if_pos h1] at h;have e:i.toNat=j:=Option.some.inj h;exact⟨by rw[seqIndex_of h0 h1,e],by omega,by omega,h1⟩
  ·rw[if_neg h1] at h;cases h
 ·rw[if_neg h0] at h
  by_cases h1:-(n:Int)<=i
  ·rw[if_pos h1] at h;have e:(i+n).toNat=j:=Option.some.inj h;exact⟨by rw[seqIndex_neg (by omega) h1,e],by omega,h1,by omega⟩
  ·rw[if_neg h1] at h;cases h
theorem K9 {α:Type}{xs:List α}{i:Int}{v:α}(h:Kt xs i=some v):∃j,seqIndex? i xs.length=some j/\xs[j]?=some v/\j<xs.length/\-(xs.length:Int)<=i/\i<xs.length:=by
 unfold Kt at h;cases e:Va xs.length i with
 |none=>rw[e] at h;cases h
 |some j=>
  rw[e] at h;obtain⟨h1,h2,h3,h4⟩:=We e;exact⟨j,h1,h,h2,h3,h4⟩
theorem JM {α:Type}{xs:List α}{j:Nat}{v:α}(h:xs[j]?=some v):Kt xs (j:Int)=some v:=by
 have hj:j<xs.length:=(List.getElem?_eq_some_iff.mp h).1;have e:Va xs.length (j:Int)=some j:=by
  unfold Va;rw[if_pos (by omega),if_pos (by omega)];simp
 unfold Kt;rw[e];exact h
theorem U1 {α:Type}(xs:List α)(v:α):Kt (xs++[v]) (-1)=some v:=by
 have hl:(xs++[v]).length=xs.length+1:=by simp
 have e:Va (xs++[v]).length (-1)=some xs.length:=by
  unfold Va;rw[hl,if_neg (by decide),if_pos (by omega)]
  congr 1
  omega
 unfold Kt;rw[e];show(xs++[v])[xs.length]?=some v;simp
def VF (b:Expr):Prop:=∀o i,subscripted b false o i=operate [o,i] (getItem o i)
def X2 (X:Cx)(r:R2):Prop:=
 ∀(value slice:Expr) (pins:List (Addr×Obj)) (s:Shared) (σ:St) (H:Hp) (x y:V) (v u:Value) (Q:VK),Inv X pins σ H s->RelV x v->RelV y u->r x y H Q->
  subscripted slice false v u=operate [v,u] (getItem v u)->wpAny (model X.prog X.w) X.A (subscriptTail value slice v u) (EP X pins σ Q) X.xe s
def YL (X:Cx)(id:String)(r:V->List V->Hp->VK->Prop):Prop:=
 ∀(pins:List (Addr×Obj)) (s:Shared) (σ:St) (H:Hp) (x:V) (xs:List V) (v:Value) (us:List Value) (Q:VK),Inv X pins σ H s->RelV x v->AL xs us->r x xs H Q->
  wpAny (model X.prog X.w) X.A (call (.builtin id) (v::us)) (EP X pins σ Q) X.xe s
section
variable {X:Cx}{a b:Expr}{ta tb:TE}{pos:Pos}
theorem Av {r:R2}(hr:X2 X r)(ha:PE X a ta)(hb:PE X b tb)(hs:VF b):PE X (.Subscript a b pos) (Wv r ta tb):=by
 intro pins s σ H Q I h;exact Subscript_ (XY ha hb I h fun v u s2 x y H2 I2 rx ry q=>hr a b pins s2 σ H2 x y v u Q I2 rx ry q (hs _ _))
def Yp (K:PySem.W.Frag):R2:=fun x y H Q=>∃p xs i v,x=.ref p/\y=.int i/\AO K H p xs/\Kt xs i=some v/\Q v H
def Yl (K:PySem.W.Frag):R2:=fun x y H Q=>∃p xs i v,x=.ref p/\y=.int i/\AW K H p xs/\Kt xs i=some v/\Q v H
def Y5:R2:=fun x y H Q=>∃z i c,x=.str z/\y=.int i/\z.length<=sizeLine/\Kt z.cps.toList i=some c/\Q (.str ⟨#[c]⟩) H
theorem A4:X2 X (Yp X.K):=by
 intro value slice pins s σ H x y v u Q I rx ry h hs;obtain⟨p,xs,i,z,rfl,rfl,hq,he,q⟩:=h;cases rx;obtain⟨t,rfl⟩:=ry;obtain⟨its,r,pl,hz⟩:=I.list hq;obtain⟨j,h1,h2,h3,h4,h5⟩:=K9 he;obtain⟨w,ew,rw'⟩:=r.get h2;have hl:=r.length;have hn:=Ll;have fin:EP X pins σ Q w s:=⟨z,H,I,rw',q⟩
 by_cases h0:0<=i
 ·have hj:i.toNat=j:=by
   rw[seqIndex_of h0 h5] at h1;exact Option.some.inj h1
  exact item_listR pl.isList h0 (by omega) (by rw[hj];simpa using ew) fin hs
 ·have hj:(i+(its.toArray.size:Int)).toNat=j:=by
   rw[seqIndex_neg (by omega) h4] at h1;rw[List.size_toArray,<-hl];exact Option.some.inj h1
  exact subscriptTail_builtinR (x:=w) pl.isList.typeIs slot_list_getitem.lookup
   (wpAny_getItem_list_neg (Q:=fun r s'=>r=w/\EP X pins σ Q r s') pl.isList (by omega) (by rw[List.size_toArray]<;>omega) (by omega) (by rw[hj];simpa using ew) ⟨rfl,fin⟩) hs
theorem AJ:X2 X (Yl X.K):=by
 intro value slice pins s σ H x y v u Q I rx ry h hs;obtain⟨p,xs,i,z,rfl,rfl,hq,he,q⟩:=h;cases rx;obtain⟨t,rfl⟩:=ry;obtain⟨its,r,pl,hz⟩:=I.tuple hq;obtain⟨j,h1,h2,h3,h4,h5⟩:=K9 he;obtain⟨w,ew,rw'⟩:=r.get h2;have hl:=r.length;have hn:=Ll;have fin:EP X pins σ Q w s:=⟨z,H,I,rw',q⟩
 exact subscriptTail_builtinR (x:=w) pl.typeIs slot_tuple_getitem.lookup
  (getItem_tuple (j:=j) (Q:=fun r s'=>r=w/\EP X pins σ Q r s') pl (by omega) (by omega) (by rw[List.size_toArray,<-hl];exact h1) (by simpa using ew) ⟨rfl,fin⟩) hs
theorem Np:X2 X Y5:=by
 intro value slice pins s σ H x y v u Q I rx ry h hs;obtain⟨z,i,c,rfl,rfl,hz,he,q⟩:=h;obtain⟨t,rfl⟩:=rx;obtain⟨t',rfl⟩:=ry;obtain⟨j,h1,h2,h3,h4,h5⟩:=K9 he;have hl:z.cps.toList.length=z.length:=by simp[Str.length]
 rw[hl] at h1 h4 h5;have hn:=Ll;exact tail_any (typeIs_str s z t) slot_str_getitem.lookup (getItem_str (c:=c) (by
  have e1:decide (i < -(2^63:Int))=false:=decide_eq_false (by omega);have e2:decide (i≥2^63)=false:=decide_eq_false (by omega);rw[e1,e2,Bool.or_false]) (by rw[h1];simpa using h2) ⟨.str ⟨#[c]⟩,H,I.tok _,⟨_,rfl⟩,q⟩) hs
theorem Inv.lst {pins:List (Addr×Obj)}{σ:St}{H:Hp}{s:Shared}{p:Addr}{xs:List V}(I:Inv X pins σ H s)(h:H p=some (.lst xs)) :
  ∃(its:List Value) (n:Nat),AL xs its/\s.heap.get? p=some { cls:=.type "list",data:=.seq its.toArray n }/\xs.length<=sizeLine:=by
 obtain⟨z,its,n,r,e⟩:=I.hok p _ h;exact⟨its,n,r,e,z⟩
theorem N2 (lo hi:Option Int)(n:Nat):(sliceBounds lo hi none n).1=((HT.DY n 0 lo:Nat):Int)/\(sliceBounds lo hi none n).2.1=((HT.DY n n hi:Nat):Int)/\(sliceBounds lo hi none n).2.2=1:=by
 refine⟨?_,?_,rfl⟩
 ·cases lo with
  |none=>simp[sliceBounds,HT.DY]
  |some i=>
   simp only[sliceBounds,HT.DY,Option.getD_none,show(1:Int)>0 by decide,if_true]
   by_cases h:i<0
   ·simp only[h,if_true]<;>omega
   ·simp only[h,if_false]<;>omega
 ·cases hi with
  |none=>simp[sliceBounds,HT.DY]
  |some i=>
   simp only[sliceBounds,HT.DY,Option.getD_none,show(1:Int)>0 by decide,if_true]
   by_cases h:i<0
   ·simp only[h,if_true]<;>omega
   ·simp only[h,if_false]<;>omega
theorem Mh (its:List Value)(lo hi:Option Int):slicePick its.toArray lo hi none=((its.drop (HT.DY its.length 0 lo)).take (HT.DY its.length its.length hi-HT.DY its.length 0 lo)).toArray:=by
 obtain⟨h1,h2,h3⟩:=N2 lo hi its.toArray.size;unfold slicePick;rw[h1,h2,h3];simp only[sliceRange_one,pick_run,List.size_toArray]<;>rfl
def Y2 (K:PySem.W.Frag):V->Option Int->Option Int->Hp->VK->Prop:=fun x lo hi H Q=>∃a xs,x=.ref a/\AO K H a xs/\∀p,H p=none->Q (.ref p) (upd H p (.lst (Kj xs lo hi)))
theorem Rn:Zh X (Y2 X.K):=by
 intro pins s σ H x v vl vu lo hi sl Q I rx hs pl pu h;obtain⟨a,xs,rfl,hx,q⟩:=h;cases rx;obtain⟨its,r,ht,hz⟩:=I.list hx;have hlen:=r.length;refine⟨"list",_,slot_list_getitem.lookup,ht.isList.typeIs,?_⟩;refine wpAny_getItem_list_slice ht.isList hs pl pu .none (by simp) ?_ (by rw[List.size_toArray]<;>omega);rw[Mh,<-hlen];refine⟨.ref s.heap.objs.size,_,I.laid (t':=s.toks) (o:=.lst (Kj xs lo hi)) (fun b ob q=>Heap.get?_push_of_some _ q) (Nat.le_refl _) ?_,rfl,q _ (I.hok.fresh (Nat.le_refl _))⟩;exact⟨Nat.le_trans (Kz xs lo hi) hz,_,0,(r.drop (HT.DY xs.length 0 lo)).take (HT.DY xs.length xs.length hi-HT.DY xs.length 0 lo),Heap.get?_push_size _ rfl⟩
def Uc:V->Bool
 | .non=>true
 | .bl _=>true
 | .int _=>true
 | .str _=>true
 |_=>false
def U9:V->V->Bool
 | .non,.non=>true
 | .bl a,.bl b=>a == b
 | .bl a,.int b=>(if a then 1 else 0) == b
 | .int a,.bl b=>a == (if b then 1 else 0)
 | .int a,.int b=>a == b
 | .str a,.str b=>a == b
 |_,_=>false
theorem NG {A:Around}{s:Shared}{y x:V}{u v:Value}(ry:RelV y u)(rx:RelV x v)(fy:Uc y=true)(fx:Uc x=true):SeqAt.EqAt A s u v (U9 y x):=by
 cases y with
 |non=>
  cases ry;cases x with
  |non=>cases rx;exact SeqAt.EqAt.same _
  |bl b=>cases rx;exact SeqAt.EqAt.none_bool b
  |int b=>obtain⟨t,rfl⟩:=rx;exact SeqAt.EqAt.none_int b t
  |str b=>obtain⟨t,rfl⟩:=rx;exact SeqAt.EqAt.none_str b t
  |_=>exact absurd (show false=true from fx) Bool.false_ne_true
 |bl a=>
  cases ry;cases x with
  |non=>cases rx;exact SeqAt.EqAt.bool_none a
  |bl b=>cases rx;exact SeqAt.EqAt.bool_bool a b
  |int b=>obtain⟨t,rfl⟩:=rx;exact SeqAt.EqAt.bool_int a b t
  |str b=>obtain⟨t,rfl⟩:=rx;exact SeqAt.EqAt.bool_str a b t
  |_=>exact absurd (show false=true from fx) Bool.false_ne_true
 |int a=>
  obtain⟨t',rfl⟩:=ry;cases x with
  |non=>cases rx;exact SeqAt.EqAt.int_none a t'
  |bl b=>cases rx;exact SeqAt.EqAt.int_bool a t' b
  |int b=>obtain⟨t,rfl⟩:=rx;exact SeqAt.EqAt.int_int a t' b t
  |str b=>obtain⟨t,rfl⟩:=rx;exact SeqAt.EqAt.int_str a t' b t
  |_=>exact absurd (show false=true from fx) Bool.false_ne_true
 |str a=>
  obtain⟨t',rfl⟩:=ry;cases x with
  |non=>cases rx;exact SeqAt.EqAt.str_none a t'
  |bl b=>cases rx;exact SeqAt.EqAt.str_bool a t' b
  |int b=>obtain⟨t,rfl⟩:=rx;exact SeqAt.EqAt.str_int a t' b t
  |str b=>obtain⟨t,rfl⟩:=rx;exact SeqAt.EqAt.str_str a t' b t
  |_=>exact absurd (show false=true from fx) Bool.false_ne_true
 |_=>exact absurd (show false=true from fy) Bool.false_ne_true
theorem AK:DW X (.builtin "len") (fun xs H Q=>∃p ys,xs=[.ref p]/\(AO X.K H p ys\/AW X.K H p ys)/\Q (.int ys.length) H):=by
 intro pins s σ H xs us Q I r h;obtain⟨p,ys,rfl,hq,q⟩:=h;obtain⟨u,rfl,rx⟩:=vals1 r;cases rx;have hn:=Ll;rcases hq with hq|hq
 ·obtain⟨its,r',pl,hz⟩:=I.list hq;have hlen:=r'.length;exact Calls.call_len_list pl.isList (by simp only[List.size_toArray]<;>omega) ⟨.int ys.length,H,I.tok _,⟨s.toks+1,by rw[List.size_toArray,hlen]⟩,q⟩
 ·obtain⟨its,r',pl,hz⟩:=I.tuple hq;have hlen:=r'.length;exact len_tuple pl (by simp only[List.size_toArray]<;>omega) ⟨.int ys.length,H,I.tok _,⟨s.toks+1,by rw[List.size_toArray,hlen]⟩,q⟩
theorem GO:DW X (.builtin "len") (fun xs H Q=>∃z,xs=[.str z]/\z.length<=sizeLine/\Q (.int z.length) H):=by
 intro pins s σ H xs us Q I r h;obtain⟨z,rfl,hz,q⟩:=h;obtain⟨u,rfl,t,rfl⟩:=vals1 r;have hn:=Ll;exact len_str (by omega) ⟨.int z.length,H,I.tok _,⟨_,rfl⟩,q⟩
theorem CN:DW X (.type "list") (fun xs H Q=>∃p ys,xs=[.ref p]/\(AO X.K H p ys\/AW X.K H p ys)/\∀l,H l=none->Q (.ref l) (upd H l (.lst ys))):=by
 intro pins s σ H xs us Q I r h;obtain⟨p,ys,rfl,hq,q⟩:=h;obtain⟨u,rfl,rx⟩:=vals1 r;cases rx;have fin:∀(its:List Value),AL ys its->ys.length<=sizeLine->∀(h':Heap) (c':Nat),(∀b o',s.heap.get? b=some o'->h'.get? b=some o')->
   h'.get? s.heap.objs.size=some { cls:=.type "list",dict:=none,data:=.seq its.toArray c',slots:=#[] }->EP X pins σ Q (.ref s.heap.objs.size) { s with heap:=h' }:=fun its r' hz h' c' kp e=>
  ⟨.ref s.heap.objs.size,_,I.laid (t':=s.toks) kp (Nat.le_refl _) (show Bm X.prog X.w _ h' _ (.lst ys) from⟨hz,its,c',r',e⟩),rfl,q _ (I.hok.fresh (Nat.le_refl _))⟩
 rcases hq with hq|hq
 ·obtain⟨its,r',pl,hz⟩:=I.list hq;have hlen:=r'.length;obtain⟨o,ho,hc,n,hd⟩:=pl.isList;exact call_list_seq p (.inl rfl) ho hc hd (fun h' c' kp e=>fin its r' hz h' c' kp e) (by simp only[List.size_toArray]<;>omega)
 ·obtain⟨its,r',pl,hz⟩:=I.tuple hq;have hlen:=r'.length;obtain⟨o,ho,hc,n,hd⟩:=pl;exact call_list_seq p (.inr rfl) ho hc hd (fun h' c' kp e=>fin its r' hz h' c' kp e) (by simp only[List.size_toArray]<;>omega)
theorem FP:DW X (.type "tuple") (fun xs H Q=>∃p ys,xs=[.ref p]/\((AO X.K H p ys/\∀l,H l=none->Q (.ref l) (upd H l (.tup ys)))\/(AW X.K H p ys/\Q (.ref p) H))):=by
 intro pins s σ H xs us Q I r h;obtain⟨p,ys,rfl,h⟩:=h;obtain⟨u,rfl,rx⟩:=vals1 r;cases rx;rcases h with⟨hq,q⟩|⟨hq,q⟩
 ·obtain⟨its,r',pl,hz⟩:=I.list hq;have hlen:=r'.length;refine call_tuple_list pl.isList (fun h' kp=>?_) (by simp only[List.size_toArray]<;>omega);have I1:Inv X pins σ H { s with heap:=h' }:=I.kept (t':=s.toks) kp;have I2:Inv X pins σ (upd H h'.objs.size (.tup ys)) { s with heap:=h'.push { cls:=.type "tuple",data:=.seq its.toArray } }:=
   I1.laid (t':=s.toks) (fun b o e=>Heap.get?_push_of_some _ e) (Nat.le_refl _) (show Bm X.prog X.w _ _ _ (.tup ys) from⟨hz,its,r',IsTup.new _ _⟩)
  exact⟨.ref h'.objs.size,_,I2,rfl,q _ (I1.hok.fresh (Nat.le_refl _))⟩
 ·obtain⟨its,r',pl,hz⟩:=I.tuple hq;exact call_tuple_same pl ⟨.ref p,H,I,rfl,q⟩
def Zf (K:PySem.W.Frag)(T:String)(x:V)(H:Hp):Prop:=match x with
 | .str _=>T="str"
 | .int _=>T="int"
 | .ref p=>(T="list"/\∃xs,AO K H p xs)\/(T="tuple"/\∃o,K.lookup p=some o/\o.cls=.type "tuple"/\o.dict=none)\/
   (T="dict"/\((∃kvs,H p=some (.dK kvs))\/∃kvs,H p=some (.dT kvs)))\/(T="set"/\∃S n,H p=some (.set S n))
 |_=>False
theorem TF {pins:List (Addr×Obj)}{σ:St}{H:Hp}{s:Shared}{T:String}{x:V}{v:Value}(I:Inv X pins σ H s)(r:RelV x v)(ty:Zf X.K T x H) :
  s.TypeIs v T/\∀a,v=.ref a->∃ob,s.heap.get? a=some ob/\ob.dict=none:=by
 cases x with
 |str z=>
  obtain⟨t,rfl⟩:=r;cases(show T="str" from ty);exact⟨typeIs_str s z t,fun _ e=>nomatch e⟩
 |int i=>
  obtain⟨t,rfl⟩:=r;cases(show T="int" from ty);exact⟨typeIs_int s i t,fun _ e=>nomatch e⟩
 |ref p=>
  cases r;rcases ty with⟨rfl,xs,hq⟩|⟨rfl,o,hk,hc,hd⟩|⟨rfl,hk⟩|⟨rfl,S,n,hk⟩
  ·obtain⟨its,_,pl,_⟩:=I.list hq;refine⟨pl.isList.typeIs,fun a e=>?_⟩;cases e;obtain⟨o,n,e,c,hd,_⟩:=pl;exact⟨o,e,hd⟩
  ·refine⟨⟨o,I.kIn p o hk,hc⟩,fun a e=>?_⟩;cases e;exact⟨o,I.kIn _ o hk,hd⟩
  ·have z:∃o,s.heap.get? p=some o/\o.ExactDict:=by
    rcases hk with⟨kvs,hk⟩|⟨kvs,hk⟩
    ·obtain⟨_,_,_,_,o,_,_,e,ex,_⟩:=I.hok p _ hk;exact⟨o,e,ex⟩
    ·obtain⟨_,_,_,_,o,_,_,e,ex,_⟩:=I.hok p _ hk;exact⟨o,e,ex⟩
   obtain⟨o,e,ex⟩:=z;refine⟨⟨o,e,ex.1⟩,fun a e2=>?_⟩;cases e2;exact⟨o,e,ex.2.1⟩
  ·obtain⟨o,_,_,_,e,ex,_⟩:=I.hok p _ hk;refine⟨⟨o,e,ex.1⟩,fun a e2=>?_⟩;cases e2;exact⟨o,e,ex.2.1⟩
 |_=>exact False.elim ty
def YR (K:PySem.W.Frag)(T:String)(r:V->List V->Hp->VK->Prop)(to:TE):TE:=fun σ H Q=>to σ H fun x H1=>Zf K T x H1/\r x [] H1 Q
def Zv (K:PySem.W.Frag)(T:String)(r:V->List V->Hp->VK->Prop)(to:TE)(t:TA):TE:=fun σ H Q=>to σ H fun x H1=>Zf K T x H1/\t σ H1 fun xs H2=>r x xs H2 Q
variable {o e:Expr}{es:List Expr}{to:TE}{t:TA}{name:Str}{apos cpos:Pos}{T id:String}{r:V->List V->Hp->VK->Prop}
theorem UV (pa:PlainAttrs T) (slot:Slot T name id) (hty:typeOf (.builtin id)=pure (.type "method_descriptor")) (hm:YL X id r) (ho:PE X o to)
  (hbase:attributeBase o name X.env (eval o X.env)=eval o X.env:=by rfl) (hline:(apos.endLine == cpos.line)=true:=by rfl):PE X (.Call (.Attribute o name apos) [] [] cpos) (YR X.K T r to):=by
 intro pins s σ H Q I h;refine wpAny_Call_method0_late hbase hline (Br (ho pins s σ H _ I h) fun v s1 ⟨x,H1,I1,r1,ty,q1⟩=>?_);obtain⟨h1,h2⟩:=TF I1 r1 ty;exact⟨T,id,pa,slot,hty,h1,h2,Calls.callWith_builtin rfl (PySem.evalArgs_none (hm pins s1 σ H1 x [] v [] Q I1 r1 .nil q1))⟩
theorem Hd (pa:PlainAttrs T) (slot:Slot T name id) (hty:typeOf (.builtin id)=pure (.type "method_descriptor")) (hm:YL X id r) (ho:PE X o to) (ha:PA X (e::es) t)
  (hbase:attributeBase o name X.env (eval o X.env)=eval o X.env:=by rfl)
  (hfew:((backTo cpos (starEach (e::es) X.env)).all (fun x=>!x.1)&&(backToKw cpos (keywordEach [] X.env)).all (fun x=>x.1.isSome)
   && decide ((e::es).length+([]:List Keyword).length+(if([]:List Keyword).isEmpty then 0 else 1)<30))=true:=by rfl)
  (hline:(apos.endLine == cpos.line)=true:=by rfl) (hs:starEach (e::es) X.env=(false,eval e X.env)::starEach es X.env:=by rfl) (hplain:(backTo cpos (starEach es X.env)).any (·.1)=false:=by rfl) :
  PE X (.Call (.Attribute o name apos) (e::es) [] cpos) (Zv X.K T r to t):=by
 intro pins s σ H Q I h;refine wpAny_Call_method_late hbase hfew hline rfl (Br (ho pins s σ H _ I h) fun v s1 ⟨x,H1,I1,r1,ty,q1⟩=>?_);obtain⟨h1,h2⟩:=TF I1 r1 ty;refine⟨T,id,pa,slot,hty,h1,h2,?_⟩;have hA:=ha cpos pins s1 σ H1 _ I1 q1;rw[hs] at hA ⊢;refine Calls.callWith_builtin (by show(false||(backTo cpos (starEach es X.env)).any (·.1))=false;rw[hplain]<;>rfl) (Calls.evalArgs_plain ?_);exact Br hA fun us s2 ⟨vs,H2,I2,r2,q2⟩=>hm pins s2 σ H2 x vs v us Q I2 r1 r2 q2
end
def YI (X:Cx)(id:String)(r:V->List V->Hp->VK->Prop):Prop:=
 ∀(pins:List (Addr×Obj)) (s:Shared) (σ:St) (H:Hp) (x:V) (xs:List V) (v:Value) (us:List Value) (Q:VK),Inv X pins σ H s->RelV x v->AL xs us->r x xs H Q->
  wpAny (model X.prog X.w) X.A (call (.builtin id) (v::us)) (EP X pins σ Q) X.xe s
theorem AL.one:∀{x:V} {us:List Value},AL [x] us->∃u,us=[u]/\RelV x u
 |_,_,.cons r .nil=>⟨_,rfl,r⟩
theorem AL.zero:∀{us:List Value},AL [] us->us=[]
 |_,.nil=>rfl
theorem AL.dropLast {xs:List V}{us:List Value}(h:AL xs us):AL xs.dropLast us.dropLast:=by
 induction h with
 |nil=>exact .nil
 |cons r t ih=>
  cases t with
  |nil=>exact .nil
  |cons q t'=>exact .cons r ih
theorem AL.eraseIdx:∀{xs:List V} {us:List Value} (i:Nat),AL xs us->AL (xs.eraseIdx i) (us.eraseIdx i)
 |_,_,_,.nil=>.nil
 |_,_,0,.cons _ t=>t
 |_,_,i+1,.cons r t=>.cons r (AL.eraseIdx i t)
theorem AL.reverse {xs:List V}{us:List Value}(h:AL xs us):AL xs.reverse us.reverse:=by
 induction h with
 |nil=>exact .nil
 |cons r t ih=>rw[List.reverse_cons,List.reverse_cons];exact AL.append ih (.cons r .nil)
theorem PZ {α:Type}(l:List α):l.eraseIdx (l.length-1)=l.dropLast:=by
 induction l with
 |nil=>rfl
 |cons a r ih=>
  cases r with
  |nil=>rfl
  |cons b r=>
   have e:(a::b::r).length-1=((b::r).length-1)+1:=by
    have h1:(a::b::r).length=r.length+2:=rfl;have h2:(b::r).length=r.length+1:=rfl;omega
   rw[e,List.eraseIdx_cons_succ,ih]
   all_goals rfl
theorem MD {α:Type}:∀(l:List α) (i:Nat),(l.eraseIdx i).length<=l.length
 |[],_=>Nat.le_refl _
 |_::_,0=>Nat.le_succ _
 |_::r,i+1=>Nat.succ_le_succ (MD r i)
section
variable {X:Cx}{pins:List (Addr×Obj)}{σ:St}{H:Hp}{s:Shared}{l b:Addr}{xs ys zs:List V}
theorem Inv.lset {its its':List Value} {n:Nat} {f:Array Value->Array Value} {t':Nat} (I:Inv X pins σ H s) (hH:H l=some (.lst xs))
  (e:s.heap.get? l=some { cls:=.type "list",data:=.seq its.toArray n }) (hf:f its.toArray=its'.toArray) (hv:AL ys its') (hz:ys.length<=sizeLine) :
  Inv X pins σ (upd H l (.lst ys)) { s with heap:=s.heap.update l (Obj.mapSeq f),toks:=t' }:=by
 have q:=PySem.IsL.update e f;rw[hf] at q;refine I.write (x:=l) (e:=l) (by rw[hH];exact trivial) (.inl rfl) (fun b' u hb hu=>(Heap.get?_update_other s.heap (Obj.mapSeq f) (Ne.symm hb)).trans hu) ⟨_,q⟩ ?_;exact⟨hz,its',_,hv,q⟩
theorem Inv.lnew {its:List Value}{t':Nat}(I:Inv X pins σ H s)(hv:AL ys its)(hz:ys.length<=sizeLine) :
  Inv X pins σ (upd H s.heap.objs.size (.lst ys)) { s with heap:=s.heap.push { cls:=.type "list",data:=.seq its.toArray },toks:=t' }:=
 I.laid (fun _ _ q=>Heap.get?_push_of_some _ q) (Nat.le_refl _) ⟨hz,its,0,hv,Heap.get?_push_size _ rfl⟩
theorem Inv.fresh (I:Inv X pins σ H s):H s.heap.objs.size=none:=I.hok.fresh (Nat.le_refl _)
theorem Inv.lstM (I:Inv X pins σ H s)(hH:H l=some (.lst xs)):xs.length<=sizeLine/\∃(its:List Value) (n:Nat),AL xs its/\xs.length=its.length/\s.heap.get? l=some { cls:=.type "list",data:=.seq its.toArray n }:=by
 obtain⟨z,its,n,r,e⟩:=I.hok l _ hH;exact⟨z,its,n,r,r.length,e⟩
theorem UY {n:Nat}(h:n<=sizeLine):Builtin.List.listTooLong n=false:=by
 unfold Builtin.List.listTooLong;exact decide_eq_false (by omega)
end
section
variable {X:Cx}
def VN:V->List V->Hp->VK->Prop:=fun x vs H Q=>∃l xs y,x=.ref l/\vs=[y]/\H l=some (.lst xs)/\xs.length<sizeLine/\Q .non (upd H l (.lst (xs++[y])))
theorem EX:YI X "list.append" VN:=by
 intro pins s σ H x vs v us Q I rx rv h;obtain⟨l,xs,y,rfl,rfl,hH,hz,q⟩:=h;cases rx;obtain⟨u,rfl,ru⟩:=rv.one;obtain⟨z,its,n,r,hl,e⟩:=I.lstM hH;refine call_meets F.slot_list_append ⟨_,e,rfl⟩ F.entry_list_append (F.args_list_append_2 _ _) (PySem.list_append l its.toArray n u (by rw[List.size_toArray];omega)) ⟨e,?_⟩;refine⟨.non,_,I.lset (its':=its++[u]) hH e (by simp) (r.append (.cons ru .nil)) ?_,rfl,q⟩;rw[List.length_append,List.length_singleton];omega
def V7:V->List V->Hp->VK->Prop:=fun x vs H Q=>∃l b xs zs,x=.ref l/\vs=[.ref b]/\H l=some (.lst xs)/\H b=some (.lst zs)/\xs.length+zs.length<=sizeLine/\Q .non (upd H l (.lst (xs++zs)))
theorem Iu:YI X "list.extend" V7:=by
 intro pins s σ H x vs v us Q I rx rv h;obtain⟨l,b,xs,zs,rfl,rfl,hH,hB,hz,q⟩:=h;cases rx;obtain⟨u,rfl,ru⟩:=rv.one;cases ru;obtain⟨z,its,n,r,hl,e⟩:=I.lstM hH;obtain⟨z2,its2,n2,r2,hl2,e2⟩:=I.lstM hB;have hsz:its.toArray.size+its2.toArray.size<=sizeLine:=by rw[List.size_toArray,List.size_toArray];omega
 have hlong:¬(!its.toArray.isEmpty&&Builtin.List.listTooLong (its.toArray.size+its2.toArray.size))=true:=by
  rw[UY hsz,Bool.and_false];exact Bool.false_ne_true
 refine call_meets F.slot_list_extend ⟨_,e,rfl⟩ F.entry_list_extend (F.args_list_extend_2 _ _)
  (AutoSeq1.list_extend_list_list_0 l its.toArray n b its2.toArray n2 hlong (by rw[List.size_toArray];omega) (by omega)) ⟨e,e2,?_⟩
 refine⟨.non,_,I.lset (its':=its++its2) hH e (by simp) (r.append r2) ?_,rfl,q⟩;rw[List.length_append];omega
def Zi:V->List V->Hp->VK->Prop:=fun x vs H Q=>∃l xs y,x=.ref l/\vs=[]/\H l=some (.lst xs)/\xs[xs.length-1]?=some y/\Q y (upd H l (.lst xs.dropLast))
theorem U8:YI X "list.pop" Zi:=by
 intro pins s σ H x vs v us Q I rx rv h;obtain⟨l,xs,y,rfl,rfl,hH,hy,q⟩:=h;cases rx;have hus:=rv.zero;subst hus;obtain⟨z,its,n,r,hl,e⟩:=I.lstM hH;obtain⟨u,hu,ru⟩:=r.get hy;have hy':its.toArray[its.toArray.size-1]?=some u:=by
  show its.toArray[its.length-1]?=some u;rw[<-Array.getElem?_toList,<-hl];exact hu
 refine call_meets F.slot_list_pop ⟨_,e,rfl⟩ F.entry_list_pop (F.args_list_pop_1 _) (MeetsSeq.list_pop_last l its.toArray n u hy' (by rw[List.size_toArray];omega)) ⟨e,?_⟩;refine⟨y,_,I.lset (its':=its.dropLast) hH e ?_ r.dropLast ?_,ru,q⟩
 ·show its.toArray.eraseIdxIfInBounds (its.toArray.size-1)=its.dropLast.toArray;rw[List.size_toArray,List.eraseIdxIfInBounds_toArray,PZ]
 ·rw[List.length_dropLast];omega
def WV:V->List V->Hp->VK->Prop:=fun x vs H Q=>∃l xs i k y,x=.ref l/\vs=[.int i]/\H l=some (.lst xs)/\-(2^63)<=i/\i<2^63/\seqIndex? i xs.length=some k/\xs[k]?=some y/\Q y (upd H l (.lst (xs.eraseIdx k)))
theorem Uq:YI X "list.pop" WV:=by
 intro pins s σ H x vs v us Q I rx rv h;obtain⟨l,xs,i,k,y,rfl,rfl,hH,h1,h2,hk,hy,q⟩:=h;cases rx;obtain⟨u,rfl,ru⟩:=rv.one;obtain⟨t,rfl⟩:=ru;obtain⟨z,its,n,r,hl,e⟩:=I.lstM hH;obtain⟨w,hw,rw'⟩:=r.get hy;refine call_meets F.slot_list_pop ⟨_,e,rfl⟩ F.entry_list_pop (F.args_list_pop_2 _ _)
  (MeetsSeq.list_pop_at l its.toArray n i t k w (fitsIndex_both h1 h2) (by rw[List.size_toArray,<-hl];exact hk) (by rw[<-Array.getElem?_toList];exact hw) (by rw[List.size_toArray];omega)) ⟨e,?_⟩
 refine⟨y,_,I.lset (its':=its.eraseIdx k) hH e ?_ (r.eraseIdx k) ?_,rw',q⟩
 ·show its.toArray.eraseIdxIfInBounds k=(its.eraseIdx k).toArray;rw[List.eraseIdxIfInBounds_toArray]
 ·have:=MD xs k;omega
end
end L2
namespace Att
open PySem PySem.W PySem.Calls PyProof.Rows
theorem KR {P:Params}{h:Heap}:∀(ns:List Int) (vs:List Value),WellAll P h vs (ns.map WData.int)->IntsAre vs ns:=by
 intro ns
 induction ns with
 |nil=>
  intro vs w;rw[List.map_nil] at w;cases w;exact .nil
 |cons n ns ih=>
  intro vs w;rw[List.map_cons] at w;cases w with
  |cons a b=>
   cases a;exact .cons _ _ (ih _ b)
theorem Sr {l:OpenLaw} {n:Nat} (hn:l.most=some n) {P:Params} {h:Heap} {args:List WData} {vals:List Value}
  (hpre:l.row.toRowW.claim.pre args=true) (hwl:WellAll P h vals args) :
  ∃a vs ns,vals=[Value.ref a]/\args=[WData.list (ns.map WData.int)]/\h.get? a=some { cls:=.type "list",data:=.seq vs.toArray }/\IntsAre vs ns/\ns.length<=n:=by
 have hsh:WShape.hasAll [] args [.list .int]=true:=(pre_splitW hpre).1;have hc:l.pre.holds [] { args:=args }=true:=(pre_splitW hpre).2;obtain⟨d,r,rfl,h1,h2⟩:=hasAllW_cons hsh;obtain rfl:=hasAllW_nil h2;obtain⟨xs,rfl,h3⟩:=hasW_list h1;obtain⟨ns,rfl⟩:=items_int h3;have hlen:ns.length<=n:=by
  unfold OpenLaw.pre at hc;have h4:(WTm.not (.lt (.lit (.int (n:Int))) (.len (.arg 0)))).holds [] { args:=[.list (ns.map .int)] }=true:=by
   have h4:=(holds_andW hc).1;rw[hn] at h4;exact h4
  have h5:=condW_of h4 (w_not (w_lt w_lit (w_len_list (w_arg rfl))));rw[List.length_map] at h5;refine Nat.le_of_not_lt fun q=>?_
  have q':(n:Int)<((ns.length:Nat):Int):=by omega
  first
   |(rw[decide_eq_true q'] at h5;exact absurd h5 (by decide))
   |(simp at h5;omega)
 cases hwl with
 |cons w1 w2=>
  cases w2;cases w1 with
  |list ho hall=>exact⟨_,_,ns,rfl,rfl,ho,KR ns _ hall,hlen⟩
theorem SL (l:OpenLaw)(args:List WData):l.row.toRowW.claim.post args (.bool true) args=true:=
 postW_of (r:=l.row.toRowW) (X:=(true == true))
  (show WShape.has [] (.bool true) .bool=true by first|rfl|decide|simp[WShape.has,WShape.arms,WShape.armsAll])
  (show(WTm.eq .res (.lit (.bool true))).value [] { args:=args,res:=some (.bool true),after:=args }=some (.bool (true == true)) from w_eq_bool (w_res rfl) w_lit) rfl
theorem O2 {l:OpenLaw} {n:Nat} {q:Program} {loose:List Str} {XP:(Str->Option Value)->Heap->Prop} {YP:World->Heap->Prop} {d:DefRec}
  (hn:l.most=some n) (hdf:d.params.defaults=[])
  (call:∀(w:World) (s₀ s₁:Shared) (mg mb:Str->Option Value) (fa:Addr) (o:Obj) (pm cd doc:Value) (a:Addr) (vs:List Value) (ns:List Int),
   Ground q loose [] XP w s₀ mg mb s₁.heap->YP w s₁.heap->
   s₁.heap.get? fa=some o->o.data=.func (docDef d.name d.params d.body d.scope pm cd doc)->s₁.heap.CodeRec cd d.name->mg d.name=some (.ref fa)->
   s₁.heap.get? a=some { cls:=.type "list",data:=.seq vs.toArray }->IntsAre vs ns->ns.length<=n->s₁.gens = #[]->
   codeAny (model l.prog w) callerA (.call (.ref fa) ⟨[.ref a],[]⟩) (fun r s'=>r=.ok (.ret (.bool true))/\OldK s₁.heap s'.heap/\s'.os=s₁.os/\AllBare s'.gens) s₁) :
  WalkO q loose XP YP l.row.toRowW d [] (fun f vs=>PySem.call f vs):=by
 intro w s₀ s₁ mg mb G Y fa o pm cd doc dV kV ho hd hcd hD hmg hg args vals as hpre hlay hrd hwl hlo;obtain rfl:dV=.none:=Dflts.none hD hdf;obtain rfl:kV=.none:=Dflts.noKw hD;obtain⟨a,vs,ns,rfl,rfl,hobj,hints,hlen⟩:=Sr hn hpre hwl;refine enter_call (codeAny_mono (call w s₀ s₁ mg mb fa o pm cd doc a vs ns G Y ho (fd_plain hd) hcd hmg hobj hints hlen hg) fun r s' hq=>?_);obtain⟨rfl,h2,h3,h4⟩:=hq;exact⟨.inl ⟨.bool true,.bool true,[],rfl,fun _=>rfl,.bool true,SL l _,fun _=>⟨List.Pairwise.nil,fun _ hm=>(nomatch hm)⟩⟩,h2,h3,h4⟩
section
variable {prog:Program}{w:World}{A:Around}{E:Value->Shared->Prop}{s:Shared}{K:Frag}
def LO (h:Heap):Heap:={ h with objs:=#[] }
theorem Ji (h:Heap)(b:Addr):(LO h).get? b=none:=by
 cases e:(LO h).get? b with
 |none=>rfl
 |some o=>exact absurd (Heap.lt_size e) (Nat.not_lt_zero _)
def ledger (h:Heap)(L d:Addr):List (Addr×Obj):=(List.range h.objs.size).filterMap fun a=>if a=L\/a=d then none else(h.get? a).map fun o=>(a,o)
theorem IJ {h:Heap}{L d a:Addr}{o:Obj}:(a,o)∈ledger h L d↔a≠L/\a≠d/\h.get? a=some o:=by
 unfold ledger;rw[List.mem_filterMap];constructor
 ·rintro⟨b,_,e⟩
  split at e
  ·cases e
  ·rename_i hb
   obtain⟨o',ho,e'⟩:=Option.map_eq_some_iff.mp e;cases e';exact⟨fun q=>hb (.inl q),fun q=>hb (.inr q),ho⟩
 ·rintro⟨n1,n2,ho⟩
  refine⟨a,List.mem_range.mpr (Heap.lt_size ho),?_⟩;rw[if_neg (show ¬(a=L\/a=d) from fun q=>q.elim n1 n2),ho]<;>rfl
theorem OZ {h:Heap}{L d:Addr}{od:Obj}(hne:d≠L)(ho:h.get? d=some od):News (LO h) L h ([]++(d,od)::ledger h L d):=by
 rintro⟨a,o⟩ hp
 rcases List.mem_cons.mp hp with e|hp
 ·cases e;exact⟨ho,hne,Ji _ _⟩
 ·obtain⟨n1,n2,e⟩:=IJ.mp hp;exact⟨e,n1,Ji _ _⟩
theorem XI {h:Heap}{L:Addr}{m:Str->Option Value}(n:h.Ns L m):Fr (LO h) L h m:=
 ⟨n,fun b o e=>(by rw[Ji] at e;cases e),Nat.zero_le _⟩
theorem D0 {x C dx L:Addr} {ox:Obj} {m:Str->Option Value} {es es':List DictEntry} {n n':Nat} {name:Str} {v:Value} {Q:Unit->Shared->Prop}
  (X:K.In s.heap) (I:PySem.W.InstAt s.heap x ox C (some (dictOf es n))) (hd:ox.dict=some dx) (hL:s.heap.Ns L m) (hne:dx≠L)
  (hs:findIn K (.ref C) "__setattr__"=some (some (.builtin "object.__setattr__"))) (hp:plainOver K C=true) (ht:takerIn K C name=some none) (hh:hasDictIn K C=true) (hl:(getL name es).isSome=true)
  (e:(putL name (PyData.keyHash w.params name) (.str name (s.toks+1)) v es,putN name es n)=(es',n')) (hz:es'.length<=1000)
  (h:∀h':Heap,h'.Ns L m->h'.get? dx=some (dictOf es' n')->(∀b o,b≠dx->b≠L->s.heap.get? b=some o->h'.get? b=some o)->Q () { s with heap:=h',toks:=s.toks+2 }) :
  wpAny (model prog w) A (setAttr (.ref x) name v) Q E s:=by
 obtain⟨e1,e2⟩:=Prod.mk.inj e;have hdx:s.heap.get? dx=some (dictOf es n):=by
  have:=I.dict;rw[hd] at this;exact this
 refine set_plain X I hs (osa_dict (s:={ s with toks:=s.toks+1 }) (h₀:=LO s.heap) (L:=L) (m:=m) (od:=dictOf es n) (od':=dictOf es' n') (es:=es') (n:=n') (pre:=[]) (post:=ledger s.heap L dx)
  (XI hL) (OZ hne hdx) X I hd hp ht hh hl (fun _ q=>nomatch q) (fun⟨_,_⟩ q=>(IJ.mp q).2.1) (by rw[putName_dict,e1,e2]) rfl hz fun h' F' N'=>?_)
 exact h h' F'.ns (N'.get (List.Mem.head _)) fun b o n1 n2 ho=>N'.get (List.Mem.tail _ (IJ.mpr ⟨n2,n1,ho⟩))
end
end Att
namespace L2
open PySem PySem.Spec PyProof.Rows
theorem MM:∀{vs:List Value} {ns:List Int},IntsAre vs ns->AL (ns.map V.int) vs
 |_,_,.nil=>.nil
 |_,_,.cons n t h=>.cons ⟨t,rfl⟩ (MM h)
def Xq (H:Hp):Prop:=∀b,H b=none\/∃o xs,H b=some (.frz o (.lst xs))
theorem U7 {P:Program} {w:World} {K:PySem.W.Frag} {mg mb:Str->Option Value} {CX:SC} {k:Nat} {fa a:Addr} {fd:FuncData} {x:Str} {sp:Sp} {s₁:Shared} {vs:List Value} {ns:List Int}
  (KX:K.In s₁.heap) (hns:s₁.heap.Ns mainGlobals mg) (hb:s₁.heap.Ns builtinsNs mb) (hbb:∀x:Str,x≠"__name__"->mb x=bootBuiltins x) (hlim:s₁.heap.NoLimit) (hg:s₁.gens = #[])
  (ha:s₁.heap.get? a=some { cls:=.type "list",data:=.seq vs.toArray }) (hi:IntsAre vs ns) (hl:ns.length<=sizeLine) (hr:Room k callerA)
  (F:∀base:Heap,K.In base->base.Ns mainGlobals mg->FnOk P w K mg base CX k fa fd [x] sp) (hbind:∀(s:Shared) (u:Value),BindsTo s fd ⟨[u],[]⟩ [(x,u)])
  (hsp:∀H:Hp,Xq H->AO K H a (ns.map V.int)->sp [.ref a] H (fun v _=>v=.bl true) fun _ _ _=>False)
  (hCX:∀H e s',CX [] H s₁ (fun _ _ _=>False) e s'->False) :
  codeAny (model P w) callerA (.call (.ref fa) ⟨[.ref a],[]⟩) (fun r s'=>r=.ok (.ret (.bool true))/\OldK s₁.heap s'.heap/\s'.os=s₁.os/\AllBare s'.gens) s₁:=by
 have rv:=MM hi;have lenV:=hi.length;have core:∀H:Hp,Xq H->AO K H a (ns.map V.int)->IS P w H s₁.heap->(∀b,H b≠none->b=a)->(H a≠none->K.lookup a=none)->
   codeAny (model P w) callerA (.call (.ref fa) ⟨[.ref a],[]⟩) (fun r s'=>r=.ok (.ret (.bool true))/\OldK s₁.heap s'.heap/\s'.os=s₁.os/\AllBare s'.gens) s₁:=by
  intro H hO hS hok hA hK;have base_of:∀{b:Addr} {o:Obj},s₁.heap.get? b=some o->H b=none->(NH s₁.heap H).get? b=some o:=fun e n=>Tp e n
  have noA:∀{b:Addr} {o:Obj} {es:Array DictEntry} {ep:Nat},s₁.heap.get? b=some o->o.data=.dict es ep->H b=none:=fun{b o es ep} e d=>by
   cases q:H b with
   |none=>rfl
   |some u=>
    have e':b=a:=hA b (by rw[q];simp);subst e';rw[ha] at e;cases e;have d':Data.seq vs.toArray _=Data.dict es ep:=d;cases d'
  have nsK:∀{b:Addr} {m:Str->Option Value},s₁.heap.Ns b m->(NH s₁.heap H).Ns b m:=fun{b m} ⟨o,es,ep,e,d,r⟩=>⟨o,es,ep,base_of e (noA e d),d,r⟩
  have hKb:K.In (NH s₁.heap H):=fun b o e=>base_of (KX b o e) (by
   cases q:H b with
   |none=>rfl
   |some u=>
    have e':b=a:=hA b (by rw[q];simp);subst e';rw[hK (by rw[q];simp)] at e;cases e)
  have hM:Mod K mg (NH s₁.heap H):=⟨hKb,nsK hns,⟨mb,nsK hb,hbb⟩,let⟨mc,h1,h2⟩:=hlim;⟨mc,nsK h1,h2⟩⟩
  have e0:Env0 P w K mg (NH s₁.heap H) callerA [] s₁ H:=⟨rfl,hM,fun b o e=>Vq e,Nat.le_of_eq (RG _ _),trivial,fun b hb=>absurd (show b∈([]:List Addr) from hb) (by simp),hok,.of_eq hg⟩
  refine codeAny_mono ((F _ hKb (nsK hns)).run callerA [] s₁ H ⟨[.ref a],[]⟩ [.ref a] [.ref a] _ _ hr e0 (hbind s₁ (.ref a)) (.cons rfl .nil) (hsp H hO hS)) fun r s' h=>?_
  cases r with
  |error e=>exact(hCX H e s' h).elim
  |ok fl=>
   cases fl with
   |next=>exact False.elim h
   |brk=>exact False.elim h
   |cont=>exact False.elim h
   |ret u=>
    obtain⟨v,H',os,bare,un,hok',r',q⟩:=h;have q':v=.bl true:=q;subst q';obtain rfl:u=Value.bool true:=r';refine⟨rfl,OldK.of_keep fun b o e=>?_,os,bare⟩;cases q:H b with
    |none=>exact un.keep b o e q (by intro z;exact absurd (show b∈([]:List Addr) from z) (by simp)) (by simp)
    |some u=>
     rcases hO b with z|⟨ob,xs,z⟩
     ·rw[q] at z;cases z
     ·have z2:=un.frzs b ob _ z;obtain⟨e1,_⟩:=hok b _ z;obtain⟨e2,_⟩:=hok' b _ z2;rw[e] at e1;cases e1;exact e2
 cases hk:K.lookup a with
 |some o=>
  have e:=KX a o hk;rw[ha] at e;cases e;refine core (fun _=>none) (fun _=>.inl rfl) (.inr ⟨_,vs.toArray,_,hk,rfl,rfl,rfl,by rw[List.size_toArray,lenV];exact hl,by simpa using rv⟩) (fun b u z=>by have z':(none:Option HO)=some u:=z;cases z') (fun b z=>absurd rfl z) fun z=>absurd rfl z
 |none=>
  refine core (fun b=>if b=a then some (.frz { cls:=.type "list",data:=.seq vs.toArray } (.lst (ns.map V.int))) else none) (fun b=>?_) (.inl (.inr ⟨{ cls:=.type "list",data:=.seq vs.toArray },if_pos rfl⟩)) (fun b u z=>?_) (fun b z=>?_) fun _=>hk
  ·by_cases hb:b=a
   ·exact .inr ⟨_,_,if_pos hb⟩
   ·exact .inl (if_neg hb)
  ·by_cases hb:b=a
   ·have z':=(if_pos hb).symm.trans z;cases z';subst hb;exact⟨ha,by rw[List.length_map];exact hl,vs,_,rv,ha⟩
   ·have z':=(if_neg hb).symm.trans z;cases z'
  ·by_cases hb:b=a
   ·exact hb
   ·exact absurd (if_neg hb) z
theorem V8 {l:PySem.W.OpenLaw} {n k:Nat} {q:Program} {loose:List Str} {XP:(Str->Option Value)->Heap->Prop} {YP:World->Heap->Prop} {d:DefRec} {K:Params->PySem.W.Frag} {CX:World->SC} {sp:World->Sp} {x:Str}
  (hn:l.most=some n) (hn2:n<=sizeLine) (hdf:d.params.defaults=[]) (hr:Room k callerA)
  (hY:∀(w:World) (h:Heap),YP w h->(K w.params).In h)
  (F:∀(w:World) (mg:Str->Option Value) (fa:Addr) (h:Heap),(K w.params).In h->h.Ns mainGlobals mg->mg d.name=some (.ref fa)->
   ∃fd:FuncData,(∀(s:Shared) (u:Value),BindsTo s fd ⟨[u],[]⟩ [(x,u)])/\
    ∀base:Heap,(K w.params).In base->base.Ns mainGlobals mg->FnOk l.prog w (K w.params) mg base (CX w) k fa fd [x] (sp w))
  (hsp:∀(w:World) (H:Hp) (a:Addr) (ns:List Int),ns.length<=n->Xq H->AO (K w.params) H a (ns.map V.int)->sp w [.ref a] H (fun v _=>v=.bl true) fun _ _ _=>False)
  (hCX:∀(w:World) (H:Hp) (s:Shared) (e:Value) (s':Shared),CX w [] H s (fun _ _ _=>False) e s'->False) :
  PySem.W.WalkO q loose XP YP l.row.toRowW d [] (fun f vs=>PySem.call f vs):=by
 refine Att.O2 hn hdf fun w s₀ s₁ mg mb fa o pm cd doc a vs ns G Y ho hd hcd hmg hobj hints hlen hg=>?_
 have KX:=hY w _ Y;obtain⟨fd,hb,hF⟩:=F w mg fa _ KX G.T.g hmg;exact U7 KX G.T.g G.T.b G.T.builtins G.T.nolimit hg hobj hints (Nat.le_trans hlen hn2) hr hF hb (fun H hO hS=>hsp w H a ns hlen hO hS) fun H e s'=>hCX w H s₁ e s'
def inClass (s:Stmt)(j:Nat):Stmt:=match s with
 | .ClassDef _ _ _ body _ _ _ _ _ _ _=>body.getD j (.Pass ⟨0,0,0,0⟩)
 |_=>.Pass ⟨0,0,0,0⟩
def Ap (s:Stmt):Arguments:=match s with
 | .FunctionDef _ a _ _ _ _ _ _ _ _=>a
 |_=>{ posonlyargs:=[],args:=[],vararg:=none,kwonlyargs:=[],kw_defaults:=[],kwarg:=none,defaults:=[] }
def Ao (s:Stmt):List Stmt:=match s with
 | .FunctionDef _ _ b _ _ _ _ _ _ _=>b
 |_=>[]
def Ai (s:Stmt):Scope:=match s with
 | .FunctionDef _ _ _ _ _ _ sc _ _ _=>sc
 |_=>{ kind:=.function,names:=[],isGenerator:=false,isCoroutine:=false }
abbrev Cf:SC:=fun _ _ _ _ _ _=>False
abbrev E0:XK:=fun _ _ _=>False
theorem O5 {X:Cx}:HZ Cf X E0:=fun _ _ _ _ _ _ _ h=>h.elim
structure Fun (K:PySem.W.Frag) (x qual:Str) (st:Stmt) (f:Addr) (fd:FuncData):Prop where
 ex:∃(oc:Value) (od:Option Addr) (kV doc pm:Value) (an:Option Addr) (cdv ct:Value) (osl:Array (Option Value)),
  fd=PySem.W.fnOf x qual (Ap st) (Ao st) (Ai st) .none kV doc pm an cdv ct/\K.lookup f=some ⟨oc,od,.func fd,osl⟩/\PySem.W.codeIn K cdv qual=true
 kp:PySem.W.keepIn K (.ref f)=true
section
variable {P:Program}{w:World}{K:PySem.W.Frag}{mg:Str->Option Value}{base:Heap}
theorem Fun.ok {x qual:Str} {st:Stmt} {f:Addr} {fd:FuncData} {N ps:List Str} {k:Nat} {sp:Sp} (F:Fun K x qual st f fd) (S:FnScope N ps (Ai st)) (len:∀vs H Q E,sp vs H Q E->vs.length=ps.length)
  (hbody:∀(cdv:Value) (A:Around) (outer:List Env) (s:Shared) (H:Hp) (vs:List V) (Q:VK) (E:XK),Room k (A.deeper (envOfC qual (Ai st) s.heap.objs.size f cdv))->sp vs H Q E->
   ∃t,Qp (BP Cf P w K mg base N qual (Ai st) f cdv A outer s H E).nox (Ao st) t/\t { nx:=fun _ H'=>Q .non H',rt:=Q } (start N vs) H):FnOk P w K mg base Cf (k+1) f fd ps sp:=by
 obtain⟨oc,od,kV,doc,pm,an,cdv,ct,osl,rfl,lk,hcd⟩:=F.ex;refine Yh lk hcd S len fun A outer s H vs Q E hr hsp=>?_
 obtain⟨t,h,q⟩:=hbody cdv A outer s H vs Q E hr hsp;exact⟨t,h.nox,q⟩
theorem Fun.binds {x qual:Str} {st:Stmt} {f:Addr} {fd:FuncData} {ps:List Str} (F:Fun K x qual st f fd)
  (h:∀(kV doc pm:Value) (an:Option Addr) (cdv ct:Value) (us:List Value),us.length=ps.length->bindArgs (PySem.W.fnOf x qual (Ap st) (Ao st) (Ai st) .none kV doc pm an cdv ct) ⟨us,[]⟩=pure (ps.zip us)):Binds K fd ps []:=by
 obtain⟨oc,od,kV,doc,pm,an,cdv,ct,osl,rfl,lk,hcd⟩:=F.ex;exact .all (h kV doc pm an cdv ct)
theorem Ay {x qual:Str} {st:Stmt} {f:Addr} {oc:Value} {od an:Option Addr} {osl:Array (Option Value)} {kV doc pm cdv ct:Value} (l:K.lookup f=some ⟨oc,od,.func (PySem.W.fnOf x qual (Ap st) (Ao st) (Ai st) .none kV doc pm an cdv ct),osl⟩)
  (c:PySem.W.codeIn K cdv qual=true) (k:PySem.W.keepIn K (.ref f)=true):Fun K x qual st f (PySem.W.fnOf x qual (Ap st) (Ao st) (Ai st) .none kV doc pm an cdv ct):=⟨⟨oc,od,kV,doc,pm,an,cdv,ct,osl,rfl,l,c⟩,k⟩
end
theorem BJ {A:Around}{k:Nat}(hr:Room k A):A.units+1<cLine:=Nat.lt_of_le_of_lt (Nat.add_le_add_left (by decide:1<=64) _) hr.units
section
variable {X:Cx}
theorem pv (i:Nat) {x:Str} {pos:Pos} (hN:X.N[i]?=some x:=by rfl) (hv:YZ X.env.scope x:=by first|exact Or.inl rfl|exact Or.inr (Or.inl rfl)|exact Or.inr (Or.inr rfl)) (hd:(x == ("__debug__":Str))=false:=by decide)
  (hcd:(x == ("__classdict__":Str))=false:=by decide):PE X (.Name x pos) (RM i):=XZ hN hv hd hcd
end
theorem YM {A B:Prop}(h:A):if true=true then A else B:=by
 rw[if_pos rfl];exact h
theorem C7 {c A B:Prop}[Decidable c](h1:c->A)(h2:¬c->B):if c then A else B:=by
 by_cases h:c
 ·rw[if_pos h];exact h1 h
 ·rw[if_neg h];exact h2 h
def Ar (H H':Hp):Prop:=∀b o,H b=some o->H' b=some o
theorem Ar.refl (H:Hp):Ar H H:=fun _ _ h=>h
theorem Ar.trans {H H1 H2:Hp}(a:Ar H H1)(b:Ar H1 H2):Ar H H2:=fun c o h=>b c o (a c o h)
theorem Ar.free {H H':Hp}(e:Ar H H'){l:Addr}(h:H' l=Option.none):H l=Option.none:=by
 cases q:H l with
 |none=>rfl
 |some o=>
  rw[e l o q] at h;cases h
theorem Ar.seq {K:PySem.W.Frag}{H H':Hp}{a:Addr}{xs:List V}(e:Ar H H')(h:AO K H a xs):AO K H' a xs:=by
 rcases h with(h|⟨o,h⟩)|h
 ·exact .inl (.inl (e _ _ h))
 ·exact .inl (.inr ⟨o,e _ _ h⟩)
 ·exact .inr h
end L2
set_option maxHeartbeats 1000000
namespace L2
open PySem PySem.Spec PyProof.Rows
section
variable {prog:Program}{w:World}{A:Around}{env:Env}{elt target iter:Expr}{ifs:List Expr}{scope:Scope}{pos:Pos}{it acc:Value}
abbrev VP (env:Env)(ifs:List Expr):Sem Bool:=forIn ifs true fun c r=>(if r=true then(do let ok <-isTrue c env (eval c env);pure (ForInStep.yield ok)) else pure (ForInStep.yield r))
abbrev Rq (prog:Program)(w:World)(A:Around)(env:Env)(elt target:Expr)(ifs:List Expr)(it acc:Value)(Ee:Value->Shared->Prop)(over on:Shared->Prop):Shared->Prop:=
 wpAny (model prog w) A (pyNext it) (fun|none,s1=>over s1|some v,s1=>wpAny (model prog w) A (letOwnedTupleGo target it v) (fun _ s2=>wpAny (model prog w) A (assign target env v) (fun _ s3=>wpAny (model prog w) A (VP env ifs) (fun ok s4=>
  if ok=true then wpAny (model prog w) A (eval elt env) (fun x s5=>wpAny (model prog w) A (call (.builtin "list.append") [acc,x]) (fun _=>on) (fun _ _=>False) s5) Ee s4 else on s4) Ee s3) Ee s2) (fun _ _=>False) s1) (fun _ _=>False)
theorem O1 {R:Result->Shared->Prop} {Ee:Value->Shared->Prop} (I:Nat->Shared->Prop) (hE:∀x s,Ee x s->notedBy (model prog w) A env (fun x s=>R (.error x) s) x s)
  (turn:∀n s,I n s->Rq prog w A env elt target ifs it acc Ee (R (.ok .next)) (fun s'=>∃m,m<n/\I m s') s) (n:Nat) {s:Shared} (h:I n s) :
  codeAny (model prog w) A (.compLoop (.ListComp elt [⟨target,iter,ifs,0⟩] scope pos) 0 it acc env) R s:=by
 have none':∀{Z:Value->Shared->Prop} (x:Value) (s:Shared),False->Z x s:=fun _ _ z=>z.elim
 refine codeAny_loop rfl I (fun k s1 h1=>?_) n h
 change wpAny _ A ((compTurn (.ListComp elt [⟨target,iter,ifs,0⟩] scope pos) 0 it acc env).onRaise (fun x=>do noteFrame x env;theTreesLotGoes x)) _ _ s1
 refine wpAny_noted ?_;rw[compTurn_list];refine wpAny_bind (wpAny_standAt (wpAny_bind (wpAny_mono (turn k s1 h1) (fun r s2 h2=>?_) none')))
 match r,h2 with
 |none,h2=>exact wpAny_pure h2
 |some v,h2=>
  refine wpAny_bind (wpAny_mono h2 (fun _ s3 h3=>wpAny_bind (wpAny_mono h3 (fun _ s4 h4=>wpAny_bind (wpAny_mono h4 (fun ok s5 h5=>?_) hE)) hE)) none')
  match ok,h5 with
  |false,h5=>exact wpAny_pure ⟨rfl,h5⟩
  |true,h5=>exact wpAny_bind (wpAny_bind (wpAny_mono h5 (fun x s6 h6=>wpAny_bind (wpAny_mono h6 (fun _ s7 h7=>wpAny_pure (wpAny_pure ⟨rfl,h7⟩)) none')) hE))
theorem Qa {R:Result->Shared->Prop}(I:Nat->Shared->Prop)(turn:∀n s,I n s->Rq prog w A env elt target ifs it acc (fun _ _=>False) (R (.ok .next)) (fun s'=>∃m,m<n/\I m s') s)(n:Nat){s:Shared}(h:I n s) :
  codeAny (model prog w) A (.compLoop (.ListComp elt [⟨target,iter,ifs,0⟩] scope pos) 0 it acc env) R s:=O1 I (fun _ _ z=>z.elim) turn n h
end
def PU (X:Cx)(ifs:List Expr)(t:TT):Prop:=
 ∀(pins:List (Addr×Obj)) (s:Shared) (σ:St) (H:Hp) (Q:Bool->Hp->Prop),Inv X pins σ H s->t σ H Q->
  wpAny (model X.prog X.w) X.A (forIn ifs true fun c r=>if r=true then do let ok <-isTrue c X.env (eval c X.env);pure (ForInStep.yield ok) else pure (ForInStep.yield r)) (TP X pins σ Q) X.xe s
def Pc:TT:=fun _ H Q=>Q true H
theorem AX {X:Cx}:PU X [] Pc:=fun _ _ _ H _ I h=>wpAny_tests_nil ⟨H,I,h⟩
theorem Gp {X:Cx}{c:Expr}{t:TT}(h:PT X c t):PU X [c] t:=fun pins s σ H Q I q=>wpAny_tests_one (h pins s σ H Q I q)
def By (X:Cx)(scope:Scope)(cl:List (Str×Addr))(N:List Str)(C:Addr)(s:Shared)(H:Hp)(fp:List Addr):Cx:=
 { prog:=X.prog,w:=X.w,K:=X.K,mg:=X.mg,base:=X.base,A:=X.A,N:=N,s₀:=s,H₀:=H,env:=compEnvC scope cl C X.env,outer:=X.stack,stack:=X.stack,ex:=fp,fn:=fun _=>false,calm:=X.calm,pn:=[],xe:=fun _ _=>False }
def stC (fr:List (Option Nat))(σ:St):St:=fr.map fun o=>o.bind fun i=>(σ[i]?).bind id
def FO (fr:List (Option Nat))(g:TG)(tt:TT)(te:TE)(σ:St)(Q:VK)(J:It)(H1:Hp):Prop:=∀l,H1 l=none->∃W:Nat->Nat->St->Hp->Prop,(∃m,W 0 m (stC fr σ) (upd H1 l (.lst [])))/\∀i m σ H,W i m σ H->
 (J.stop i H/\Q (.ref l) H)\/(J.go i H/\∀x H',J.yld i H x H'->g x σ H' fun σ2 H2=>tt σ2 H2 fun b H3=>if b=true then te σ2 H3 fun v H4=>∃xs,H4 l=some (.lst xs)/\xs.length<sizeLine/\∃m',m'<m/\W (i+1) m' σ2 (upd H4 l (.lst (xs++[v])))
  else ∃m',m'<m/\W (i+1) m' σ2 H3)
def MH (fr:List (Option Nat))(wi:TI)(g:TG)(tt:TT)(te:TE):TE:=fun σ H Q=>wi σ H (FO fr g tt te σ Q)
def Iv (XN:List Str)(xs sc:Scope)(N:List Str)(fr:List (Option Nat)):Bool:=
 decide (sc.kind=.function)&&decide (fr.length=N.length)&&(sc.names.all fun y=>!decide (y.2=.cell))&&(sc.names.all fun y=>!decide (y.2=.local)||decide (sc.names.lookup y.1=some .local)) &&
 (sc.names.all fun y=>!decide (y.2=.free)||(decide (xs.names.lookup y.1=some .cell)||decide (xs.names.lookup y.1=some .free))) &&
 ((N.zip fr).all fun p=>match p.2 with|none=>true|some i=>decide (XN[i]?=some p.1)&&decide (sc.names.lookup p.1=some .free))
def Px (cells:List (Str×Addr)):List (Str×Addr)->Prop
 |[]=>True
 |p::r=>cells.lookup p.1=some p.2/\Px cells r
theorem Px.get {cells:List (Str×Addr)}:∀{cl:List (Str×Addr)},Px cells cl->∀{x:Str} {c:Addr},cl.lookup x=some c->cells.lookup x=some c
 |[],_,_,_,h=>by cases h
 |(y,d)::r,k,x,c,h=>by
  rw[List.lookup_cons] at h;cases e:x == y with
  |true=>
   rw[e] at h;cases h;rw[eq_of_beq e];exact k.1
  |false=>
   rw[e] at h;exact Px.get k.2 h
def JO (cl:List (Str×Addr)):List (Str×NameKind)->Prop
 |[]=>True
 |p::r=>(p.2=.free->∃c,cl.lookup p.1=some c)/\JO cl r
theorem JO.get {cl:List (Str×Addr)}:∀{ns:List (Str×NameKind)},JO cl ns->∀y∈ns,y.2=.free->∃c,cl.lookup y.1=some c
 |[],_,_,h=>by cases h
 |p::r,k,y,h=>by
  rcases List.mem_cons.mp h with rfl|h
  ·exact k.1
  ·exact JO.get k.2 y h
theorem GE {env:Env}:∀{names:List (Str×NameKind)} {x:Str} {k:NameKind},(names.map fun(n,k)=>if(k == NameKind.free&&env.scope.kind == .function&&env.kindOf n == some .cell) then(n,NameKind.cell) else(n,k)).lookup x=some k->
  names.lookup x=some k\/(k=.cell/\names.lookup x=some .free)
 |[],_,_,h=>by cases h
 |(n,k0)::r,x,k,h=>by
  have ih:=@GE env r x k
  by_cases hc:(k0 == NameKind.free&&env.scope.kind == .function&&env.kindOf n == some .cell)=true
  ·simp only[List.map_cons,if_pos hc,List.lookup_cons] at h;rw[List.lookup_cons];cases e:x == n with
   |true=>
    rw[e] at h;cases h;simp only[Bool.and_eq_true] at hc;have:k0=.free:=by simpa using hc.1.1
    exact .inr ⟨rfl,by rw[this]⟩
   |false=>rw[e] at h;exact ih h
  ·simp only[List.map_cons,if_neg hc,List.lookup_cons] at h;rw[List.lookup_cons];cases e:x == n with
   |true=>rw[e] at h;exact .inl h
   |false=>rw[e] at h;exact ih h
theorem Jt {env:Env}:∀{names:List (Str×NameKind)} {x:Str},names.lookup x=some .free->
  (names.map fun(n,k)=>if(k == NameKind.free&&env.scope.kind == .function&&env.kindOf n == some .cell) then(n,NameKind.cell) else(n,k)).lookup x=some .cell\/
  (names.map fun(n,k)=>if(k == NameKind.free&&env.scope.kind == .function&&env.kindOf n == some .cell) then(n,NameKind.cell) else(n,k)).lookup x=some .free
 |[],_,h=>by cases h
 |(n,k0)::r,x,h=>by
  have ih:=@Jt env r x;rw[List.lookup_cons] at h
  by_cases hc:(k0 == NameKind.free&&env.scope.kind == .function&&env.kindOf n == some .cell)=true
  ·simp only[List.map_cons,if_pos hc,List.lookup_cons];cases e:x == n with
   |true=>exact .inl rfl
   |false=>rw[e] at h;exact ih h
  ·simp only[List.map_cons,if_neg hc,List.lookup_cons];cases e:x == n with
   |true=>rw[e] at h;exact .inr h
   |false=>rw[e] at h;exact ih h
section
variable {X:Cx}
theorem MW (N:List Str) (fr:List (Option Nat)) {elt tg iter:Expr} {ifs:List Expr} {scope:Scope} {pos fpos:Pos} {wi:TI} {g:TG} {tt:TT} {te:TE} {cl:List (Str×Addr)}
  (hc:X.calm=true) (hi:PI X tg iter wi) (hchk:Iv X.N X.env.scope scope N fr=true) (hclos:closureFor scope X.env=pure cl) (hcl:Px X.env.cells cl) (hall:JO cl scope.names)
  (hb:∀(C:Addr) (s:Shared) (H:Hp) (fp:List Addr),PG (By X scope cl N C s H fp) tg g/\PU (By X scope cl N C s H fp) ifs tt/\PE (By X scope cl N C s H fp) elt te)
  (hs:∀x,foldedSetIterable iter X.env x=pure x) {pins:List (Addr×Obj)} {s:Shared} {σ:St} {H:Hp} {Q:VK} {use:Option (Value->Sem Unit)} {Qc:Value->Shared->Prop} (I:Inv X pins σ H s) (h:MH fr wi g tt te σ H Q)
  (hfin:∀(l:Addr) (H':Hp) (s':Shared) (C:Addr),Inv X pins σ H' s'->JD X pins H' C->(∃m,s'.heap.Ns C m)->Q (.ref l) H'->compPost (model X.prog X.w) X.A X.xe use Qc (.ref l) C (.ok .next) s') :
  wpAny (model X.prog X.w) X.A (comprehension (.ListComp elt [⟨tg,iter,ifs,0⟩] scope pos) scope X.env fpos (newList []) (firstAsync [⟨tg,iter,ifs,0⟩]) (firstIter [⟨tg,iter,ifs,0⟩] X.env) use) Qc X.xe s:=by
 simp only[Iv,Bool.and_eq_true,decide_eq_true_eq,List.all_eq_true,Bool.or_eq_true,Bool.not_eq_true',decide_eq_false_iff_not] at hchk;obtain⟨⟨⟨⟨⟨hkind,hlen⟩,hcell⟩,hnames⟩,hfree⟩,hfr⟩:=hchk;have hnames':∀x∈scope.names,x.2=.local->scope.names.lookup x.1=some .local:=fun y hy e=>(hnames y hy).resolve_left fun z=>z e
 have hcell':∀x∈scope.names,x.2≠.cell:=fun y hy=>hcell y hy
 refine wpAny_comprehension_free (use:=use) rfl hs hclos hkind hnames' (Br (hi pins s σ H _ I h) fun v s1 h1=>Br h1 fun itv s2 h2=>?_);obtain⟨it,fp,tn,J,H2,e,I2,T,st2,f2,hQ⟩:=h2;subst e;refine wpAny_newObj_type (hd:=by size_fits) (wpAny_newFunctionEnv hcell' (by intro y hy;simp at hy) (fun h₁ hns hsb=>?_) hkind);dsimp only at hns hsb ⊢;obtain⟨W,⟨m0,w0⟩,turn⟩:=hQ s2.heap.objs.size I2.fresh;have I3:Inv X pins σ (upd H2 s2.heap.objs.size (.lst [])) { s2 with heap:=s2.heap.push { cls:=.type "list",data:=.seq ([]:List Value).toArray },toks:=s2.toks }:=I2.lnew (its:=[]) .nil (Nat.zero_le _);generalize hh3:s2.heap.push { cls:=.type "list",dict:=none,data:=.seq ([]:List Value).toArray }=h3 at hns hsb ⊢;rw[show s2.heap.push { cls:=.type "list",data:=.seq ([]:List Value).toArray }=h3 from hh3] at I3;generalize hH3:upd H2 s2.heap.objs.size (.lst [])=H3 at I3 w0;generalize hl:s2.heap.objs.size=l at turn hH3 ⊢;have hl3:l<h3.objs.size:=by rw[<-hh3,<-hl,Heap.size_push];exact Nat.lt_succ_self _
 generalize hs3:({ s2 with heap:=h3,toks:=s2.toks }:Shared)=s3 at I3;have es3:s3.heap=h3:=by rw[<-hs3]
 have eos:s3.os=s2.os:=by rw[<-hs3]
 have egens:s3.gens=s2.gens:=by rw[<-hs3]
 generalize hC:h3.objs.size=C at hns hsb ⊢;have old:∀b o,h3.get? b=some o->h₁.get? b=some o:=fun b o e=>
  hsb.extBut b o (by rw[<-hC];exact Nat.ne_of_lt (Heap.lt_size e)) (Heap.get?_push_of_some _ e)
 have f3:∀b∈fp,JD X pins H3 b:=fun b hb=>by
  obtain⟨g0,g1⟩:=f2 b hb;refine⟨?_,g1⟩;rw[<-hH3];have:b≠l:=by
   obtain⟨o,e,_⟩:=T.obj _ _ st2 b hb;rw[<-hl];exact Nat.ne_of_lt (Heap.lt_size e)
  rw[Ag this];exact g0
 have st3:tn 0 h₁:=T.keep _ _ _ st2 fun b hb o e=>old b o (by rw[<-hh3];exact Heap.get?_push_of_some _ e)
 have ok:(By X scope cl N C s3 H3 fp).Ok:=by
  refine⟨I3.ok.mod,?_,I3.ok.glob,I3.ok.blt,?_,fun x y c e1 e2=>I3.ok.inj x y c (hcl.get e1) (hcl.get e2),fun x hx=>?_,fun x c hx=>(by cases hx),I3.ok.hd,I3.ok.frames,.inl rfl,fun b hb=>?_,fun b o e=>?_,?_,fun b o e hb=>?_,fun b hb hb2=>?_,?_,fun b hb=>?_⟩
  ·exact hkind
  ·show s3.heap.objs.size<=C;rw[es3,hC];exact Nat.le_refl _
  ·have hx':(relabel scope X.env).names.lookup x=some .cell\/(relabel scope X.env).names.lookup x=some .free:=hx;have:scope.names.lookup x=some .free:=by
    rcases hx' with z|z
    ·rcases GE z with q|⟨_,q⟩
     ·exact absurd rfl (hcell' _ (PySem.mem_of_lookup q))
     ·exact q
    ·rcases GE z with q|⟨q,_⟩
     ·exact q
     ·cases q
   exact hall.get _ (PySem.mem_of_lookup this) rfl
  ·obtain⟨g0,g1,g2,g3,g4,g5⟩:=f3 b hb;obtain⟨o,e,_⟩:=T.obj _ _ st2 b hb;refine⟨?_,fun x c e=>g4 x c (hcl.get e)⟩;show b≠C;rw[<-hC];exact Nat.ne_of_lt (Heap.lt_size (by rw[<-hh3];exact Heap.get?_push_of_some _ e))
  ·have q:=I3.bs b o e;exact q
  ·show X.base.objs.size<=s3.heap.objs.size;exact Nat.le_trans I3.ok.bsz I3.sz
  ·obtain⟨g0,g1,g2,g3,g4,g5⟩:=f3 b hb;rcases g3 with z|z
   ·exact I3.ok.noex b o e z
   ·exact absurd (Nat.lt_of_lt_of_le (Heap.lt_size e) (Nat.le_trans I3.ok.bsz z)) (Nat.lt_irrefl _)
  ·obtain⟨g0,g1,g2,g3,g4,g5⟩:=f3 b hb;rcases List.mem_cons.mp (I3.stkSub b hb2) with z|z
   ·exact g1 z
   ·exact g2 z
  ·show s3.heap.FunFrames X.base X.stack;exact I3.stack
  ·exact I3.stkFree b hb
 have I4:Inv (By X scope cl N C s3 H3 fp) [] (stC fr σ) H3 { s2 with heap:=h₁,toks:=s2.toks+([]:List (Str×Value)).length }:=by
  have hk3:∀b o,s3.heap.get? b=some o->h₁.get? b=some o:=fun b o e=>old b o (by rw[<-es3];exact e)
  refine⟨ok,eos.symm▸rfl,egens▸I3.bare,Un.kept hk3,⟨_,hns,fun i x v e1 e2 e3=>?_⟩,fun x c e=>?_,?_,fun x c e=>I3.freeC x c (hcl.get e),fun p hp=>(by cases hp),I3.hok.kept hk3,?_⟩
  ·
   have e1':N[i]?=some x:=e1;have e2':(fr[i]?).map (fun o=>o.bind fun i=>(σ[i]?).bind id)=some (some v):=by
    have:(stC fr σ)[i]?=some (some v):=e2;rw[stC,List.getElem?_map] at this;exact this
   cases q:fr[i]? with
   |none=>rw[q] at e2';cases e2'
   |some o=>
    rw[q] at e2';cases o with
    |none=>cases e2'
    |some j=>
     have e2'':(σ[j]?).bind id=some v:=Option.some.inj e2';obtain⟨p1,p2⟩:X.N[j]?=some x/\scope.names.lookup x=some .free:=by
      have hz:(x,some j)∈N.zip fr:=by
       have:(N.zip fr)[i]?=some (x,some j):=by
        rw[List.getElem?_zip_eq_some];exact⟨e1',q⟩
       exact List.mem_of_getElem? this
      have:=hfr _ hz;simpa using this
     have hv:X.env.scope.names.lookup x=some .cell\/X.env.scope.names.lookup x=some .free:=by
      rcases hfree _ (PySem.mem_of_lookup p2) with z|z
      ·exact absurd rfl z
      ·simpa using z
     have e3':σ[j]?=some (some v):=by
      cases q3:σ[j]? with
      |none=>rw[q3] at e2'';cases e2''
      |some w'=>rw[q3] at e2'';have:w'=some v:=e2'';rw[this]
     obtain⟨m,hn,hl'⟩:=I3.loc;obtain⟨u,ru,lk⟩:=hl' j x v p1 e3' (.inr hv);refine⟨u,ru,.inr ⟨Jt p2,?_⟩⟩;rcases lk with⟨lk,_⟩|⟨_,c,ec,cc⟩
     ·have lk':X.env.scope.names.lookup x=some .local:=lk;rcases hv with z|z<;>(rw[z] at lk';cases lk')
     ·obtain⟨c',ec'⟩:=hall.get _ (PySem.mem_of_lookup p2) rfl;have:=hcl.get ec';rw[ec] at this;cases this;obtain⟨o,ho,hd⟩:=cc;exact⟨c,ec',o,hk3 _ _ ho,hd⟩
  ·obtain⟨v,o,ho,hd⟩:=I3.cell x c (hcl.get e);exact⟨v,o,hk3 _ _ ho,hd⟩
  ·show H3 C=none;exact I3.hok.fresh (by rw[es3,hC];exact Nat.le_refl _)
  ·show(stC fr σ).length=N.length;rw[stC,List.length_map];exact hlen
 obtain⟨hg,ht,he⟩:=hb C s3 H3 fp;have fpc:∀{H':Hp},(∀b∈fp,H' b=none)->∀b∈fp,JD (By X scope cl N C s3 H3 fp) [] H' b:=fun hn b hb=>by
  obtain⟨q1,q2⟩:=ok.exf b hb;exact⟨hn b hb,q1,ok.exfs b hb,.inl hb,q2,fun p hp=>by cases hp⟩
 have fin:∀(σ':St) (H':Hp) (s':Shared),Inv (By X scope cl N C s3 H3 fp) [] σ' H' s'->Q (.ref l) H'->compPost (model X.prog X.w) X.A X.xe use Qc (.ref l) C (.ok .next) s':=fun σ' H' s' I' q=>by
  obtain⟨m,hn,_⟩:=I'.loc;have nC:∀b o,s3.heap.get? b=some o->b≠C:=fun b o e=>by
   rw[<-hC,<-es3];exact Nat.ne_of_lt (Heap.lt_size e)
  have fC:H' C=none:=I'.free;have u:=I'.base;refine hfin l H' s' C ?_ (I3.fpOk (by rw[es3,hC];exact Nat.le_refl _) fC) ⟨m,hn⟩ q;refine I3.call' (s':=s') (ch:=fp) I'.os ⟨fun b o e n hb hx=>u.keep b o e n hb hx,fun b o e n hb hx=>u.slot b o e n hb hx,u.free,fun b o e hx=>u.there b o e hx,u.tups,u.frzs,u.tbls⟩ (fun b o e=>I'.hok b o e) I'.bare fun b hb=>?_
  obtain⟨g0,g1,g2,g3,g4,g5⟩:=f3 b hb;exact⟨g3,g1,g4,g5⟩
 have loop:codeAny (model X.prog X.w) X.A (.compLoop (.ListComp elt [⟨tg,iter,ifs,0⟩] scope pos) 0 (.ref it) (.ref l) (compEnvC scope cl C X.env)) (compPost (model X.prog X.w) X.A X.xe use Qc (.ref l) C)
   { s2 with heap:=h₁,toks:=s2.toks+([]:List (Str×Value)).length }:=by
  refine Qa (fun n s'=>∃i σ' H',Inv (By X scope cl N C s3 H3 fp) [] σ' H' s'/\tn i s'.heap/\(∀b∈fp,H' b=none)/\W i n σ' H') ?_ m0 ⟨0,_,H3,I4,st3,fun b hb=>(f3 b hb).1,w0⟩
  rintro n s5 ⟨i,σ5,H5,I5,st5,fr5,w5⟩
  rcases turn i n σ5 H5 w5 with⟨stop,qn⟩|⟨go,step⟩
  ·refine Br (T.done (By X scope cl N C s3 H3 fp) rfl rfl rfl hc i [] s5 σ5 H5 (fun _ _=>False) I5 (fpc fr5) st5 stop) fun r s6 ⟨hr,I6⟩=>?_
   subst hr;exact fin σ5 H5 s6 I6 qn
  ·refine Br (T.item (By X scope cl N C s3 H3 fp) rfl rfl rfl hc i [] s5 σ5 H5 (fun _ _=>False) I5 (fpc fr5) st5 go) fun r s6 ⟨u,hr,h6⟩=>?_
   subst hr;refine Br h6 fun _ s7 ⟨x,H7,I7,r7,y7,st7,fr7⟩=>?_
   have I7':=I7.pinned (fpc fr7) (T.obj _ _ st7);refine Br (hg _ s7 σ5 H7 x u _ I7' r7 (step x H7 y7)) fun _ s8 ⟨σ8,H8,I8,q8⟩=>?_
   have again:∀{σ9:St} {H9:Hp} {s9:Shared},Inv (By X scope cl N C s3 H3 fp) ([]++Lr fp s7.heap) σ9 H9 s9->(∃m',m'<n/\W (i+1) m' σ9 H9)->∃m,m<n/\∃i σ' H',Inv (By X scope cl N C s3 H3 fp) [] σ' H' s9/\tn i s9.heap/\(∀b∈fp,H' b=none)/\W i m σ' H':=fun{σ9 H9 s9} I9 n9=>by
    obtain⟨m',hm,w9⟩:=n9;refine⟨m',hm,i+1,σ9,H9,I9.unpinned,T.keep _ _ _ st7 fun b hb o e=>(I9.pin (b,o) (List.mem_append_right _ (List.mem_append_right _ (GX hb e)))).1,fun b hb=>?_,w9⟩;obtain⟨o,e,d⟩:=T.obj _ _ st7 b hb;exact(I9.pin (b,o) (List.mem_append_right _ (List.mem_append_right _ (GX hb e)))).2.1
   refine Br (ht _ s8 σ8 H8 _ I8 q8) fun ok s9 ⟨H9,I9,q9⟩=>?_
   cases ok with
   |false=>
    rw[if_neg Bool.false_ne_true] at q9 ⊢;exact again I9 q9
   |true=>
    rw[if_pos rfl] at q9 ⊢;refine Br (he _ s9 σ8 H9 _ I9 q9) fun y sa ⟨vy,Ha,Ia,ry,qa⟩=>?_
    obtain⟨xs,hla,hsz,n9⟩:=qa;refine Br (EX _ sa σ8 Ha (.ref l) [vy] (.ref l) [y] (fun _ Hb=>∃m',m'<n/\W (i+1) m' σ8 Hb) Ia rfl (.cons ry .nil) ⟨l,xs,vy,rfl,rfl,hla,hsz,n9⟩) fun _ sb ⟨_,Hb,Ib,_,qb⟩=>?_
    exact again Ib qb
 show codeAny (model X.prog X.w) X.A (.compStart (.ListComp elt [⟨tg,iter,ifs,0⟩] scope pos) 0 (.ref it) (.ref l) (compEnvC scope cl C X.env)) (compPost (model X.prog X.w) X.A X.xe use Qc (.ref l) C) { s2 with heap:=h₁,toks:=s2.toks+([]:List (Str×Value)).length };exact codeAny_compStart_list loop (T.self _ 0 _ _ _ st3 loop)
theorem Er (N:List Str) (fr:List (Option Nat)) {elt tg iter:Expr} {ifs:List Expr} {scope:Scope} {pos:Pos} {wi:TI} {g:TG} {tt:TT} {te:TE} {cl:List (Str×Addr)}
  (hc:X.calm=true) (hi:PI X tg iter wi) (hchk:Iv X.N X.env.scope scope N fr=true) (hclos:closureFor scope X.env=pure cl) (hcl:Px X.env.cells cl) (hall:JO cl scope.names)
  (hb:∀(C:Addr) (s:Shared) (H:Hp) (fp:List Addr),PG (By X scope cl N C s H fp) tg g/\PU (By X scope cl N C s H fp) ifs tt/\PE (By X scope cl N C s H fp) elt te)
  (hs:∀x,foldedSetIterable iter X.env x=pure x:=by intro _;rfl) :
  PE X (.ListComp elt [⟨tg,iter,ifs,0⟩] scope pos) (MH fr wi g tt te):=by
 intro pins s σ H Q I h;rw[eval_ListComp];refine MW N fr hc hi hchk hclos hcl hall hb hs I h fun l H' s' C I' fC ⟨m,hn⟩ q=>?_
 refine⟨m,hn,fun h'' hs''=>⟨.ref l,H',?_,rfl,q⟩⟩;obtain⟨f0,f1,f2,f3,f4,f5⟩:=fC;exact I'.turned (t':=s'.toks) (fun b o hb e=>(hs''.2 b hb).trans e) f0 f1 f3 f4 f5
theorem K4 (N:List Str) (fr:List (Option Nat)) {i:Nat} {x:Str} {elt tg iter:Expr} {ifs:List Expr} {scope:Scope} {cpos pos pos':Pos} {wi:TI} {g:TG} {tt:TT} {te:TE} {cl:List (Str×Addr)}
  (hN:X.N.Nodup) (hi':X.N[i]?=some x) (hx:Loc X.env.scope x)
  (hc:X.calm=true) (hi:PI X tg iter wi) (hchk:Iv X.N X.env.scope scope N fr=true) (hclos:closureFor scope X.env=pure cl) (hcl:Px X.env.cells cl) (hall:JO cl scope.names)
  (hb:∀(C:Addr) (s:Shared) (H:Hp) (fp:List Addr),PG (By X scope cl N C s H fp) tg g/\PU (By X scope cl N C s H fp) ifs tt/\PE (By X scope cl N C s H fp) elt te)
  (hs:∀x,foldedSetIterable iter X.env x=pure x:=by intro _;rfl)
  (hsw:swapsWith (.ListComp elt [⟨tg,iter,ifs,0⟩] scope cpos) (some (.Name x pos')) pos.line X.env=pure true:=by rfl)
  (hf:X.fn x=true\/X.env.scope.names.lookup x=some .local:=by first|exact .inl rfl|exact .inr rfl|assumption) :
  PS X (.Assign [.Name x pos'] (.ListComp elt [⟨tg,iter,ifs,0⟩] scope cpos) pos) (Vz (MH fr wi g tt te) (Ci i)):=by
 intro pins s σ H D I h;rw[exec_Assign_arm];refine wpAny_bind (wpAny_standAt ?_);rw[show swapsWithSole [.Name x pos'] (.ListComp elt [⟨tg,iter,ifs,0⟩] scope cpos) pos.line X.env=pure true from hsw];refine wpAny_bind (wpAny_pure ?_);rw[if_pos rfl,arm_evalThenUse_ListComp];refine wpAny_bind (wpAny_bind ?_);have h1:MH fr wi g tt te σ H fun v H1=>D.nx (σ.set i (some v)) H1:=h
 refine MW (use:=some _) N fr hc hi hchk hclos hcl hall hb hs I h1 fun l H' s' C I' fC ⟨m,hn⟩ q=>?_
 obtain⟨f0,f1,f2,f3,f4,f5⟩:=fC;obtain⟨o,es,ep,ho,hd,hk,hm⟩:=hn;have Ip:Inv X (pins++[(C,o)]) σ H' s':=I'.pins_of fun p hp=>(List.mem_append.mp hp).elim (fun z=>I'.pin p (List.mem_append_right _ z)) fun z=>by
  rw[List.mem_singleton.mp z];exact⟨ho,f0,f1,f2,fun v e=>by rw[hd] at e;cases e⟩
 show wpAny _ _ (assignAll (.ref l) [assign (.Name x pos') X.env]) _ _ _;rw[assignAll.eq_2];refine wpAny_assign_Name (Lv Ip hN hi' hx (v:=.ref l) rfl (fun s2 I2=>?_) hf);have ho2:=(I2.pin (C,o) (List.mem_append_right _ (List.mem_append_right _ (List.mem_singleton_self _)))).1;refine⟨m,⟨o,es,ep,ho2,hd,hk,hm⟩,fun h' hs'=>wpAny_pure (wpAny_pure ⟨_,H',?_,q⟩)⟩;exact I2.unpinned.turned (t':=s2.toks) (fun b o hb e=>(hs'.2 b hb).trans e) f0 f1 f3 f4 f5
def Jv (sc:Scope):Bool:=
 decide (sc.kind=.function)&&(sc.names.all fun y=>!decide (y.2=.cell))&&(sc.names.all fun y=>!decide (y.2=.local)||decide (sc.names.lookup y.1=some .local))&&(sc.names.all fun y=>!decide (y.2=.free))
theorem Bs (N:List Str) {elt tg iter:Expr} {ifs:List Expr} {scope:Scope} {pos:Pos} {wi:TI} {g:TG} {tt:TT} {te:TE}
  (hc:X.calm=true) (hi:PI X tg iter wi) (hchk:Jv scope=true)
  (hb:∀(C:Addr) (s:Shared) (H:Hp) (fp:List Addr),PG (By X scope [] N C s H fp) tg g/\PU (By X scope [] N C s H fp) ifs tt/\PE (By X scope [] N C s H fp) elt te)
  (hs:∀x,foldedSetIterable iter X.env x=pure x:=by intro _;rfl) :
  PE X (.ListComp elt [⟨tg,iter,ifs,0⟩] scope pos) (MH (N.map fun _=>none) wi g tt te):=by
 simp only[Jv,Bool.and_eq_true,decide_eq_true_eq,List.all_eq_true,Bool.or_eq_true,Bool.not_eq_true',decide_eq_false_iff_not] at hchk;obtain⟨⟨⟨hkind,hcell⟩,hnames⟩,hfree⟩:=hchk;refine Er (cl:=[]) N (N.map fun _=>none) hc hi ?_ (closureFor_none fun x hx=>hfree x hx) trivial ?_ hb hs
 ·simp only[Iv,Bool.and_eq_true,decide_eq_true_eq,List.all_eq_true,Bool.or_eq_true,Bool.not_eq_true',decide_eq_false_iff_not];refine⟨⟨⟨⟨⟨hkind,by simp⟩,hcell⟩,hnames⟩,fun y hy=>.inl (hfree y hy)⟩,fun p hp=>?_⟩;have:p.2∈N.map fun _=>(none:Option Nat):=(List.of_mem_zip hp).2
  obtain⟨_,_,e⟩:=List.mem_map.mp this;rw[<-e]
 ·have:∀ns:List (Str×NameKind),(∀y∈ns,y.2≠.free)->JO [] ns:=by
   intro ns
   induction ns with
   |nil=>intro _;exact trivial
   |cons p r ih=>intro h;exact⟨fun e=>absurd e (h p List.mem_cons_self),ih fun y hy=>h y (List.mem_cons_of_mem _ hy)⟩
  exact this _ fun y hy=>hfree y hy
theorem Tf (N:List Str) {i:Nat} {x:Str} {elt tg iter:Expr} {ifs:List Expr} {scope:Scope} {cpos pos pos':Pos} {wi:TI} {g:TG} {tt:TT} {te:TE}
  (hN:X.N.Nodup) (hi':X.N[i]?=some x) (hx:Loc X.env.scope x)
  (hc:X.calm=true) (hi:PI X tg iter wi) (hchk:Jv scope=true)
  (hb:∀(C:Addr) (s:Shared) (H:Hp) (fp:List Addr),PG (By X scope [] N C s H fp) tg g/\PU (By X scope [] N C s H fp) ifs tt/\PE (By X scope [] N C s H fp) elt te)
  (hs:∀x,foldedSetIterable iter X.env x=pure x:=by intro _;rfl)
  (hsw:swapsWith (.ListComp elt [⟨tg,iter,ifs,0⟩] scope cpos) (some (.Name x pos')) pos.line X.env=pure true:=by rfl)
  (hf:X.fn x=true\/X.env.scope.names.lookup x=some .local:=by first|exact .inl rfl|exact .inr rfl|assumption) :
  PS X (.Assign [.Name x pos'] (.ListComp elt [⟨tg,iter,ifs,0⟩] scope cpos) pos) (Vz (MH (N.map fun _=>none) wi g tt te) (Ci i)):=by
 simp only[Jv,Bool.and_eq_true,decide_eq_true_eq,List.all_eq_true,Bool.or_eq_true,Bool.not_eq_true',decide_eq_false_iff_not] at hchk;obtain⟨⟨⟨hkind,hcell⟩,hnames⟩,hfree⟩:=hchk;refine K4 (cl:=[]) N (N.map fun _=>none) hN hi' hx hc hi ?_ (closureFor_none fun x hx=>hfree x hx) trivial ?_ hb hs hsw hf
 ·simp only[Iv,Bool.and_eq_true,decide_eq_true_eq,List.all_eq_true,Bool.or_eq_true,Bool.not_eq_true',decide_eq_false_iff_not];refine⟨⟨⟨⟨⟨hkind,by simp⟩,hcell⟩,hnames⟩,fun y hy=>.inl (hfree y hy)⟩,fun p hp=>?_⟩;have:p.2∈N.map fun _=>(none:Option Nat):=(List.of_mem_zip hp).2
  obtain⟨_,_,e⟩:=List.mem_map.mp this;rw[<-e]
 ·have:∀ns:List (Str×NameKind),(∀y∈ns,y.2≠.free)->JO [] ns:=by
   intro ns
   induction ns with
   |nil=>intro _;exact trivial
   |cons p r ih=>intro h;exact⟨fun e=>absurd e (h p List.mem_cons_self),ih fun y hy=>h y (List.mem_cons_of_mem _ hy)⟩
  exact this _ fun y hy=>hfree y hy
end
def Def (P:Program)(w:World)(K:PySem.W.Frag)(mg:Str->Option Value)(base:Heap)(k:Nat)(x:Str)(ps:List Str)(sp:Sp):Prop:=
 ∃(f:Addr) (fd:FuncData),FnOk P w K mg base Cf k f fd ps sp/\mg x=some (.ref f)/\PySem.W.keepIn K (.ref f)=true/\Binds K fd ps []
section
variable {X:Cx}{k:Nat}{x:Str}{ps:List Str}{sp:Sp}{e:Expr}{es:List Expr}{t:TA}{p pos:Pos}
theorem AN (D:Def X.prog X.w X.K X.mg X.base k x ps sp) (hr:Room k X.A) (hg:Gl X x) (ha:PA X (e::es) t)
  (hdb:(x == ("__debug__":Str))=false:=by decide) (he:starEach (e::es) X.env=(false,eval e X.env)::starEach es X.env:=by rfl) (hpl:(backTo pos (starEach es X.env)).any (·.1)=false:=by rfl) :
  PE X (.Call (.Name x p) (e::es) [] pos) (RD sp [] E0 t):=by
 obtain⟨f,fd,F,hm,hk,hb⟩:=D;exact V9 F hr hg hm hk hb .nil O5 ha hdb he hpl
theorem Xv (D:Def X.prog X.w X.K X.mg X.base k x ps sp) (hr:Room k X.A) (hg:Gl X x)
  (hdb:(x == ("__debug__":Str))=false:=by decide) :
  PE X (.Call (.Name x p) [] [] pos) (RD sp [] E0 Nm):=by
 obtain⟨f,fd,F,hm,hk,hb⟩:=D;exact TC F hr hg hm hk hb .nil O5 hdb
end
section
variable {X:Cx}
theorem AI {x:Str}{i:Int}{pos:Pos}(hg:Gl X x)(hm:∃t,X.mg x=some (.int i t))(hd:(x == ("__debug__":Str))=false:=by decide):PE X (.Name x pos) (tC (.int i)):=by
 obtain⟨t,hm⟩:=hm;exact Ri hg hm ⟨_,rfl⟩ hd
theorem KG {x:Str}{T:String}{pos:Pos}(hg:Gl X x)(hm:X.mg x=none)(hv:bootBuiltins x=some (.type T))(hn:x≠"__name__":=by decide)(hd:(x == ("__debug__":Str))=false:=by decide):PE X (.Name x pos) (tC (.ty T)):=Vw hg hm hv rfl hn hd
theorem HH {x z:Str}{pos:Pos}(hg:Gl X x)(hm:∃t,X.mg x=some (.str z t))(hd:(x == ("__debug__":Str))=false:=by decide):PE X (.Name x pos) (tC (.str z)):=by
 obtain⟨t,hm⟩:=hm;exact Ri hg hm ⟨_,rfl⟩ hd
end
theorem BA:bootBuiltins "isinstance"=some (.builtin "isinstance"):=by decide +kernel
theorem JY:bootBuiltins "all"=some (.builtin "all"):=by decide +kernel
theorem Uu:bootBuiltins "sum"=some (.builtin "sum"):=by decide +kernel
theorem EV:bootBuiltins "sorted"=some (.builtin "sorted"):=by decide +kernel
theorem BG:bootBuiltins "len"=some (.builtin "len"):=by decide +kernel
theorem Xe:bootBuiltins "max"=some (.builtin "max"):=by decide +kernel
theorem Xy:bootBuiltins "min"=some (.builtin "min"):=by decide +kernel
theorem Th:bootBuiltins "int"=some (.type "int"):=by decide +kernel
theorem Vh:bootBuiltins "bool"=some (.type "bool"):=by decide +kernel
theorem Tj:bootBuiltins "str"=some (.type "str"):=by decide +kernel
theorem Io:bootBuiltins "list"=some (.type "list"):=by decide +kernel
theorem Ft:bootBuiltins "tuple"=some (.type "tuple"):=by decide +kernel
theorem Vt:bootBuiltins "dict"=some (.type "dict"):=by decide +kernel
theorem WU:bootBuiltins "set"=some (.type "set"):=by decide +kernel
theorem NJ:bootBuiltins "enumerate"=some (.type "enumerate"):=by decide +kernel
theorem WT {t c:String}{b:Bool}(h:(if(Value.type t == Value.type c)=true then some true else if PySem.W.kitMeta c=true then(fastBuiltinMro t).map (·.contains (.type c)) else none)=some b)(K:PySem.W.Frag) :
  PySem.W.kitOne K (.type t) (.type c)=some b:=h
section
variable {X:Cx}
def Za (K:PySem.W.Frag):List V->Hp->VK->Prop:=fun xs H Q=>∃x c t b,xs=[x,.ty c]/\TyOf K H x t/\PySem.W.kitOne K t (.type c)=some b/\Q (.bl b) H
theorem Cg:DW X (.builtin "isinstance") (Za X.K):=by
 intro pins s σ H xs us Q I r h;obtain⟨x,c,t,b,rfl,ty,e,q⟩:=h;obtain⟨u,v,rfl,ru,rv⟩:=vals2 r;have ev:v=Value.type c:=rv;subst ev;exact SQ I ru ty e fun tk=>⟨.bl b,H,I.tok _,rfl,q⟩
end
def Dw:V->Bool
 | .non=>true
 | .int _=>true
 | .str _=>true
 |_=>false
theorem Iq {x:V}(h:Dw x=true):Uc x=true:=by
 cases x<;>first|rfl|exact h
theorem pure_eq {x y:V}(hx:Dw x=true)(hy:Dw y=true):U9 x y=decide (x=y):=by
 cases x<;>first|exact absurd (show false=true from hx) Bool.false_ne_true|skip
 all_goals (cases y<;>first|exact absurd (show false=true from hy) Bool.false_ne_true|skip)
 ·rfl
 ·rfl
 ·rfl
 ·rfl
 ·exact Ie.symm
 ·rfl
 ·rfl
 ·rfl
 ·exact Ng.symm
theorem IH:∀(xs ys:List V),xs.length=ys.length->xs.all Dw=true->ys.all Dw=true->
  ((List.range xs.length).all fun i=>U9 (xs.getD i .non) (ys.getD i .non))=decide (xs=ys):=by
 intro xs
 induction xs with
 |nil=>
  intro ys hl _ _;cases ys with
  |nil=>rfl
  |cons _ _=>simp at hl
 |cons x xs ih=>
  intro ys hl hx hy;cases ys with
  |nil=>simp at hl
  |cons y ys=>
   rw[List.all_cons,Bool.and_eq_true] at hx hy;have q:=ih ys (by simpa using hl) hx.2 hy.2;rw[List.length_cons,List.range_succ_eq_map,List.all_cons,List.all_map];have e0:((fun i=>U9 ((x::xs).getD i .non) ((y::ys).getD i .non))∘Nat.succ)=fun i=>U9 (xs.getD i .non) (ys.getD i .non):=by
    funext i;simp
   rw[e0,q];show(U9 x y&&decide (xs=ys))=_;rw[pure_eq hx.1 hy.1]
   by_cases h1:x=y
   ·by_cases h2:xs=ys<;>simp[h1,h2]
   ·simp[h1]
theorem K5 {xs:List V}{us:List Value}(r:AL xs us){j:Nat}(hj:j<us.length):∃x,xs[j]?=some x/\RelV x us[j]:=by
 have hl:=r.length;obtain⟨u,e1,e2⟩:=r.get (i:=j) (x:=xs[j]'(by omega)) (by simp[show j<xs.length by omega]);refine⟨xs[j]'(by omega),by simp[show j<xs.length by omega],?_⟩;rw[List.getElem?_eq_getElem hj] at e1;cases e1;exact e2
section
variable {X:Cx}
theorem Uj {A:Around} {s:Shared} {a b:Addr} {xs ys:List V} {its its2:List Value} (hu:A.units<cLine) (r1:AL xs its) (r2:AL ys its2) (h1:s.heap.IsList a its.toArray) (h2:s.heap.IsList b its2.toArray)
  (f1:xs.all Dw=true) (f2:ys.all Dw=true):SeqAt.RcAt A s (.ref a) (.ref b) (decide (xs=ys)):=by
 have l1:=r1.length;have l2:=r2.length
 by_cases hl:xs.length=ys.length
 ·have q:=SeqAt.RcAt.lists (A:=A) (s:=s) (e:=fun i=>U9 (xs.getD i .non) (ys.getD i .non)) h1 h2 (by simp;omega) hu (fun j g1 g2=>by
   have g1':j<its.length:=by simpa using g1
   have g2':j<its2.length:=by simpa using g2
   obtain⟨x,e1,rx⟩:=K5 r1 g1';obtain⟨y,e2,ry⟩:=K5 r2 g2';have p1:Dw x=true:=List.all_eq_true.mp f1 x (List.mem_of_getElem? e1);have p2:Dw y=true:=List.all_eq_true.mp f2 y (List.mem_of_getElem? e2);have:=NG (A:=A.in1) (s:=s) rx ry (Iq p1) (Iq p2);simpa [List.getD,e1,e2] using this)
  have e:(its.toArray.size)=xs.length:=by simp;omega
  rw[e,IH xs ys hl f1 f2] at q;exact q
 ·have e:decide (xs=ys)=false:=decide_eq_false fun z=>hl (by rw[z])
  rw[e];exact SeqAt.RcAt.lists_lengths h1 h2 (by simp;omega) hu
def X9 (K:PySem.W.Frag)(neg:Bool):R2:=fun x y H Q=>∃a b xs ys,x=.ref a/\y=.ref b/\AO K H a xs/\AO K H b ys/\xs.all Dw=true/\ys.all Dw=true/\Q (.bl (if neg then !decide (xs=ys) else decide (xs=ys))) H
theorem XF (hu:X.A.units+1<cLine):Il X (compareOp .Eq) (X9 X.K false):=by
 intro pins s σ H x y v u Q I rx ry h;obtain⟨a,b,xs,ys,rfl,rfl,h1,h2,f1,f2,q⟩:=h;cases rx;cases ry;obtain⟨its,r1,p1,_⟩:=I.list h1;obtain⟨its2,r2,p2,_⟩:=I.list h2;exact Uj (by omega) r1 r2 p1.isList p2.isList f1 f2 _ _ _ _ ⟨.bl _,H,I,rfl,q⟩
theorem Qe {A:Around} {s:Shared} {a b:Addr} {xs ys:List V} {its its2:List Value} (hu:A.units<cLine) (r1:AL xs its) (r2:AL ys its2) (h1:s.heap.IsList a its.toArray) (h2:s.heap.IsList b its2.toArray)
  (f1:xs.all Dw=true) (f2:ys.all Dw=true):SeqAt.RcNeAt A s (.ref a) (.ref b) (!decide (xs=ys)):=by
 have l1:=r1.length;have l2:=r2.length
 by_cases hl:xs.length=ys.length
 ·have q:=SeqAt.RcNeAt.lists (A:=A) (s:=s) (e:=fun i=>U9 (xs.getD i .non) (ys.getD i .non)) h1 h2 (by simp;omega) hu (fun j g1 g2=>by
   have g1':j<its.length:=by simpa using g1
   have g2':j<its2.length:=by simpa using g2
   obtain⟨x,e1,rx⟩:=K5 r1 g1';obtain⟨y,e2,ry⟩:=K5 r2 g2';have p1:Dw x=true:=List.all_eq_true.mp f1 x (List.mem_of_getElem? e1);have p2:Dw y=true:=List.all_eq_true.mp f2 y (List.mem_of_getElem? e2);have:=NG (A:=A.in1) (s:=s) rx ry (Iq p1) (Iq p2);simpa [List.getD,e1,e2] using this)
  have e:(its.toArray.size)=xs.length:=by simp;omega
  rw[e,IH xs ys hl f1 f2] at q;exact q
 ·have e:decide (xs=ys)=false:=decide_eq_false fun z=>hl (by rw[z])
  rw[e];exact SeqAt.RcNeAt.lists_lengths h1 h2 (by simp;omega) hu
theorem WO (hu:X.A.units+1<cLine):Il X (compareOp .NotEq) (X9 X.K true):=by
 intro pins s σ H x y v u Q I rx ry h;obtain⟨a,b,xs,ys,rfl,rfl,h1,h2,f1,f2,q⟩:=h;cases rx;cases ry;obtain⟨its,r1,p1,_⟩:=I.list h1;obtain⟨its2,r2,p2,_⟩:=I.list h2;exact Qe (by omega) r1 r2 p1.isList p2.isList f1 f2 _ _ _ _ ⟨.bl _,H,I,rfl,q⟩
theorem Ju (ns:List Int):(ns.map V.int).all Dw=true:=by simp[List.all_map,Function.comp_def,Dw]
theorem Jy (ns:List Str):(ns.map V.str).all Dw=true:=by simp[List.all_map,Function.comp_def,Dw]
end
theorem KA:∀{bs:List Bool} {us:List Value},AL (bs.map V.bl) us->LSm.BoolsAre us bs
 |[],_,.nil=>.nil
 |b::bs,_,.cons r t=>by
  have e:_=Value.bool b:=r;subst e;exact .cons b (KA t)
section
variable {prog:Program}{w:World}{A:Around}{E:Value->Shared->Prop}{s:Shared}{l:Addr}{vs:List Value}
theorem S7 {bs:List Bool} {Q:Value->Shared->Prop} (hh:A.handled=none) (hl:s.heap.IsList l vs.toArray) (hb:LSm.BoolsAre vs bs)
  (h:∀h' tk,(∀b o,s.heap.get? b=some o->h'.get? b=some o)->Q (.bool (bs.all id)) { s with heap:=h',toks:=tk }):wpAny (model prog w) A (call (.builtin "all") [.ref l]) Q E s:=by
 have below:l<s.heap.objs.size:=(fun⟨_,e,_⟩=>Heap.lt_size e:s.heap.IsList l vs.toArray->_) hl;have whole:((List.range vs.toArray.size).all fun i=>(bs[i]?).getD true)=bs.all id:=by rw[List.size_toArray,hb.length,LSm.range_all]
 exact call_all_walk (wpAny_pyIter_list hl ⟨s.heap.objs.size,[s.heap.objs.size,l],[s.heap.objs.size],vs.toArray.size,_,_,fun i=>(bs[i]?).getD true,rfl,Walks.list (A:=A.in1) hh _ l (Nat.ne_of_lt below) vs.toArray,⟨⟨_,Heap.get?_push_size _ rfl,rfl,rfl⟩,hl.push _⟩,
  (fun i v s' Q' E' hP hQ=>by
   obtain⟨b,hg,hv⟩:=hb.get i v (by simpa using hP);have hQ':Q' b s':=by simpa [hg] using hQ
   subst hv;exact wpAny_truthy_bool hQ'),
  fun h' tk hk=>whole▸h h' tk (LSm.kept_iter hk)⟩)
end
section
variable {X:Cx}
theorem Gu (hc:X.calm=true):DW X (.builtin "all") (fun xs H Q=>∃(a:Addr) (bs:List Bool),xs=[.ref a]/\AO X.K H a (bs.map V.bl)/\Q (.bl (bs.all id)) H):=by
 intro pins s σ H xs us Q I r h;obtain⟨a,bs,rfl,h1,q⟩:=h;obtain⟨u,rfl,ru⟩:=vals1 r;cases ru;obtain⟨its,r1,p1,_⟩:=I.list h1;exact S7 (I.ok.hd hc) p1.isList (KA r1) fun h' tk hk=>⟨.bl _,H,I.kept hk,rfl,q⟩
theorem O7 (hc:X.calm=true):DW X (.builtin "sum") (fun xs H Q=>∃(a:Addr) (ns:List Int),xs=[.ref a]/\AO X.K H a (ns.map V.int)/\Q (.int ns.sum) H):=by
 intro pins s σ H xs us Q I r h;obtain⟨a,ns,rfl,h1,q⟩:=h;obtain⟨u,rfl,ru⟩:=vals1 r;cases ru;obtain⟨its,r1,p1,_⟩:=I.list h1;have hi:=intsAre_of r1;obtain⟨zs,hz⟩:=hi.allInts.items;have due:preSum (numAt zs) zs.size=ns.sum:=by
  have:zs.toList.map (·.1)=ns:=by rw[<-nums_intItems,<-hz];exact hi.numsOf
  rw[<-this,preSum_eq,List.take_of_length_le (by simp)]
 exact sum_intListG (I.ok.hd hc) (hz▸p1.isList) fun h' tk t' hk=>⟨.int ns.sum,H,I.kept hk,⟨_,by rw[due]⟩,q⟩
def Yu (K:PySem.W.Frag):R2:=fun x y H Q=>∃l b xs zs,x=.ref l/\y=.ref b/\AO K H l xs/\AO K H b zs/\xs.length+zs.length<=sizeLine/\∀p,H p=none->Q (.ref p) (upd H p (.lst (xs++zs)))
theorem NT:Il X (binaryOp .Add) (Yu X.K):=by
 intro pins s σ H x y v u Q I rx ry h;obtain⟨l,b,xs,zs,rfl,rfl,h1,h2,hz,q⟩:=h;cases rx;cases ry;obtain⟨its,r,p1,_⟩:=I.list h1;obtain⟨its2,r2,p2,_⟩:=I.list h2;have l1:=r.length;have l2:=r2.length;obtain⟨⟨cls,dd,data,sl⟩,ho,hc,n,hd⟩:=id p1.isList;obtain⟨⟨cls2,dd2,data2,sl2⟩,ho2,hc2,n2,hd2⟩:=id p2.isList;simp only at hc hd hc2 hd2;subst hc hd hc2 hd2;have e:its.toArray++its2.toArray=(its++its2).toArray:=by simp
 refine concat_meets ⟨_,ho,rfl⟩ ⟨_,ho2,rfl⟩ noFill_list_add seq_list_add PySem.F.slot_list_add PySem.F.entry_list_add (PySem.F.args_list_add_2 _ _) (list_addW l b its.toArray its2.toArray n n2 dd dd2 sl sl2 (by rw[List.size_toArray,List.size_toArray];omega)) ⟨ho,ho2,?_⟩;rw[e];exact⟨.ref _,_,I.lnew (t':=s.toks) (r.append r2) (by rw[List.length_append];omega),rfl,q _ I.fresh⟩
end
theorem Am {H:Hp}{p:Addr}(h:H p=none)(o:HO):Ar H (upd H p o):=fun b u q=>by rw[Ag (AF q h)];exact q
theorem A0 {H H':Hp}{p:Addr}(s:Ar H H')(h:H p=none)(o:HO):Ar H (upd H' p o):=fun b u q=>by rw[Ag (AF q h)];exact s b u q
theorem Ar.get {H H':Hp}{a:Addr}{o:HO}(s:Ar H H')(h:H a=some o):H' a=some o:=s a o h
theorem G8:1000000<=sizeLine:=by decide
theorem small {n:Nat}(h:n<=1000000):n<=sizeLine:=Nat.le_trans h G8
theorem Ba {n:Nat}(h:n<1000000):n<sizeLine:=Nat.lt_of_lt_of_le h G8
theorem V0 {ns:List Int}{i:Nat}{y:V}(h:(ns.map V.int)[i]?=some y):∃z,y=V.int z/\ns[i]?=some z:=by
 rw[List.getElem?_map] at h;cases e:ns[i]? with
 |none=>rw[e] at h;cases h
 |some z=>rw[e] at h;exact⟨z,(Option.some.inj h).symm,rfl⟩
theorem P9 {ns:List Int}{i:Int}(h0:0<=i)(h1:i<ns.length):Kt (ns.map V.int) i=some (.int (ns.getD i.toNat 0)):=by
 have hk:i.toNat<ns.length:=by omega
 have ek:i=((i.toNat:Nat):Int):=by omega
 have q:Kt (ns.map V.int) ((i.toNat:Nat):Int)=some (.int (ns.getD i.toNat 0)):=JM (by rw[List.getElem?_map,List.getElem?_eq_getElem hk];simp[List.getD,List.getElem?_eq_getElem hk]);rw[<-ek] at q;exact q
theorem XQ {xs:List V}{j:Int}(h:0<=j):Kj xs none (some j)=xs.take j.toNat:=by
 unfold Kj;rw[show j=((j.toNat:Nat):Int) by omega,HT.VC,HT.Uk,Int.toNat_natCast,List.drop_zero,Nat.sub_zero]
 by_cases hl:j.toNat<=xs.length
 ·rw[Nat.min_eq_left hl]
 ·rw[Nat.min_eq_right (by omega),List.take_of_length_le (Nat.le_refl _),List.take_of_length_le (by omega)]
theorem AR {c:Bool}{A B:Prop}(h:c=false)(b:B):if c=true then A else B:=by
 subst h;rw[if_neg Bool.false_ne_true];exact b
theorem BS {c:Bool}{A B:Prop}(h:c=true)(b:A):if c=true then A else B:=by
 subst h;rw[if_pos rfl];exact b
theorem dec_true {c:Prop}[Decidable c](h:decide c=true):c:=of_decide_eq_true h
theorem WI {t u:TT}{σ:St}{H:Hp}{Q:Bool->Hp->Prop}(c d:Bool)(ht:∀R:Bool->Hp->Prop,R c H->t σ H R)(hu:c=false->∀R:Bool->Hp->Prop,R d H->u σ H R)(q:Q (c||d) H):YD t u σ H Q:=by
 refine ht _ ?_;cases c with
 |true=>rw[if_pos rfl];exact q
 |false=>rw[if_neg Bool.false_ne_true];exact hu rfl _ q
def Oo (J:It)(H:Hp)(xs:List V):Prop:=∀H',Ar H H'->∀i:Nat,(i<xs.length->J.go i H')/\(∀x H'',J.yld i H' x H''->H''=H'/\(i<xs.length->xs[i]?=some x))/\(xs.length<=i->J.stop i H')
theorem D5 {K:PySem.W.Frag}{a:Addr}{H:Hp}{xs:List V}(h:AO K H a xs):Oo (Vc K a) H xs:=fun H' s i=>
 ⟨fun hi=>⟨xs,xs[i],s.seq h,by simp[hi]⟩,fun x H'' y=>⟨y.1,fun _=>y.2 xs (s.seq h)⟩,fun hi=>⟨xs,s.seq h,hi⟩⟩
theorem Qo {lo:Int}{n:Nat}{H:Hp}:Oo (Vb lo n) H ((List.range n).map fun(i:Nat)=>V.int (lo+(i:Int))):=fun H' s i=>
 ⟨fun hi=>(by simpa using hi:i<n),fun x H'' y=>⟨y.1,fun hi=>by
  have hi':i<n:=by simpa using hi
  rw[List.getElem?_map,List.getElem?_range hi',y.2];rfl⟩,fun hi=>(by simpa using hi:n<=i)⟩
theorem comp_map {J:It} {xs:List V} {fr:List (Option Nat)} {k:Nat} {te:TE} {Q:VK} {σ:St} {H:Hp} (f:V->V) (hJ:Oo J H xs) (hn:xs.length<=1000000)
  (helt:∀(x:V) (H':Hp) (R:VK),x∈xs->Ar H H'->(∀H'',Ar H' H''->R (f x) H'')->te ((stC fr σ).set k (some x)) H' R)
  (hQ:∀l H',H l=none->Ar H H'->H' l=some (.lst (xs.map f))->Q (.ref l) H') :
  FO fr (Ci k) Pc te σ Q J H:=by
 intro l hl;refine⟨fun i m σ' H'=>m=xs.length-i/\i<=xs.length/\(∀y,σ'.set k y=(stC fr σ).set k y)/\Ar H H'/\H' l=some (.lst ((xs.take i).map f)),⟨xs.length,by simp,Nat.zero_le _,fun _=>rfl,Am hl _,by rw[Af,List.take_zero,List.map_nil]⟩,?_⟩
 rintro i m σ' H' ⟨rfl,hi,hσ,hs,hl'⟩
 obtain⟨h1,h2,h3⟩:=hJ H' hs i
 by_cases hlt:i<xs.length
 ·refine .inr ⟨h1 hlt,fun x H'' y=>?_⟩;obtain⟨rfl,hx⟩:=h2 x H'' y;have hx:=hx hlt;show te (σ'.set k (some x)) H'' _;rw[hσ];refine helt x H'' _ (List.mem_of_getElem? hx) hs fun H4 s4=>?_
  refine⟨_,s4.get hl',Ba (by rw[List.length_map,List.length_take];omega),xs.length-(i+1),by omega,rfl,hlt,fun y=>by rw[List.set_set],A0 (hs.trans s4) hl _,?_⟩;rw[Af,List.take_add_one,hx];simp
 ·have e:i=xs.length:=by omega
  subst e;exact .inl ⟨h3 (Nat.le_refl _),hQ l H' hl hs (by rw[hl',List.take_of_length_le (Nat.le_refl _)])⟩
section
variable {X:Cx}{K:PySem.W.Frag}
theorem Lu (h:X.K=K):X2 X (Yp K):=by subst h;exact A4
theorem Ep (h:X.K=K):X2 X (Yl K):=by subst h;exact AJ
theorem Ml (h:X.K=K):DW X (.builtin "len") (fun xs H Q=>∃p ys,xs=[.ref p]/\(AO K H p ys\/AW K H p ys)/\Q (.int ys.length) H):=by subst h;exact AK
end
theorem KC {J:It} {xs:List V} {fr:List (Option Nat)} {k:Nat} {tt:TT} {te:TE} {Q:VK} {σ:St} {H:Hp} (p:V->Bool) (f:V->V) (hJ:Oo J H xs) (hn:xs.length<=1000000)
  (htest:∀(x:V) (H':Hp) (R:Bool->Hp->Prop),x∈xs->Ar H H'->R (p x) H'->tt ((stC fr σ).set k (some x)) H' R)
  (helt:∀(x:V) (H':Hp) (R:VK),x∈xs->p x=true->Ar H H'->(∀H'',Ar H' H''->R (f x) H'')->te ((stC fr σ).set k (some x)) H' R)
  (hQ:∀l H',H l=none->Ar H H'->H' l=some (.lst ((xs.filter p).map f))->Q (.ref l) H'):FO fr (Ci k) tt te σ Q J H:=by
 intro l hl;refine⟨fun i m σ' H'=>m=xs.length-i/\i<=xs.length/\(∀y,σ'.set k y=(stC fr σ).set k y)/\Ar H H'/\H' l=some (.lst (((xs.take i).filter p).map f)),⟨xs.length,by simp,Nat.zero_le _,fun _=>rfl,Am hl _,by rw[Af];rfl⟩,?_⟩
 rintro i m σ' H' ⟨rfl,hi,hσ,hs,hl'⟩
 obtain⟨h1,h2,h3⟩:=hJ H' hs i
 by_cases hlt:i<xs.length
 ·refine .inr ⟨h1 hlt,fun x H'' y=>?_⟩;obtain⟨rfl,hx⟩:=h2 x H'' y;have hx:=hx hlt;have hm:=List.mem_of_getElem? hx;have et:(xs.take (i+1)).filter p=(xs.take i).filter p++(if p x=true then[x] else[]):=by
   rw[List.take_add_one,hx,List.filter_append];cases q:p x<;>simp[q]
  show tt (σ'.set k (some x)) H'' _;rw[hσ];refine htest x H'' _ hm hs ?_;refine C7 (fun c=>?_) (fun c=>?_)
  ·refine helt x H'' _ hm c hs fun H4 s4=>?_
   refine⟨_,s4.get hl',Ba ?_,xs.length-(i+1),by omega,rfl,hlt,fun y=>by rw[List.set_set],A0 (hs.trans s4) hl _,?_⟩
   ·rw[List.length_map];have a:=List.length_filter_le p (xs.take i);rw[List.length_take] at a;omega
   ·rw[Af,et,if_pos c,List.map_append];rfl
  ·exact⟨xs.length-(i+1),by omega,rfl,hlt,fun y=>by rw[List.set_set],hs,by rw[hl',et,if_neg c,List.append_nil]⟩
 ·have e:i=xs.length:=by omega
  subst e;exact .inl ⟨h3 (Nat.le_refl _),hQ l H' hl hs (by rw[hl',List.take_of_length_le (Nat.le_refl _)])⟩
def Ok (H:Hp):V->Prop
 | .non=>True
 | .bl _=>True
 | .int _=>True
 | .str z=>z.length<=1000
 | .ref a=>(∃xs,H a=some (.lst xs))\/∃xs,H a=some (.tup xs)
 |_=>False
theorem Ok.same {H H':Hp}{v:V}(h:Ok H v)(s:Ar H H'):Ok H' v:=by
 cases v<;>first|exact h|skip
 rcases h with⟨xs,e⟩|⟨xs,e⟩
 ·exact .inl ⟨xs,s.get e⟩
 ·exact .inr ⟨xs,s.get e⟩
def Iy (H:Hp):V->String
 | .non=>"NoneType"
 | .bl _=>"bool"
 | .int _=>"int"
 | .str _=>"str"
 | .ref a=>match H a with
  |some (.lst _)=>"list"
  |some (.tup _)=>"tuple"
  |_=>"?"
 |_=>"?"
theorem Ok.ty {H:Hp}{v:V}(h:Ok H v)(K:PySem.W.Frag):TyOf K H v (.type (Iy H v)):=by
 cases v with
 |non=>exact .non
 |bl b=>exact .bl b
 |int i=>exact .int i
 |str z=>exact .str z
 |ref a=>
  rcases h with⟨xs,e⟩|⟨xs,e⟩
  ·have q:Iy H (.ref a)="list":=by simp only[Iy,e]
   rw[q];exact .lst e
  ·have q:Iy H (.ref a)="tuple":=by simp only[Iy,e]
   rw[q];exact .tup e
 |_=>exact h.elim
def isA (t c:String):Bool:=t == c||(t == "bool"&&c == "int")
theorem VD {t c:String}(K:PySem.W.Frag)(ht:t∈["NoneType","bool","int","str","list","tuple"])(hc:c∈["bool","int","str","list","tuple"]):PySem.W.kitOne K (.type t) (.type c)=some (isA t c):=by
 have all:∀t∈["NoneType","bool","int","str","list","tuple"],∀c∈["bool","int","str","list","tuple"],(if(Value.type t == Value.type c)=true then some true else if PySem.W.kitMeta c=true then(fastBuiltinMro t).map (·.contains (.type c)) else none)=some (isA t c):=by decide +kernel
 exact WT (all t ht c hc) K
theorem Ok.tyMem {H:Hp}{v:V}(h:Ok H v):Iy H v∈["NoneType","bool","int","str","list","tuple"]:=by
 cases v with
 |ref a=>
  rcases h with⟨xs,e⟩|⟨xs,e⟩
  ·simp only[Iy,e];decide
  ·simp only[Iy,e];decide
 |byt _=>exact h.elim
 |flt _=>exact h.elim
 |ty _=>exact h.elim
 |_=>simp only[Iy];decide
theorem Ok.kit {H:Hp}{v:V}(h:Ok H v)(K:PySem.W.Frag){c:String}(hc:c∈["bool","int","str","list","tuple"]:=by decide):PySem.W.kitOne K (.type (Iy H v)) (.type c)=some (isA (Iy H v) c):=VD K h.tyMem hc
theorem K3 {t u:TE}{σ:St}{H:Hp}{Q:VK}(c d:Bool)(ht:∀R:VK,R (.bl c) H->t σ H R)(hu:c=true->∀R:VK,R (.bl d) H->u σ H R)(q:Q (.bl (c&&d)) H):Ww t u σ H Q:=by
 refine ht _ ⟨c,rfl,?_⟩;cases c with
 |false=>rw[if_neg Bool.false_ne_true];exact q
 |true=>rw[if_pos rfl];exact hu rfl _ q
theorem VO {H:Hp}{a:Addr}{xs:List V}(e:H a=some (.lst xs)):Iy H (.ref a)="list":=by simp only[Iy,e]
theorem VL {H:Hp}{a:Addr}{xs:List V}(e:H a=some (.tup xs)):Iy H (.ref a)="tuple":=by simp only[Iy,e]
theorem Ok.elim {H:Hp} {v:V} (ok:Ok H v) {C:Prop} (c1:v=.non->Iy H v="NoneType"->C) (c2:∀b,v=.bl b->Iy H v="bool"->C) (c3:∀i,v=.int i->Iy H v="int"->C) (c4:∀z,v=.str z->z.length<=1000->Iy H v="str"->C)
  (c5:∀a xs,v=.ref a->H a=some (.lst xs)->Iy H v="list"->C) (c6:∀a xs,v=.ref a->H a=some (.tup xs)->Iy H v="tuple"->C):C:=by
 cases v with
 |non=>exact c1 rfl rfl
 |bl b=>exact c2 b rfl rfl
 |int i=>exact c3 i rfl rfl
 |str z=>exact c4 z rfl ok rfl
 |ref a=>
  rcases ok with⟨xs,e⟩|⟨xs,e⟩
  ·exact c5 a xs rfl e (VO e)
  ·exact c6 a xs rfl e (VL e)
 |_=>exact(show False from ok).elim
def Hz (H:Hp)(v:V):Bool:=isA (Iy H v) "int" && !isA (Iy H v) "bool"
theorem RR (H:Hp)(i:Int):Hz H (.int i)=true:=by
 show(isA "int" "int" && !isA "int" "bool")=true
 decide
theorem SW {H:Hp}{v:V}(ok:Ok H v)(h:Hz H v=true):∃i,v=.int i:=by
 unfold Hz at h;refine ok.elim (fun _ e=>?_) (fun _ _ e=>?_) (fun i e _=>⟨i,e⟩) (fun _ _ _ e=>?_) (fun _ _ _ _ e=>?_) (fun _ _ _ _ e=>?_)
 all_goals (rw[e] at h;exact absurd h (by decide))
def Kl (a b:Int):V->Bool
 | .int i=>decide (a<=i)&&decide (i<=b)
 |_=>false
theorem Wa {H:Hp}{v:V}{a b:Int}(h:Hz H v=false):Kl a b v=false:=by
 cases v with
 |int i=>rw[RR] at h;cases h
 |_=>rfl
theorem S8 {H:Hp}{v:V}(ok:Ok H v)(h:isA (Iy H v) "tuple"=true):∃a xs,v=.ref a/\H a=some (.tup xs):=by
 refine ok.elim (fun _ e=>?_) (fun _ _ e=>?_) (fun _ _ e=>?_) (fun _ _ _ e=>?_) (fun _ _ _ _ e=>?_) (fun a xs e1 e2 _=>⟨a,xs,e1,e2⟩)
 all_goals (rw[e] at h;exact absurd h (by decide))
theorem Xl {H:Hp}{v:V}(ok:Ok H v)(h:isA (Iy H v) "str"=true):∃z,v=.str z/\z.length<=1000:=by
 refine ok.elim (fun _ e=>?_) (fun _ _ e=>?_) (fun _ _ e=>?_) (fun z e1 e2 _=>⟨z,e1,e2⟩) (fun _ _ _ _ e=>?_) (fun _ _ _ _ e=>?_)
 all_goals (rw[e] at h;exact absurd h (by decide))
def YK (x:Str):It:=⟨fun i _=>i<x.cps.size,fun i H v H'=>H'=H/\∃c,x.cps[i]?=some c/\v=.str ⟨#[c]⟩,fun i _=>x.cps.size<=i⟩
theorem Qq {P:Program}{w:World}{K:PySem.W.Frag}{tg:Expr}(it:Addr)(x:Str)(t:Tok):Turn P w K tg (YK x) [it] it (fun i h=>h.IsStrIter it "str_ascii_iterator" x t i) where
 mem:=by simp
 obj:=fun i h st b hb=>by
  have e:b=it:=by simpa using hb
  subst e;obtain⟨o,e,c,d⟩:=st;exact⟨o,e,fun v z=>by rw[d] at z;cases z⟩
 keep:=fun i h h' st k=>by
  obtain⟨o,e,c,d⟩:=st;exact⟨o,k it (by simp) o e,c,d⟩
 item:=by
  intro X hP hw hK hc i pins s σ H E I hf st hg;subst hP hw hK;have hg':i<x.cps.size:=hg;obtain⟨f0,f1,f2,f3,f4,f5⟩:=hf it (by simp);refine wpAny_pyNext_ascii_item st (c:=x.cps[i]) (by simp[hg']) fun h' st' sb=>?_
  have I1:Inv X pins σ H { s with heap:=h',toks:=s.toks+1 }:=I.turned (fun b o hb e=>(sb.2 b hb).trans e) f0 f1 f3 f4 f5;obtain⟨o,e,c,d⟩:=id st';exact⟨_,rfl,OV (s:={ s with heap:=h',toks:=s.toks+1 }) e c d (by decide) ⟨.str ⟨#[x.cps[i]]⟩,H,I1,⟨_,rfl⟩,⟨rfl,_,by simp[hg'],rfl⟩,st',fun b hb=>(hf b hb).1⟩⟩
 done:=by
  intro X hP hw hK hc i pins s σ H E I hf st hg;subst hP hw hK;have hg':x.cps.size<=i:=hg;obtain⟨f0,f1,f2,f3,f4,f5⟩:=hf it (by simp);exact wpAny_pyNext_ascii_end (I.ok.hd hc) st (by simp[hg']) fun h' eb=>⟨rfl,I.turned (t':=s.toks) (fun b o hb e=>eb b o hb e) f0 f1 f3 f4 f5⟩
 self:=fun _ _ _ _ _ st h=>wpAny_pyIter_striter_ascii st h
theorem Se {P:Program}{w:World}{K:PySem.W.Frag}{tg:Expr}(it:Addr)(x:Str)(t:Tok):Turn P w K tg (YK x) [it] it (fun i h=>h.IsStrIter it "str_iterator" x t i) where
 mem:=by simp
 obj:=fun i h st b hb=>by
  have e:b=it:=by simpa using hb
  subst e;obtain⟨o,e,c,d⟩:=st;exact⟨o,e,fun v z=>by rw[d] at z;cases z⟩
 keep:=fun i h h' st k=>by
  obtain⟨o,e,c,d⟩:=st;exact⟨o,k it (by simp) o e,c,d⟩
 item:=by
  intro X hP hw hK hc i pins s σ H E I hf st hg;subst hP hw hK;have hg':i<x.cps.size:=hg;obtain⟨f0,f1,f2,f3,f4,f5⟩:=hf it (by simp);refine wpAny_pyNext_wide_item st (c:=x.cps[i]) (by simp[hg']) fun h' st' sb=>?_
  have I1:Inv X pins σ H { s with heap:=h',toks:=s.toks+1 }:=I.turned (fun b o hb e=>(sb.2 b hb).trans e) f0 f1 f3 f4 f5;obtain⟨o,e,c,d⟩:=id st';exact⟨_,rfl,OV (s:={ s with heap:=h',toks:=s.toks+1 }) e c d (by decide) ⟨.str ⟨#[x.cps[i]]⟩,H,I1,⟨_,rfl⟩,⟨rfl,_,by simp[hg'],rfl⟩,st',fun b hb=>(hf b hb).1⟩⟩
 done:=by
  intro X hP hw hK hc i pins s σ H E I hf st hg;subst hP hw hK;have hg':x.cps.size<=i:=hg;obtain⟨f0,f1,f2,f3,f4,f5⟩:=hf it (by simp);exact wpAny_pyNext_wide_end (I.ok.hd hc) st (by simp[hg']) fun h' eb=>⟨rfl,I.turned (t':=s.toks) (fun b o hb e=>eb b o hb e) f0 f1 f3 f4 f5⟩
 self:=fun _ _ _ _ _ st h=>wpAny_pyIter_striter_wide st h
section
variable {X:Cx}{tg:Expr}
def Zg (tl:TE):TI:=fun σ H R=>tl σ H fun x H1=>∃z,x=.str z/\R (YK z) H1
theorem LX {l:Expr}{tl:TE}(hl:PE X l tl):PI X tg l (Zg tl):=by
 intro pins s σ H R I h;refine Br (hl pins s σ H _ I h) fun v s1 ⟨x,H1,I1,r1,q1⟩=>?_
 obtain⟨z,e,q⟩:=q1;subst e;obtain⟨t,rfl⟩:=r1;have fp:∀b∈[s1.heap.objs.size],JD X pins H1 b:=fun b hb=>by
  have e:b=s1.heap.objs.size:=by simpa using hb
  subst e;exact I1.fpOk (Nat.le_refl _) (I1.hok.fresh (Nat.le_refl _))
 cases ha:z.cps.all (· < 128)
 ·exact wpAny_pyIter_wide ha ⟨s1.heap.objs.size,[s1.heap.objs.size],_,_,H1,rfl,I1.kept (t':=s1.toks) (fun b o e=>Heap.get?_push_of_some _ e),Se _ z t,⟨_,Heap.get?_push_size _ rfl,rfl,rfl⟩,fp,q⟩
 ·exact wpAny_pyIter_ascii ha ⟨s1.heap.objs.size,[s1.heap.objs.size],_,_,H1,rfl,I1.kept (t':=s1.toks) (fun b o e=>Heap.get?_push_of_some _ e),Qq _ z t,⟨_,Heap.get?_push_size _ rfl,rfl,rfl⟩,fp,q⟩
end
theorem HP {x:Str}{H:Hp}:Oo (YK x) H (x.cps.toList.map fun c=>V.str ⟨#[c]⟩):=fun H' s i=>
 ⟨fun hi=>(by simpa using hi:i<x.cps.size),fun v H'' y=>⟨y.1,fun hi=>by
  obtain⟨_,c,hc,e⟩:=y;rw[List.getElem?_map,Array.getElem?_toList,hc,e];rfl⟩,fun hi=>(by simpa using hi:x.cps.size<=i)⟩
section
variable {X:Cx}
def W3:V->List V->Hp->VK->Prop:=fun x vs H Q=>∃t u,x=.str t/\vs=[.str u]/\0<=Txt.find t u/\Q (.int (Txt.find t u)) H
theorem S5 (hc:X.calm=true):YL X "str.index" W3:=by
 intro pins s σ H x vs v us Q I rx rv h;obtain⟨t,u,rfl,rfl,h0,q⟩:=h;obtain⟨tk,rfl⟩:=rx;obtain⟨y,rfl,ry⟩:=rv.one;obtain⟨tk2,rfl⟩:=ry;refine index_or (I.ok.hd hc) (fun e=>absurd e (by omega)) fun _ _=>⟨.int (Txt.find t u),H,I.tok _,⟨_,rfl⟩,q⟩
end
section
variable {X:Cx}
def Yy:R2:=fun x y H Q=>∃(z:Str) (n:Int),x=.str z/\y=.int n/\n<=1000/\-1000<=n/\z.length<=1000/\Q (.str (PySem.Txt.mul z n)) H
theorem mulOk_of {z:Str}{n:Int}(h1:n<=1000)(h0:-1000<=n)(h2:z.length<=1000):MulOk z n:=by
 refine⟨?_,fun h3 _=>?_,fun h3 _=>?_⟩
 ·rw[decide_eq_false (by omega),decide_eq_false (by omega)];rfl
 ·have:(2^63-1:Int)/n≥(2^63-1:Int)/1000:=by
   have hn:0<n:=by omega
   have a:(2^63-1:Int)/1000*n<=2^63-1:=by
    have b:(2^63-1:Int)/1000*n<=(2^63-1:Int)/1000*1000:=Int.mul_le_mul_of_nonneg_left h1 (by decide);have c:(2^63-1:Int)/1000*1000<=2^63-1:=by decide
    omega
   exact(Int.le_ediv_iff_mul_le hn).mpr a
  have d:(1000:Int)<=(2^63-1:Int)/1000:=by decide
  omega
 ·have:z.length*n.toNat<=1000*1000:=Nat.mul_le_mul h2 (by omega);have e:Builtin.Str.tooLong (z.length*n.toNat)=decide (z.length*n.toNat>sizeLine):=rfl;rw[e];exact decide_eq_false (by have:=G8;omega)
theorem Lx:Il X (binaryOp .Mult) Yy:=by
 intro pins s σ H x y v u Q I rx ry h;obtain⟨z,n,rfl,rfl,h1,h0,h2,q⟩:=h;obtain⟨t,rfl⟩:=rx;obtain⟨t',rfl⟩:=ry;exact SB.mul (mulOk_of h1 h0 h2) fun t' k=>⟨.str _,H,I.tok k,⟨_,rfl⟩,q⟩
theorem QE {ys:List Str}:∀{us:List Value},AL (ys.map V.str) us->StrsAre us ys:=by
 induction ys with
 |nil=>intro us r;rw[List.map_nil] at r;cases r;exact .nil
 |cons n ns ih=>
  intro us r;rw[List.map_cons] at r;cases r with
  |cons r1 r2=>
   obtain⟨t,e⟩:=r1;subst e;exact .cons n t (ih r2)
def rJoin (K:PySem.W.Frag):V->List V->Hp->VK->Prop:=fun x vs H Q=>∃(a:Addr) (z:Str) (ys:List Str),x=.str z/\vs=[.ref a]/\AO K H a (ys.map V.str)/\(ys.map (·.length)).sum+ys.length*z.length<=16777216/\Q (.str (PySem.Txt.join z ys)) H
theorem Wn (_:X.calm=true):YL X "str.join" (rJoin X.K):=by
 intro pins s σ H x vs v us Q I rx rv h;obtain⟨a,z,ys,rfl,rfl,hq,hz,q⟩:=h;obtain⟨tk,rfl⟩:=rx;obtain⟨y,rfl,ry⟩:=rv.one;cases ry;obtain⟨its,r1,p1,_⟩:=I.list hq;exact join_list p1.isList (QE (by simpa using r1)) hz fun t' k=>⟨.str _,H,I.tok k,⟨_,rfl⟩,q⟩
end
end L2
namespace L2
open PySem PySem.Spec PyProof.Rows PySem.Builtin.Str
abbrev CA (z:Str):List Nat:=z.cps.toList
theorem BU (z:Str):(CA z).length=z.length:=by simp[Str.length]
theorem RE {x y:Str}(h:CA x=CA y):x=y:=by
 obtain⟨a⟩:=x;obtain⟨b⟩:=y;have:a=b:=Array.toList_inj.mp h;rw[this]
theorem Rw (a y:Str):CA (a++y)=CA a++CA y:=by
 show(a.cps++y.cps).toList=_;simp
end L2
namespace L2
open PySem PySem.Spec PyProof.Rows
theorem U3:bootBuiltins "abs"=some (.builtin "abs"):=by decide +kernel
theorem V3 (a v:Value):checkTypeCall "enumerate" ⟨[a],[("start",v)]⟩=pure ():=by kernel_rfl
theorem VI (a v:Value):checkBuiltinCall "enumerate.__new__" ⟨[.type "enumerate",a],[("start",v)]⟩=pure ():=by kernel_rfl
theorem VW (obj a v:Value):argsOk "object.__init__" ⟨[obj,a],[("start",v)]⟩:=by kernel_rfl
theorem Wg (l:Addr)(items:Array Value)(m:Nat)(sl:Array (Option Value))(t:Tok):Meets (Builtin.«enumerate.__new__» ⟨[.type "enumerate",.ref l],[("start",.int 1 t)]⟩) fun _ R s=>
  s.heap.get? l=some { cls:=.type "list",dict:=none,data:=.seq items m,slots:=sl }/\R (.ok (.ret (.ref (s.heap.objs.size+1))))
   { s with heap:=(s.heap.push { cls:=.type "list_iterator",data:=.fields #[.ref l,.int 0 0] }).push { cls:=.type "enumerate",data:=.fields #[.none,.bool false,.ref s.heap.objs.size,rawInt 1,.none,.none] } }:=by
 refine .of_wp fun prog w A R s h=>?_
 obtain⟨hl,h⟩:=h;have hsub:=sub_enumerate;have hL:s.heap.IsList l items:=⟨_,hl,rfl,m,rfl⟩
 obtain⟨hp,g,d,tk,os⟩:=s
 wp_walk using PySem.AutoSeq1.wpAny_loadPart' hl
 refine wpAny_stack_any fun st=>wpAny_pure ?_
 split
 ·rename_i c _ _ _ _ _
  cases hcc:(c == Value.type "enumerate")<;>wp_walk using PySem.AutoSeq1.wpAny_loadPart' hl,wpAny_pyIter_list hL
  all_goals (refine⟨_,rfl,?_⟩;rw[Heap.size_push];exact h)
 ·wp_walk using PySem.AutoSeq1.wpAny_loadPart' hl,wpAny_pyIter_list hL
  refine⟨_,rfl,?_⟩;rw[Heap.size_push];exact h
theorem Vi {self a v:Value}:Meets (Builtin.«object.__init__» ⟨[self,a],[("start",v)]⟩) fun _ R s=>s.TypeIs self "enumerate"/\R (.ok (.ret .none)) s:=by
 have hl:=F.called_enumerate.init.lookup;have hm:=F.called_enumerate.made;have hne:(some "enumerate.__new__" != some "object.__new__")=true:=by decide
 refine .of_wp fun prog w A R s h=>?_
 obtain⟨hT,hq⟩:=h
 repeat (any_goals (first|wp_step|assumption))
 all_goals exact⟨_,rfl,hq⟩
section
variable {prog:Program}{w:World}{A:Around}{E:Value->Shared->Prop}{s:Shared}
theorem Sz {l:Addr} {items:Array Value} {m:Nat} {sl:Array (Option Value)} {t:Tok} {Q:Value->Shared->Prop} (hl:s.heap.get? l=some { cls:=.type "list",dict:=none,data:=.seq items m,slots:=sl })
  (h:Q (.ref (s.heap.objs.size+1)) { s with heap:=(s.heap.push { cls:=.type "list_iterator",data:=.fields #[.ref l,.int 0 0] }).push { cls:=.type "enumerate",data:=.fields #[.none,.bool false,.ref s.heap.objs.size,rawInt 1,.none,.none] } }) :
  wpAny (model prog w) A (call (.type "enumerate") [.ref l] [("start",.int 1 t)]) Q E s:=by
 have ft:=F.called_enumerate;obtain⟨c,tl,hmro⟩:=ft.mro;have hmade:=ft.made;have hsub:=ft.sub;have hct:=V3 (.ref l) (.int 1 t);refine wpAny_call (codeAny_of_tree (wpAny_pure (?_:_/\_)));refine⟨Code.quiet_builtin _ (by decide +kernel),codeAny_builtin F.entry_type_call ?_⟩;rw[Around.under_plain (weight_type_call_type "enumerate" _ _) (units_type_call_type "enumerate" _ _)];have h1:=ft.notType;have h2:=ft.canCreate
 repeat (any_goals (first|wp_step|assumption))
 let s':Shared:={ s with heap:=(s.heap.push { cls:=.type "list_iterator",data:=.fields #[.ref l,.int 0 0] }).push { cls:=.type "enumerate",data:=.fields #[.none,.bool false,.ref s.heap.objs.size,rawInt 1,.none,.none] } }
 have key:codeAny (model prog w) A.in1 (.call (.builtin "enumerate.__new__") ⟨[.type "enumerate",.ref l],[("start",.int 1 t)]⟩) (fun r s1=>r=.ok (.ret (.ref (s.heap.objs.size+1)))/\s1=s') s:=
  codeAny_call_builtin ft.plain F.entry_enumerate_new (wpAny_of_eq (VI _ _) (Wg l items m sl t prog w A.in1 (fun r s1=>r=.ok (.ret (.ref (s.heap.objs.size+1)))/\s1=s') s ⟨hl,rfl,rfl⟩))
 refine codeAny_mono key fun r s₁ hr=>?_
 obtain⟨rfl,rfl⟩:=hr;have hz:(s.heap.push { cls:=.type "list_iterator",data:=.fields #[.ref l,.int 0 0] }).objs.size=s.heap.objs.size+1:=Heap.size_push ..;have hT:s'.TypeIs (.ref (s.heap.objs.size+1)) "enumerate":=⟨_,by rw[<-hz];exact Heap.get?_push_size _ rfl,rfl⟩
 have hq:Q (.ref (s.heap.objs.size+1)) s':=h
 clear_value s'
 have hli:=ft.init.lookup;have hbi:=ft.init.bind (.ref (s.heap.objs.size+1));show wpAny _ _ _ _ _ _
 repeat (any_goals (first|wp_step|assumption))
 have key2:codeAny (model prog w) A.in1 (.call (.builtin "object.__init__") ⟨[.ref (s.heap.objs.size+1),.ref l],[("start",.int 1 t)]⟩) (fun r s1=>r=.ok (.ret .none)/\s1=s') s':=
  codeAny_call_builtin ft.init.plain F.entry_object_init (ft.init.check _ _ _ _ _ _ _ _ hT (VW _ _ _) (Vi prog w A.in1 (fun r s1=>r=.ok (.ret .none)/\s1=s') s' ⟨hT,rfl,rfl⟩))
 refine codeAny_mono key2 fun r s₂ hr=>?_
 obtain⟨rfl,rfl⟩:=hr;show wpAny _ _ _ _ _ _
 repeat (any_goals (first|wp_step|assumption))
theorem KD (hh:A.handled=none)(it l:Addr)(hne:l≠it)(items:Array Value) :
  Draws prog w A it [it,l] (items.size+1) (fun j v=>∃i,j=i+1/\items[i]?=some v) (fun j h=>∃i,j=i+1/\h.IsListIter it l i/\h.IsList l items):=by
 have D:=Draws.list (prog:=prog) (w:=w) (A:=A) hh it l hne items;refine⟨fun j h ⟨i,_,st⟩=>D.live i h st,fun j h h' ⟨i,e,st⟩ hk=>⟨i,e,D.frame i h h' st hk⟩,fun j s Q E hj ⟨i,e,st⟩ hQ=>?_,fun s Q E ⟨i,e,st⟩ hE=>?_⟩
 ·subst e;exact D.item i s Q E (by omega) st fun x h' tk hx st' hs=>hQ x h' tk ⟨i,rfl,hx⟩ ⟨i+1,rfl,st'⟩ hs
 ·have e':i=items.size:=by omega
  subst e';exact D.done s Q E st hE
end
section
variable {X:Cx}{pins:List (Addr×Obj)}{σ:St}{H:Hp}{s:Shared}{h':Heap}
theorem Inv.turned2 {t':Nat} {e it T:Addr} {xs:List V} {us:List Value} (I:Inv X pins σ H s) (fe:JD X pins H e) (fi:JD X pins H it) (k:∀b o,b≠e->b≠it->s.heap.get? b=some o->h'.get? b=some o)
  (hT:s.heap.objs.size<=T) (r:AL xs us) (hz:xs.length<=sizeLine) (ht:IsTup h' T us.toArray):Inv X pins σ (upd H T (.tup xs)) { s with heap:=h',toks:=t' }:=by
 obtain⟨e0,e1,e2,e3,e4,e5⟩:=fe;obtain⟨i0,i1,i2,i3,i4,i5⟩:=fi;have hn:H T=none:=I.hok.fresh hT;have nT:∀b o,s.heap.get? b=some o->b≠T:=fun b o q=>Nat.ne_of_lt (Nat.lt_of_lt_of_le (Heap.lt_size q) hT)
 have kc:∀b o,b∉[e,it]->s.heap.get? b=some o->h'.get? b=some o:=fun b o hb q=>k b o (fun z=>hb (by simp[z])) (fun z=>hb (by simp[z])) q
 have up:∀b u,H b=some u->upd H T (.tup xs) b=some u:=fun b u q=>by rw[Ag (AF q hn)];exact q
 refine I.step (g':=s.gens) (d':=s.drawn) (ch:=[e,it]) (fun b hb=>?_) (fun b o _ _ hc q _=>kc b o hc q) (fun b o _ _ hc q _=>⟨o.slots,kc b o hc q⟩) (fun b o _ q n=>by rw[Ag (nT b o q)];exact n)
  (fun b o hc q=>⟨o,kc b o hc q⟩) (fun b ys q=>up b _ q) (fun b o u q=>up b _ q) (fun b ps q=>⟨#[],by rw[up b _ q];simp⟩) (fun m hm=>?_) (fun b u q=>?_) I.bare
 ·rcases List.mem_cons.mp hb with rfl|hb
  ·exact⟨e3,e1,e4,e5⟩
  ·rw[List.mem_singleton.mp hb];exact⟨i3,i1,i4,i5⟩
 ·obtain⟨o,es,ep,ho,hr⟩:=hm;exact⟨o,es,ep,k _ o (Ne.symm e1) (Ne.symm i1) ho,hr⟩
 ·by_cases hb:b=T
  ·subst hb;rw[Af] at q;cases q;exact⟨hz,us,r,ht⟩
  ·rw[Ag hb] at q;have nn:∀c v,H c=some v->c≠e/\c≠it:=fun c v z=>⟨fun y=>(by rw[y,e0] at z;cases z),fun y=>(by rw[y,i0] at z;cases z)⟩
   refine(I.hok b u q).stay (fun c v hc z=>?_) (fun c z=>up c _ z) fun c ys z=>up c _ z
   rcases hc with y|y
   ·subst y;exact k c v (nn c u q).1 (nn c u q).2 z
   ·exact k c v (nn c _ y).1 (nn c _ y).2 z
theorem Inv.turned2n {t':Nat}{e it:Addr}(I:Inv X pins σ H s)(fe:JD X pins H e)(fi:JD X pins H it)(k:∀b o,b≠e->b≠it->s.heap.get? b=some o->h'.get? b=some o):Inv X pins σ H { s with heap:=h',toks:=t' }:=by
 obtain⟨e0,e1,e2,e3,e4,e5⟩:=fe;obtain⟨i0,i1,i2,i3,i4,i5⟩:=fi;have kc:∀b o,b∉[e,it]->s.heap.get? b=some o->h'.get? b=some o:=fun b o hb q=>k b o (fun z=>hb (by simp[z])) (fun z=>hb (by simp[z])) q
 refine I.step (g':=s.gens) (d':=s.drawn) (ch:=[e,it]) (fun b hb=>?_) (fun b o _ _ hc q _=>kc b o hc q) (fun b o _ _ hc q _=>⟨o.slots,kc b o hc q⟩) (fun b o _ q n=>n)
  (fun b o hc q=>⟨o,kc b o hc q⟩) (fun b ys q=>q) (fun b o u q=>q) (fun b ps q=>⟨#[],by rw[q];simp⟩) (fun m hm=>?_) (fun b u q=>?_) I.bare
 ·rcases List.mem_cons.mp hb with rfl|hb
  ·exact⟨e3,e1,e4,e5⟩
  ·rw[List.mem_singleton.mp hb];exact⟨i3,i1,i4,i5⟩
 ·obtain⟨o,es,ep,ho,hr⟩:=hm;exact⟨o,es,ep,k _ o (Ne.symm e1) (Ne.symm i1) ho,hr⟩
 ·have nn:∀c v,H c=some v->c≠e/\c≠it:=fun c v z=>⟨fun y=>(by rw[y,e0] at z;cases z),fun y=>(by rw[y,i0] at z;cases z)⟩
  refine(I.hok b u q).stay (fun c v hc z=>?_) (fun c z=>z) fun c ys z=>z
  rcases hc with y|y
  ·subst y;exact k c v (nn c u q).1 (nn c u q).2 z
  ·exact k c v (nn c _ y).1 (nn c _ y).2 z
end
def YH (K:PySem.W.Frag)(a:Addr):It:=
 ⟨fun i H=>∃xs x,AO K H a xs/\xs[i]?=some x,fun i H v H'=>∃T x,H T=none/\v=.ref T/\(∀xs,AO K H a xs->xs[i]?=some x)/\H'=upd H T (.tup [.int ((i:Int)+1),x]),fun i H=>∃xs,AO K H a xs/\xs.length=i⟩
theorem Sy {P:Program}{w:World}{K:PySem.W.Frag}{els:List Expr}{kk:Nat}{pp:Pos}(a e it:Addr)(hei:e≠it):Turn P w K (.Tuple els kk pp) (YH K a) [e,it] e (fun i h=>(∃old,IsEnum h e it ((i:Int)+1) old)/\h.IsListIter it a i) where
 mem:=by simp
 obj:=fun i h st b hb=>by
  obtain⟨⟨old,he⟩,o,ho,_,hd⟩:=st;rcases List.mem_cons.mp hb with rfl|hb
  ·exact⟨_,he,fun v z=>by cases z⟩
  ·rw[List.mem_singleton.mp hb];exact⟨o,ho,fun v z=>by rw[hd] at z;cases z⟩
 keep:=fun i h h' st hk=>by
  obtain⟨⟨old,he⟩,o,ho,r⟩:=st;exact⟨⟨old,hk e (by simp) _ he⟩,o,hk it (by simp) o ho,r⟩
 item:=fun X hP hw hK hc i pins s σ H E I hf st hg=>by
  subst hP hw hK;obtain⟨xs,x,hq,hx⟩:=hg;obtain⟨its,rv,p,hz⟩:=I.list hq;obtain⟨⟨old,he⟩,hit⟩:=st;have fe:=hf e (by simp);have fi:=hf it (by simp);obtain⟨u,hu,ru⟩:=rv.get hx;have il:=p.isList;have nae:a≠e:=fun z=>by
   obtain⟨o,ho,c1,_⟩:=il;rw[z,he] at ho;cases ho;injection c1 with y;exact absurd y (by decide)
  have nai:a≠it:=fun z=>by
   obtain⟨o,ho,c1,_⟩:=il;obtain⟨o2,ho2,c2,_⟩:=hit;rw[z,ho2] at ho;cases ho;rw[c2] at c1;injection c1 with y;exact absurd y (by decide)
  have W:=WalksT.enumerateD (prog:=X.prog) (w:=X.w) (A:=X.A) (KD (prog:=X.prog) (w:=X.w) (A:=X.A.in1) (I.ok.hd hc) it a nai its.toArray) e hei (by simp[hei,Ne.symm nae]) (by simp);refine W.item (i+1) s _ E (by have:=(List.getElem?_eq_some_iff.mp hu).1;simp;omega) ⟨⟨old,by simpa using he⟩,i,rfl,hit,il⟩ fun T vals h1 tk ⟨t,y,⟨i',ei,hy⟩,ev⟩ hT htu hm hk=>?_
  refine⟨.ref T,rfl,W.go els kk pp (i+1) T _ _ E hm fun h2 st2 hk2=>?_⟩;obtain⟨⟨old2,he2⟩,i2,e2,hit2,_⟩:=st2;have e3:i'=i:=by omega
  have e4:i2=i+1:=by omega
  subst e3 e4 ev;have ey:y=u:=by
   have q1:its.toArray[i']?=some u:=by simpa using hu
   exact Option.some.inj (hy.symm.trans q1)
  subst ey;have hTw:T∉[e,it]:=W.apart _ _ _ hm;have ht2:IsTup h2 T #[.int ((i':Int)+1) t,y]:=by
   obtain⟨o,ho,c⟩:=htu;exact⟨o,hk2 T o hTw ho,c⟩
  refine⟨.ref T,upd H T (.tup [.int ((i':Int)+1),x]),?_,rfl,⟨T,x,I.hok.fresh hT,rfl,fun zs hzs=>(by rw[I.list_inj hzs hq];exact hx),rfl⟩,⟨⟨old2,by simpa using he2⟩,hit2⟩,fun b hb=>?_⟩
  ·have I2:=I.turned2 (h':=h2) (t':=tk) (xs:=[.int ((i':Int)+1),x]) (us:=[.int ((i':Int)+1) t,y]) fe fi (fun b o b1 b2 q=>hk2 b o (by simp[b1,b2]) (hk b o (by simp[b1,b2]) q)) hT (.cons ⟨_,rfl⟩ (.cons ru .nil)) (by show 2<=sizeLine;decide) ht2;exact I2
  ·have nb:b≠T:=fun z=>hTw (z▸hb)
   rw[Ag nb];exact(hf b hb).1
 done:=fun X hP hw hK hc i pins s σ H E I hf st hg=>by
  subst hP hw hK;obtain⟨xs,hq,hx⟩:=hg;obtain⟨its,rv,p,hz⟩:=I.list hq;obtain⟨⟨old,he⟩,hit⟩:=st;have fe:=hf e (by simp);have fi:=hf it (by simp);have il:=p.isList;have nae:a≠e:=fun z=>by
   obtain⟨o,ho,c1,_⟩:=il;rw[z,he] at ho;cases ho;injection c1 with y;exact absurd y (by decide)
  have nai:a≠it:=fun z=>by
   obtain⟨o,ho,c1,_⟩:=il;obtain⟨o2,ho2,c2,_⟩:=hit;rw[z,ho2] at ho;cases ho;rw[c2] at c1;injection c1 with y;exact absurd y (by decide)
  have W:=WalksT.enumerateD (prog:=X.prog) (w:=X.w) (A:=X.A) (KD (prog:=X.prog) (w:=X.w) (A:=X.A.in1) (I.ok.hd hc) it a nai its.toArray) e hei (by simp[hei,Ne.symm nae]) (by simp);have el:its.toArray.size+1=i+1:=by rw[List.size_toArray,<-rv.length,hx]
  refine W.done s _ E (by rw[el];exact⟨⟨old,by simpa using he⟩,i,rfl,hit,il⟩) fun h' tk hk=>⟨rfl,?_⟩
  exact I.turned2n (h':=h') (t':=tk) fe fi fun b o b1 b2 q=>hk b o (by simp[b1,b2]) q
 self:=fun A i s Q E st h=>by
  obtain⟨⟨old,he⟩,_⟩:=st;exact wpAny_pyIter_enum he h
theorem QG {M:Model} {A:Around} {E:Value->Shared->Prop} {s:Shared} {pos:Pos} {T:String} {args:List (Bool×Sem Value)} {kws:List (Option Str×Sem Value)} {Q:Value->Shared->Prop} (hp:args.any (·.1)=false) (hk:kws.any (·.1.isNone)=false)
  (h:wpAny M A (evalArgs (.type T) true args kws) (fun z sz=>wpAny M A (call (.type T) z.pos z.kw) Q E sz) E s):wpAny M A (callWith pos (.type T) [] args kws) Q E s:=by
 unfold callWith;refine wpAny_bind (wpAny_holding (wpAny_mono h (fun z sz hz=>wpAny_bind (wpAny_standAt ?_)) fun _ _ y=>y));simp only[hp,hk,Bool.or_false];refine wpAny_bind (wpAny_pure (wpAny_bind (wpAny_mono hz (fun v sv hv=>wpAny_bind (wpAny_holding (wpAny_point (wpAny_pure hv)))) fun _ _ y=>y)))
section
variable {X:Cx}{els:List Expr}{kk:Nat}{pp:Pos}
def Yd (K:PySem.W.Frag)(ta:TA):TI:=fun σ H R=>ta σ H fun vs H1=>∃a xs,vs=[.ref a]/\AO K H1 a xs/\R (YH K a) H1
theorem VH {l:Expr} {ta:TA} {p pos kp cp:Pos} {j} (hg:Gl X "enumerate") (hm:X.mg "enumerate"=none) (ha:PA X [l] ta)
  (he:backTo pos (starEach [l] X.env)=(false,eval l X.env)::backTo pos (starEach [] X.env):=by rfl)
  (hpl:(backTo pos (starEach [l] X.env)).any (·.1)=false:=by rfl) :
  PI X (.Tuple els kk pp) (.Call (.Name "enumerate" p) [l] [⟨some "start",.Constant (.int 1) j cp,kp⟩] pos) (Yd X.K ta):=by
 intro pins s σ H R I h;refine wpAny_Call_Name_kw (Km I hg hm NJ (QG hpl rfl ?_));have hsp:=ha pos pins s σ H _ I h;rw[he] at hsp ⊢;refine evalArgs_kwB rfl (Br hsp fun us s1 ⟨vs,H1,I1,r1,q1⟩=>?_);refine kws_cons (wpAny_Constant_int (kws_nil ?_));obtain⟨a,xs,rfl,hq,q⟩:=q1;obtain⟨u,rfl,ru⟩:=vals1 r1;cases ru;have I2:=I1.tok (s1.toks+1);obtain⟨its,rv,⟨⟨oc,od,odt,sl⟩,m,pl,c1,c2,c3⟩,hz⟩:=I2.list hq;simp only at c1 c2 c3;subst c1 c2 c3;refine Sz (items:=its.toArray) (m:=m) (sl:=sl) pl ?_;have hs:(s1.heap.push { cls:=.type "list_iterator",data:=.fields #[.ref a,.int 0 0] }).objs.size=s1.heap.objs.size+1:=Heap.size_push ..;have hE:IsEnum ((s1.heap.push { cls:=.type "list_iterator",data:=.fields #[.ref a,.int 0 0] }).push { cls:=.type "enumerate",data:=.fields #[.none,.bool false,.ref s1.heap.objs.size,rawInt 1,.none,.none] }) (s1.heap.objs.size+1) s1.heap.objs.size 1 .none:=by
  rw[<-hs];exact Heap.get?_push_size _ rfl
 refine wpAny_pyIter_enum hE ?_;refine⟨s1.heap.objs.size+1,[s1.heap.objs.size+1,s1.heap.objs.size],_,YH X.K a,H1,rfl,I2.kept (t':=s1.toks+1) fun b o e=>Heap.get?_push_of_some _ (Heap.get?_push_of_some _ e),Sy a (s1.heap.objs.size+1) s1.heap.objs.size (Nat.succ_ne_self _),⟨⟨_,hE⟩,_,Heap.get?_push_of_some _ (Heap.get?_push_size _ rfl),rfl,rfl⟩,fun b hb=>?_,q⟩;rcases List.mem_cons.mp hb with rfl|hb
 ·exact I2.fpOk (Nat.le_succ _) (I2.hok.fresh (Nat.le_succ _))
 ·rw[List.mem_singleton.mp hb];exact I2.fpOk (Nat.le_refl _) (I2.hok.fresh (Nat.le_refl _))
end
theorem SF {K:PySem.W.Frag} {a:Addr} {xs:List V} {fr:List (Option Nat)} {i0 i1:Nat} {n:Nat} {te:TE} {Q:VK} {σ:St} {H:Hp} (f:Nat->V->V) (h1:H a=some (.lst xs)) (hn:xs.length<=1000000) (h2:n=2)
  (helt:∀(i:Nat) (x:V) (H':Hp) (R:VK),xs[i]?=some x->Ar H H'->(∀H'',Ar H' H''->R (f i x) H'')->te (((stC fr σ).set i0 (some (.int ((i:Int)+1)))).set i1 (some x)) H' R) (hne:i0≠i1)
  (hQ:∀l H',H l=none->Ar H H'->H' l=some (.lst ((List.range xs.length).map fun i=>f i (xs.getD i .non)))->Q (.ref l) H') :
  FO fr (Pg K n (Fj (Ci i0) (Fj (Ci i1) QO))) Pc te σ Q (YH K a) H:=by
 intro l hl;have hal:a≠l:=AF h1 hl;refine⟨fun i m σ' H'=>m=xs.length-i/\i<=xs.length/\(∀y z,(σ'.set i0 y).set i1 z=((stC fr σ).set i0 y).set i1 z)/\Ar H H'/\H' l=some (.lst ((List.range i).map fun i=>f i (xs.getD i .non))),⟨xs.length,by simp,Nat.zero_le _,fun _ _=>rfl,Am hl _,by rw[Af];rfl⟩,?_⟩
 rintro i m σ' H' ⟨rfl,hi,hσ,hs,hl'⟩
 have ha':=hs.get h1
 by_cases hlt:i<xs.length
 ·refine .inr ⟨⟨xs,xs[i],AO.of ha',by simp[hlt]⟩,?_⟩
  rintro x H'' ⟨T,y,hT,rfl,hy,rfl⟩
  have hyi:=hy xs (AO.of ha');have st:=Am hT (.tup [.int ((i:Int)+1),y]);subst h2;refine⟨T,_,rfl,AW.of Af,rfl,_,_,rfl,_,_,rfl,rfl,?_⟩;show te ((σ'.set i0 (some (.int ((i:Int)+1)))).set i1 (some y)) _ _;rw[hσ];refine helt i y _ _ hyi (hs.trans st) fun H4 s4=>?_
  refine⟨_,s4.get (st.get hl'),Ba (by rw[List.length_map,List.length_range];omega),xs.length-(i+1),by omega,rfl,hlt,fun y z=>?_,A0 ((hs.trans st).trans s4) hl _,?_⟩
  ·rw[List.set_comm _ _ (Ne.symm hne),List.set_set,List.set_set]
  ·rw[Af,List.range_succ,List.map_append];simp[List.getD,hyi]
 ·have e:i=xs.length:=by omega
  subst e;exact .inl ⟨⟨xs,AO.of ha',rfl⟩,hQ l H' hl hs hl'⟩
theorem Cy {X:Cx}{K:PySem.W.Frag}{pos:Pos}{es:List Expr}{k:Nat}{t:WL}{n:Nat}(hK:X.K=K)(hc:X.calm=true)(h:X4 X es t)(hn:(assignEach es X.env).length=n:=by rfl)(hs:(assignEach es X.env).findIdx? (·.1)=none:=by rfl):PG X (.Tuple es k pos) (Pg K n t):=by
 subst hK;exact NW hc h hn hs
theorem Up {xs:List V}:Kj xs none (some (-1))=xs.dropLast:=by
 unfold Kj HT.DY;rw[List.dropLast_eq_take];simp only[List.drop_zero,Nat.sub_zero];rw[if_pos (by decide)]
 congr 1
 omega
section
variable {κ:Type}[DecidableEq κ]
def Bd (kvs:List (κ×V))(k:κ):Option V:=(kvs.find? fun kv=>decide (kv.1=k)).map (·.2)
def putK (kvs:List (κ×V))(k:κ)(v:V):List (κ×V):=
 if(kvs.any fun kv=>decide (kv.1=k))=true then kvs.map (fun kv=>if kv.1=k then(kv.1,v) else kv) else kvs++[(k,v)]
def C4 (kvs:List (κ×V))(k:κ):List (κ×V):=kvs.filter fun kv=>decide (kv.1≠k)
theorem HX {p:κ×V}{r:List (κ×V)}{k:κ}(e:p.1=k):Bd (p::r) k=some p.2:=by simp[Bd,List.find?_cons,e]
theorem HR {p:κ×V}{r:List (κ×V)}{k:κ}(e:¬p.1=k):Bd (p::r) k=Bd r k:=by simp[Bd,List.find?_cons,e]
theorem HU (k:κ):∀kvs:List (κ×V),(kvs.any fun kv=>decide (kv.1=k))=(Bd kvs k).isSome
 |[]=>rfl
 |p::r=>by
  rw[List.any_cons]
  by_cases e:p.1=k
  ·simp only[HX e,decide_eq_true e,Bool.true_or,Option.isSome_some]
  ·rw[HR e,decide_eq_false e,Bool.false_or];exact HU k r
theorem HA (kvs:List (κ×V))(k:κ)(v:V):(putK kvs k v).length<=kvs.length+1:=by
 unfold putK
 split
 ·rw[List.length_map];omega
 ·rw[List.length_append,List.length_cons,List.length_nil];omega
theorem Gx {kvs:List (κ×V)}{k:κ}(v:V)(h:Bd kvs k=none):putK kvs k v=kvs++[(k,v)]:=by
 unfold putK;rw[HU,h];exact if_neg (by decide)
theorem Fv.isSome_eq {o:Option V}{u:Option Value}(r:Fv o u):o.isSome=u.isSome:=by
 cases o with
 |none=>cases u with
  |none=>rfl
  |some _=>exact(show False from r).elim
 |some _=>cases u with
  |none=>exact(show False from r).elim
  |some _=>rfl
theorem Fv.getD {o:Option V}{u:Option Value}{d:V}{d':Value}(r:Fv o u)(rd:RelV d d'):RelV (o.getD d) (u.getD d'):=by
 cases o with
 |none=>cases u with
  |none=>exact rd
  |some _=>exact(show False from r).elim
 |some _=>cases u with
  |none=>exact(show False from r).elim
  |some _=>exact r
theorem KV.val {kvs:List (κ×V)}{vs:List (κ×Value)}(r:KV kvs vs)(k:κ):Fv (Bd kvs k) (valueAt vs k):=by
 unfold KV at r
 induction r with
 |nil=>exact True.intro
 |@cons p q ps qs h t ih=>
  obtain⟨h1,h2⟩:=h
  by_cases e:p.1=k
  ·have e':q.1=k:=h1.symm.trans e;have b:valueAt (q::qs) k=some q.2:=by simp[valueAt,List.find?_cons,e']
   rw[HX e,b];exact h2
  ·have e':¬q.1=k:=fun z=>e (h1.trans z)
   have b:valueAt (q::qs) k=valueAt qs k:=by simp[valueAt,List.find?_cons,e']
   rw[HR e,b];exact ih
theorem KV.any {kvs:List (κ×V)}{vs:List (κ×Value)}(r:KV kvs vs)(k:κ):(kvs.any fun kv=>decide (kv.1=k))=vs.any fun kv=>decide (kv.1=k):=by
 unfold KV at r
 induction r with
 |nil=>rfl
 |cons h t ih=>rw[List.any_cons,List.any_cons,ih,h.1]
theorem KV.repl {kvs:List (κ×V)}{vs:List (κ×Value)}(r:KV kvs vs)(k:κ){y:V}{u:Value}(ry:RelV y u) :
  KV (kvs.map fun kv=>if kv.1=k then(kv.1,y) else kv) (vs.map fun kv=>if kv.1=k then(kv.1,u) else kv):=by
 unfold KV at r ⊢
 induction r with
 |nil=>exact .nil
 |@cons p q ps qs h t ih=>
  rw[List.map_cons,List.map_cons];refine .cons ?_ ih;obtain⟨h1,h2⟩:=h
  by_cases e:p.1=k
  ·rw[if_pos e,if_pos (h1.symm.trans e)];exact⟨h1,ry⟩
  ·rw[if_neg e,if_neg (fun z=>e (h1.trans z))];exact⟨h1,h2⟩
theorem KV.put {kvs:List (κ×V)}{vs:List (κ×Value)}(r:KV kvs vs)(k:κ){y:V}{u:Value}(ry:RelV y u):KV (putK kvs k y) (stored vs k u):=by
 unfold putK stored;rw[r.any k]
 by_cases e:(vs.any fun kv=>decide (kv.1=k))=true
 ·rw[if_pos e,if_pos e];exact r.repl k ry
 ·rw[if_neg e,if_neg e];exact Paired.snoc r ⟨rfl,ry⟩
theorem KV.drop {kvs:List (κ×V)}{vs:List (κ×Value)}(r:KV kvs vs)(k:κ):KV (C4 kvs k) (without vs k):=by
 unfold KV at r ⊢;unfold C4 without
 induction r with
 |nil=>exact .nil
 |@cons p q ps qs h t ih=>
  obtain⟨h1,h2⟩:=h;rw[List.filter_cons,List.filter_cons]
  by_cases e:p.1=k
  ·have a:¬decide (p.1≠k)=true:=by simp[e]
   have b:¬decide (q.1≠k)=true:=by simp[h1.symm.trans e]
   rw[if_neg a,if_neg b];exact ih
  ·have e':¬q.1=k:=fun z=>e (h1.trans z)
   have a:decide (p.1≠k)=true:=by simp[e]
   have b:decide (q.1≠k)=true:=by simp[e']
   rw[if_pos a,if_pos b];exact .cons ⟨h1,h2⟩ ih
theorem KV.length {kvs:List (κ×V)}{vs:List (κ×Value)}(r:KV kvs vs):kvs.length=vs.length:=Paired.length r
theorem Ov (kvs:List (κ×V))(k:κ):(C4 kvs k).length<=kvs.length:=List.length_filter_le _ _
end
theorem JR {P:Program}{w:World}{k:Key}{u:Value}(r:RelV (kV k) u):(AU P w).is k u=true:=by
 cases k with
 |inl i=>obtain⟨t,e⟩:=(show ∃t,u=Value.int i t from r);subst e;exact O0 P w i t
 |inr x=>obtain⟨t,e⟩:=(show ∃t,u=Value.str x t from r);subst e;exact Pm P w x t
theorem M8 {P:Program}{w:World}:∀{ks:List Key} {us:List Value},AL (ks.map kV) us->ItemsAre (AU P w) ks us
 |[],_,r=>by rw[List.map_nil] at r;cases r;exact .nil
 |k::ks,_,r=>by
  rw[List.map_cons] at r;cases r with
  |cons h t=>exact .cons (JR h) (M8 t)
abbrev KT (H:Hp):List (List Key×V)->List (List Key×Addr×Value)->Prop:=Paired fun p q=>p.1=q.1/\H q.2.1=some (.tup (p.1.map kV))/\RelV p.2 q.2.2
theorem KT.val {H:Hp}{kvs:List (List Key×V)}{xs:List (List Key×Addr×Value)}(r:KT H kvs xs)(k:List Key):Fv (Bd kvs k) ((atKey xs k).map (·.2)):=by
 induction r with
 |nil=>exact True.intro
 |@cons p q ps qs h t ih=>
  obtain⟨h1,_,h2⟩:=h
  by_cases e:p.1=k
  ·have e':q.1=k:=h1.symm.trans e;have b:atKey (q::qs) k=some q.2:=by simp[atKey,List.find?_cons,e']
   rw[HX e,b];exact h2
  ·have e':¬q.1=k:=fun z=>e (h1.trans z)
   have b:atKey (q::qs) k=atKey qs k:=by simp[atKey,List.find?_cons,e']
   rw[HR e,b];exact ih
theorem KT.repl {H:Hp}{kvs:List (List Key×V)}{xs:List (List Key×Addr×Value)}(r:KT H kvs xs)(k:List Key){y:V}{u:Value}(ry:RelV y u) :
  KT H (kvs.map fun kv=>if kv.1=k then(kv.1,y) else kv) (xs.map (putAt k u)):=by
 induction r with
 |nil=>exact .nil
 |@cons p q ps qs h t ih=>
  rw[List.map_cons,List.map_cons];refine .cons ?_ ih;obtain⟨h1,h2,h3⟩:=h;unfold putAt
  by_cases e:p.1=k
  ·rw[if_pos e,if_pos (h1.symm.trans e)];exact⟨h1,h2,ry⟩
  ·rw[if_neg e,if_neg (fun z=>e (h1.trans z))];exact⟨h1,h2,h3⟩
theorem KT.put {H:Hp}{kvs:List (List Key×V)}{xs:List (List Key×Addr×Value)}(r:KT H kvs xs)(k:List Key){b:Addr}{y:V}{u:Value}(hb:H b=some (.tup (k.map kV)))(ry:RelV y u) :
  KT H (putK kvs k y) (storedH xs k b u):=by
 have e:(kvs.any fun kv=>decide (kv.1=k))=(atKey xs k).isSome:=by
  rw[HU,(r.val k).isSome_eq,Option.isSome_map]
 unfold putK storedH;rw[e]
 by_cases q:(atKey xs k).isSome=true
 ·rw[if_pos q,if_pos q];exact r.repl k ry
 ·rw[if_neg q,if_neg q];exact Paired.snoc r ⟨rfl,hb,ry⟩
theorem KT.keeps {H H':Hp}{kvs:List (List Key×V)}{xs:List (List Key×Addr×Value)}(r:KT H kvs xs)(ht:∀b ys,H b=some (.tup ys)->H' b=some (.tup ys)):KT H' kvs xs:=
 Paired.mapP r fun _ _ z=>⟨z.1,ht _ _ z.2.1,z.2.2⟩
section
variable {P:Program}{w:World}{H:Hp}{h:Heap}{a:Addr}
theorem Wx {u:HO}(ok:IS P w H h)(e:Rd H a u):Bm P w H h a u:=e.ok ok
theorem LF {kvs:List (Key×V)}(ok:IS P w H h)(e:Rd H a (.dK kvs)):kvs.length<=sizeLine/\(a == sysModules)=false/\∃vs,KV kvs vs/\h.DictOf (AU P w) a vs:=
 show Bm P w H h a (.dK kvs) from Wx ok e
theorem Oh {kvs:List (Key×V)}(ok:IS P w H h)(e:H a=some (.dK kvs)):kvs.length<=sizeLine/\(a == sysModules)=false/\∃vs,KV kvs vs/\h.DictOf (AU P w) a vs:=LF ok (.inl e)
theorem Hx {ks:List Key}(ok:IS P w H h)(e:H a=some (.tup (ks.map kV))):(tupleKind (AU P w)).is h ks a:=by
 obtain⟨_,its,r,o,h1,h2,n,h3⟩:=(show Bm P w H h a (.tup (ks.map kV)) from ok a _ e)
 exact⟨o,its.toArray,n,h1,h2,h3,by simpa using M8 r⟩
theorem LY {kvs:List (List Key×V)}(ok:IS P w H h)(e:Rd H a (.dT kvs)):kvs.length<=sizeLine/\(a == sysModules)=false/\
  ∃xs,KT H kvs xs/\h.DictOfH (tupleKind (AU P w)) a xs:=by
 obtain⟨z,y,xs,r,o,es,ep,h1,h2,h3,h4,h5⟩:=(show Bm P w H h a (.dT kvs) from Wx ok e)
 refine⟨z,y,xs,r,o,es,ep,h1,h2,h3,h4,fun x hx=>?_,h5⟩;have all:∀{l:List (List Key×V)} {m:List (List Key×Addr×Value)},KT H l m->∀x∈m,(tupleKind (AU P w)).is h x.1 x.2.1:=by
  intro l m q
  induction q with
  |nil=>intro x hx;exact nomatch hx
  |@cons p q ps qs hq t ih=>
   intro x hx;rcases List.mem_cons.mp hx with e|hx
   ·subst e;exact Hx ok (by rw[<-hq.1];exact hq.2.1)
   ·exact ih x hx
 exact all r x hx
theorem WB {kvs:List (List Key×V)}(ok:IS P w H h)(e:H a=some (.dT kvs)):kvs.length<=sizeLine/\(a == sysModules)=false/\
  ∃xs,KT H kvs xs/\h.DictOfH (tupleKind (AU P w)) a xs:=LY ok (.inl e)
end
def Bx (H:Hp)(a:Addr)(y:V)(r:Option V):Prop:=
 (∃kvs k,Rd H a (.dK kvs)/\y=kV k/\r=Bd kvs k)\/∃kvs k b,Rd H a (.dT kvs)/\y=.ref b/\H b=some (.tup (k.map kV))/\r=Bd kvs k
def IY (H:Hp)(a:Addr)(y v:V)(H':Hp):Prop:=
 (∃kvs k,H a=some (.dK kvs)/\y=kV k/\kvs.length<sizeLine/\H'=upd H a (.dK (putK kvs k v)))\/
 ∃kvs k b,H a=some (.dT kvs)/\y=.ref b/\H b=some (.tup (k.map kV))/\kvs.length<sizeLine/\H'=upd H a (.dT (putK kvs k v))
theorem Bx.k {H:Hp}{a:Addr}{kvs:List (Key×V)}{k:Key}(e:H a=some (.dK kvs)):Bx H a (kV k) (Bd kvs k):=.inl ⟨kvs,k,.inl e,rfl,rfl⟩
theorem Bx.t {H:Hp}{a b:Addr}{kvs:List (List Key×V)}{k:List Key}(e:H a=some (.dT kvs))(eb:H b=some (.tup (k.map kV))):Bx H a (.ref b) (Bd kvs k):=.inr ⟨kvs,k,b,.inl e,rfl,eb,rfl⟩
theorem IY.k {H:Hp}{a:Addr}{kvs:List (Key×V)}{k:Key}{v:V}(e:H a=some (.dK kvs))(hl:kvs.length<sizeLine):IY H a (kV k) v (upd H a (.dK (putK kvs k v))):=.inl ⟨kvs,k,e,rfl,hl,rfl⟩
theorem IY.t {H:Hp}{a b:Addr}{kvs:List (List Key×V)}{k:List Key}{v:V}(e:H a=some (.dT kvs))(eb:H b=some (.tup (k.map kV)))(hl:kvs.length<sizeLine) :
  IY H a (.ref b) v (upd H a (.dT (putK kvs k v))):=.inr ⟨kvs,k,b,e,rfl,eb,hl,rfl⟩
section
variable {X:Cx}{pins:List (Addr×Obj)}{σ:St}{H:Hp}{s:Shared}{a:Addr}{y v:V}{u r:Value}{o:Option V}{A:Around}{E:Value->Shared->Prop}
theorem Inv.big (I:Inv X pins σ H s):sysModules<s.heap.objs.size:=by
 have h:mainGlobals<s.heap.objs.size:=(I.mod.glob.keeps I.bk).lt;exact Nat.lt_trans (by decide) h
theorem Sw {Q:Value->Shared->Prop}(hu:A.units+1<cLine)(I:Inv X pins σ H s)(g:Bx H a y (some v))(ry:RelV y u)(h:∀w' s',Inv X pins σ H s'->RelV v w'->Q w' s') :
  wpAny (model X.prog X.w) A (getItem (.ref a) u) Q E s:=by
 rcases g with⟨kvs,k,e,ey,l⟩|⟨kvs,k,b,e,ey,eb,l⟩
 ·subst ey;obtain⟨z,hd,vs,rel,dd⟩:=LF I.hok e;obtain⟨w',hw,rw'⟩:=Fv.some_of (v:=v) (o:=valueAt vs k) (by rw[l];exact rel.val k);exact wpAny_getItem_of (JR ry) dd.mapOf hw (h w' _ (I.tok _) rw')
 ·subst ey;cases(show u=Value.ref b from ry);obtain⟨z,hd,xs,rel,dd⟩:=LY I.hok e;obtain⟨w',hw,rw'⟩:=Fv.some_of (v:=v) (o:=(atKey xs k).map (·.2)) (by rw[l];exact rel.val k);obtain⟨p,hp,hp2⟩:=Option.map_eq_some_iff.mp hw;refine wpAny_getItem_heap (tupleKind_room_in1 hu) (Hx I.hok eb) dd hp ?_;rw[hp2];exact h w' _ (I.tok _) rw'
theorem Y0 {Q:Value->Shared->Prop}(hu:A.units+1<cLine)(I:Inv X pins σ H s)(g:Bx H a y o)(ry:RelV y u)(h:∀s',Inv X pins σ H s'->Q (.bool o.isSome) s') :
  wpAny (model X.prog X.w) A (compareOp .In u (.ref a)) Q E s:=by
 rcases g with⟨kvs,k,e,ey,l⟩|⟨kvs,k,b,e,ey,eb,l⟩
 ·subst ey;obtain⟨z,hd,vs,rel,dd⟩:=LF I.hok e;refine wpAny_in_of (JR ry) hd dd.mapOf ?_;rw[<-(rel.val k).isSome_eq,<-l];exact h _ (I.tok _)
 ·subst ey;cases(show u=Value.ref b from ry);obtain⟨z,hd,xs,rel,dd⟩:=LY I.hok e;refine wpAny_in_heap (tupleKind_room_in1 hu) (Hx I.hok eb) hd dd ?_;have q:=(rel.val k).isSome_eq;rw[Option.isSome_map] at q;rw[<-q,<-l];exact h _ (I.tok _)
theorem Ij {h':Heap}{t':Nat}{ob:HO}(I:Inv X pins σ H s)(mu:Yo (H a))(hs:Heap.SameBut a s.heap h')(he:∃q,h'.get? a=some q)(new:Bm X.prog X.w (upd H a ob) h' a ob) :
  Inv X pins σ (upd H a ob) { s with heap:=h',toks:=t' }:=
 I.write (x:=a) (e:=a) mu (.inl rfl) (fun b q hb z=>(hs.2 b hb).trans z) he new
theorem Nt {P:Program}{w:World}{H':Hp}{h':Heap}{kvs:List (Key×V)}{vs:List (Key×Value)}(z:kvs.length<=sizeLine)(hd:(a == sysModules)=false)(rel:KV kvs vs)(dd:h'.DictOf (AU P w) a vs) :
  Bm P w H' h' a (.dK kvs):=⟨z,hd,vs,rel,dd⟩
theorem SO {H':Hp}{Q:Unit->Shared->Prop}(hu:A.units+1<cLine)(I:Inv X pins σ H s)(g:IY H a y v H')(ry:RelV y u)(rv:RelV v r)(h:∀s',Inv X pins σ H' s'->Q () s') :
  wpAny (model X.prog X.w) A (setItem (.ref a) u r) Q E s:=by
 rcases g with⟨kvs,k,e,ey,l,eH⟩|⟨kvs,k,b,e,ey,eb,l,eH⟩
 ·subst ey eH;obtain⟨z,hd,vs,rel,dd⟩:=Oh I.hok e;have hz:vs.length<=sizeLine:=by rw[<-rel.length];exact z
  have hl:(putK kvs k v).length<=sizeLine:=by have:=HA kvs k v;omega
  refine wpAny_setItem_pairs (hsz:=hz) (JR ry) dd fun h' dd' hs=>h _ ?_
  have he:∃q,h'.get? a=some q:=let⟨q,_,_,hq,_⟩:=dd';⟨q,hq⟩;exact Ij I (by rw[e];exact True.intro) hs he (Nt hl hd (rel.put k rv) dd')
 ·subst ey eH;cases(show u=Value.ref b from ry);obtain⟨z,hd,xs,rel,dd⟩:=WB I.hok e;have hz:xs.length<=sizeLine:=by rw[<-Paired.length rel];exact z
  have hl:(putK kvs k v).length<=sizeLine:=by have:=HA kvs k v;omega
  refine wpAny_setItem_heap (hsz:=hz) (tupleKind_room_in1 hu) (Hx I.hok eb) dd fun h' dd' hs=>h _ ?_
  obtain⟨q,es,ep,hq,h2,h3,h4,_,h5⟩:=dd';refine Ij I (by rw[e];exact True.intro) hs ⟨q,hq⟩ ⟨hl,hd,_,(rel.put k eb rv).keeps fun c ys ec=>?_,q,es,ep,hq,h2,h3,h4,h5⟩;rw[Ag (AM ec e (fun z=>nomatch z))];exact ec
end
section
variable {X:Cx}{pins:List (Addr×Obj)}{σ:St}{H:Hp}{s:Shared}{a:Addr}{kvs:List (Key×V)}{k:Key}{u:Value}{A:Around}{E:Value->Shared->Prop}
theorem WD {v:V} {more:List Value} {Q:Value->Shared->Prop} (I:Inv X pins σ H s) (e:H a=some (.dK kvs)) (ry:RelV (kV k) u) (l:Bd kvs k=some v) (hm:more=[]\/∃x,more=[x])
  (h:∀w' s',Inv X pins σ (upd H a (.dK (C4 kvs k))) s'->RelV v w'->Q w' s'):wpAny (model X.prog X.w) A (call (.builtin "dict.pop") (.ref a::u::more)) Q E s:=by
 obtain⟨z,hd,vs,rel,dd⟩:=Oh I.hok e;obtain⟨w',hw,rw'⟩:=Fv.some_of (v:=v) (o:=valueAt vs k) (by rw[<-l];exact rel.val k);have hp:(keyPart u).isSome=true:=by
  cases k with
  |inl i=>obtain⟨t,q⟩:=(show ∃t,u=Value.int i t from ry);subst q;rfl
  |inr x=>obtain⟨t,q⟩:=(show ∃t,u=Value.str x t from ry);subst q;rfl
 have ha:argsOk "dict.pop" ⟨.ref a::u::more,[]⟩:=by
  rcases hm with q|⟨x,q⟩
  ·subst q;exact PySem.F.args_dict_pop_2 _ _
  ·subst q;exact PySem.F.args_dict_pop_3 _ _ _
 refine call_meetsIn PySem.F.slot_dict_pop dd.typeIs PySem.F.entry_dict_pop ha (meets_dict_pop_there (AU X.prog X.w) a (JR ry) more hm hp)
  ⟨vs,w',dd,by rw[<-rel.length];exact z,hw,fun h' dd' hs=>h w' _ ?_ rw'⟩
 have he:∃q,h'.get? a=some q:=let⟨q,_,_,hq,_⟩:=dd';⟨q,hq⟩;exact Ij I (by rw[e];exact True.intro) hs he (Nt (Nat.le_trans (Ov kvs k) z) hd (rel.drop k) dd')
theorem Xr {r:Value}{Q:Value->Shared->Prop}(I:Inv X pins σ H s)(e:H a=some (.dK kvs))(ry:RelV (kV k) u)(l:Bd kvs k=none)(h:∀s',Inv X pins σ H s'->Q r s') :
  wpAny (model X.prog X.w) A (call (.builtin "dict.pop") [.ref a,u,r]) Q E s:=by
 obtain⟨z,hd,vs,rel,dd⟩:=Oh I.hok e;have hn:valueAt vs k=none:=Fv.none_of (by rw[<-l];exact rel.val k);have hp:(keyPart u).isSome=true:=by
  cases k with
  |inl i=>obtain⟨t,q⟩:=(show ∃t,u=Value.int i t from ry);subst q;rfl
  |inr x=>obtain⟨t,q⟩:=(show ∃t,u=Value.str x t from ry);subst q;rfl
 exact call_meetsIn PySem.F.slot_dict_pop dd.typeIs PySem.F.entry_dict_pop (PySem.F.args_dict_pop_3 _ _ _) (meets_dict_pop_default (AU X.prog X.w) a (JR ry) hd hp r) ⟨vs,dd,hn,h _ (I.tok _)⟩
theorem Wf {Q:Value->Shared->Prop}(I:Inv X pins σ H s)(e:H a=some (.dK kvs))(h:∀s',Inv X pins σ (upd H a (.dK [])) s'->Q .none s'):wpAny (model X.prog X.w) A (call (.builtin "dict.clear") [.ref a]) Q E s:=by
 obtain⟨z,hd,vs,rel,dd⟩:=Oh I.hok e;refine call_meetsIn PySem.F.slot_dict_clear dd.typeIs PySem.F.entry_dict_clear (PySem.F.args_dict_clear_1 _) (meets_dict_clear (AU X.prog X.w) a) ⟨vs,dd,by rw[<-rel.length];exact z,fun h' dd' hs=>h _ ?_⟩;have he:∃q,h'.get? a=some q:=let⟨q,_,_,hq,_⟩:=dd';⟨q,hq⟩;exact Ij (t':=s.toks) I (by rw[e];exact True.intro) hs he (Nt (Nat.zero_le _) hd .nil dd')
end
def Yn (i:Expr):Prop:=∀ov iv,subscripted i false ov iv=operate [ov,iv] (getItem ov iv)
theorem Vd {prog:Program} {w:World} {A:Around} {E:Value->Shared->Prop} {s:Shared} {env:Env} {value slice:Expr} {pos:Pos} {T id:String} {Q:Value->Shared->Prop}
  (hl:typeLookup (.type T) "__getitem__"=pure (some (.builtin id))) (hs:Yn slice)
  (h:wpAny (model prog w) A (eval value env) (fun o s₁=>wpAny (model prog w) A (eval slice env) (fun i s₂=>s₂.TypeIs o T/\wpAny (model prog w) A (getItem o i) Q E s₂) E s₁) E s) :
  wpAny (model prog w) A (eval (.Subscript value slice pos) env) Q E s:=by
 refine Subscript_ (wpAny_mono h (fun o s₁ h₁=>wpAny_mono h₁ (fun i s₂ h₂=>?_) fun _ _ x=>x) fun _ _ x=>x);obtain⟨hT,h₂⟩:=h₂;unfold subscriptTail;refine wpAny_bind ?_;rw[getitemInPython_of_ne hT.not_modules];refine wpAny_bind (wpAny_specialOf hT hl ?_);have fin:wpAny (model prog w) A (subscripted slice false o i) (fun r s₃=>wpAny (model prog w) A (letTemporaryGo value o r >>= fun _=>pure r) Q E s₃) E s₂:=by
  rw[hs o i];exact wpAny_operating (wpAny_mono h₂ (fun r s₃ h₃=>wpAny_bind (wpAny_letTemporaryGo (wpAny_pure h₃))) fun _ _ x=>x)
 first
  |exact wpAny_pure (wpAny_bind fin)
  |exact wpAny_bind (wpAny_pure (wpAny_bind fin))
  |exact wpAny_bind fin
theorem O3 {X:Cx}{pins:List (Addr×Obj)}{σ:St}{H:Hp}{s:Shared}{a:Addr}{y:V}{o:Option V}(I:Inv X pins σ H s)(g:Bx H a y o):s.TypeIs (.ref a) "dict":=by
 rcases g with⟨kvs,k,e,_,_⟩|⟨kvs,k,b,e,_,_,_⟩
 ·obtain⟨_,_,vs,_,dd⟩:=LF I.hok e;exact dd.typeIs
 ·obtain⟨_,_,xs,_,dd⟩:=LY I.hok e;exact dd.typeIs
def Ye (td ty:TE):TE:=fun σ H Q=>td σ H fun x H1=>ty σ H1 fun y H2=>∃a v,x=.ref a/\Bx H2 a y (some v)/\Q v H2
def YV (ty td:TE):TE:=fun σ H Q=>ty σ H fun y H1=>td σ H1 fun x H2=>∃a o,x=.ref a/\Bx H2 a y o/\Q (.bl o.isSome) H2
def Yv (td ty tv:TE):TS:=fun D σ H=>tv σ H fun v H1=>td σ H1 fun x H2=>ty σ H2 fun y H3=>∃a H4,x=.ref a/\IY H3 a y v H4/\D.nx σ H4
section
variable {X:Cx}{o i e value:Expr}{pos pos' tpos:Pos}{td ty tv:TE}
theorem BH (hu:X.A.units+1<cLine)(ho:PE X o td)(hi:PE X i ty)(hs:Yn i):PE X (.Subscript o i pos) (Ye td ty):=by
 intro pins s σ H Q I h;refine Vd PySem.F.slot_dict_getitem.lookup hs (Br (ho pins s σ H _ I h) fun u s1 ⟨x,H1,I1,rx,q1⟩=>Br (hi pins s1 σ H1 _ I1 q1) fun iv s2 ⟨y,H2,I2,ry,a,v,ex,g,q2⟩=>?_);subst ex;obtain rfl:u=Value.ref a:=rx;exact⟨O3 I2 g,Sw hu I2 g ry fun w' s3 I3 rw'=>⟨v,H2,I3,rw',q2⟩⟩
theorem Ql (hu:X.A.units+1<cLine)(hi:PE X i ty)(ho:PE X o td):PC X .In i o (YV ty td):=by
 intro pins s σ H Q I h;refine Br (hi pins s σ H _ I h) fun iv s1 ⟨y,H1,I1,ry,q1⟩=>Br (ho pins s1 σ H1 _ I1 q1) fun u s2 ⟨x,H2,I2,rx,a,ov,ex,g,q2⟩=>?_
 subst ex;obtain rfl:u=Value.ref a:=rx;exact Y0 hu I2 g ry fun s3 I3=>⟨.bl ov.isSome,H2,I3,rfl,q2⟩
theorem EO (hu:X.A.units+1<cLine)(ho:PE X o td)(hi:PE X i ty)(hv:PE X value tv)(hs:swapsWith value (some (.Subscript o i pos')) pos.line X.env=pure false) :
  PS X (.Assign [.Subscript o i pos'] value pos) (Yv td ty tv):=by
 intro pins s σ H D I h;refine wpAny_Assign_Subscript (Br (hv pins s σ H _ I h) fun r s1 ⟨v,H1,I1,rv,q1⟩=>Br (ho pins s1 σ H1 _ I1 q1) fun u s2 ⟨x,H2,I2,rx,q2⟩=>Br (hi pins s2 σ H2 _ I2 q2) fun iv s3 ⟨y,H3,I3,ry,a,H4,ex,g,q3⟩=>?_) hs;subst ex;obtain rfl:u=Value.ref a:=rx;exact SO hu I3 g ry rv fun s4 I4=>⟨σ,H4,I4,q3⟩
end
theorem Ui {P:Program}{w:World}{H:Hp}(h:Heap)(hb:sysModules<h.objs.size):Bm P w H (h.push { cls:=.type "dict",data:=.dict #[] }) h.objs.size (.dK []):=
 ⟨Nat.zero_le _,beq_eq_false_iff_ne.mpr (Ne.symm (Nat.ne_of_lt hb)),[],.nil,Heap.DictOf.new h⟩
theorem Um {P:Program}{w:World}{H:Hp}(h:Heap)(hb:sysModules<h.objs.size):Bm P w H (h.push { cls:=.type "dict",data:=.dict #[] }) h.objs.size (.dT []):=
 ⟨Nat.zero_le _,beq_eq_false_iff_ne.mpr (Ne.symm (Nat.ne_of_lt hb)),[],.nil,_,#[],0,Heap.get?_push_size _ rfl,⟨rfl,rfl,rfl⟩,rfl,rfl,List.nodup_nil⟩
def W4:TE:=fun _ H Q=>∀p,H p=none->Q (.ref p) (upd H p (.dK []))
def W5:TE:=fun _ H Q=>∀p,H p=none->Q (.ref p) (upd H p (.dT []))
section
variable {X:Cx}{pos:Pos}
theorem Fh:PE X (.Dict [] [] pos) W4:=fun pins s σ H Q I h=>
 wpAny_Dict_empty ⟨.ref s.heap.objs.size,_,I.laid (a:=s.heap.objs.size) (o:=.dK []) (t':=s.toks) (fun _ _ q=>Heap.get?_push_of_some _ q) (Nat.le_refl _) (Ui s.heap I.big),rfl,h _ (I.hok.fresh (Nat.le_refl _))⟩
theorem TQ:PE X (.Dict [] [] pos) W5:=fun pins s σ H Q I h=>
 wpAny_Dict_empty ⟨.ref s.heap.objs.size,_,I.laid (a:=s.heap.objs.size) (o:=.dT []) (t':=s.toks) (fun _ _ q=>Heap.get?_push_of_some _ q) (Nat.le_refl _) (Um s.heap I.big),rfl,h _ (I.hok.fresh (Nat.le_refl _))⟩
end
structure M1 (X:Cx) (o:Expr) (m:Str) (apos:Pos) (e:Expr) (cpos:Pos):Prop where
 base:attributeBase o m X.env (eval o X.env)=eval o X.env
 few:((backTo cpos (starEach [e] X.env)).all (fun x=>!x.1)&&(backToKw cpos (keywordEach [] X.env)).all (fun x=>x.1.isSome)
  && decide (([e]:List Expr).length+([]:List Keyword).length+(if([]:List Keyword).isEmpty then 0 else 1)<30))=true
 line:(apos.endLine == cpos.line)=true
 trees:backTo cpos (starEach [e] X.env)=[(false,eval e X.env)]
structure M2 (X:Cx) (o:Expr) (m:Str) (apos:Pos) (e f:Expr) (cpos:Pos):Prop where
 base:attributeBase o m X.env (eval o X.env)=eval o X.env
 few:((backTo cpos (starEach [e,f] X.env)).all (fun x=>!x.1)&&(backToKw cpos (keywordEach [] X.env)).all (fun x=>x.1.isSome)
  && decide (([e,f]:List Expr).length+([]:List Keyword).length+(if([]:List Keyword).isEmpty then 0 else 1)<30))=true
 line:(apos.endLine == cpos.line)=true
 trees:backTo cpos (starEach [e,f] X.env)=[(false,eval e X.env),(false,eval f X.env)]
def WX (H:Hp)(a:Addr):Prop:=(∃kvs,Rd H a (.dK kvs))\/∃kvs,Rd H a (.dT kvs)
theorem Jb {X:Cx}{pins:List (Addr×Obj)}{σ:St}{H:Hp}{s:Shared}{a:Addr}(I:Inv X pins σ H s)(d:WX H a) :
  s.TypeIs (.ref a) "dict"/\(∀b,Value.ref a=.ref b->∃ob,s.heap.get? b=some ob/\ob.dict=none)/\(a == sysModules)=false:=by
 rcases d with⟨kvs,e⟩|⟨kvs,e⟩
 ·obtain⟨_,hd,vs,_,dd⟩:=LF I.hok e;refine⟨dd.typeIs,fun b q=>?_,hd⟩;cases q;obtain⟨ob,_,_,h1,h2,_⟩:=dd;exact⟨ob,h1,h2.2.1⟩
 ·obtain⟨_,hd,xs,_,dd⟩:=LY I.hok e;refine⟨dd.typeIs,fun b q=>?_,hd⟩;cases q;obtain⟨ob,_,_,h1,h2,_⟩:=dd;exact⟨ob,h1,h2.2.1⟩
section
variable {X:Cx}{pins:List (Addr×Obj)}{σ:St}{H:Hp}{s:Shared}{a:Addr}{y d:V}{u r:Value}{o:Option V}{A:Around}{E:Value->Shared->Prop}
theorem W1 {Q:Value->Shared->Prop}(hu:A.units+1<cLine)(I:Inv X pins σ H s)(g:Bx H a y o)(ry:RelV y u)(h:∀w' s',Inv X pins σ H s'->RelV (o.getD .non) w'->Q w' s') :
  wpAny (model X.prog X.w) A (call (.builtin "dict.get") [.ref a,u]) Q E s:=by
 rcases g with⟨kvs,k,e,ey,l⟩|⟨kvs,k,b,e,ey,eb,l⟩
 ·subst ey;obtain⟨z,hd,vs,rel,dd⟩:=LF I.hok e;refine call_meetsIn PySem.F.slot_dict_get dd.typeIs PySem.F.entry_dict_get (PySem.F.args_dict_get_2 _ _) (meets_dict_get (AU X.prog X.w) a (JR ry) hd) ⟨_,dd.mapOf,h _ _ (I.tok _) ?_⟩;rw[l];exact(rel.val k).getD rfl
 ·subst ey;cases(show u=Value.ref b from ry);obtain⟨z,hd,xs,rel,dd⟩:=LY I.hok e;refine call_meetsIn PySem.F.slot_dict_get dd.typeIs PySem.F.entry_dict_get (PySem.F.args_dict_get_2 _ _) (meetsH_dict_get (tupleKind (AU X.prog X.w)) a b hd) ⟨tupleKind_room_in1 hu,k,xs,Hx I.hok eb,dd,h _ _ (I.tok _) ?_⟩;rw[l];exact(rel.val k).getD rfl
theorem XR {Q:Value->Shared->Prop}(hu:A.units+1<cLine)(I:Inv X pins σ H s)(g:Bx H a y o)(ry:RelV y u)(rd:RelV d r)(h:∀w' s',Inv X pins σ H s'->RelV (o.getD d) w'->Q w' s') :
  wpAny (model X.prog X.w) A (call (.builtin "dict.get") [.ref a,u,r]) Q E s:=by
 rcases g with⟨kvs,k,e,ey,l⟩|⟨kvs,k,b,e,ey,eb,l⟩
 ·subst ey;obtain⟨z,hd,vs,rel,dd⟩:=LF I.hok e;refine call_meetsIn PySem.F.slot_dict_get dd.typeIs PySem.F.entry_dict_get (PySem.F.args_dict_get_3 _ _ _) (meets_dict_get_default (AU X.prog X.w) a (JR ry) hd r) ⟨_,dd.mapOf,h _ _ (I.tok _) ?_⟩;rw[l];exact(rel.val k).getD rd
 ·subst ey;cases(show u=Value.ref b from ry);obtain⟨z,hd,xs,rel,dd⟩:=LY I.hok e;refine call_meetsIn PySem.F.slot_dict_get dd.typeIs PySem.F.entry_dict_get (PySem.F.args_dict_get_3 _ _ _) (meetsH_dict_get_default (tupleKind (AU X.prog X.w)) a b hd r) ⟨tupleKind_room_in1 hu,k,xs,Hx I.hok eb,dd,h _ _ (I.tok _) ?_⟩;rw[l];exact(rel.val k).getD rd
end
def XE (td ty:TE):TE:=fun σ H Q=>td σ H fun x H1=>∃a,x=.ref a/\WX H1 a/\ty σ H1 fun y H2=>∃o,Bx H2 a y o/\Q (o.getD .non) H2
def Xk (td ty tx:TE):TE:=fun σ H Q=>td σ H fun x H1=>∃a,x=.ref a/\WX H1 a/\ty σ H1 fun y H2=>tx σ H2 fun z H3=>∃o,Bx H3 a y o/\Q (o.getD z) H3
def Xn (td ty:TE):TE:=fun σ H Q=>td σ H fun x H1=>∃a,x=.ref a/\WX H1 a/\ty σ H1 fun y H2=>∃kvs k v,H2 a=some (.dK kvs)/\y=kV k/\Bd kvs k=some v/\Q v (upd H2 a (.dK (C4 kvs k)))
def X1 (td ty tx:TE):TE:=fun σ H Q=>td σ H fun x H1=>∃a,x=.ref a/\WX H1 a/\ty σ H1 fun y H2=>tx σ H2 fun z H3=>∃kvs k,H3 a=some (.dK kvs)/\y=kV k/\
 (∀v,Bd kvs k=some v->Q v (upd H3 a (.dK (C4 kvs k))))/\(Bd kvs k=none->Q z H3)
section
variable {X:Cx}{o e f:Expr}{apos cpos:Pos}{td ty tx:TE}
theorem Uw (hu:X.A.units+1<cLine)(ho:PE X o td)(he:PE X e ty)(m:M1 X o "get" apos e cpos):PE X (.Call (.Attribute o "get" apos) [e] [] cpos) (XE td ty):=by
 intro pins s σ H Q I h;refine wpAny_Call_method m.base m.few m.line PySem.F.plainAttrs_dict PySem.F.slot_dict_get PySem.F.type_dict_get (Br (ho pins s σ H _ I h) fun u s1 ⟨x,H1,I1,rx,a,ex,d,q1⟩=>?_);subst ex;obtain rfl:u=Value.ref a:=rx;obtain⟨t1,t2,_⟩:=Jb I1 d;refine⟨t1,t2,?_⟩;rw[m.trees];refine Calls.callWith_builtin rfl (Calls.evalArgs_plain (Calls.spliced_cons (Br (he pins s1 σ H1 _ I1 q1) fun iv s2 ⟨y,H2,I2,ry,ov,g,q2⟩=>Calls.spliced_nil ?_)));exact W1 hu I2 g ry fun w' s3 I3 rw'=>⟨_,H2,I3,rw',q2⟩
theorem TB (hu:X.A.units+1<cLine)(ho:PE X o td)(he:PE X e ty)(hf:PE X f tx)(m:M2 X o "get" apos e f cpos):PE X (.Call (.Attribute o "get" apos) [e,f] [] cpos) (Xk td ty tx):=by
 intro pins s σ H Q I h;refine wpAny_Call_method m.base m.few m.line PySem.F.plainAttrs_dict PySem.F.slot_dict_get PySem.F.type_dict_get (Br (ho pins s σ H _ I h) fun u s1 ⟨x,H1,I1,rx,a,ex,d,q1⟩=>?_);subst ex;obtain rfl:u=Value.ref a:=rx;obtain⟨t1,t2,_⟩:=Jb I1 d;refine⟨t1,t2,?_⟩;rw[m.trees];refine Calls.callWith_builtin rfl (Calls.evalArgs_plain (Calls.spliced_cons (Br (he pins s1 σ H1 _ I1 q1) fun iv s2 ⟨y,H2,I2,ry,q2⟩=>
  Calls.spliced_cons (Br (hf pins s2 σ H2 _ I2 q2) fun fv s3 ⟨z,H3,I3,rz,ov,g,q3⟩=>Calls.spliced_nil ?_))))
 exact XR hu I3 g ry rz fun w' s4 I4 rw'=>⟨_,H3,I4,rw',q3⟩
theorem OM (ho:PE X o td)(he:PE X e ty)(m:M1 X o "pop" apos e cpos):PE X (.Call (.Attribute o "pop" apos) [e] [] cpos) (Xn td ty):=by
 intro pins s σ H Q I h;refine wpAny_Call_method m.base m.few m.line PySem.F.plainAttrs_dict PySem.F.slot_dict_pop PySem.F.type_dict_pop (Br (ho pins s σ H _ I h) fun u s1 ⟨x,H1,I1,rx,a,ex,d,q1⟩=>?_);subst ex;obtain rfl:u=Value.ref a:=rx;obtain⟨t1,t2,_⟩:=Jb I1 d;refine⟨t1,t2,?_⟩;rw[m.trees];refine Calls.callWith_builtin rfl (Calls.evalArgs_plain (Calls.spliced_cons (Br (he pins s1 σ H1 _ I1 q1) fun iv s2 ⟨y,H2,I2,ry,kvs,k,v,ea,ey,l,q2⟩=>Calls.spliced_nil ?_)));subst ey;exact WD I2 ea ry l (.inl rfl) fun w' s3 I3 rw'=>⟨v,_,I3,rw',q2⟩
theorem UQ (ho:PE X o td)(he:PE X e ty)(hf:PE X f tx)(m:M2 X o "pop" apos e f cpos):PE X (.Call (.Attribute o "pop" apos) [e,f] [] cpos) (X1 td ty tx):=by
 intro pins s σ H Q I h;refine wpAny_Call_method m.base m.few m.line PySem.F.plainAttrs_dict PySem.F.slot_dict_pop PySem.F.type_dict_pop (Br (ho pins s σ H _ I h) fun u s1 ⟨x,H1,I1,rx,a,ex,d,q1⟩=>?_);subst ex;obtain rfl:u=Value.ref a:=rx;obtain⟨t1,t2,_⟩:=Jb I1 d;refine⟨t1,t2,?_⟩;rw[m.trees];refine Calls.callWith_builtin rfl (Calls.evalArgs_plain (Calls.spliced_cons (Br (he pins s1 σ H1 _ I1 q1) fun iv s2 ⟨y,H2,I2,ry,q2⟩=>
  Calls.spliced_cons (Br (hf pins s2 σ H2 _ I2 q2) fun fv s3 ⟨z,H3,I3,rz,kvs,k,ea,ey,q3,q4⟩=>Calls.spliced_nil ?_))))
 subst ey;cases l:Bd kvs k with
 |some v=>exact WD I3 ea ry l (.inr ⟨fv,rfl⟩) fun w' s4 I4 rw'=>⟨v,_,I4,rw',q3 v l⟩
 |none=>exact Xr I3 ea ry l fun s4 I4=>⟨z,H3,I4,rz,q4 l⟩
end
section
variable {X:Cx}
def Yj (K:PySem.W.Frag)(neg:Bool):R2:=fun x y H Q=>∃a b xs,x=.ref a/\y=.ref b/\AO K H a xs/\AO K H b []/\Q (.bl (if neg then !decide (xs=[]) else decide (xs=[]))) H
theorem Us (hu:X.A.units+1<cLine):Il X (compareOp .Eq) (Yj X.K false):=by
 intro pins s σ H x y v u Q I rx ry h;obtain⟨a,b,xs,rfl,rfl,h1,h2,q⟩:=h;cases rx;cases ry;obtain⟨its,r1,p1,_⟩:=I.list h1;obtain⟨its2,r2,p2,_⟩:=I.list h2;cases r2;cases r1 with
 |nil=>
  exact SeqAt.RcAt.lists (A:=X.A) (s:=s) (e:=fun _=>true) p1.isList p2.isList rfl (by omega) (fun j g1 g2=>absurd g1 (by simp)) _ _ _ _ ⟨.bl _,H,I,rfl,q⟩
 |cons r rr=>
  exact SeqAt.RcAt.lists_lengths p1.isList p2.isList (by simp) (by omega) _ _ _ _ ⟨.bl _,H,I,rfl,q⟩
end
inductive Tr where
 |non
 |bl (b:Bool)
 |int (i:Int)
 |str (z:Str)
 |tup (ts:List Tr)
 |lst (ts:List Tr)
mutual
def Rep (F:Addr->Prop)(H:Hp):Tr->V->Prop
 | .non,v=>v=.non
 | .bl b,v=>v=.bl b
 | .int i,v=>v=.int i
 | .str z,v=>v=.str z
 | .tup ts,v=>∃a vs,v=.ref a/\H a=some (.tup vs)/\Ax F H ts vs
 | .lst ts,v=>∃a vs,v=.ref a/\F a/\H a=some (.lst vs)/\Ax F H ts vs
def Ax (F:Addr->Prop)(H:Hp):List Tr->List V->Prop
 |[],vs=>vs=[]
 |t::ts,vs=>∃v us,vs=v::us/\Rep F H t v/\Ax F H ts us
end
mutual
def Tr.dep:Tr->Nat
 | .tup ts=>1+Tr.deps ts
 | .lst ts=>1+Tr.deps ts
 |_=>1
def Tr.deps:List Tr->Nat
 |[]=>0
 |t::ts=>max (Tr.dep t) (Tr.deps ts)
end
mutual
def Tr.ok:Tr->Prop
 | .str z=>z.length<=1000
 | .tup ts=>ts.length<=1000/\Tr.oks ts
 | .lst ts=>ts.length<=1000/\Tr.oks ts
 |_=>True
def Tr.oks:List Tr->Prop
 |[]=>True
 |t::ts=>Tr.ok t/\Tr.oks ts
end
mutual
theorem Rep.same {F:Addr->Prop}{H H':Hp}(s:Ar H H'):∀(t:Tr) (v:V),Rep F H t v->Rep F H' t v
 | .non,_,h=>h
 | .bl _,_,h=>h
 | .int _,_,h=>h
 | .str _,_,h=>h
 | .tup ts,_,⟨a,vs,e,ha,hr⟩=>⟨a,vs,e,s.get ha,Ax.same s ts vs hr⟩
 | .lst ts,_,⟨a,vs,e,fa,ha,hr⟩=>⟨a,vs,e,fa,s.get ha,Ax.same s ts vs hr⟩
theorem Ax.same {F:Addr->Prop}{H H':Hp}(s:Ar H H'):∀(ts:List Tr) (vs:List V),Ax F H ts vs->Ax F H' ts vs
 |[],_,h=>h
 |t::ts,_,⟨v,us,e,h1,h2⟩=>⟨v,us,e,Rep.same s t v h1,Ax.same s ts us h2⟩
end
theorem Ax.len {F:Addr->Prop}{H:Hp}:∀(ts:List Tr) (vs:List V),Ax F H ts vs->vs.length=ts.length
 |[],_,h=>by rw[show _=[] from h];rfl
 |t::ts,_,⟨v,us,e,_,h2⟩=>by rw[e,List.length_cons,List.length_cons,Ax.len ts us h2]
theorem Ax.get {F:Addr->Prop}{H:Hp}:∀{ts:List Tr} {vs:List V},Ax F H ts vs->∀{i:Nat} {v:V},vs[i]?=some v->∃t,ts[i]?=some t/\Rep F H t v
 |[],_,h,i,v,hv=>by rw[show _=[] from h] at hv;simp at hv
 |t::ts,_,⟨w,us,e,h1,h2⟩,0,v,hv=>by
  rw[e] at hv;cases(Option.some.inj hv);exact⟨t,rfl,h1⟩
 |t::ts,_,⟨w,us,e,h1,h2⟩,i+1,v,hv=>by
  rw[e] at hv;obtain⟨t',e1,e2⟩:=Ax.get h2 (i:=i) (v:=v) (by simpa using hv);exact⟨t',by simpa using e1,e2⟩
theorem Ax.append {F:Addr->Prop}{H:Hp}:∀{ts us:List Tr} {vs ws:List V},Ax F H ts vs->Ax F H us ws->Ax F H (ts++us) (vs++ws)
 |[],us,_,ws,h,h2=>by rw[show _=[] from h];exact h2
 |t::ts,us,_,ws,⟨w,vs,e,h1,hr⟩,h2=>by
  rw[e];exact⟨w,vs++ws,rfl,h1,Ax.append hr h2⟩
theorem Ax.one {F:Addr->Prop}{H:Hp}{t:Tr}{v:V}(h:Rep F H t v):Ax F H [t] [v]:=⟨v,[],rfl,h,rfl⟩
theorem Rep.ok {F:Addr->Prop}{H:Hp}:∀{t:Tr} {v:V},Rep F H t v->t.ok->Ok H v
 | .non,_,h,_=>by rw[show _=V.non from h];trivial
 | .bl _,_,h,_=>by rw[show _=V.bl _ from h];trivial
 | .int _,_,h,_=>by rw[show _=V.int _ from h];trivial
 | .str z,_,h,o=>by rw[show _=V.str z from h];exact o
 | .tup ts,_,⟨a,vs,e,ha,_⟩,_=>by rw[e];exact .inr ⟨vs,ha⟩
 | .lst ts,_,⟨a,vs,e,_,ha,_⟩,_=>by rw[e];exact .inl ⟨vs,ha⟩
section
variable {X:Cx}{pins:List (Addr×Obj)}{σ:St}{H:Hp}{s:Shared}{F G:Addr->Prop}
mutual
theorem Xa (I:Inv X pins σ H s):∀(t:Tr) (A:Around) (v u:V) (vv uu:Value),A.units+t.dep<cLine->Rep F H t v->Rep G H t u->RelV v vv->RelV u uu->SeqAt.EqAt A s vv uu true
 | .non,A,v,u,vv,uu,_,h1,h2,r1,r2=>by
  rw[show v=V.non from h1] at r1;rw[show u=V.non from h2] at r2;cases r1;cases r2;exact SeqAt.EqAt.same _
 | .bl b,A,v,u,vv,uu,_,h1,h2,r1,r2=>by
  rw[show v=V.bl b from h1] at r1;rw[show u=V.bl b from h2] at r2;cases r1;cases r2;exact SeqAt.EqAt.same _
 | .int i,A,v,u,vv,uu,_,h1,h2,r1,r2=>by
  have:=NG (A:=A) (s:=s) r1 r2 (by rw[show v=V.int i from h1];rfl) (by rw[show u=V.int i from h2];rfl);rw[show v=V.int i from h1,show u=V.int i from h2] at this;have e:U9 (V.int i) (V.int i)=true:=by rw[pure_eq rfl rfl];simp
  rw[e] at this;exact this
 | .str z,A,v,u,vv,uu,_,h1,h2,r1,r2=>by
  have:=NG (A:=A) (s:=s) r1 r2 (by rw[show v=V.str z from h1];rfl) (by rw[show u=V.str z from h2];rfl);rw[show v=V.str z from h1,show u=V.str z from h2] at this;have e:U9 (V.str z) (V.str z)=true:=by rw[pure_eq rfl rfl];simp
  rw[e] at this;exact this
 | .tup ts,A,v,u,vv,uu,hA,⟨a,vs,e1,ha,hr1⟩,⟨b,us,e2,hb,hr2⟩,r1,r2=>by
  subst e1 e2;cases r1;cases r2
  by_cases hab:a=b
  ·subst hab;exact SeqAt.EqAt.same _
  have hA':A.units+(1+Tr.deps ts)<cLine:=hA;obtain⟨its,rv1,p1,_⟩:=I.tuple (AW.of (K:=X.K) ha);obtain⟨its2,rv2,p2,_⟩:=I.tuple (AW.of (K:=X.K) hb);have l1:=rv1.length.symm.trans (Ax.len ts vs hr1);have l2:=rv2.length.symm.trans (Ax.len ts us hr2);have q:=SeqAt.RcAt.tuples (A:=A) (s:=s) (e:=fun _=>true) p1 p2 (by omega) (fun j g1 g2=>JN I ts A.in1 vs us its its2 (by show A.units+1+Tr.deps ts<cLine;omega) hr1 hr2 rv1 rv2 j (by simpa using g1) (by simpa using g2));have e:((List.range (min its.toArray.size its2.toArray.size)).all (fun _=>true)&&its.toArray.size == its2.toArray.size)=true:=by
   simp[l1,l2]
  rw[e] at q;exact SeqAt.EqAt.of_refs hab q
 | .lst ts,A,v,u,vv,uu,hA,⟨a,vs,e1,_,ha,hr1⟩,⟨b,us,e2,_,hb,hr2⟩,r1,r2=>by
  subst e1 e2;cases r1;cases r2
  by_cases hab:a=b
  ·subst hab;exact SeqAt.EqAt.same _
  have hA':A.units+(1+Tr.deps ts)<cLine:=hA;obtain⟨its,rv1,p1,_⟩:=I.list (AO.of (K:=X.K) ha);obtain⟨its2,rv2,p2,_⟩:=I.list (AO.of (K:=X.K) hb);have l1:=rv1.length.symm.trans (Ax.len ts vs hr1);have l2:=rv2.length.symm.trans (Ax.len ts us hr2);have q:=SeqAt.RcAt.lists (A:=A) (s:=s) (e:=fun _=>true) p1.isList p2.isList (by simp[l1,l2]) (by omega) (fun j g1 g2=>JN I ts A.in1 vs us its its2 (by show A.units+1+Tr.deps ts<cLine;omega) hr1 hr2 rv1 rv2 j (by simpa using g1) (by simpa using g2));have e:((List.range its.toArray.size).all (fun _=>true))=true:=by simp
  rw[e] at q;exact SeqAt.EqAt.of_refs hab q
theorem JN (I:Inv X pins σ H s):∀(ts:List Tr) (A:Around) (vs us:List V) (its its2:List Value),A.units+Tr.deps ts<cLine->Ax F H ts vs->Ax G H ts us->AL vs its->AL us its2->∀(j:Nat) (g1:j<its.length) (g2:j<its2.length),SeqAt.EqAt A s its[j] its2[j] true
 |[],A,vs,us,its,its2,_,h1,h2,r1,r2=>fun j g1 g2=>by
  rw[show vs=[] from h1] at r1;cases r1;simp at g1
 |t::ts,A,vs,us,its,its2,hA,⟨v,vr,e1,a1,b1⟩,⟨u,ur,e2,a2,b2⟩,r1,r2=>by
  subst e1 e2;have hA':A.units+max (Tr.dep t) (Tr.deps ts)<cLine:=hA;cases r1 with
  |cons p1 q1=>
   cases r2 with
   |cons p2 q2=>
    intro j g1 g2;cases j with
    |zero=>exact Xa I t A v u _ _ (by omega) a1 a2 p1 p2
    |succ j=>exact JN I ts A vr ur _ _ (by omega) b1 b2 q1 q2 j (by simpa using g1) (by simpa using g2)
end
end
section
variable {X:Cx}
def Zj:R2:=fun x y H Q=>∃t F G,t.dep<=100/\Rep F H t x/\Rep G H t y/\Q (.bl false) H
theorem WQ (hu:X.A.units+150<cLine):Il X (compareOp .NotEq) Zj:=by
 intro pins s σ H x y v u Q I rx ry h;obtain⟨t,F,G,hd,h1,h2,q⟩:=h;have Qv:∀z:V,Dw z=true\/(∃b,z=.bl b)->x=z->y=z->wpAny (model X.prog X.w) X.A (compareOp .NotEq v u) (EP X pins σ Q) X.xe s:=fun z hz e1 e2=>by
  refine U5 pins s σ H x y v u Q I rx ry ⟨?_,?_⟩
  ·subst e1 e2;rcases hz with hz|⟨b,rfl⟩
   ·cases y<;>first|rfl|exact absurd (show false=true from hz) Bool.false_ne_true
   ·rfl
  ·rw[e1,e2];simpa using q
 cases t with
 |non=>exact Qv _ (.inl rfl) h1 h2
 |bl b=>exact Qv _ (.inr ⟨b,rfl⟩) h1 h2
 |int i=>exact Qv (.int i) (.inl rfl) h1 h2
 |str z=>exact Qv (.str z) (.inl rfl) h1 h2
 |tup ts=>
  obtain⟨a,vs,rfl,ha,hr1⟩:=h1;obtain⟨b,us,rfl,hb,hr2⟩:=h2;cases rx;cases ry;have hd':1+Tr.deps ts<=100:=hd;obtain⟨its,rv1,p1,_⟩:=I.tuple (AW.of (K:=X.K) ha);obtain⟨its2,rv2,p2,_⟩:=I.tuple (AW.of (K:=X.K) hb);have l1:=rv1.length.symm.trans (Ax.len ts vs hr1);have l2:=rv2.length.symm.trans (Ax.len ts us hr2);have q2:=SeqAt.RcNeAt.tuples (A:=X.A) (s:=s) (e:=fun _=>true) p1 p2 (by omega) (fun j g1 g2=>JN I ts X.A.in1 vs us its its2 (by show X.A.units+1+Tr.deps ts<cLine;omega) hr1 hr2 rv1 rv2 j (by simpa using g1) (by simpa using g2));have e:(!((List.range (min its.toArray.size its2.toArray.size)).all (fun _=>true)&&its.toArray.size == its2.toArray.size))=false:=by
   simp[l1,l2]
  rw[e] at q2;exact q2 _ _ _ _ ⟨.bl _,H,I,rfl,q⟩
 |lst ts=>
  obtain⟨a,vs,rfl,_,ha,hr1⟩:=h1;obtain⟨b,us,rfl,_,hb,hr2⟩:=h2;cases rx;cases ry;have hd':1+Tr.deps ts<=100:=hd;obtain⟨its,rv1,p1,_⟩:=I.list (AO.of (K:=X.K) ha);obtain⟨its2,rv2,p2,_⟩:=I.list (AO.of (K:=X.K) hb);have l1:=rv1.length.symm.trans (Ax.len ts vs hr1);have l2:=rv2.length.symm.trans (Ax.len ts us hr2);have q2:=SeqAt.RcNeAt.lists (A:=X.A) (s:=s) (e:=fun _=>true) p1.isList p2.isList (by simp[l1,l2]) (by omega) (fun j g1 g2=>JN I ts X.A.in1 vs us its its2 (by show X.A.units+1+Tr.deps ts<cLine;omega) hr1 hr2 rv1 rv2 j (by simpa using g1) (by simpa using g2));have e:(!(List.range its.toArray.size).all (fun _=>true))=false:=by simp
  rw[e] at q2;exact q2 _ _ _ _ ⟨.bl _,H,I,rfl,q⟩
end
mutual
theorem Rep.mono {F G:Addr->Prop}{H:Hp}(h:∀a,F a->G a):∀(t:Tr) (v:V),Rep F H t v->Rep G H t v
 | .non,_,q=>q
 | .bl _,_,q=>q
 | .int _,_,q=>q
 | .str _,_,q=>q
 | .tup ts,_,⟨a,vs,e,ha,hr⟩=>⟨a,vs,e,ha,Ax.mono h ts vs hr⟩
 | .lst ts,_,⟨a,vs,e,fa,ha,hr⟩=>⟨a,vs,e,h a fa,ha,Ax.mono h ts vs hr⟩
theorem Ax.mono {F G:Addr->Prop}{H:Hp}(h:∀a,F a->G a):∀(ts:List Tr) (vs:List V),Ax F H ts vs->Ax G H ts vs
 |[],_,q=>q
 |t::ts,_,⟨v,us,e,h1,h2⟩=>⟨v,us,e,Rep.mono h t v h1,Ax.mono h ts us h2⟩
end
mutual
theorem Rep.upd {F:Addr->Prop}{H:Hp}{l:Addr}{us us':List V}(hl:H l=some (.lst us))(nl:¬F l):∀(t:Tr) (v:V),Rep F H t v->Rep F (upd H l (.lst us')) t v
 | .non,_,q=>q
 | .bl _,_,q=>q
 | .int _,_,q=>q
 | .str _,_,q=>q
 | .tup ts,_,⟨a,vs,e,ha,hr⟩=>⟨a,vs,e,by rw[Ag (AM ha hl (by intro z;cases z))];exact ha,Ax.upd hl nl ts vs hr⟩
 | .lst ts,_,⟨a,vs,e,fa,ha,hr⟩=>⟨a,vs,e,fa,by rw[Ag (show a≠l from fun z=>nl (by rw[<-z];exact fa))];exact ha,Ax.upd hl nl ts vs hr⟩
theorem Ax.upd {F:Addr->Prop}{H:Hp}{l:Addr}{us us':List V}(hl:H l=some (.lst us))(nl:¬F l):∀(ts:List Tr) (vs:List V),Ax F H ts vs->Ax F (L2.upd H l (.lst us')) ts vs
 |[],_,q=>q
 |t::ts,_,⟨v,ur,e,h1,h2⟩=>⟨v,ur,e,Rep.upd hl nl t v h1,Ax.upd hl nl ts ur h2⟩
end
theorem DL {K:PySem.W.Frag}{a:Addr}{H:Hp}{xs:List V}(h:H a=some (.tup xs)):Oo (X3 K a) H xs:=fun H' s i=>
 ⟨fun hi=>⟨xs,xs[i],AW.of (s.get h),by simp[hi]⟩,fun x H'' y=>⟨y.1,fun _=>y.2 xs (AW.of (s.get h))⟩,fun hi=>⟨xs,AW.of (s.get h),hi⟩⟩
def Tr.ty:Tr->String
 | .non=>"NoneType"
 | .bl _=>"bool"
 | .int _=>"int"
 | .str _=>"str"
 | .tup _=>"tuple"
 | .lst _=>"list"
theorem Rep.tyN {F:Addr->Prop}{H:Hp}:∀{t:Tr} {v:V},Rep F H t v->L2.Iy H v=t.ty
 | .non,_,h=>by rw[show _=V.non from h];rfl
 | .bl _,_,h=>by rw[show _=V.bl _ from h];rfl
 | .int _,_,h=>by rw[show _=V.int _ from h];rfl
 | .str z,_,h=>by rw[show _=V.str z from h];rfl
 | .tup ts,_,⟨a,vs,e,ha,_⟩=>by rw[e];simp only[L2.Iy,ha];rfl
 | .lst ts,_,⟨a,vs,e,_,ha,_⟩=>by rw[e];simp only[L2.Iy,ha];rfl
theorem Fx {A:Around}{k:Nat}(hr:Room k A):A.units+150<cLine:=by have:=hr.un;omega
section
variable {σ:St}{H:Hp}{m k:Nat}{te:TE}{ta:TA}
theorem Tr.oks_append:∀{ts us:List Tr},Tr.oks ts->Tr.oks us->Tr.oks (ts++us)
 |[],_,_,h=>h
 |_::ts,_,h1,h2=>⟨h1.1,Tr.oks_append h1.2 h2⟩
theorem Tr.rep_ok {ts:List Tr}(h:Tr.oks ts):∀n:Nat,Tr.oks (List.replicate n ts).flatten
 |0=>trivial
 |n+1=>by rw[List.replicate_succ,List.flatten_cons];exact Tr.oks_append h (Tr.rep_ok h n)
end
def A2 (P:Program)(w:World)(K:PySem.W.Frag)(mg:Str->Option Value)(base:Heap)(k:Nat)(C:Addr)(m:Str)(ps:List Str)(sp:Sp):Prop:=
 ∃(f:Addr) (fd:FuncData),FnOk P w K mg base Cf k f fd ps sp/\Meth K C m f/\Binds K fd ps []
def NV (P:Program)(w:World)(K:PySem.W.Frag)(mg:Str->Option Value)(base:Heap)(k:Nat)(C:Addr)(x:Str)(ps:List Str)(sp:Sp):Prop:=
 ∃(f:Addr) (fd:FuncData),FnOk P w K mg base Cf k f fd ps sp/\Mk K C f/\mg x=some (.ref C)/\Binds K fd ps []
section
variable {X:Cx}{k:Nat}{x m:Str}{C:Addr}{ps:List Str}{sp:Sp}{e o:Expr}{es:List Expr}{t:TA}{ta:TE}{p apos pos:Pos}
theorem N6 (D:NV X.prog X.w X.K X.mg X.base k C x ps sp) (hr:Room (k+1) X.A) (hg:Gl X x) (ha:PA X (e::es) t)
  (hdb:(x == ("__debug__":Str))=false:=by decide) (he:starEach (e::es) X.env=(false,eval e X.env)::starEach es X.env:=by rfl) (hpl:(backTo pos (starEach es X.env)).any (·.1)=false:=by rfl) :
  PE X (.Call (.Name x p) (e::es) [] pos) (WK C sp [] E0 t):=by
 obtain⟨f,fd,F,M,hm,hb⟩:=D;exact VE M F hr hg hm hb .nil O5 ha hdb he hpl
theorem A3 {pl:Sem Bool} (ho:PE X o ta) (c:Cls X.K C) (D:A2 X.prog X.w X.K X.mg X.base k C m ps sp) (hr:Room k X.A) (ha:PA X (e::es) t)
  (hst:starEach (e::es) X.env=(false,eval e X.env)::starEach es X.env:=by rfl) (hpl:(backTo pos (starEach es X.env)).any (·.1)=false:=by rfl)
  (ht:eval (.Call (.Attribute o m apos) (e::es) [] pos) X.env=(do
   let ov <-eval o X.env
   standAt apos.atName
   let(f,first) <-holding [ov] (getMethod ov m pl)
   callWith pos f first (backTo pos (starEach (e::es) X.env)) (backToKw pos (keywordEach [] X.env))):=by rfl) :
  PE X (.Call (.Attribute o m apos) (e::es) [] pos) (Rb C m sp [] E0 ta t):=by
 obtain⟨f,fd,F,M,hb⟩:=D;exact Wp ho c M F hr hb .nil O5 ha hst hpl ht
theorem DJ {pl:Sem Bool} (ho:PE X o ta) (c:Cls X.K C) (D:A2 X.prog X.w X.K X.mg X.base k C m ps sp) (hr:Room k X.A)
  (ht:eval (.Call (.Attribute o m apos) [] [] pos) X.env=(do
   let ov <-eval o X.env
   standAt apos.atName
   let(f,first) <-holding [ov] (getMethod ov m pl)
   callWith pos f first (backTo pos (starEach [] X.env)) (backToKw pos (keywordEach [] X.env))):=by rfl) :
  PE X (.Call (.Attribute o m apos) [] [] pos) (Rb C m sp [] E0 ta Nm):=by
 obtain⟨f,fd,F,M,hb⟩:=D;exact S0 ho c M F hr hb .nil O5 ht
end
theorem OX {P:Program}{w:World}{k:Key}{u:Value}(h:(AU P w).is k u=true):RelV (kV k) u:=by
 rcases Bz h with⟨i,t,rfl,rfl⟩|⟨x,t,rfl,rfl⟩
 ·exact⟨t,rfl⟩
 ·exact⟨t,rfl⟩
theorem Bx.kf {H:Hp}{a:Addr}{o:Obj}{kvs:List (Key×V)}{k:Key}(e:H a=some (.frz o (.dK kvs))):Bx H a (kV k) (Bd kvs k):=.inl ⟨kvs,k,.inr ⟨o,e⟩,rfl,rfl⟩
section
variable {X:Cx}
structure M0 (X:Cx) (o:Expr) (m:Str) (apos cpos:Pos):Prop where
 base:attributeBase o m X.env (eval o X.env)=eval o X.env
 few:((backTo cpos (starEach [] X.env)).all (fun x=>!x.1)&&(backToKw cpos (keywordEach [] X.env)).all (fun x=>x.1.isSome)
  && decide (([]:List Expr).length+([]:List Keyword).length+(if([]:List Keyword).isEmpty then 0 else 1)<30))=true
 line:(apos.endLine == cpos.line)=true
 trees:backTo cpos (starEach [] X.env)=[]
def Wd (td:TE):TE:=fun σ H Q=>td σ H fun x H1=>∃a kvs,x=.ref a/\H1 a=some (.dK kvs)/\Q .non (upd H1 a (.dK []))
theorem SS {o:Expr}{td:TE}{apos cpos:Pos}(ho:PE X o td)(m:M0 X o "clear" apos cpos):PE X (.Call (.Attribute o "clear" apos) [] [] cpos) (Wd td):=by
 intro pins s σ H Q I h;refine wpAny_Call_method m.base m.few m.line PySem.F.plainAttrs_dict PySem.F.slot_dict_clear PySem.F.type_dict_clear (Br (ho pins s σ H _ I h) fun u s1 ⟨x,H1,I1,rx,a,kvs,ex,ea,q1⟩=>?_);subst ex;obtain rfl:u=Value.ref a:=rx;obtain⟨t1,t2,_⟩:=Jb I1 (.inl ⟨kvs,.inl ea⟩);refine⟨t1,t2,?_⟩;rw[m.trees];exact Calls.callWith_builtin rfl (PySem.evalArgs_none (Wf I1 ea fun s3 I3=>⟨.non,_,I3,rfl,q1⟩))
end
theorem Lf {t u:TS}{D:Ends}{σ:St}{H:Hp}(M:St->Hp->Prop)(h1:∀N:St->Hp->Prop,(∀σ' H',M σ' H'->N σ' H')->t { D with nx:=N } σ H)(h2:∀σ' H',M σ' H'->u D σ' H'):Xp t u D σ H:=h1 (u D) h2
theorem N9 {J:It} {xs:List V} {fr:List (Option Nat)} {k:Nat} {te:TE} {Q:VK} {σ:St} {H:Hp} (I:Nat->List V->Addr->Hp->Prop) (hn:xs.length<=1000000)
  (hJ:∀i ys l H',I i ys l H'->(i<xs.length->J.go i H')/\(∀x H'',J.yld i H' x H''->H''=H'/\(i<xs.length->xs[i]?=some x))/\(xs.length<=i->J.stop i H'))
  (h0:∀l,H l=none->I 0 [] l (upd H l (.lst [])))
  (step:∀(i:Nat) (x:V) (ys:List V) (l:Addr) (H':Hp) (R:VK),xs[i]?=some x->H l=none->H' l=some (.lst ys)->ys.length=i->I i ys l H'->(∀y H'',H'' l=some (.lst ys)->I (i+1) (ys++[y]) l (upd H'' l (.lst (ys++[y])))->R y H'')->te ((stC fr σ).set k (some x)) H' R)
  (hQ:∀l H' (ys:List V),H l=none->H' l=some (.lst ys)->ys.length=xs.length->I xs.length ys l H'->Q (.ref l) H'):FO fr (Ci k) Pc te σ Q J H:=by
 intro l hl;refine⟨fun i m σ' H'=>m=xs.length-i/\i<=xs.length/\(∀y,σ'.set k y=(stC fr σ).set k y)/\∃ys:List V,H' l=some (.lst ys)/\ys.length=i/\I i ys l H',⟨xs.length,by simp,Nat.zero_le _,fun _=>rfl,[],Af,rfl,h0 l hl⟩,?_⟩
 rintro i m σ' H' ⟨rfl,hi,hσ,ys,hl',hlen,hI⟩
 obtain⟨h1,h2,h3⟩:=hJ i ys l H' hI
 by_cases hlt:i<xs.length
 ·refine .inr ⟨h1 hlt,fun x H'' y=>?_⟩;obtain⟨rfl,hx⟩:=h2 x H'' y;have hx:=hx hlt;show te (σ'.set k (some x)) H'' _;rw[hσ];refine step i x ys l H'' _ hx hl hl' hlen hI fun y H4 hl4 hI4=>?_
  exact⟨ys,hl4,Ba (by omega),xs.length-(i+1),by omega,rfl,hlt,fun y=>by rw[List.set_set],ys++[y],Af,by rw[List.length_append,hlen];rfl,hI4⟩
 ·have e:i=xs.length:=by omega
  subst e;exact .inl ⟨h3 (Nat.le_refl _),hQ l H' ys hl hl' hlen hI⟩
theorem PQ {lo:Int}{n i:Nat}{H:Hp}:(i<((List.range n).map fun(i:Nat)=>V.int (lo+(i:Int))).length->(Vb lo n).go i H)/\(∀x H'',(Vb lo n).yld i H x H''->H''=H/\(i<((List.range n).map fun(i:Nat)=>V.int (lo+(i:Int))).length->((List.range n).map fun(i:Nat)=>V.int (lo+(i:Int)))[i]?=some x))/\(((List.range n).map fun(i:Nat)=>V.int (lo+(i:Int))).length<=i->(Vb lo n).stop i H):=by
 rw[List.length_map,List.length_range];refine⟨fun h=>h,fun x H'' y=>⟨y.1,fun h=>?_⟩,fun h=>h⟩;rw[List.getElem?_map,List.getElem?_range h,y.2];rfl
theorem Bm.get {P:Program}{w:World}{H:Hp}{h:Heap}{a:Addr}{o:HO}(x:Bm P w H h a o):∃ob,h.get? a=some ob:=by
 cases o with
 |lst xs=>obtain⟨_,_,_,_,e⟩:=x;exact⟨_,e⟩
 |tup xs=>obtain⟨_,_,_,ob,e,_⟩:=x;exact⟨_,e⟩
 |dK kvs=>obtain⟨_,_,_,_,o,_,_,e,_⟩:=x;exact⟨_,e⟩
 |dT kvs=>obtain⟨_,_,_,_,o,_,_,e,_⟩:=x;exact⟨_,e⟩
 |set S n=>obtain⟨o,_,_,_,e,_⟩:=x;exact⟨_,e⟩
 |ins C dx fs=>obtain⟨_,_,_,e,_⟩:=x;exact⟨_,e⟩
 |own y=>obtain⟨_,e⟩:=x;exact⟨_,e⟩
 |xd fs=>obtain⟨_,⟨_,_,_,e,_⟩,_⟩:=x;exact⟨_,e⟩
 |rng lo hi=>obtain⟨_,_,_,e⟩:=x;exact⟨_,e⟩
 |frz ob u=>obtain⟨e,_⟩:=x;exact⟨_,e⟩
 |tbl ps=>exact⟨_,x⟩
 |met f y=>exact⟨_,x⟩
 |ext φ=>obtain⟨_,e,_⟩:=x;exact e
structure Fly (P:Program) (w:World) (outer:List Env) (H:Hp) (s:Shared) (ea:Addr) (cls:Value) (H':Hp) (B:Heap) (a0:Value) (s':Shared):Prop where
 os:s'.os=s.os
 bare:AllBare s'.gens
 un:Un (Oc outer) [] H H' s.heap s'.heap
 hok:IS P w H' B
 fl:Heap.FlyingW B outer ea cls a0 s'.heap
 kp:∀b o,s.heap.get? b=some o->H b=none->b∉Oc outer->B.get? b=some o
 th:∀b o,s.heap.get? b=some o->b∉Oc outer->∃o',B.get? b=some o'
section
variable {P:Program}{w:World}{outer:List Env}{H H':Hp}{s s':Shared}{ea:Addr}{cls a0:Value}{B h' base:Heap}
theorem Fly.stay (F:Fly P w outer H s ea cls H' B a0 s')(hl:s.heap.FunFrames base outer)(hn:∀b∈Oc outer,H b=none)(sB:B.StaysIn h')(up:s'.heap.UpToSlots h'):Un (Oc outer) [] H H' s.heap h':=by
 have sl:∀b o,s.heap.get? b=some o->b∈Oc outer->∃sl,h'.get? b=some { o with slots:=sl }:=fun b o q hb=>by
  obtain⟨z,e⟩:=F.un.slot b o q (hn b hb) hb (by simp);obtain⟨_,o',ho',hd⟩:=hl.mem hb;rw[q] at ho';cases ho';exact up b { o with slots:=z } e hd
 refine⟨fun b o q n hb _=>sB b o (F.kp b o q n hb),fun b o q _ hb _=>sl b o q hb,F.un.free,fun b o q _=>?_,F.un.tups,F.un.frzs,F.un.tbls⟩
 by_cases hb:b∈Oc outer
 ·obtain⟨z,e⟩:=sl b o q hb;exact⟨_,e⟩
 ·obtain⟨o',e⟩:=F.th b o q hb;exact⟨o',sB b o' e⟩
theorem Fly.free (F:Fly P w outer H s ea cls H' B a0 s'):H' ea=none:=by
 cases e:H' ea with
 |none=>rfl
 |some u=>
  obtain⟨ob,q⟩:=(F.hok ea u e).get;rw[F.fl.2.1] at q;cases q
end
section
variable {X:Cx}{pins:List (Addr×Obj)}{σ:St}{H H':Hp}{s s':Shared}{ea:Addr}{cls a0:Value}{B h':Heap}
theorem Inv.landed (I:Inv X pins σ H s)(F:Fly X.prog X.w X.stack H s ea cls H' B a0 s')(sB:B.StaysIn h')(up:s'.heap.UpToSlots h'):Inv X pins σ H' { s' with heap:=h' }:=
 I.call' (s':={ s' with heap:=h' }) (ch:=[]) F.os (F.stay I.stack I.stkFree sB up) (F.hok.kept sB) F.bare (fun b z=>nomatch z)
end
abbrev Yc:List Value:=[.type "ValueError",.type "Exception",.type "BaseException",.type "object"]
abbrev XS:=Value->St->Hp->Prop
abbrev TX:=Ends->XS->St->Hp->Prop
def XP (X:Cx)(pins:List (Addr×Obj))(Ex:XS)(e:Value)(s':Shared):Prop:=
 ∃(ea:Addr) (cls:Value) (σ':St) (H1 H':Hp) (s1:Shared) (B:Heap) (a0:Value),e=.ref ea/\Inv X pins σ' H1 s1/\Fly X.prog X.w X.stack H1 s1 ea cls H' B a0 s'/\Ex cls σ' H'
def PX (X:Cx)(st:Stmt)(t:TX):Prop:=
 ∀(pins:List (Addr×Obj)) (s:Shared) (σ:St) (H:Hp) (D:Ends) (Ex:XS),Inv X pins σ H s->t D Ex σ H->wpAny (model X.prog X.w) X.A (exec st X.env) (SP X pins D) (XP X pins Ex) s
def Zm (X:Cx)(st:List Stmt)(t:TX):Prop:=
 ∀(pins:List (Addr×Obj)) (s:Shared) (σ:St) (H:Hp) (D:Ends) (Ex:XS),Inv X pins σ H s->t D Ex σ H->wpAny (model X.prog X.w) X.A (execs st X.env) (SP X pins D) (XP X pins Ex) s
section
variable {X:Cx}{st:Stmt}{rest:List Stmt}{e:Expr}{pos:Pos}
theorem RB {t:TS}(h:PS X.nox st t):PX X st (fun D _=>t D):=fun pins s σ H D Ex I q=>
 wpAny_mono (h pins s σ H D (I.wish _) q) (fun _ _ z=>z.unwish) fun _ _ z=>False.elim z
theorem Rj {t:TX}(h1:PX X st t):Zm X [st] t:=by
 intro pins s σ H D Ex I h;refine wpAny_execs_cons (Br (h1 pins s σ H D Ex I h) fun f s1 q=>?_);cases f with
 |next=>exact wpAny_execs_nil q
 |ret v=>exact q
 |brk=>exact q
 |cont=>exact q
end
def Cx.held (X:Cx)(e:Value):Cx:={ X with A:=X.A.mark (some e),calm:=false,xe:=fun _ _=>False }
section
variable {X:Cx}{pins:List (Addr×Obj)}{σ:St}{H:Hp}{s:Shared}{e:Value}
theorem Inv.held (I:Inv X pins σ H s)(e:Value):Inv (X.held e) pins σ H s:=
 ⟨⟨I.ok.mod,I.ok.kind,I.ok.glob,I.ok.blt,I.ok.above,I.ok.inj,I.ok.has,I.ok.cab,(fun z=>nomatch z),I.ok.frames,I.ok.stk,I.ok.exf,I.ok.bs,I.ok.bsz,I.ok.noex,I.ok.exfs,I.ok.funs,I.ok.frf⟩,I.os,I.bare,I.base,I.loc,I.cell,I.free,I.freeC,I.pin,I.hok,I.len⟩
theorem Inv.unheld (J:Inv X pins σ H s){σ':St}{H':Hp}{s':Shared}(I:Inv (X.held e) pins σ' H' s'):Inv X pins σ' H' s':=
 ⟨J.ok,I.os,I.bare,I.base,I.loc,I.cell,I.free,I.freeC,I.pin,I.hok,I.len⟩
theorem SP.unheld (J:Inv X pins σ H s){D:Ends}{f:Flow}{s':Shared}(h:SP (X.held e) pins D f s'):SP X pins D f s':=by
 cases f with
 |next=>obtain⟨σ',H',I,q⟩:=h;exact⟨σ',H',J.unheld I,q⟩
 |brk=>obtain⟨σ',H',I,q⟩:=h;exact⟨σ',H',J.unheld I,q⟩
 |cont=>obtain⟨σ',H',I,q⟩:=h;exact⟨σ',H',J.unheld I,q⟩
 |ret u=>obtain⟨v,σ',H',I,r,q⟩:=h;exact⟨v,σ',H',J.unheld I,r,q⟩
end
section
variable {X:Cx}{x:Str}{c:Value}{body orelse suite:List Stmt}{b₀:Stmt}{np hpos pos:Pos}
def YU (K:PySem.W.Frag)(c:Value)(tb:TX)(te ts:TS):TS:=fun D σ H=>tb { D with nx:=te D } (fun cls σ' H'=>PySem.W.exmOne K cls c=some true/\ts D σ' H') σ H
theorem Uo {tb:TX} {te ts:TS} (hst:X.stack=X.env::X.outer/\X.env.frame=some X.env.locals) (hm:X.mg x=some c) (hg:Gl X x) (hb:Zm X body tb) (he:Qp X orelse te) (hs:∀e,Qp (X.held e) (b₀::suite) ts)
  (hd:(x == ("__debug__":Str))=false:=by decide):PS X (.Try body [.ExceptHandler (some (.Name x np)) none (b₀::suite) hpos] orelse [] pos) (YU X.K c tb te ts):=by
 intro pins s σ H D I h;refine wpAny_Try_except (wpAny_mono (hb pins s σ H _ _ I h) (fun f s1 q=>?_) fun e s1 q=>?_)
 ·cases f with
  |next=>
   obtain⟨σ',H',I',q⟩:=q;exact he pins s1 σ' H' D I' q
  |ret v=>exact q
  |brk=>exact q
  |cont=>exact q
 ·obtain⟨ea,cls,σ',H1,H',s2,B,a0,rfl,I2,F,hx,q⟩:=q;have hfr:=I.ok.frames;have fl:=F.fl;rw[hst.1] at hfr fl;refine wpAny_looks_onW hfr hst.2 fl fun h4 held4 up4=>?_
  refine wpAny_landsW held4 fun h5 fl5 up5=>?_
  have J5:=I2.landed F fl5.1 (up4.trans up5);refine wpAny_handleBy_cons (codeAny_handlers_test (Jp (J5.held (.ref ea)) hg hm ?_ hd)) (by intro z;cases z);obtain⟨ob,hob,hcls⟩:=fl5.there;have LT:PySem.W.Looks (model X.prog X.w) h5 (typeOf (.ref ea)) cls:=by
   subst hcls;exact(PySem.W.Looks.ld hob).andThen .now
  refine(PySem.W.exm_one J5.kIn LT hx).here ?_;refine codeAny_handlers_suite (lands_againW fl5 fun h6 fl6 up6=>?_);have J6:=I2.landed F fl6.1 ((up4.trans up5).trans up6);exact wpAny_mono (hs (.ref ea) pins _ σ' H' D (J6.held (.ref ea)) q) (fun f s7 z=>z.unheld J6) fun _ _ z=>False.elim z
end
theorem Rk {F:Addr->Prop}{H:Hp}:∀{ts:List Tr} {vs:List V},vs.length=ts.length->(∀(i:Nat) t v,ts[i]?=some t->vs[i]?=some v->Rep F H t v)->Ax F H ts vs
 |[],[],_,_=>rfl
 |[],_::_,h,_=>by simp at h
 |_::_,[],h,_=>by simp at h
 |t::ts,v::vs,h,k=>⟨v,vs,rfl,k 0 t v rfl rfl,Rk (by simpa using h) fun i t' v' h1 h2=>k (i+1) t' v' (by simpa using h1) (by simpa using h2)⟩
structure ZA (z TI TO i1 i2:Addr) (f1 f2:List Addr):Prop where
 TIz:TI≠z
 TOz:TO≠z
 i1z:i1≠z
 i2z:i2≠z
 TITO:TI≠TO
 TIi1:TI≠i1
 TIi2:TI≠i2
 TOi1:TO≠i1
 TOi2:TO≠i2
 i12:i1≠i2
 z1:z∉f1
 o1:TO∉f1
 j1:i2∉f1
 z2:z∉f2
 o2:TO∉f2
 j2:i1∉f2
section
variable {M:Model}{A:Around}{E:Value->Shared->Prop}{s:Shared}{base:Heap}{env:Env}{outer l:List Env}{L e:Addr}{cls a0 fl:Value}
structure Retraced (base h h':Heap) (T:Addr) (ts:Array Value) (v:Value):Prop where
 here:∃o',h'.get? T=some o'/\o'.data=.fields (ts.setIfInBounds 3 v)
 rest:∀b o,b≠T->h.get? b=some o->h'.get? b=some o
 low:base.StaysIn h->base.StaysIn h'
 plain:∀b o,h.get? b=some o->(∀vs,o.data≠.fields vs)->h'.get? b=some o
end
end L2
namespace L2
section
open PySem PySem.Calls PyProof.Rows PySem.W Builtin Builtin.ObjectAttr Builtin.Getset_descriptor
section
variable {prog:Program}{w:World}{A:Around}{E:Value->Shared->Prop}{K:Frag}{e D:Addr}
structure IsExc (h:Heap) (e D:Addr):Prop where
 ob:∃o,h.get? e=some o/\o.cls=.ref D/\∃vs,o.data=.fields vs
theorem IsExc.ty {h:Heap}(z:IsExc h e D){M:Model}:Looks M h (typeOf (.ref e)) (.ref D):=by
 obtain⟨o,q,c,_⟩:=z.ob;rw[<-c];exact(Looks.ld q).andThen .now
theorem Sx {tp:Value}{s:Shared}{R:Result->Shared->Prop}(k:K.In s.heap)(z:IsExc s.heap e D)(hm:mroIn K D (.type "object")=some true)(q:R (.ok (.ret (.ref D))) s) :
  codeAny (model prog w) A (.call (.builtin "getset_descriptor.__get__") ⟨[.builtin "object.__class__",.ref e,tp],[]⟩) R s:=by
 obtain⟨h1,g1,d1,t1,o1⟩:=s;have T0:=z.ty (M:=model prog w);have T1:=looks_mroIn (M:=model prog w) k hm;have slot:=KF.slot_gs;refine codeAny_call_builtin slot.plain KF.entry_gs (slot.check _ _ _ _ _ _ _ _ KF.type_class (KF.args_gs _ _ _) ?_);simp only[Builtin.«getset_descriptor.__get__»,descrGet,dga_obj];refine wpAny_bind (wpAny_pure ?_);dsimp only[descrGetter,descrCheckInstance,descrNameAndClass,isInstance];rw[show descrOwnerAndName "object.__class__"=("object","__class__") from KF.owner_class]
 repeat lk
 refine⟨Code.quiet_builtin (id:="object.__class__") _ (by decide +kernel),codeAny_builtin KF.entry_class ?_⟩;simp only[Builtin.«object.__class__»,shownTypeOf]
 repeat lk
 exact q
theorem UG {h:Heap} {M:Model} (k:K.In h) (ha:findIn K (.ref D) "__class__"=some (some (.builtin "object.__class__")))
  (hn:specialIn K (.builtin "object.__class__") "__get__"=some (some (.builtin "getset_descriptor.__get__"))) (ht:takesIn K (.builtin "object.__class__")=some true) :
  Looks M h (find (.ref e) (.ref D) "__class__") (.bind (.builtin "getset_descriptor.__get__") (.builtin "object.__class__")):=
 (looks_findIn k ha).andThen ((show Looks M h (getOf (some (.builtin "object.__class__"))) (some (.builtin "getset_descriptor.__get__")) from looks_specialIn k hn).andThen
  ((show Looks M h (dataDescriptor? (some (.builtin "object.__class__")) (some (.builtin "getset_descriptor.__get__"))) (some (.builtin "getset_descriptor.__get__",.builtin "object.__class__")) from(looks_takesIn k ht).andThen .now).andThen (Looks.tag .now)))
theorem RZ {nv:Value}{s:Shared}{Q:Unit->Shared->Prop}{M:Model}(k:K.In s.heap)(z:IsExc s.heap e D)(hb:mroIn K D (.type "BaseException")=some true)(q:Q () s) :
  wpAny M A (checkBuiltinCall "BaseException.__getattribute__" ⟨[.ref e,nv],[]⟩) Q E s:=by
 obtain⟨h1,g1,d1,t1,o1⟩:=s;have b1:builtinKind "BaseException.__getattribute__"=some .slot:=by decide +kernel
 have b2:splitId "BaseException.__getattribute__"=some ("BaseException","__getattribute__"):=by decide +kernel
 have b3:=F.args_bexc_ga (.ref e) nv;have T:Looks M h1 (isInstance (.ref e) (.type "BaseException")) true:=z.ty.andThen (looks_mroIn k hb);simp only[checkBuiltinCall,b1,b2];refine wpAny_bind (T.at ?_);rw[if_neg (by decide)]
 repeat wp_step
 exact q
theorem Sb {tk:Tok} {s:Shared} {Q:Fin->Shared->Prop} (k:K.In s.heap) (z:IsExc s.heap e D) (ha:findIn K (.ref D) "__class__"=some (some (.builtin "object.__class__")))
  (hn:specialIn K (.builtin "object.__class__") "__get__"=some (some (.builtin "getset_descriptor.__get__"))) (ht:takesIn K (.builtin "object.__class__")=some true) (hm:mroIn K D (.type "object")=some true) (q:Q (.done (.ret (.ref D))) s) :
  wpAny (model prog w) A (Builtin.«object.__getattribute__» ⟨[.ref e,.str "__class__" tk],[]⟩) Q E s:=by
 obtain⟨h1,g1,d1,t1,o1⟩:=s;have T0:=z.ty (M:=model prog w);have T1:=UG (e:=e) (M:=model prog w) k ha hn ht;have s0:slotArgs "__getattribute__" 1 ⟨[.ref e,.str "__class__" tk],[]⟩=pure (Value.ref e,[Value.str "__class__" tk]):=by kernel_rfl
 have s1:attrName (.str "__class__" tk)=pure "__class__":=by kernel_rfl
 simp only[Builtin.«object.__getattribute__»,s0];refine wpAny_bind (wpAny_pure ?_);dsimp only;rw[s1];refine wpAny_bind (wpAny_pure (wpAny_bind (T0.at (wpAny_bind (T1.at ?_)))));dsimp only;unfold bindTo;dsimp only;refine wpAny_bind (wpAny_call (Sx (s:=⟨h1,g1,d1,t1,o1⟩) k z hm ?_));exact wpAny_pure q
theorem RK {s:Shared} {Q:Option Value->Shared->Prop} (k:K.In s.heap) (z:IsExc s.heap e D) (hga:findIn K (.ref D) "__getattribute__"=some (some (.builtin "BaseException.__getattribute__"))) (hgg:findIn K (.ref D) "__getattr__"=some none)
  (ha:findIn K (.ref D) "__class__"=some (some (.builtin "object.__class__"))) (hn:specialIn K (.builtin "object.__class__") "__get__"=some (some (.builtin "getset_descriptor.__get__"))) (ht:takesIn K (.builtin "object.__class__")=some true)
  (hm:mroIn K D (.type "object")=some true) (hb:mroIn K D (.type "BaseException")=some true) (q:Q (some (.ref D)) { s with toks:=s.toks+1 }) :
  wpAny (model prog w) A (getAttr? (.ref e) "__class__") Q E s:=by
 obtain⟨h1,g1,d1,t1,o1⟩:=s;have T0:=z.ty (M:=model prog w);have T1:=looks_findIn (M:=model prog w) k hga;have T2:=looks_findIn (M:=model prog w) k hgg;have B:=F.excAttr_ValueError.ga.bind (.ref e);simp only[getAttr?,getAttrBy?,getAttrBy];refine wpAny_bind (wpAny_mkText (wpAny_bind (wpAny_attempt (wpAny_holding (wpAny_bind (T0.at (wpAny_bind (T1.at ?_))))))));have n0:(onTheHeap (Value.ref D)&&Value.builtin "BaseException.__getattribute__" == Value.builtin "object.__getattribute__")=false:=by
  have:(Value.builtin "BaseException.__getattribute__" == Value.builtin "object.__getattribute__")=false:=by decide +kernel
  rw[this];rfl
 dsimp only;rw[if_neg (by rw[n0];decide)];unfold getAttrByItsOwn hookBefore;rw[if_pos (by rfl)];refine wpAny_bind (T2.at (wpAny_bind (wpAny_attempt (wpAny_holding ?_))));unfold callGetattribute boundAndCalled;rw[if_neg (by decide),B];refine wpAny_bind (wpAny_pure ?_);dsimp only;refine wpAny_call (codeAny_call_builtin F.excAttr_ValueError.ga.plain F.entry_bexc_ga ?_);refine RZ (s:=⟨h1,g1,d1,t1+1,o1⟩) k ⟨z.ob⟩ hb (Sb (s:=⟨h1,g1,d1,t1+1,o1⟩) k ⟨z.ob⟩ ha hn ht hm ?_);dsimp only;exact handed_on rfl (wpAny_pure q)
structure ExcCls (K:Frag) (D:Addr):Prop where
 ga:findIn K (.ref D) "__getattribute__"=some (some (.builtin "BaseException.__getattribute__"))
 gg:findIn K (.ref D) "__getattr__"=some none
 cl:findIn K (.ref D) "__class__"=some (some (.builtin "object.__class__"))
 sp:specialIn K (.builtin "object.__class__") "__get__"=some (some (.builtin "getset_descriptor.__get__"))
 tk:takesIn K (.builtin "object.__class__")=some true
 mo:mroIn K D (.type "object")=some true
 mb:mroIn K D (.type "BaseException")=some true
theorem ExcCls.there (c:ExcCls K D):∃o,K.lookup D=some o/\∃cd,o.data=.cls cd:=by
 obtain⟨cd,h,_⟩:=Option.bind_eq_some_iff.mp c.mo;unfold clsIn at h
 split at h
 ·rename_i o d' cd' sl' ho
  exact⟨_,ho,_,rfl⟩
 ·cases h
theorem ExcCls.kit (c:ExcCls K D):KitX K (.ref e) (.ref D) (fun h=>IsExc h e D) where
 ty:=fun _ _ _ z=>z.ty
 it:=fun M h k _=>by
  obtain⟨⟨oc,od,oda,os⟩,h1,cd,h2⟩:=c.there;dsimp only at h2;subst h2;intro A1 Q1 E1 s1 st q;unfold isType loadHead;exact wpAny_bind (wpAny_loadPart (st _ _ (k _ _ h1)) (wpAny_pure q))
 ne:=fun h tp dd its n sl k ht=>by
  obtain⟨o,h1,cd,h2⟩:=c.there;cases q:(Value.ref D == Value.ref tp) with
  |false=>rfl
  |true=>
   cases Value.ref.inj (beq_iff_eq.mp q);rw[k _ _ h1] at ht;cases ht;cases h2
 ca:=fun k z q=>RK k z c.ga c.gg c.cl c.sp c.tk c.mo c.mb q
end
end
open PySem PySem.Spec PyProof.Rows
end L2
namespace L2
open PySem PySem.Spec PyProof.Rows
end L2
namespace L2
section
open PySem
open Sem (wp wp_bind' wp_mono)
def XA (o:Obj):Prop:=∃vs,o.data=.fields vs/\vs[2]?=some .none
def DictAt (h:Heap)(e:Addr)(d:Option Addr):Prop:=∃o,h.objs[e]?=some o/\o.dict=d/\XA o
variable {α β:Type}
end
section
open PySem PySem.Calls PyProof.Rows PySem.W Builtin Builtin.ObjectAttr
def UH:List Value->Bool
 | .ref _::r=>UH r
 |l=>l == Yc
def Y1 (K:Frag)(C:Addr):Bool:=(clsIn K C).any fun cd=>UH cd.mro
section
variable {prog:Program}{w:World}{A:Around}{E:Value->Shared->Prop}{s:Shared}{K:Frag}{x C:Addr}{vs:Array Value}{name:Str}{v:Value}
structure ExiCls (K:Frag) (C:Addr):Prop extends ExcCls K C where
 sa:findIn K (.ref C) "__setattr__"=some (some (.builtin "object.__setattr__"))
 ve:Y1 K C=true
 hd:hasDictIn K C=true
end
def Ya (K:Frag)(C:Addr):Bool:=(K.lookup C).any fun o=>match o with
 |⟨.type t,_,.cls cd,sl⟩=>t == "type" && !cd.hasDel&&(match cd.mro with | .ref D::tl=>D == C&&tailIn K Yc tl|_=>false)&&(match sl.toList with|[_,_,_,_,some (.builtin n),_]=>n == "ValueError.__new__"|_=>false)
 |_=>false
end
section
open PySem PySem.Spec PyProof.Rows
variable {X:Cx}{pins:List (Addr×Obj)}{σ:St}{H:Hp}{s:Shared}
structure MkX (K:PySem.W.Frag) (C f:Addr):Prop where
 ex:Ya K C=true
 init:PySem.W.findIn K (.ref C) "__init__"=some (some (.ref f))
 fn:PySem.W.isFn K (.ref f)=true
 kp:PySem.W.keepIn K (.ref C)=true
end
section
open PySem PySem.Spec PyProof.Rows
theorem DictAt.get {h:Heap}{e:Addr}{d:Option Addr}{o:Obj}(j:DictAt h e d)(q:h.get? e=some o):o.dict=d/\XA o:=by
 obtain⟨o1,e1,h1⟩:=j;unfold Heap.get? at q;rw[e1] at q
 split at q
 ·cases q
 ·cases q;exact h1
end
section
open PySem PySem.Calls PyProof.Rows PySem.W
structure IsExcD (h:Heap) (e D:Addr) (d:Option Addr):Prop where
 is:IsExc h e D
 dj:∃o,h.get? e=some o/\o.dict=d/\XA o
end
end L2
namespace L2
section
open PySem PySem.Calls PyProof.Rows
variable {prog:Program}{w:World}{A:Around}{E:Value->Shared->Prop}{s:Shared}
theorem Jo (h:Heap):h.get? h.objs.size=none:=by
 cases e:h.get? h.objs.size with
 |none=>rfl
 |some o=>exact absurd (Heap.lt_size e) (Nat.lt_irrefl _)
def QT (Q:Value->Shared->Prop)(vs:List Value)(s1:Shared):Prop:=∃ss,StrsAre vs ss/\vs.length<64/\
 ∀h' p (out:List Value) ss' c,StrsAre out ss'->ss'.Perm ss->sortedS ss'=true->s1.heap.objs.size<=p->(∀b o,s1.heap.get? b=some o->h'.get? b=some o)->
  h'.get? p=some (seqObj "list" out.toArray c)->Q (.ref p) { s1 with heap:=h' }
theorem IE {x:Value}{Q:Value->Shared->Prop}(hc:wpAny (model prog w) A.in1 (collect x) (QT Q) E s):wpAny (model prog w) A (call (.builtin "sorted") [x]) Q E s:=by
 refine Calls.call_function_entry kind_sorted plain_sorted entry_sorted (args_sorted1 x) ?_;unfold Builtin.«sorted»;refine wpAny_bind (m:=checkCount "sorted" 1 1 _) (wpAny_pure (wpAny_bind (wpAny_mono hc (fun vs s1 z=>?_) fun _ _ e=>e)));obtain⟨ss,hS,few,q⟩:=z;refine wpAny_bind (wpAny_newList ?_);have there:(s1.heap.push (seqObj "list" vs.toArray 0)).get? s1.heap.objs.size=some (seqObj "list" vs.toArray 0):=Heap.get?_push_size _ rfl;refine wpAny_bind (wpAny_holding (wpAny_call_entry slot_list_sort ⟨_,there,rfl⟩ entry_list_sort (list_sort_treeK strKind_oneLt there hS.keysOf (fun v₁ v₂ rest e=>keyKind_strs (by rw[<-e];exact hS)) few fun st' pm so=>⟨_,rfl,?_⟩) (args_list_sort _)));obtain⟨ss',y1,y2,y3⟩:=sorted_out_str hS pm so;obtain⟨c,hp⟩:=sortedHeap_at (out:=(arrOf st').map (·.2)) there;refine wpAny_pure ⟨_,rfl,q _ _ ((arrOf st').map (·.2)).toList ss' c y1 y2 y3 (Nat.le_refl _) (fun b o e=>?_) (by rw[Array.toArray_toList];exact hp)⟩;have lt:=Heap.lt_size e;show Heap.get? _ b=some o;rw[sortedHeap_old (Nat.ne_of_lt lt) (by rw[Heap.size_push];exact Nat.lt_succ_of_lt lt)];exact Heap.get?_push_of_some _ e
def Xx (S:Addr)(Q:List Value->Shared->Prop)(r:Result)(s':Shared):Prop:=∃acc c,r=.ok (.ret (.ref S))/\s'.heap.get? S=some { cls:=.type "list",dict:=none,data:=.seq acc c,slots:=#[] }/\Q acc.toList s'
theorem Kx {x:Value} {Q:List Value->Shared->Prop} (h:wpAny (model prog w) A.in1 (Builtin.List.listExtendWith (.ref s.heap.objs.size) x (.ref s.heap.objs.size))
   (fun fin s'=>match fin with | .done f=>Xx s.heap.objs.size Q (.ok f) s' | .again c'=>c'.quiet=true/\codeAny (model prog w) A c' (Xx s.heap.objs.size Q) s') (fun e s'=>Xx s.heap.objs.size Q (.error e) s')
   { s with heap:=s.heap.push { cls:=.type "list",data:=.seq #[] } }):wpAny (model prog w) A (collect x) Q E s:=by
 unfold collect;refine wpAny_bind (wpAny_runValue (codeAny_builtin PySem.F.entry_proto_collect ?_));rw[Around.under_plainId PySem.F.plain_proto_collect _];refine wpAny_bind (wpAny_newObj_type (wpAny_pure ⟨plainId_quiet PySem.F.plain_list_iadd _,codeAny_builtin PySem.F.entry_list_iadd ?_⟩));rw[Around.under_plainId PySem.F.plain_list_iadd _];refine wpAny_mono h (fun fin s' z=>?_) (fun e s' z=>?_)
 ·cases fin with
  |done f=>
   obtain⟨acc,c,e,hS,q⟩:=z;cases e;exact wpAny_bind (wpAny_load hS (wpAny_pure q))
  |again c'=>
   refine⟨z.1,codeAny_mono z.2 fun r s2 z2=>?_⟩;obtain⟨acc,c,rfl,hS,q⟩:=z2;exact wpAny_bind (wpAny_load hS (wpAny_pure q))
 ·obtain⟨acc,c,e,_⟩:=z;cases e
theorem KI {T:String} {r d:Addr} {n:Nat} {P:Nat->Value->Prop} {OK:Heap->Prop} {Q:List Value->Shared->Prop} (S:PySem.W.KdlSrc prog w T r d n P OK) (hh:A.handled=none) (ok:OK s.heap) (hn:n<=sizeLine)
  (q:∀h' tk (vs:List Value),(∀b o,s.heap.get? b=some o->h'.get? b=some o)->vs.length=n->(∀j v,vs[j]?=some v->P j v)->Q vs { s with heap:=h',toks:=tk }):wpAny (model prog w) A (collect (.ref r)) Q E s:=by
 obtain⟨lr,ld⟩:=S.there _ ok;refine Kx (PySem.W.kdl_extend S hh (S.keep _ _ ok fun b _ o e=>Heap.get?_push_of_some _ e) s.heap.objs.size (Nat.ne_of_gt lr) (Nat.ne_of_gt ld) (.ref s.heap.objs.size) 0 (Heap.get?_push_size _ rfl) (fun h' tk acc c k hS it=>?_) hn);refine⟨acc,c,rfl,hS,q h' tk acc.toList (fun b o e=>k b o (Nat.ne_of_lt (Heap.lt_size e)) (Heap.get?_push_of_some _ e)) (by rw[Array.length_toList];exact it.1) fun j v e=>it.2 j v (by rw[<-Array.getElem?_toList];exact e)⟩
theorem Mz:Manifest.owners.lookup (String.ofList "rotareti_tes".toList.reverse)=some Manifest.sig_set_iterator:=by kernel_rfl
theorem Fs:Slot "set_iterator" "__next__" "set_iterator.__next__":=
 .of (owner:="set_iterator") (n:="__next__") (by rw[typeLookup_type,builtinLookup_eq_fast];kernel_rfl) (by decide +kernel) (by decide +kernel) (by decide +kernel) (by first|exact .inl (by decide +kernel)|exact .inr (by decide +kernel)) (by rw[isSubtype_type];kernel_rfl)
theorem Ih:entryFor table "set_iterator.__next__"=some Builtin.«set_iterator.__next__»:=entryFor_of_fast (by kernel_rfl)
theorem Js (a:Value):argsOk "set_iterator.__next__" ⟨[a],[]⟩:=by
 unfold argsOk;rw[signature?_of (id:="set_iterator.__next__") (n:="__txen__".toList) (o:="rotareti_tes".toList) (by kernel_rfl) Mz]
 kernel_rfl
theorem LG:entryFor table "set.__iter__"=some Builtin.«frozenset.__iter__»:=entryFor_alias (id':="frozenset.__iter__") (by kernel_rfl) rfl (by decide +kernel) (by kernel_rfl)
theorem Lo {it:Addr} {T id:String} {B:Builtin} {Q:Option Value->Shared->Prop} (slot:Slot T "__next__" id) (hT:s.TypeIs (.ref it) T) (entry:entryFor table id=some B) (args:argsOk id ⟨[.ref it],[]⟩)
  (h:wpAny (model prog w) A.in1 (B ⟨[.ref it],[]⟩) (fun fin s'=>∃v,fin=.done (.ret v)/\Q (some v) s') (fun _ _=>False) s):wpAny (model prog w) A (pyNext (.ref it)) Q E s:=by
 unfold pyNext;refine wpAny_bind (wpAny_attempt (wpAny_callSpecial?_slot (name:=Str.ofString "__next__") hT slot (wpAny_call_entry slot hT entry (wpAny_mono h (fun fin s' z=>?_) fun _ _ z=>z.elim) args)));obtain⟨v,rfl,q⟩:=z;exact⟨v,rfl,wpAny_pure q⟩
theorem L5 {it:Addr} {T id:String} {B:Builtin} {Q:Option Value->Shared->Prop} (slot:Slot T "__next__" id) (hT:s.TypeIs (.ref it) T) (entry:entryFor table id=some B) (args:argsOk id ⟨[.ref it],[]⟩)
  (h:wpAny (model prog w) A.in1 (B ⟨[.ref it],[]⟩) (fun _ _=>False) (fun x s'=>∃a o,x=.ref a/\s'.heap.get? a=some o/\o.cls=.type "StopIteration"/\Q none s') s):wpAny (model prog w) A (pyNext (.ref it)) Q E s:=by
 unfold pyNext;refine wpAny_bind (wpAny_attempt (wpAny_callSpecial?_slot (name:=Str.ofString "__next__") hT slot (wpAny_call_entry slot hT entry (wpAny_mono h (fun _ _ z=>z.elim) fun x s' z=>?_) args)));obtain⟨a,o,rfl,e,c,q⟩:=z;exact wpAny_bind (wpAny_isInstance (T:="StopIteration") (b:=true) ⟨o,e,c⟩ isSubtype_stop (wpAny_pure q))
theorem MY {α:Type} {Q:α->Shared->Prop} (hh:A.handled=none)
  (q:∀h' x,(∀b o,s.heap.get? b=some o->h'.get? b=some o)->(∃o,h'.get? x=some o/\o.cls=.type "StopIteration")->E (.ref x) { s with heap:=h' }) :
  wpAny (model prog w) A (newExc (.type "StopIteration") [] >>= raiseNew:Sem α) Q E s:=by
 refine wpAny_bind ?_;simp only[newExc,newTuple];refine wpAny_bind (wpAny_newObj_type ?_ (by size_fits));refine wpAny_bind (m:=firstArgMember _ _) (wpAny_of_eq (a:=Value.none) (by simp only[firstArgMember];rfl) (wpAny_newObj_type ?_ (by size_fits)));unfold raiseNew;refine wpAny_bind (wpAny_handled ?_);rw[hh];exact wpAny_throw (q _ _ (fun b o z=>Heap.get?_push_of_some _ (Heap.get?_push_of_some _ z)) ⟨_,Heap.get?_push_size _ rfl,rfl⟩)
theorem IF:Slot "set_iterator" "__iter__" "set_iterator.__iter__":=
 .of (owner:="set_iterator") (n:="__iter__") (by rw[typeLookup_type,builtinLookup_eq_fast];kernel_rfl) (by decide +kernel) (by decide +kernel) (by decide +kernel) (by first|exact .inl (by decide +kernel)|exact .inr (by decide +kernel)) (by rw[isSubtype_type];kernel_rfl)
theorem LH:entryFor table "set_iterator.__iter__"=some Builtin.«dict_keyiterator.__iter__»:=entryFor_alias (id':="dict_keyiterator.__iter__") (by kernel_rfl) rfl (by decide +kernel) (by kernel_rfl)
theorem Mn (a:Value):argsOk "set_iterator.__iter__" ⟨[a],[]⟩:=by
 unfold argsOk;rw[signature?_of (id:="set_iterator.__iter__") (n:="__reti__".toList) (o:="rotareti_tes".toList) (by kernel_rfl) Mz]
 kernel_rfl
def Gs (h:Heap)(a:Addr)(es:Array (Int×Value))(ep:Nat)(t:SetTable):Prop:=∃o,h.get? a=some o/\o.cls=.type "set"/\o.data=.set es ep t
def Jr (h:Heap)(it a:Addr)(first:Value)(i n ep:Nat):Prop:=∃o,h.get? it=some o/\o.cls=.type "set_iterator"/\o.data=.fields #[first,rawInt i,.ref a,rawInt n,rawInt ep]
theorem Gs.keep {h h':Heap}{a:Addr}{es:Array (Int×Value)}{ep:Nat}{t:SetTable}(x:Gs h a es ep t)(k:∀o,h.get? a=some o->h'.get? a=some o):Gs h' a es ep t:=let⟨o,e,r⟩:=x;⟨o,k o e,r⟩
theorem Jr.keep {h h':Heap}{it a:Addr}{f:Value}{i n ep:Nat}(x:Jr h it a f i n ep)(k:∀o,h.get? it=some o->h'.get? it=some o):Jr h' it a f i n ep:=let⟨o,e,r⟩:=x;⟨o,k o e,r⟩
theorem Jr.typeIs {it a:Addr}{f:Value}{i n ep:Nat}(x:Jr s.heap it a f i n ep):s.TypeIs (.ref it) "set_iterator":=let⟨o,e,c,_⟩:=x;⟨o,e,c⟩
theorem Jr.self {it a:Addr}{f:Value}{i n ep:Nat}{Q:Value->Shared->Prop}(x:Jr s.heap it a f i n ep)(q:Q (.ref it) s):wpAny (model prog w) A (pyIter (.ref it)) Q E s:=by
 refine wpAny_pyIter_slot x.typeIs IF (wpAny_call_entry IF x.typeIs LH ?_ (Mn _));exact wpAny_pure ⟨_,rfl,"set_iterator",_,x.typeIs,Fs.lookup,q⟩
theorem Ew {a:Addr}{es:Array (Int×Value)}{ep:Nat}{t:SetTable}{Q:Array (Int×Value)->Shared->Prop}(x:Gs s.heap a es ep t)(f:t.fits es.size=true)(q:Q es s):wpAny (model prog w) A (setEntries a) Q E s:=
 let⟨_,e,_,d⟩:=x;wpAny_setEntries_of e d f q
end
end L2
namespace L2
section
open PySem PySem.Calls PyProof.Rows
variable {prog:Program}{w:World}{A:Around}{E:Value->Shared->Prop}{s:Shared}
theorem D0 {it:Addr} {vs:Array Value} {k:Nat} {x:Value} {Q:Unit->Shared->Prop} {o:Obj} (ho:s.heap.get? it=some o) (hc:o.cls=.type "set_iterator") (hd:o.data=.fields vs) (hk:k<vs.size)
  (q:∀h' o',h'.get? it=some o'->o'.cls=.type "set_iterator"->o'.data=.fields (vs.setIfInBounds k x)->(∀b o,b∉[it]->s.heap.get? b=some o->h'.get? b=some o)->Q () { s with heap:=h' }):wpAny (model prog w) A (setField (.ref it) k x) Q E s:=
 wpAny_setField ho hd hk (q _ _ (Heap.get?_update_self _ ho (Obj.isFreed_of_fields (Obj.data_mapFields hd _))) ((Obj.cls_mapFields ..).trans hc) (Obj.data_mapFields hd _) fun b o hb e=>(Heap.get?_update_other _ _ (fun z=>hb (by simp[z]))).trans e)
theorem MV (hh:A.handled=none) (I a:Addr) (hne:a≠I) (xs:List Value) (sl:Nat->Nat) (es:Array (Int×Value)) (ep:Nat) (t:SetTable) (f:t.fits es.size=true) (hn:es.size=xs.length)
  (nx:∀(i:Nat) (A:Around) (E:Value->Shared->Prop) (s:Shared) (Q:Option (Value×Nat)->Shared->Prop),i<=xs.length->Gs s.heap a es ep t->Q (xs[i]?.map fun v=>(v,sl (i+1))) s->wpAny (model prog w) A (setNext a (sl i) i ep) Q E s) :
  Walks prog w A I [I,a] [I] xs.length (fun i v=>xs[i]?=some v) (fun i h=>Jr h I a (rawInt (sl i)) i xs.length ep/\Gs h a es ep t) where
 sub:=fun b z=>by simp at z;simp[z]
 frame:=fun _ _ _ st k=>⟨st.1.keep fun o e=>k I (by simp) o e,st.2.keep fun o e=>k a (by simp) o e⟩
 self:=fun _ _ _ _ st q=>st.1.self q
 item:=fun i s Q E hi st qq=>by
  refine Lo Fs st.1.typeIs Ih (Js _) ?_;obtain⟨o,ho,hc,hd⟩:=st.1;unfold Builtin.«set_iterator.__next__»;refine wpAny_bind (wpAny_pure ?_);dsimp only;refine wpAny_bind (wpAny_fieldsOf ho hd ?_);refine wpAny_bind (m:=setEntries a) (Ew st.2 f ?_);rw[if_neg (by rw[hn];simp)];refine wpAny_bind (m:=setNext a (sl i) i ep) (nx i _ _ _ _ (Nat.le_of_lt hi) st.2 ?_);obtain⟨v,hv⟩:∃v,xs[i]?=some v:=⟨xs[i],by simp[hi]⟩
  rw[hv];dsimp only[Option.map];refine wpAny_bind (D0 ho hc hd (by simp) fun h1 o1 e1 c1 d1 k1=>?_);refine wpAny_bind (D0 e1 c1 d1 (by simp) fun h2 o2 e2 c2 d2 k2=>?_);exact wpAny_pure ⟨v,rfl,qq v h2 s.toks hv ⟨⟨o2,e2,c2,d2⟩,st.2.keep fun o e=>k2 a o (by simp[hne]) (k1 a o (by simp[hne]) e)⟩ fun b o hb e=>k2 b o hb (k1 b o hb e)⟩
 done:=fun s Q E st hQ=>by
  refine L5 Fs st.1.typeIs Ih (Js _) ?_;obtain⟨o,ho,hc,hd⟩:=st.1;unfold Builtin.«set_iterator.__next__»;refine wpAny_bind (wpAny_pure ?_);dsimp only;refine wpAny_bind (wpAny_fieldsOf ho hd ?_);refine wpAny_bind (m:=setEntries a) (Ew st.2 f ?_);rw[if_neg (by rw[hn];simp)];refine wpAny_bind (m:=setNext a (sl xs.length) xs.length ep) (nx xs.length _ _ _ _ (Nat.le_refl _) st.2 ?_);rw[List.getElem?_eq_none (Nat.le_refl _)];dsimp only[Option.map];refine wpAny_bind (D0 ho hc hd (by simp) fun h1 o1 e1 c1 d1 k1=>?_);refine MY hh fun h2 x k2 ⟨ox,ex,cx⟩=>⟨x,ox,rfl,ex,cx,hQ h2 s.toks fun b o hb e=>k2 b o (k1 b o hb e)⟩
def TupAt (h:Heap)(tp:Addr)(vs:List Value):Prop:=∃o n,h.get? tp=some o/\o.data=.seq vs.toArray n
theorem TupAt.keep {h h':Heap}{tp:Addr}{vs:List Value}(x:TupAt h tp vs)(k:∀o,h.get? tp=some o->h'.get? tp=some o):TupAt h' tp vs:=let⟨o,n,e,r⟩:=x;⟨o,n,k o e,r⟩
theorem Qk {a:Addr}{es:Array (Int×Value)}{ep p:Nat}{t:SetTable}{hx:Int}{v:Value}{Q:Value->Shared->Prop}(x:Gs s.heap a es ep t)(f:t.fits es.size=true)(e:es[p]?=some (hx,v))(q:Q v s):wpAny (model prog w) A (setNextDrawn a p ep) Q E s:=by
 obtain⟨o,eo,_,d⟩:=x;unfold setNextDrawn;refine wpAny_bind (wpAny_setState_of eo d f ?_);dsimp only;rw[if_neg (by simp),e];exact wpAny_pure q
theorem PB (hh:A.handled=none) (I a tp:Addr) (hne:a≠I) (hnt:tp≠I) (xs:List Value) (ps:List Nat) (es:Array (Int×Value)) (ep:Nat) (t:SetTable) (f:t.fits es.size=true) (hn:es.size=xs.length) (hp:ps.length=xs.length)
  (at_:∀(i p:Nat),ps[i]?=some p->∃hx v,es[p]?=some (hx,v)/\xs[i]?=some v) :
  Walks prog w A I [I,a,tp] [I] xs.length (fun i v=>xs[i]?=some v) (fun i h=>Jr h I a (.ref tp) i xs.length ep/\Gs h a es ep t/\TupAt h tp (ps.map fun(p:Nat)=>rawInt p)) where
 sub:=fun b z=>by simp at z;simp[z]
 frame:=fun _ _ _ st k=>⟨st.1.keep fun o e=>k I (by simp) o e,st.2.1.keep fun o e=>k a (by simp) o e,st.2.2.keep fun o e=>k tp (by simp) o e⟩
 self:=fun _ _ _ _ st q=>st.1.self q
 item:=fun i s Q E hi st qq=>by
  refine Lo Fs st.1.typeIs Ih (Js _) ?_;obtain⟨o,ho,hc,hd⟩:=st.1;obtain⟨ot,nt,et,dt⟩:=st.2.2;unfold Builtin.«set_iterator.__next__»;refine wpAny_bind (wpAny_pure ?_);dsimp only;refine wpAny_bind (wpAny_fieldsOf ho hd ?_);refine wpAny_bind (m:=setEntries a) (Ew st.2.1 f ?_);rw[if_neg (by rw[hn];simp)];obtain⟨p,hpi⟩:∃p,ps[i]?=some p:=⟨ps[i]'(by omega),by simp[hp,hi]⟩
  obtain⟨hx,v,ev,xv⟩:=at_ i p hpi;refine wpAny_bind (m:=seqItems? (.ref tp)) (wpAny_seqItems et dt ?_);have look:(ps.map fun(p:Nat)=>rawInt p).toArray[(i:Int).toNat]?=some (rawInt p):=by simp[hpi]
  dsimp only;rw[look];refine wpAny_bind (m:=setNextDrawn a p ep) (Qk st.2.1 f ev ?_);refine wpAny_bind (D0 ho hc hd (by simp) fun h1 o1 e1 c1 d1 k1=>?_);exact wpAny_pure ⟨v,rfl,qq v h1 s.toks xv ⟨⟨o1,e1,c1,d1⟩,st.2.1.keep fun o e=>k1 a o (by simp[hne]) e,st.2.2.keep fun o e=>k1 tp o (by simp[hnt]) e⟩ k1⟩
 done:=fun s Q E st hQ=>by
  refine L5 Fs st.1.typeIs Ih (Js _) ?_;obtain⟨o,ho,hc,hd⟩:=st.1;obtain⟨ot,nt,et,dt⟩:=st.2.2;unfold Builtin.«set_iterator.__next__»;refine wpAny_bind (wpAny_pure ?_);dsimp only;refine wpAny_bind (wpAny_fieldsOf ho hd ?_);refine wpAny_bind (m:=setEntries a) (Ew st.2.1 f ?_);rw[if_neg (by rw[hn];simp)];refine wpAny_bind (m:=seqItems? (.ref tp)) (wpAny_seqItems et dt ?_);have look:(ps.map fun(p:Nat)=>rawInt p).toArray[(xs.length:Int).toNat]?=none:=by simp[hp]
  dsimp only;rw[look];refine wpAny_bind (D0 ho hc hd (by simp) fun h1 o1 e1 c1 d1 k1=>?_);refine wpAny_bind (D0 e1 c1 d1 (by simp) fun h2 o2 e2 c2 d2 k2=>?_);refine MY hh fun h3 x k3 ⟨ox,ex,cx⟩=>⟨x,ox,rfl,ex,cx,hQ h3 s.toks fun b o hb e=>k3 b o (k2 b o hb (k1 b o hb e))⟩
theorem QA {src:Source}{n:Nat}{Q:Nat->Shared->Prop}(h:n≠0)(q:∀i d,i<n->Q i { s with drawn:=d }):wpAny (model prog w) A (choose src n) Q E s:=by
 intro Γ p _;unfold choose;rw[Sem.wp_choose];exact⟨h,by rw[Sem.wp_pure];exact q _ _ (Nat.mod_lt _ (Nat.pos_of_ne_zero h))⟩
theorem LR {α:Type}:∀{l:List α} {i:Nat} (h:i<l.length),(l[i]::l.eraseIdx i).Perm l
 |x::r,0,_=>List.Perm.refl _
 |x::r,i+1,h=>by
  have z:=LR (l:=r) (i:=i) (by simpa using h);exact(List.Perm.swap ..).trans (List.Perm.cons x z)
theorem Lz {α:Type}:∀(n:Nat) (xs:List α) (s:Shared) (Q:List α->Shared->Prop),n=xs.length->(∀ys d,ys.Perm xs->Q ys { s with drawn:=d })->wpAny (model prog w) A (drawOrder n xs) Q E s
 |0,xs,s,Q,h,q=>by
  have e:xs=[]:=List.length_eq_zero_iff.mp h.symm;subst e;exact wpAny_pure (q [] s.drawn (List.Perm.refl _))
 |n+1,[],s,Q,h,q=>nomatch h
 |n+1,x::r,s,Q,h,q=>by
  unfold drawOrder;refine wpAny_bind (QA (by simp) fun i d hi=>?_);rw[List.getElem?_eq_getElem hi];dsimp only;refine wpAny_bind (Lz n _ _ _ (by rw[List.length_eraseIdx_of_lt hi];simp at h ⊢;omega) fun ys d2 pm=>?_);exact wpAny_pure (q _ d2 ((List.Perm.cons _ pm).trans (LR hi)))
theorem Rh {α:Type}(next:Nat->Nat):∀(fuel k:Nat) (left:List α) (out:Array α),fuel=left.length->(pickOrder.go next fuel k left out).toList.Perm (out.toList++left)
 |0,k,left,out,h=>by
  have e:left=[]:=List.length_eq_zero_iff.mp h.symm;subst e;unfold pickOrder.go;rw[List.append_nil]
 |fuel+1,k,left,out,h=>by
  unfold pickOrder.go;have hi:next k%left.length<left.length:=Nat.mod_lt _ (by omega);rw[List.getElem?_eq_getElem hi];dsimp only;refine(Rh next fuel _ _ _ (by rw[List.length_eraseIdx_of_lt hi];omega)).trans ?_;rw[Array.toList_push,List.append_assoc];exact List.Perm.append_left _ (LR hi)
theorem MP {α:Type}(next:Nat->Nat)(xs:Array α):(pickOrder next xs).toList.Perm xs.toList:=by
 unfold pickOrder;exact Rh next _ _ _ _ (by simp)
def BF (w:World):Bool:=w.params.followText "set-order"
theorem SR {a:Addr} {es:Array (Int×Value)} {ep i sl:Nat} {t:SetTable} {Q:Option (Value×Nat)->Shared->Prop} (bt:BF w=true) (x:Gs s.heap a es ep t) (f:t.fits es.size=true)
  (q:Q (((pickOrder (w.params.setOrder a ep) es).toList.map (·.2))[i]?.map fun v=>(v,sl)) s):wpAny (model prog w) A (setNext a sl i ep) Q E s:=by
 obtain⟨o,eo,_,d⟩:=x;unfold setNext setsByText setWalk setsByText;refine wpAny_bind (wpAny_setState_of eo d f ?_);dsimp only;simp only[bind_assoc,pure_bind];refine wpAny_bind (wpAny_askSetting ?_);refine wpAny_ite_split (fun _=>?_) (fun c=>absurd bt c);rw[if_neg (by simp)];refine wpAny_bind (wpAny_setState_of eo d f ?_);dsimp only;refine wpAny_bind (wpAny_askSetting ?_);refine wpAny_bind (wpAny_ite_split (fun _=>?_) (fun c=>absurd bt c));refine wpAny_bind (wpAny_askSetting (wpAny_pure ?_));have e:((pickOrder (w.params.setOrder a ep) es).toList.map (·.2))[i]?=((pickOrder (w.params.setOrder a ep) es)[i]?).map (·.2):=by rw[List.getElem?_map,Array.getElem?_toList]
 rw[e,Option.map_map] at q;exact wpAny_pure q
theorem Ux {es:Array (Int×Value)}{t:SetTable}(f:t.fits es.size=true):t.place.size=es.size:=by
 simp only[SetTable.fits,Bool.and_eq_true,beq_iff_eq] at f;exact f.1
theorem UM {a:Addr} {es:Array (Int×Value)} {ep i:Nat} {t:SetTable} {Q:Option (Value×Nat)->Shared->Prop} (bt:BF w=false) (hl:t.led=true) (few:es.size<=1) (hi:i<=es.size) (x:Gs s.heap a es ep t) (f:t.fits es.size=true)
  (q:Q ((es.toList.map (·.2))[i]?.map fun v=>(v,if i+1=0 then 0 else t.place.getD 0 0+1)) s):wpAny (model prog w) A (setNext a (if i=0 then 0 else t.place.getD 0 0+1) i ep) Q E s:=by
 obtain⟨o,eo,_,d⟩:=x;unfold setNext setsByText;refine wpAny_bind (wpAny_setState_of eo d f ?_);dsimp only;simp only[bind_assoc,pure_bind];refine wpAny_bind (wpAny_askSetting ?_);refine wpAny_ite_split (fun c=>absurd (bt.symm.trans c) (by decide)) (fun _=>?_);refine wpAny_ite_split (fun c=>absurd c ?_) (fun _=>?_)
 ·show ¬(!t.plain&&decide (es.size>1))=true;rw[decide_eq_false (by omega)];simp
 refine wpAny_bind (?_:wpAny _ _ (if(!t.led && !es.isEmpty)=true then unsupported "set:maker-not-led" else pure ()) _ _ _);rw[hl,if_neg (by simp)];refine wpAny_pure (wpAny_pure ?_);have pz:=Ux f
 clear f hl d
 revert q
 generalize t.place=pl at pz;obtain⟨l⟩:=es;obtain⟨m⟩:=pl
 match l,m,few,pz,hi with
 |[],[],_,_,hi=>
  have e:i=0:=by simpa using hi
  subst e;exact fun q=>q
 |[(hx,v)],[k],_,_,hi=>
  rcases(show i=0\/i=1 by simp at hi;omega) with rfl|rfl
  ·have b:SetTable.below #[k] (if 0=0 then 0 else(#[k]:Array Nat).getD 0 0+1)=0:=by simp[SetTable.below,SetTable.below.go]
   rw[b];exact fun q=>q
  ·have b:SetTable.below #[k] (if 1=0 then 0 else(#[k]:Array Nat).getD 0 0+1)=1:=by simp[SetTable.below,SetTable.below.go]
   rw[b];exact fun q=>q
 |_::_::_,_,few,_,_=>exact absurd few (by simp)
 |[],_::_,_,pz,_=>exact absurd pz (by simp)
 |[_],[],_,pz,_=>exact absurd pz (by simp)
 |[_],_::_::_,_,pz,_=>exact absurd pz (by simp)
theorem Tt {a:Addr} {es:Array (Int×Value)} {ep:Nat} {t:SetTable} {Q:Value->Shared->Prop} (x:Gs s.heap a es ep t) (f:t.fits es.size=true) (hl:t.led = !BF w) (hp:es.size≠0->t.plain=false) (hb:es.size<scanBound)
  (q:∀h' d I fp (xs:List Value) St,(∀b o,s.heap.get? b=some o->h'.get? b=some o)->xs.Perm (es.toList.map (·.2))->(∀A:Around,A.handled=none->Walks prog w A I fp [I] xs.length (fun i v=>xs[i]?=some v) St)->St 0 h'->
   (∀b∈fp,b=a\/s.heap.get? b=none)->s.heap.get? I=none->Q (.ref I) { s with heap:=h',drawn:=d }):wpAny (model prog w) A (pyIter (.ref a)) Q E s:=by
 obtain⟨o,eo,co,dd⟩:=id x;have hT:s.TypeIs (.ref a) "set":=⟨o,eo,co⟩
 have hlt:=Heap.lt_size eo;refine wpAny_pyIter_slot hT PySem.F.slot_set_iter (wpAny_call_entry PySem.F.slot_set_iter hT LG ?_ (PySem.F.args_set_iter_1 _));unfold Builtin.«frozenset.__iter__» Builtin.Frozenset.slot0 slotArgs;simp only[bind_assoc,bne_self_eq_false,List.isEmpty_nil,List.length_nil,Bool.not_true,Bool.false_eq_true,↓reduceIte];refine wpAny_bind (wpAny_pure ?_);dsimp only;refine wpAny_bind (m:=Builtin.Frozenset.addrOf (.ref a)) (wpAny_pure ?_);unfold Builtin.Frozenset.sizeOf;simp only[bind_assoc,pure_bind];refine wpAny_bind (Ew x f ?_);unfold setDrawn setsByText;simp only[bind_assoc,pure_bind];refine wpAny_bind (wpAny_setState_of eo dd f ?_);dsimp only;refine wpAny_bind (wpAny_askSetting ?_)
 change wpAny _ _ (if(!BF w&&(!t.plain&&decide (es.size>1)))=true then _ else _) _ _ _
 refine wpAny_ite_split (fun c=>?_) (fun c=>?_)
 ·simp only[Bool.and_eq_true,Bool.not_eq_true',decide_eq_true_eq] at c;refine wpAny_bind (Lz es.size _ _ _ (by simp) fun ps d pm=>?_);refine wpAny_bind (wpAny_newTuple ?_ (by rw[List.length_map,pm.length_eq,List.length_range];exact fits_of_scanBound hb));refine wpAny_bind (wpAny_setEpoch_of (Heap.get?_push_of_some _ eo) dd f ?_);refine wpAny_bind (wpAny_newObj_type (wpAny_pure ⟨_,rfl,"set_iterator",_,⟨_,Heap.get?_push_size _ rfl,rfl⟩,Fs.lookup,?_⟩));have rg:∀p∈ps,p<es.size:=fun p hp=>List.mem_range.mp (pm.mem_iff.mp hp)
  have ex:(List.range es.size).map (fun p=>(es[p]?.map (·.2)).getD .none)=es.toList.map (·.2):=by
   refine List.ext_getElem (by simp) fun i h1 h2=>?_
   have hi:i<es.size:=by simpa using h1
   simp[hi]
  have nt:s.heap.objs.size≠(s.heap.push { cls:=.type "tuple",data:=.seq (ps.map fun(i:Nat)=>rawInt i).toArray }).objs.size:=by rw[Heap.size_push];exact Nat.ne_of_lt (Nat.lt_succ_self _)
  have na:a≠(s.heap.push { cls:=.type "tuple",data:=.seq (ps.map fun(i:Nat)=>rawInt i).toArray }).objs.size:=by rw[Heap.size_push];exact Nat.ne_of_lt (Nat.lt_succ_of_lt hlt)
  have ln:es.size=(ps.map (fun p=>(es[p]?.map (·.2)).getD Value.none)).length:=by rw[List.length_map,pm.length_eq,List.length_range]
  have above:s.heap.get? (s.heap.push { cls:=.type "tuple",data:=.seq (ps.map fun(i:Nat)=>rawInt i).toArray }).objs.size=none:=by
   cases z:s.heap.get? _ with
   |none=>rfl
   |some o=>exact absurd (Heap.lt_size z) (by rw[Heap.size_push];exact Nat.not_lt.mpr (Nat.le_succ _))
  refine q _ d _ _ _ _ (fun b o e=>Heap.get?_push_of_some _ (Heap.get?_push_of_some _ e)) ((pm.map (fun p=>(es[p]?.map (·.2)).getD Value.none)).trans (by rw[ex])) (fun A hh=>PB hh (s.heap.push { cls:=.type "tuple",data:=.seq (ps.map fun(i:Nat)=>rawInt i).toArray }).objs.size a s.heap.objs.size na nt _ ps es ep t f ln (by rw[List.length_map]) fun i p hi=>?_) ⟨⟨_,Heap.get?_push_size _ rfl,rfl,?_⟩,x.keep fun o e=>Heap.get?_push_of_some _ (Heap.get?_push_of_some _ e),⟨_,_,Heap.get?_push_of_some _ (Heap.get?_push_size _ rfl),rfl⟩⟩ (fun b hb=>?_) above
  ·have hp':=rg p (List.mem_of_getElem? hi);refine⟨es[p].1,es[p].2,by simp[hp'],?_⟩;rw[List.getElem?_map,hi];simp[hp']
  ·rw[<-ln];rfl
  ·simp only[List.mem_cons,List.not_mem_nil,or_false] at hb;rcases hb with rfl|rfl|rfl
   ·exact .inr above
   ·exact .inl rfl
   ·exact .inr (Jo _)
 ·refine wpAny_bind (wpAny_setEpoch_of eo dd f ?_);refine wpAny_bind (wpAny_newObj_type (wpAny_pure ⟨_,rfl,"set_iterator",_,⟨_,Heap.get?_push_size _ rfl,rfl⟩,Fs.lookup,?_⟩));have kk:∀b o,s.heap.get? b=some o->(s.heap.push { cls:=.type "set_iterator",data:=.fields [rawInt 0,rawInt 0,.ref a,rawInt es.size,rawInt ep].toArray }).get? b=some o:=fun b o e=>Heap.get?_push_of_some _ e
  have fresh:∀b∈[s.heap.objs.size,a],b=a\/s.heap.get? b=none:=fun b hb=>by
   simp only[List.mem_cons,List.not_mem_nil,or_false] at hb;rcases hb with rfl|rfl
   ·exact .inr (Jo _)
   ·exact .inl rfl
  cases bt:BF w with
  |true=>
   have ln:es.size=((pickOrder (w.params.setOrder a ep) es).toList.map (·.2)).length:=by rw[List.length_map,(MP _ es).length_eq,Array.length_toList]
   refine q _ s.drawn s.heap.objs.size _ _ _ kk ((MP _ es).map _) (fun A hh=>MV hh s.heap.objs.size a (Nat.ne_of_lt hlt) ((pickOrder (w.params.setOrder a ep) es).toList.map (·.2)) (fun _=>0) es ep t f ln fun i A E s Q _ x q=>SR bt x f q) ⟨⟨_,Heap.get?_push_size _ rfl,rfl,?_⟩,x.keep fun o e=>kk a o e⟩ fresh (Jo _);rw[<-ln];rfl
  |false=>
   have few:es.size<=1:=by
    rw[bt] at c
    by_cases z:es.size=0
    ·omega
    ·rw[hp z] at c;simpa using c
   rw[bt] at hl;refine q _ s.drawn s.heap.objs.size _ _ _ kk (List.Perm.refl _) (fun A hh=>MV hh s.heap.objs.size a (Nat.ne_of_lt hlt) (es.toList.map (·.2)) (fun i=>if i=0 then 0 else t.place.getD 0 0+1) es ep t f (by simp) fun i A E s Q li x q=>UM bt hl few (by simpa using li) x f q) ⟨⟨_,Heap.get?_push_size _ rfl,rfl,?_⟩,x.keep fun o e=>kk a o e⟩ fresh (Jo _);simp
theorem Uy {a:Addr}{Q:Bool->Shared->Prop}(hT:s.TypeIs (.ref a) "set")(q:Q false s):wpAny (model prog w) A (Builtin.List.listLengthHint (.ref a)) Q E s:=by
 unfold Builtin.List.listLengthHint;refine wpAny_bind (wpAny_specialOf hT PySem.F.slot_set_len.lookup ?_);generalize e0:("set.__len__":String)=d0
 wp_delta
 rw[show splitId d0=some ("set","__len__") from by subst e0;decide +kernel];subst e0;refine wpAny_bind (wpAny_isInstance (T:="set") (b:=true) hT (by rw[isSubtype_type];kernel_rfl) ?_);refine wpAny_ite_split (fun c=>absurd c (by decide)) (fun _=>wpAny_ite_split (fun _=>?_) (fun c=>absurd (by decide +kernel) c));exact wpAny_bind (wpAny_typeOf hT (wpAny_pure q))
theorem Qr {xs:List Value}{acc:Array Value}(z:ItemsOf (fun i v=>xs[i]?=some v) acc xs.length):acc.toList=xs:=by
 refine List.ext_getElem? fun i=>?_
 rw[Array.getElem?_toList];cases e:acc[i]? with
 |some v=>exact(z.2 i v e).symm
 |none=>
  have:acc.size<=i:=by simpa using e
  rw[z.1] at this;exact(List.getElem?_eq_none this).symm
theorem OI {a:Addr} {es:Array (Int×Value)} {ep:Nat} {t:SetTable} {Q:List Value->Shared->Prop} (hh:A.handled=none) (x:Gs s.heap a es ep t) (f:t.fits es.size=true) (hl:t.led = !BF w) (hp:es.size≠0->t.plain=false) (hb:es.size<scanBound)
  (q:∀h' d tk (vs:List Value),(∀b o,s.heap.get? b=some o->h'.get? b=some o)->vs.Perm (es.toList.map (·.2))->Q vs { s with heap:=h',drawn:=d,toks:=tk }):wpAny (model prog w) A (collect (.ref a)) Q E s:=by
 refine Kx ?_;have x1:Gs (s.heap.push { cls:=.type "list",data:=.seq #[] }) a es ep t:=x.keep fun o e=>Heap.get?_push_of_some _ e
 have lt:a<s.heap.objs.size:=let⟨_,e,_⟩:=x;Heap.lt_size e;unfold Builtin.List.listExtendWith;have hT:Shared.TypeIs { s with heap:=s.heap.push { cls:=.type "list",data:=.seq #[] } } (.ref a) "set":=let⟨o,e,c,_⟩:=x1;⟨o,e,c⟩;refine wpAny_bind (wpAny_typeOf hT ?_);have n1:Builtin.List.listSameRef (.ref s.heap.objs.size) (.ref a)=false:=by simp[Builtin.List.listSameRef,Nat.ne_of_gt lt]
 have n2:(Value.type "set" == Value.type "list")=false:=by decide
 have n3:(Value.type "set" == Value.type "tuple")=false:=by decide
 simp only[n1,n2,n3,Bool.or_false,Bool.false_eq_true,if_false];refine wpAny_bind (Tt x1 f hl hp hb fun h1 d I fp xs St k1 pm W st fr nI0=>?_);have hS1:h1.get? s.heap.objs.size=some { cls:=.type "list",data:=.seq #[] }:=k1 _ _ (Heap.get?_push_size _ rfl);have hSf:s.heap.objs.size∉fp:=fun hm=>by
  rcases fr _ hm with z|z
  ·exact absurd z (Nat.ne_of_gt lt)
  ·rw[show(s.heap.push { cls:=.type "list",data:=.seq #[] }).get? s.heap.objs.size=some { cls:=.type "list",data:=.seq #[] } from Heap.get?_push_size _ rfl] at z;cases z
 have nI:∀b o,s.heap.get? b=some o->b∉s.heap.objs.size::[I]:=fun b o e hm=>by
  rcases List.mem_cons.mp hm with z|z
  ·exact absurd (Heap.lt_size e) (by rw[z];exact Nat.lt_irrefl _)
  ·rw[List.mem_singleton] at z;subst z;rw[Heap.get?_push_of_some _ e] at nI0;cases nI0
 refine wpAny_bind (wpAny_holding (Uy (let⟨o,e,c,_⟩:=x1;⟨o,k1 _ _ e,c⟩) ?_));refine wpAny_ite_split (fun _=>?_) (fun c=>absurd (by decide) c);refine wpAny_bind (wpAny_rule ?_);refine wpAny_bind ?_;show wpAny _ _ (updateSeq s.heap.objs.size (·.push .none) >>= fun _=>updateSeq s.heap.objs.size (·.pop)) _ _ _;refine wpAny_bind (wpAny_updateSeq hS1 rfl ?_);have hS2:=Heap.get?_update_self (Obj.mapSeq (·.push Value.none)) hS1 rfl;refine wpAny_updateSeq (hz:=by seq_fits) hS2 rfl ?_;have hS3:=Heap.get?_update_self (Obj.mapSeq (·.pop)) hS2 rfl;have oth:∀b o,b≠s.heap.objs.size->h1.get? b=some o->((h1.update s.heap.objs.size (Obj.mapSeq (·.push Value.none))).update s.heap.objs.size (Obj.mapSeq (·.pop))).get? b=some o:=
  fun b o n e=>(Heap.get?_update_other _ _ (Ne.symm n)).trans ((Heap.get?_update_other _ _ (Ne.symm n)).trans e)
 refine wpAny_pure ⟨plainId_quiet PySem.F.plain_extend_loop _,codeAny_extend_loopS (W A.in1 hh).toS (by rw[pm.length_eq,List.length_map,Array.length_toList];exact fits_of_scanBound hb) s.heap.objs.size hSf (.ref s.heap.objs.size) xs.length 0 _ #[] _ rfl (Nat.zero_le _) ((W A hh).frame 0 _ _ st fun b hb o e=>oth b o (fun z=>hSf (z▸hb)) e) hS3 (ItemsOf.nil _) fun s' acc c hm hS' it=>?_⟩;refine⟨acc,c,rfl,hS',?_⟩;rw[Qr it,Moved.eq_with hm];exact q _ _ _ xs (fun b o e=>hm.heap b o (nI b o e) (oth b o (Nat.ne_of_lt (Heap.lt_size e)) (k1 b o (Heap.get?_push_of_some _ e)))) pm
end
end L2
namespace L2
section
open PySem PySem.Calls PyProof.Rows
variable {prog:Program}{w:World}{A:Around}{E:Value->Shared->Prop}{s:Shared}
theorem Wr (t:SetTable)(es:Array (Int×Value))(h:Int)(x:Value):(layNew t es h x).2.1.led=t.led:=by
 unfold layNew
 split
 ·dsimp only[SetTable.put,SetTable.orStandIn]
  split<;>split<;>rfl
 ·rfl
theorem RI (t:SetTable)(es:Array (Int×Value))(n:Nat):(relayAll t es n).2.1.led=t.led:=by
 unfold relayAll
 split
 ·rename_i t' order e
  unfold SetTable.relaid SetTable.laid at e;cases z:SetTable.layClean (SetTable.sizeAbove n-1) (es.map (·.1)) with
  |none=>rw[z] at e;cases e
  |some ow=>
   rw[z] at e;injection e with e
   injection e with e1 e2
   dsimp only
   split
   ·rw[<-e1]
   ·rfl
 ·rfl
theorem Oq (t:SetTable)(es:Array (Int×Value))(n:Nat)(p:t.plain=false):(relayAll t es n).2.1.plain=false:=by
 unfold relayAll
 split
 ·rename_i t' order e
  unfold SetTable.relaid SetTable.laid at e;cases z:SetTable.layClean (SetTable.sizeAbove n-1) (es.map (·.1)) with
  |none=>rw[z] at e;cases e
  |some ow=>
   rw[z] at e;injection e with e
   injection e with e1 e2
   dsimp only
   split
   ·rw[<-e1];exact p
   ·rfl
 ·rfl
def EJ (prog:Program)(w:World)(h:Heap)(a:Addr)(ks:List Str):Prop:=∃o es ep t ss,h.get? a=some o/\o.ExactSet/\o.data=.set es ep t/\ElemsOf (PySem.strKind prog w) es.toList/\t.fits es.size=true/\t.led=(!BF w)/\(es.size≠0->t.plain=false)/\
 StrsAre (es.toList.map (·.2)) ss/\ss.Perm ks
theorem Xf {k:Str}{v:Value}(h:Value.isStrOf k v=true):∃t,v=.str k t:=Value.isStrOf_shape h
theorem V2 (led:Bool)(hl:led = !BF w){h:Heap}{a:Addr}(e:h.get? a=some { cls:=.type "set",dict:=none,data:=.set #[] 0 (.fresh 0 0 led) }):EJ prog w h a []:=
 ⟨_,#[],0,_,[],e,⟨rfl,rfl,rfl⟩,rfl,fun e he=>by simp at he,by rfl,hl,fun z=>absurd rfl z,.nil,List.Perm.refl _⟩
theorem JZ {vs us:List Value}{ss:List Str}(h:StrsAre vs ss)(p:us.Perm vs):∃ts,StrsAre us ts/\ts.Perm ss:=by
 refine⟨us.map strOf,strsAre_map us fun v hv=>h.all v (p.mem_iff.mp hv),?_⟩;have:=p.map strOf;rw[h.strs] at this;exact this
theorem OL:∀{vs us:List Value} {ss ts:List Str},StrsAre vs ss->StrsAre us ts->StrsAre (vs++us) (ss++ts)
 |_,_,_,_,.nil,h=>h
 |_,_,_,_,.cons x t g,h=>.cons x t (OL g h)
theorem Oe {es:Array (Int×Value)}{ss:List Str}{k:Str}(hs:StrsAre (es.toList.map (·.2)) ss):k∈ss↔∃e∈es.toList,Value.isStrOf k e.2=true:=by
 rw[<-hs.strs,List.mem_map];constructor
 ·rintro⟨v,hv,rfl⟩
  obtain⟨e,he,rfl⟩:=List.mem_map.mp hv;obtain⟨x,t,ex⟩:=hs.all _ hv;refine⟨e,he,?_⟩;rw[ex];simp[Value.isStrOf,strOf]
 ·rintro⟨e,he,hk⟩
  obtain⟨t,ex⟩:=Xf hk;exact⟨e.2,List.mem_map.mpr ⟨e,he,rfl⟩,by rw[ex];rfl⟩
theorem O9 {g:Bool->Sem Unit} (hg:∀(b:Bool) (s₁:Shared) (Q':Unit->Shared->Prop),Q' () s₁->wpAny (model prog w) A (g b) Q' E s₁) {a:Addr} {o:Obj} {es es1:Array (Int×Value)} {ep:Nat} {t t2:SetTable} {wd:Bool} {R:Option Bool->Shared->Prop}
  (ho:s.heap.get? a=some o) (hd:o.data=.set es ep t) (hb:es1.size<scanBound) (hf:t2.fits es1.size=true) (hp:t2.plain=false)
  (q:∀h' es' ep' t',Heap.SameBut a s.heap h'->h'.get? a=some { o with data:=.set es' ep' t' }->es'.toList.Perm es1.toList->t'.fits es'.size=true->t'.led=t2.led->t'.plain=false->R (some true) { s with heap:=h' }) :
  wpAny (model prog w) A (storeSet a es1 t2 >>= fun _=>if(!wd&&t2.tooFull)=true then g (relayAll t2 es1 (SetTable.grown es1.size)).2.2 >>= fun _=>storeSet a (relayAll t2 es1 (SetTable.grown es1.size)).1 (relayAll t2 es1 (SetTable.grown es1.size)).2.1 >>= fun _=>pure (some true) else pure (some true)) R E s:=by
 have put:∀(h:Heap) (o:Obj) (es ep t es' t'),h.get? a=some o->o.data=.set es ep t->(h.update a (Obj.putSet es' t')).get? a=some { o with data:=.set es' (ep+1) t' }:=fun h o es ep t es' t' e d=>by
  have z:=Heap.get?_update_self (Obj.putSet es' t') e (by rw[putSet_of es' t' d];rfl);rw[putSet_of es' t' d] at z;exact z
 refine wpAny_bind (wpAny_storeSet_of ho hd ?_ (fits_of_scanBound hb));have h1:=put s.heap o es ep t es1 t2 ho hd;refine wpAny_ite_split (fun _=>?_) (fun _=>wpAny_pure (q _ es1 (ep+1) t2 (Heap.SameBut.update ..) h1 (List.Perm.refl _) hf rfl hp));have pm:=relayAll_perm t2 es1 (SetTable.grown es1.size);have sz:(relayAll t2 es1 (SetTable.grown es1.size)).1.size=es1.size:=by rw[<-Array.length_toList,pm.length_eq,Array.length_toList]
 refine wpAny_bind (hg _ _ _ (wpAny_bind (wpAny_storeSet_of h1 rfl ?_ (fits_of_scanBound (by rw[sz];exact hb)))));exact wpAny_pure (q _ _ (ep+1+1) _ ((Heap.SameBut.update ..).trans (Heap.SameBut.update ..)) (put _ { o with data:=.set es1 (ep+1) t2 } es1 (ep+1) t2 _ _ h1 rfl) pm (relayAll_fits ..) (RI ..) (Oq _ _ _ hp))
theorem OW {a:Addr} {ks:List Str} {k:Str} {tk:Tok} {Q:Bool->Shared->Prop} (S:EJ prog w s.heap a ks) (room:ks.length+1<scanBound)
  (q:∀b h',Heap.SameBut a s.heap h'->EJ prog w h' a (if k∈ks then ks else ks++[k])->Q b { s with heap:=h',toks:=s.toks+1 }):wpAny (model prog w) A (setAdd a (.str k tk)) Q E s:=by
 obtain⟨o,es,ep,t,ss,ho,hex,hd,hel0,hf,hl,hp,hs,pm⟩:=S;have hel:ElemsOf (PySem.strKind prog w) es.toList:=hel0;have hkey:(PySem.strKind prog w).is k (.str k tk)=true:=by show Value.isStrOf k (.str k tk)=true;simp[Value.isStrOf]
 have ln:es.size=ks.length:=by rw[<-pm.length_eq,<-hs.length,List.length_map,Array.length_toList]
 have hb:es.size<scanBound:=by omega
 unfold setAdd;refine wpAny_holding (wpAny_bind ((PySem.strKind prog w).pyHash hkey ?_));unfold setAddHashed;unfold setAddHashedIn;refine wpAny_holding (wpAny_bind (wpAny_setState_of (s:={ s with toks:=s.toks+1 }) ho hd hf ?_));dsimp only;rw[byScan_of rfl hb hel];simp only[↓reduceIte];unfold setAddByScan;refine wpAny_bind (wpAny_bind (wpAny_rule (wpAny_bind (wpAny_setScan_of hkey ho hd hf hel ?_))));cases hr:List.findIdx? (fun e=>(PySem.strKind prog w).is k e.2) es.toList with
 |some j=>
  dsimp only;obtain⟨hj,hpj,_⟩:=List.findIdx?_eq_some_iff_getElem.mp hr;have hm:k∈ks:=pm.mem_iff.mp ((Oe hs).mpr ⟨_,List.getElem_mem hj,hpj⟩);refine wpAny_pure (wpAny_pure (q false s.heap (Heap.SameBut.refl a s.heap) ?_));rw[if_pos hm];exact⟨o,es,ep,t,ss,ho,hex,hd,hel,hf,hl,hp,hs,pm⟩
 |none=>
  dsimp only;have hm:k∉ks:=fun z=>by
   obtain⟨e,he,hk⟩:=(Oe hs).mp (pm.mem_iff.mpr z);have:=List.findIdx?_eq_none_iff.mp hr e he;exact absurd (hk.symm.trans this) (by decide)
  rw[if_neg hm] at q;have gw:∀(b:Bool) (s₁:Shared) (Q':Unit->Shared->Prop),Q' () s₁->wpAny (model prog w) A (match b with|true=>rule "set.scan.the-table-gave-way"|false=>pure ()) Q' E s₁:=fun b s₁ Q' hq=>by
   cases b
   ·exact wpAny_pure hq
   ·exact wpAny_rule hq
  have lp:=layNew_perm t es ((PySem.strKind prog w).hash k) (.str k tk);have lf:=layNew_fits t es ((PySem.strKind prog w).hash k) (.str k tk);have ll:=Wr t es ((PySem.strKind prog w).hash k) (.str k tk);generalize layNew t es ((PySem.strKind prog w).hash k) (.str k tk)=L at lp lf ll;obtain⟨es1,t1,wd,gave⟩:=L;dsimp only at lp lf ll ⊢;rw[Array.toList_push] at lp;have hel1:ElemsOf (PySem.strKind prog w) es1.toList:=(hel.push hkey rfl).perm lp;have sz1:es1.size=es.size+1:=by rw[<-Array.length_toList,lp.length_eq,List.length_append,Array.length_toList];rfl
  have str1:∃ts,StrsAre (es1.toList.map (·.2)) ts/\ts.Perm (ks++[k]):=by
   have h0:StrsAre ((es.toList++[((PySem.strKind prog w).hash k,Value.str k tk)]).map (·.2)) (ss++[k]):=by
    rw[List.map_append];exact OL hs (.cons k tk .nil)
   obtain⟨ts,y1,y2⟩:=JZ h0 (lp.map (·.2));exact⟨ts,y1,y2.trans (pm.append_right _)⟩
  have fin:∀h' es' ep' t',Heap.SameBut a s.heap h'->h'.get? a=some { o with data:=.set es' ep' t' }->es'.toList.Perm es1.toList->t'.fits es'.size=true->t'.led=t.led->t'.plain=false->EJ prog w h' a (ks++[k]):=fun h' es' ep' t' _ e pe fe le pl=>by
   obtain⟨ts,y1,y2⟩:=str1;obtain⟨us,z1,z2⟩:=JZ y1 (pe.map (·.2));exact⟨_,es',ep',t',us,e,hex,rfl,hel1.perm pe,fe,le.trans hl,fun _=>pl,z1,z2.trans y2⟩
  refine wpAny_bind (gw _ _ _ ?_);refine wpAny_ite_split (fun c=>?_) (fun c=>?_)
  ·rw[hashByValue_scannable 8 rfl];refine wpAny_bind (wpAny_pure ?_);refine O9 gw ho hd (by rw[sz1,ln];exact room) (SetTable.fits_plain_off lf) rfl fun h' es' ep' t' sb e pe fe le pl=>wpAny_pure (q true h' sb (fin h' es' ep' t' sb e pe fe (le.trans ll) pl))
  ·refine wpAny_bind (wpAny_pure ?_);have pl1:t1.plain=false:=by simpa using c
   refine O9 gw ho hd (by rw[sz1,ln];exact room) lf pl1 fun h' es' ep' t' sb e pe fe le pl=>wpAny_pure (q true h' sb (fin h' es' ep' t' sb e pe fe (le.trans ll) pl))
def Fd (ss:List Str):List Str:=ss.foldl (fun ks k=>if k∈ks then ks else ks++[k]) []
theorem Oi (ss:List Str):(Fd ss).length<=ss.length:=by
 have z:∀(l ks:List Str),(l.foldl (fun ks k=>if k∈ks then ks else ks++[k]) ks).length<=ks.length+l.length:=fun l=>by
  induction l with
  |nil=>intro ks;exact Nat.le_refl _
  |cons k r ih=>
   intro ks;refine Nat.le_trans (ih _) ?_;rw[List.length_cons];dsimp only
   split
   ·omega
   ·rw[List.length_append,List.length_singleton];omega
 have:=z ss [];rw[List.length_nil,Nat.zero_add] at this;exact this
theorem Sk {ss:List Str}{i:Nat}{k:Str}(h:ss[i]?=some k):Fd (ss.take (i+1))=if k∈Fd (ss.take i) then Fd (ss.take i) else Fd (ss.take i)++[k]:=by
 have e:ss.take (i+1)=ss.take i++[k]:=by rw[List.take_add_one,h];rfl
 unfold Fd;rw[e,List.foldl_append];rfl
theorem EJ.keep {h h':Heap}{a:Addr}{ks:List Str}(S:EJ prog w h a ks)(k:∀o,h.get? a=some o->h'.get? a=some o):EJ prog w h' a ks:=let⟨o,es,ep,t,ss,e,r⟩:=S;⟨o,es,ep,t,ss,k o e,r⟩
theorem Ro:∀{vs:List Value} {ss:List Str},StrsAre vs ss->∀(i:Nat) (v:Value),vs[i]?=some v->∃k t,v=.str k t/\ss[i]?=some k
 |_,_,.nil,i,v,h=>by simp at h
 |_,_,.cons x t r,0,v,h=>⟨x,t,by simpa using h.symm,rfl⟩
 |_,_,.cons x t r,i+1,v,h=>Ro r i v h
theorem RT {R:Result->Shared->Prop}{I S:Addr}{fp:List Addr}{vs:List Value}{ss:List Str}{St:Nat->Heap->Prop}(W:Walks prog w A.in1 I fp [I] vs.length (fun i v=>vs[i]?=some v) St)(nS:S∉fp)(hs:StrsAre vs ss)(hb:vs.length+1<scanBound) :
  ∀(k i:Nat) (s:Shared),vs.length-i=k->i<=vs.length->St i s.heap->EJ prog w s.heap S (Fd (ss.take i))->
   (∀h' tk,(∀b o,b∉[S,I]->s.heap.get? b=some o->h'.get? b=some o)->EJ prog w h' S (Fd ss)->R (.ok (.ret .none)) { s with heap:=h',toks:=tk })->codeAny (model prog w) A (.builtin "set.update.loop" ⟨[.ref S,.ref I],[]⟩) R s:=by
 have nI:S∉[I]:=fun z=>nS (W.sub _ z)
 have ln:vs.length=ss.length:=hs.length;intro k
 induction k with
 |zero=>
  intro i s hk hi st T q;have e:i=vs.length:=by omega
  subst e;refine codeAny_builtin PyProof.Rows.F.entry_set_update_loop ?_;rw[Around.under_plainId PyProof.Rows.F.plain_set_update_loop _];refine wpAny_bind (m:=pyNext (.ref I)) (W.done s _ _ st fun h' tk k'=>?_);rw[ln,List.take_length] at T;exact wpAny_pure (q h' tk (fun b o n e=>k' b o (fun z=>n (List.mem_cons_of_mem _ z)) e) (T.keep fun o e=>k' S o nI e))
 |succ k ih=>
  intro i s hk hi st T q;have lt:i<vs.length:=by omega
  refine codeAny_builtin PyProof.Rows.F.entry_set_update_loop ?_;rw[Around.under_plainId PyProof.Rows.F.plain_set_update_loop _];refine wpAny_bind (m:=pyNext (.ref I)) (W.item i s _ _ lt st fun v h' tk hv st' k'=>?_);obtain⟨x,t,rfl,hx⟩:=Ro hs i v hv;refine wpAny_bind (m:=holding [Value.str x t] (setAdd S (.str x t))) (wpAny_holding (OW (T.keep fun o e=>k' S o nI e) ?_ fun b h2 sb T2=>?_))
  ·have:=Oi (ss.take i);rw[List.length_take] at this;omega
  rw[<-Sk hx] at T2;refine wpAny_pure ⟨plainId_quiet PyProof.Rows.F.plain_set_update_loop _,ih (i+1) _ (by omega) lt (W.frame _ _ _ st' fun b hb o e=>?_) T2 fun h3 tk3 k3 T3=>?_⟩
  ·rw[sb.2 b (fun z=>nS (z▸hb))];exact e
  ·refine q h3 tk3 (fun b o n e=>k3 b o n ?_) T3;rw[sb.2 b (fun z=>n (by simp[z]))];exact k' b o (fun z=>n (List.mem_cons_of_mem _ z)) e
theorem Uz (x:Value){Q₁:Value->Shared->Prop}(q:Q₁ (.ref s.heap.objs.size) { s with heap:=s.heap.push { cls:=.type "set",dict:=none,data:=.set #[] 0 (.fresh 0 0 (!BF w)) } }) :
  codeAny (model prog w) A (.call (.builtin "set.__new__") ⟨[.type "set",x],[]⟩) (wants Q₁ E) s:=by
 refine codeAny_of_tree ?_;refine wpAny_bind (m:=checkBuiltinCall "set.__new__" ⟨[.type "set",x],[]⟩) (wpAny_of_eq (PySem.F.newCall_set_1 x) (wpAny_pure ⟨plainId_quiet PySem.F.plain_set_new _,codeAny_builtin PySem.F.entry_set_new ?_⟩));rw[Around.under_plainId PySem.F.plain_set_new _];unfold Builtin.«set.__new__»;unfold Builtin.Frozenset.newClass;have hsub:=sub_set_self;obtain⟨hp,g,d,tk,os⟩:=s;dsimp only
 wp_walk
 refine wpAny_askSetting (wpAny_pure ?_);dsimp only;simp only[newObj];exact wpAny_bind (wpAny_alloc (wpAny_pure (wpAny_pure q)))
end
end L2
namespace L2
section
open PySem PySem.Calls PyProof.Rows
variable {prog:Program}{w:World}{A:Around}{E:Value->Shared->Prop}{s:Shared}
theorem UZ {lq:Addr} {vs:List Value} {ss:List Str} {Q:Value->Shared->Prop} (hh:A.handled=none) (hl:s.heap.IsList lq vs.toArray) (hs:StrsAre vs ss) (hb:vs.length+1<scanBound)
  (q:∀h' tk,(∀b o,s.heap.get? b=some o->h'.get? b=some o)->EJ prog w h' s.heap.objs.size (Fd ss)->Q (.ref s.heap.objs.size) { s with heap:=h',toks:=tk }):wpAny (model prog w) A (call (.type "set") [.ref lq]) Q E s:=by
 obtain⟨c,tl,hmro⟩:=PySem.F.called_set.mro;have hmade:=PySem.F.called_set.made;have hsub:=PySem.F.called_set.sub;refine wpAny_call (codeAny_of_tree (wpAny_pure ⟨Code.quiet_builtin _ (by decide +kernel),codeAny_builtin PySem.F.entry_type_call ?_⟩));rw[Around.under_plain (weight_type_call_type "set" [.ref lq] []) rfl];have h1:=PySem.F.called_set.notType;have h2:=PySem.F.called_set.canCreate;have hct:=PySem.F.typeCall_set_1 (.ref lq)
 repeat (any_goals (first|assumption|wp_step))
 refine codeAny_mono (Uz (.ref lq) (E:=E) (Q₁:=fun obj s₁=>obj=.ref s.heap.objs.size/\s₁={ s with heap:=s.heap.push { cls:=.type "set",dict:=none,data:=.set #[] 0 (.fresh 0 0 (!BF w)) } }) ⟨rfl,rfl⟩) fun r s₁ hr=>?_
 match r,hr with
 | .error e,hr=>exact hr
 | .ok (.ret obj),hr=>
  obtain⟨rfl,rfl⟩:=hr;have hS:(s.heap.push { cls:=.type "set",dict:=none,data:=.set #[] 0 (.fresh 0 0 (!BF w)) }).get? s.heap.objs.size=some { cls:=.type "set",dict:=none,data:=.set #[] 0 (.fresh 0 0 (!BF w)) }:=Heap.get?_push_size _ rfl;have hT:Shared.TypeIs { s with heap:=s.heap.push { cls:=.type "set",dict:=none,data:=.set #[] 0 (.fresh 0 0 (!BF w)) } } (.ref s.heap.objs.size) "set":=⟨_,hS,rfl⟩
  have hli:=PySem.F.called_set.init.lookup;have hbi:=PySem.F.called_set.init.bind (.ref s.heap.objs.size)
  repeat (any_goals (first|assumption|wp_step))
  refine codeAny_mono (codeAny_call_builtin (R:=wants (fun r s₂=>r=.none/\∃h' tk,s₂={ s with heap:=h',toks:=tk }/\(∀b o,s.heap.get? b=some o->h'.get? b=some o)/\EJ prog w h' s.heap.objs.size (Fd ss)) E) PySem.F.called_set.init.plain PySem.F.entry_set_init (check_set_init_1 hT ?_)) fun r₂ s₂ hr₂=>?_
  ·obtain⟨⟨cl,dl,tl,sl⟩,el,hcl,nl,hdl⟩:=hl;simp only at hcl hdl;subst hcl;subst hdl;have el':=Heap.get?_push_of_some ({ cls:=.type "set",dict:=none,data:=.set #[] 0 (.fresh 0 0 (!BF w)) }:Obj) el;have lt:lq<s.heap.objs.size:=Heap.lt_size el;have l1:(s.heap.push { cls:=.type "set",dict:=none,data:=.set #[] 0 (.fresh 0 0 (!BF w)) }).IsList lq vs.toArray:=⟨_,el',rfl,nl,rfl⟩
   have n1:=PySem.F.sub_list_set;have n2:=PySem.F.sub_list_frozenset;have n3:(Value.type "list" == Value.type "dict")=false:=by decide
   unfold Builtin.«set.__init__» Builtin.Frozenset.updateFrom noKeywords;generalize ePI:pyIter=PI
   wp_walk
   subst ePI;refine wpAny_pyIter_list l1 (wpAny_bind (wpAny_runValue ?_));have nI:lq≠(s.heap.push { cls:=.type "set",dict:=none,data:=.set #[] 0 (.fresh 0 0 (!BF w)) }).objs.size:=by rw[Heap.size_push];exact Nat.ne_of_lt (Nat.lt_succ_of_lt lt)
   have nS:s.heap.objs.size∉[(s.heap.push { cls:=.type "set",dict:=none,data:=.set #[] 0 (.fresh 0 0 (!BF w)) }).objs.size,lq]:=by
    rw[Heap.size_push];simp only[List.mem_cons,List.not_mem_nil,or_false,not_or];exact⟨Nat.ne_of_lt (Nat.lt_succ_self _),Nat.ne_of_gt lt⟩
   have hA:A.in1.in1.in1.handled=none:=by simp[hh]
   have W:=Walks.list (prog:=prog) (w:=w) hA (s.heap.push { cls:=.type "set",dict:=none,data:=.set #[] 0 (.fresh 0 0 (!BF w)) }).objs.size lq nI vs.toArray;have W2:Walks prog w A.in1.in1.in1 (s.heap.push { cls:=.type "set",dict:=none,data:=.set #[] 0 (.fresh 0 0 (!BF w)) }).objs.size [(s.heap.push { cls:=.type "set",dict:=none,data:=.set #[] 0 (.fresh 0 0 (!BF w)) }).objs.size,lq] [(s.heap.push { cls:=.type "set",dict:=none,data:=.set #[] 0 (.fresh 0 0 (!BF w)) }).objs.size] vs.length (fun i v=>vs[i]?=some v) (fun i h=>h.IsListIter (s.heap.push { cls:=.type "set",dict:=none,data:=.set #[] 0 (.fresh 0 0 (!BF w)) }).objs.size lq i/\h.IsList lq vs.toArray):=by
    simpa only [List.size_toArray,List.getElem?_toArray] using W
   refine RT W2 nS hs hb vs.length 0 _ (by omega) (Nat.zero_le _) ⟨⟨_,Heap.get?_push_size _ rfl,rfl,rfl⟩,l1.push _⟩ (V2 (!BF w) rfl (Heap.get?_push_of_some _ hS)) fun h' tk k' T=>?_
   refine wpAny_pure (wpAny_pure ⟨rfl,h',tk,rfl,fun b o e=>k' b o (fun z=>?_) (Heap.get?_push_of_some _ (Heap.get?_push_of_some _ e)),T⟩);have lb:=Heap.lt_size e;rw[Heap.size_push] at z;simp only[List.mem_cons,List.not_mem_nil,or_false] at z;rcases z with rfl|rfl
   ·exact absurd lb (Nat.lt_irrefl _)
   ·exact absurd lb (Nat.not_lt.mpr (Nat.le_succ _))
  ·match r₂,hr₂ with
   | .error e,hr₂=>exact hr₂
   | .ok (.ret r),hr₂=>
    obtain⟨rfl,h',tk,rfl,k',T⟩:=hr₂
    repeat (any_goals (first|assumption|wp_step))
    exact q _ _ k' T
   | .ok .next,hr₂=>exact hr₂.elim
end
end L2
namespace L2
section
open PySem PySem.Calls PyProof.Rows
variable {X:Cx}{pins:List (Addr×Obj)}{σ:St}{H:Hp}{s:Shared}
theorem Inv.drew {d':Drawn}(I:Inv X pins σ H s):Inv X pins σ H { s with drawn:=d' }:=⟨I.ok,I.os,I.bare,I.base,I.loc,I.cell,I.free,I.freeC,I.pin,I.hok,I.len⟩
theorem Jw:∀{ss:List Str} {its:List Value},AL (ss.map V.str) its->StrsAre its ss
 |[],_,.nil=>.nil
 |x::r,_,.cons h t=>by
  obtain⟨k,rfl⟩:=h;exact .cons x k (Jw t)
theorem JF:∀{ss:List Str} {its:List Value},StrsAre its ss->AL (ss.map V.str) its
 |_,_,.nil=>.nil
 |_,_,.cons x t h=>.cons ⟨t,rfl⟩ (JF h)
theorem QU:∀{us:List Value} {ss:List Str},us.length=ss.length->(∀(j:Nat) (v:Value),us[j]?=some v->∃k t,v=.str k t/\ss[j]?=some k)->StrsAre us ss
 |[],[],_,_=>.nil
 |[],_::_,h,_=>nomatch h
 |_::_,[],h,_=>nomatch h
 |u::us,k::ss,h,f=>by
  obtain⟨k',t,rfl,e⟩:=f 0 u rfl;cases e;exact .cons _ t (QU (Nat.succ.inj h) fun j v e=>f (j+1) v e)
theorem Oa:∀{kvs:List (Key×V)} {vs:List (Key×Value)},KV kvs vs->vs.map (·.1)=kvs.map (·.1)
 |_,_,.nil=>rfl
 |_,_,.cons h t=>by rw[List.map_cons,List.map_cons,Oa t,h.1]
def SV (P:Program)(w:World)(p:Addr)(ks:List Str):HO:=.ext fun h=>EJ P w h p ks
def X6 (P:Program)(w:World)(K:PySem.W.Frag):List V->Hp->VK->Prop:=fun xs H Q=>∃(a:Addr) (ss:List Str),xs=[.ref a]/\AO K H a (ss.map V.str)/\ss.length<=1000/\∀p,H p=none->Q (.ref p) (upd H p (SV P w p (Fd ss)))
theorem SM {P:Program}{w:World}{K:PySem.W.Frag}(hP:X.prog=P)(hw:X.w=w)(hK:X.K=K)(hc:X.calm=true):DW X (.type "set") (X6 P w K):=by
 subst hP hw hK;intro pins s σ H xs us Q I r h;obtain⟨a,ss,rfl,h1,few,q⟩:=h;obtain⟨u,rfl,ru⟩:=vals1 r;cases ru;obtain⟨its,r1,p1,_⟩:=I.list h1;have hs:=Jw r1;have ln:=hs.length;refine UZ (I.ok.hd hc) p1.isList hs (by rw[ln];unfold scanBound;omega) fun h' tk k T=>⟨.ref s.heap.objs.size,_,I.laid (t':=tk) k (Nat.le_refl _) (?_:Bm X.prog X.w _ h' _ (SV X.prog X.w s.heap.objs.size (Fd ss))),rfl,q _ (I.hok.fresh (Nat.le_refl _))⟩
 exact⟨T,let⟨o,_,_,_,_,e,_⟩:=T;⟨o,e⟩,fun h1 h2 T1 kk=>T1.keep kk⟩
def QD (H:Hp)(ks:List Str)(Q:VK):Prop:=∀ts p,ts.Perm ks->sortedS ts=true->H p=none->Q (.ref p) (upd H p (.lst (ts.map V.str)))
theorem O6 {Q:VK}{ks:List Str}{d':Drawn}{tk:Nat}{h1:Heap}{vs:List Value}{ss:List Str}(I:Inv X pins σ H s)(k:∀b o,s.heap.get? b=some o->h1.get? b=some o)(hs:StrsAre vs ss)(pm:ss.Perm ks)(few:ks.length<64)(q:QD H ks Q) :
  QT (EP X pins σ Q) vs { s with heap:=h1,drawn:=d',toks:=tk }:=by
 have I1:Inv X pins σ H { s with heap:=h1,drawn:=d',toks:=tk }:=(I.drew (d':=d')).kept (t':=tk) k;refine⟨ss,hs,by rw[hs.length,pm.length_eq];exact few,fun h' p out ss' c ho pe so lp k' e=>⟨.ref p,_,I1.laid (t':=tk) k' lp (?_:Bm X.prog X.w _ h' p (.lst (ss'.map V.str))),rfl,q ss' p (pe.trans pm) so (I1.hok.fresh lp)⟩⟩;refine⟨?_,out,c,JF ho,e⟩;rw[List.length_map,pe.length_eq,pm.length_eq,sizeLine_eq];omega
def XT (P:Program)(w:World):List V->Hp->VK->Prop:=fun xs H Q=>∃(a:Addr) (ks:List Str),xs=[.ref a]/\H a=some (SV P w a ks)/\ks.length<64/\QD H ks Q
theorem Qs {P:Program}{w:World}(hP:X.prog=P)(hw:X.w=w)(hc:X.calm=true):DW X (.builtin "sorted") (XT P w):=by
 subst hP hw;intro pins s σ H xs us Q I r h;obtain⟨a,ks,rfl,h1,few,q⟩:=h;obtain⟨u,rfl,ru⟩:=vals1 r;cases ru;obtain⟨T,_⟩:Bm X.prog X.w H s.heap a (SV X.prog X.w a ks):=I.hok a _ h1;obtain⟨o,es,ep,t,ss,e,ex,d,el,f,hl,hp,hs,pm⟩:=T;have ln:es.size=ks.length:=by rw[<-pm.length_eq,<-hs.length,List.length_map,Array.length_toList]
 refine IE (OI (by simpa using I.ok.hd hc) ⟨o,e,ex.1,d⟩ f hl hp (by rw[ln];unfold scanBound;omega) fun h' d' tk vs k pv=>?_);obtain⟨ts,y1,y2⟩:=JZ hs pv;exact O6 I k y1 (y2.trans pm) few q
def Xw:List V->Hp->VK->Prop:=fun xs H Q=>∃(d:Addr) (kvs:List (Key×V)) (ss:List Str),xs=[.ref d]/\H d=some (.dK kvs)/\kvs.map (·.1)=ss.map .inr/\ss.length<64/\QD H ss Q
theorem Qi (hc:X.calm=true):DW X (.builtin "sorted") Xw:=by
 intro pins s σ H xs us Q I r h;obtain⟨d,kvs,ss,rfl,h1,hk,few,q⟩:=h;obtain⟨u,rfl,ru⟩:=vals1 r;cases ru;obtain⟨_,lo,vs,rv,o,es,ep,ho,h2,h3,h4⟩:Bm X.prog X.w H s.heap d (.dK kvs):=I.hok d _ h1;have D:s.heap.DictAt (AU X.prog X.w) d vs ep:=⟨o,es,ho,h2,h3,h4⟩
 have ln:vs.length=ss.length:=by
  have:=congrArg List.length hk;rw[List.length_map,List.length_map] at this;rw[<-this];exact rv.length.symm
 refine IE (KI (PySem.W.kdl_dict (knd:=AU X.prog X.w) (kvs:=vs) (ep:=ep) lo) (by simpa using I.ok.hd hc) D (by rw[ln,sizeLine_eq];omega) fun h' tk us k lu it=>?_);have hs:StrsAre us ss:=by
  refine QU (by rw[lu,ln]) fun j v e=>?_
  obtain⟨ky,x,e1,e2⟩:=it j v e;have e3:(kvs.map (·.1))[j]?=some ky:=by rw[<-Oa rv,List.getElem?_map,e1];rfl
  rw[hk,List.getElem?_map] at e3;cases z:ss[j]? with
  |none=>rw[z] at e3;cases e3
  |some y=>
   rw[z] at e3;injection e3 with e3
   subst e3;obtain⟨t,rfl⟩:=OX e2;exact⟨_,t,rfl,rfl⟩
 exact O6 (d':=s.drawn) I k hs (List.Perm.refl _) few q
end
end L2
namespace L2
open PySem
end L2
namespace L2
open PySem PySem.Spec PyProof.Rows
section
variable {X:Cx}
theorem PF (hu:X.A.units+1<cLine):Il X (compareOp .NotEq) (Yj X.K true):=by
 intro pins s σ H x y v u Q I rx ry h;obtain⟨a,b,xs,rfl,rfl,h1,h2,q⟩:=h;cases rx;cases ry;obtain⟨its,r1,p1,_⟩:=I.list h1;obtain⟨its2,r2,p2,_⟩:=I.list h2;cases r2;cases r1 with
 |nil=>
  exact SeqAt.RcNeAt.lists (A:=X.A) (s:=s) (e:=fun _=>true) p1.isList p2.isList rfl (by omega) (fun j g1 g2=>absurd g1 (by simp)) _ _ _ _ ⟨.bl _,H,I,rfl,q⟩
 |cons r rr=>
  exact SeqAt.RcNeAt.lists_lengths p1.isList p2.isList (by simp) (by omega) _ _ _ _ ⟨.bl _,H,I,rfl,q⟩
end
theorem G0:∀{ns:List Int} {its:List Value},IntsAre its ns->AL (ns.map V.int) its
 |[],_,.nil=>.nil
 |_::_,_,.cons n t h=>.cons ⟨_,rfl⟩ (G0 h)
def Xt (K:PySem.W.Frag):List V->Hp->VK->Prop:=fun xs H Q=>∃(a:Addr) (ns:List Int),xs=[.ref a]/\AO K H a (ns.map V.int)/\ns.length<64/\∀(ms:List Int) (p:Addr),ms.Perm ns->ms.Pairwise (·<=·)->H p=none->Q (.ref p) (upd H p (.lst (ms.map V.int)))
theorem PV {X:Cx}{K:PySem.W.Frag}(hK:X.K=K):DW X (.builtin "sorted") (Xt K):=by
 subst hK;intro pins s σ H xs us Q I r h;obtain⟨a,ns,rfl,h1,few,q⟩:=h;obtain⟨u,rfl,ru⟩:=vals1 r;cases ru;obtain⟨its,r1,p1,_⟩:=I.list h1;have hs:=intsAre_of r1;have hl:=IntsAre.length hs;refine sorted_ints p1.isList hs (by omega) fun out ns' a1 a2 a3=>?_
 obtain⟨e,he⟩:=sortedAll_at s.heap its out;have lp:s.heap.objs.size<=s.heap.objs.size+1:=Nat.le_succ _;refine⟨.ref (s.heap.objs.size+1),_,I.laid (t':=s.toks) (o:=.lst (ns'.map V.int)) (fun b o y=>sortedAll_old y) lp ?_,rfl,q ns' _ a2 a3 (I.hok.fresh lp)⟩;refine⟨?_,out.toList,e,G0 a1,he⟩;rw[List.length_map,a2.length_eq,sizeLine_eq];omega
end L2
namespace L2
section
open PySem PySem.Calls PyProof.Rows
variable {prog:Program}{w:World}{A:Around}{E:Value->Shared->Prop}{s:Shared}{it d:Addr}{i ep:Nat}{es:Array DictEntry}
def Tq (h:Heap)(d:Addr)(es:Array DictEntry)(ep:Nat):Prop:=∃o,h.get? d=some o/\o.ExactDict/\o.data=.dict es ep
theorem Tq.ty (x:Tq s.heap d es ep):s.TypeIs (.ref d) "dict":=let⟨o,ho,hc,_⟩:=x;⟨o,ho,hc.1⟩
theorem Tq.at {h h':Heap}(x:Tq h d es ep)(k:∀o,h.get? d=some o->h'.get? d=some o):Tq h' d es ep:=let⟨o,ho,r⟩:=x;⟨o,k o ho,r⟩
end
end L2
namespace L2
section
open PySem PyProof.Rows
variable {prog:Program}{w:World}{A:Around}{E:Value->Shared->Prop}{s:Shared}{a₀:Array Keyed}
theorem MG:∀(fuel n r:Nat),minRun' fuel n r<=n+r
 |0,_,_=>Nat.le_refl _
 |fuel+1,n,r=>by
  rw[minRun'_succ]
  by_cases h:n<64
  ·rw[if_pos h];exact Nat.le_refl _
  ·rw[if_neg h];have:=MG fuel (n/2) (max r (n%2));omega
theorem OD {st:SortSt}{Q:Option Nat->SortSt->Prop}(h0:IntKeys a₀)(h1:1<=a₀.size)(hB:SBase a₀ st)(up:SortedTo (arrOf st) a₀.size)(h:Q (some a₀.size) st) :
  wpS (model prog w) A E s (countRun' 0 a₀.size) Q st:=by
 rw[countRun0_eq];have one:SortedTo (arrOf st) 1:=fun i j hij hj=>by
  obtain rfl:i=j:=by omega
  exact Int.le_refl _
 refine wpS_bind (wpS_ascLoop h0 (Nat.le_refl _) (Nat.le_refl 1) h1 hB one fun n hn1 hn2 _ hor=>?_);have hn:n=a₀.size:=by
  rcases hor with e|lt
  ·exact e
  ·by_cases e:n=a₀.size
   ·exact e
   ·have:=up (n-1) n (by omega) (by omega);omega
 subst hn;dsimp only;rw[if_pos (by simp)];exact wpS_pure h
theorem Qh {st:SortSt} {Q:Unit->SortSt->Prop} (h0:IntKeys a₀) (hB:SBase a₀ st) (h2:2<=a₀.size) (up:SortedTo (arrOf st) a₀.size)
  (h:∀st',(arrOf st').Perm a₀->failedOf st'=none->SortedTo (arrOf st') a₀.size->Q () st'):wpS (model prog w) A E s sortRuns' Q st:=by
 rw[sortRuns'_eq];refine wpS_bind (wpS_get ?_);have hm:minRun' a₀.size a₀.size 0<=a₀.size:=MG _ _ 0;simp only[hB.size];generalize minRun' a₀.size a₀.size 0=mr at hm;have D:=hB.done up;refine wpS_bind (wpS_mono (wpS_forRange (I:=fun x c st'=>(x=0/\c=(none,0)/\st'=st)\/(0<x/\c=(none,a₀.size)/\SDone a₀ st')) (Q:=fun c st'=>c=(none,a₀.size)/\SDone a₀ st') (fun x c st' _ hx hI=>?_) (fun c st' hI=>?_) (.inl ⟨rfl,rfl,rfl⟩)) fun c st' hc=>?_)
 ·rcases hI with⟨rfl,rfl,rfl⟩|⟨hx1,rfl,hD⟩
  ·dsimp only;rw[if_neg (by omega)];simp only[Nat.sub_zero,Nat.zero_add];refine wpS_bind (OD h0 (by omega) hB up ?_);dsimp only;rw[if_neg (by omega)];refine wpS_bind (wpS_get ?_);have hb:(pendingOf st').back?=none:=by rw[hB.pend];rfl
   rw[hb];dsimp only;exact wpS_bind (wpS_modify (wpS_pure (.inr ⟨by omega,rfl,D⟩)))
  ·dsimp only;rw[if_pos (Nat.le_refl _)];exact wpS_pure ⟨rfl,hD⟩
 ·rcases hI with⟨hx,_⟩|⟨_,hc,hD⟩
  ·omega
  ·exact⟨hc,hD⟩
 ·obtain⟨rfl,hD⟩:=hc;dsimp only;refine wpS_bind (wpS_mono (wpS_forRange (I:=fun _ c st2=>c=(none,())/\st2=st') (Q:=fun c st2=>c=(none,())/\st2=st') (fun x c st2 _ _ hI=>?_) (fun _ _ hh=>hh) ⟨rfl,rfl⟩) fun c st2 hc=>?_)
  ·obtain⟨rfl,rfl⟩:=hI;refine wpS_bind (wpS_get ?_);rw[if_pos (by rw[hD.2.2.1];exact Nat.le_refl 1)];exact wpS_pure ⟨rfl,rfl⟩
  ·obtain⟨rfl,rfl⟩:=hc;exact wpS_pure (h _ hD.1 hD.2.1 hD.2.2.2)
theorem Tv {vs:List Value}{ns:List Int}(hI:IntsAre vs ns)(up:ns.Pairwise (·<=·)):SortedTo (pairsOf vs) (pairsOf vs).size:=by
 have en:=hI.nums;intro i j hij hj;have hjv:j<vs.length:=by rw[pairsOf_size] at hj;exact hj
 have kk:∀k,(hk:k<vs.length)->K (pairsOf vs) k=(vs.map numOf)[k]'(by rw[List.length_map];exact hk):=fun k hk=>by
  rw[K_eq (by rw[pairsOf_size];exact hk)];simp[pairsOf]
 rw[kk i (by omega),kk j hjv];subst en
 by_cases e:i=j
 ·subst e;exact Int.le_refl _
 ·exact List.pairwise_iff_getElem.mp up i j _ _ (by omega)
theorem Vn {a:Addr} {vs:List Value} {ns:List Int} {n:Nat} {P:PySem.Fin->Shared->Prop} (ho:s.heap.get? a=some (seqObj "list" vs.toArray n)) (hI:IntsAre vs ns) (up:vs.length<64\/(vs.length<=sizeLine/\ns.Pairwise (·<=·)))
  (h:∀(out:Array Value) (ns':List Int),IntsAre out.toList ns'->ns'.Perm ns->ns'.Pairwise (·<=·)->P (.done (.ret .none)) { s with heap:=sortedHeap s.heap a vs out }) :
  wpAny (model prog w) A (Builtin.«list.sort» ⟨[.ref a],[]⟩) P E s:=by
 by_cases few:vs.length<64
 ·exact list_sort_tree ho hI few h
 have hz:=(up.resolve_left few).1;have up':=(up.resolve_left few).2;rw[list_sort_plain];have ha:a<s.heap.objs.size:=Heap.lt_size ho;refine wpAny_bind (listItems_at ho rfl (wpAny_bind (listUpdate_at ho rfl ?_)));obtain⟨e1,h1⟩:∃e,(s.heap.update a (Obj.mapSeq fun _=>#[])).get? a=some (seqObj "list" #[] e):=⟨_,get?_update_seq ho (fun _=>#[])⟩
 refine wpAny_bind (seqEpoch_at h1 rfl (wpAny_bind (wpAny_newTuple (wpAny_bind (wpAny_newList (wpAny_holding ?_))))));have n1:a≠(s.heap.update a (Obj.mapSeq fun _=>#[])).objs.size:=by rw[Heap.size_update];exact Nat.ne_of_lt ha
 have n2:a≠((s.heap.update a (Obj.mapSeq fun _=>#[])).push (seqObj "tuple" vs.toArray 0)).objs.size:=by rw[Heap.size_push,Heap.size_update];exact Nat.ne_of_lt (Nat.lt_succ_of_lt ha)
 have h2:(((s.heap.update a (Obj.mapSeq fun _=>#[])).push (seqObj "tuple" vs.toArray 0)).push (seqObj "list" #[] 0)).get? a=some (seqObj "list" #[] e1):=by
  rw[Heap.get?_push_ne _ _ _ n2,Heap.get?_push_ne _ _ _ n1];exact h1
 show wpAny (model prog w) A _ P E { s with heap:=((s.heap.update a (Obj.mapSeq fun _=>#[])).push (seqObj "tuple" vs.toArray 0)).push (seqObj "list" #[] 0) };dsimp only;have hs2:¬vs.toArray.size<2:=by simp;omega
 have ps:=pairsOf_size vs;rw[if_neg hs2,if_neg hs2];obtain⟨v1,v2,rest,rfl⟩:∃v1 v2 rest,vs=v1::v2::rest:=by
  match vs,few with
  |[],q=>exact absurd (by decide) q
  |[_],q=>exact absurd (by show 1<64;decide) q
  |v1::v2::rest,_=>exact⟨v1,v2,rest,rfl⟩
 rw[keyKind_ints hI];refine wpAny_bind (wpAny_pure (wpAny_bind (wpAny_mono (Qh (a₀:=pairsOf (v1::v2::rest)) (st:=SortSt.mk' oneType' ((v1::v2::rest).toArray.zip (v1::v2::rest).toArray) #[] 7 none)
  (Q:=fun _ st'=>(arrOf st').Perm (pairsOf (v1::v2::rest))/\failedOf st'=none/\SortedTo (arrOf st') (pairsOf (v1::v2::rest)).size)
  hI.intKeys ⟨Array.Perm.refl _,rfl,rfl,rfl⟩ (by rw[ps];simp) (Tv hI up') fun st' a1 a2 a3=>⟨a1,a2,a3⟩) (fun r s' hr=>?_) fun _ _ e=>e)))
 obtain⟨⟨⟩,st'⟩:=r;obtain⟨rfl,hp,hf,hs⟩:=hr;dsimp only;refine wpAny_bind (seqEpoch_at h2 rfl (wpAny_bind (listUpdate_at h2 rfl ?_ (hsz2:=?_))))
 ·rw[hf];simp only[bne_self_eq_false,Bool.false_eq_true,if_false];obtain⟨ns',g1,g2,g3⟩:=sorted_out hI hp hs;exact wpAny_pure (h _ ns' g1 g2 g3)
 ·rw[Array.size_map,hp.size_eq,ps];exact Nat.le_succ_of_le hz
end
end L2
namespace L2
section
open PySem PySem.Calls PyProof.Rows
variable {prog:Program}{w:World}{A:Around}{E:Value->Shared->Prop}{s:Shared}
def S3 (Q:Value->Shared->Prop)(vs:List Value)(s1:Shared):Prop:=∃ns,IntsAre vs ns/\(vs.length<64\/(vs.length<=sizeLine/\ns.Pairwise (·<=·)))/\
 ∀h' p (out:List Value) ns' c,IntsAre out ns'->ns'.Perm ns->ns'.Pairwise (·<=·)->s1.heap.objs.size<=p->(∀b o,s1.heap.get? b=some o->h'.get? b=some o)->
  h'.get? p=some (seqObj "list" out.toArray c)->Q (.ref p) { s1 with heap:=h' }
theorem Lk {x:Value}{Q:Value->Shared->Prop}(hc:wpAny (model prog w) A.in1 (collect x) (S3 Q) E s):wpAny (model prog w) A (call (.builtin "sorted") [x]) Q E s:=by
 refine Calls.call_function_entry kind_sorted plain_sorted entry_sorted (args_sorted1 x) ?_;unfold Builtin.«sorted»;refine wpAny_bind (m:=checkCount "sorted" 1 1 _) (wpAny_pure (wpAny_bind (wpAny_mono hc (fun vs s1 z=>?_) fun _ _ e=>e)));obtain⟨ns,hI,few,q⟩:=z;have there:(s1.heap.push (seqObj "list" vs.toArray 0)).get? s1.heap.objs.size=some (seqObj "list" vs.toArray 0):=Heap.get?_push_size _ rfl;refine wpAny_bind (wpAny_newList (wpAny_bind (wpAny_holding (wpAny_call_entry slot_list_sort ⟨_,there,rfl⟩ entry_list_sort (Vn there hI few fun out ns' a1 a2 a3=>⟨_,rfl,?_⟩) (args_list_sort _)))));obtain⟨c,hp⟩:=sortedHeap_at (out:=out) there;refine wpAny_pure ⟨_,rfl,q _ _ out.toList ns' c a1 a2 a3 (Nat.le_refl _) (fun b o e=>?_) (by rw[Array.toArray_toList];exact hp)⟩;have lt:=Heap.lt_size e;show Heap.get? _ b=some o;rw[sortedHeap_old (Nat.ne_of_lt lt) (by rw[Heap.size_push];exact Nat.lt_succ_of_lt lt)];exact Heap.get?_push_of_some _ e
end
section
open PySem PySem.Spec PyProof.Rows
variable {X:Cx}
theorem Rf:∀{vs:List Value} {ns:List Int},vs.length=ns.length->(∀(j:Nat) v,vs[j]?=some v->∃n t,ns[j]?=some n/\v=.int n t)->IntsAre vs ns
 |[],[],_,_=>.nil
 |[],_::_,h,_=>by cases h
 |_::_,[],h,_=>by cases h
 |v::vs,n::ns,h,k=>by
  obtain⟨n',t,e,rfl⟩:=k 0 v rfl;cases e;exact .cons _ _ (Rf (by simpa using h) fun j v e=>k (j+1) v (by simpa using e))
def VR:List V->Hp->VK->Prop:=fun xs H Q=>∃(d:Addr) (kvs:List (Key×V)) (ns:List Int),xs=[.ref d]/\H d=some (.dK kvs)/\kvs.map (·.1)=ns.map .inl/\(ns.length<64\/(ns.length<=100000/\ns.Pairwise (·<=·)))/\∀(ms:List Int) (p:Addr),ms.Perm ns->ms.Pairwise (·<=·)->H p=none->Q (.ref p) (upd H p (.lst (ms.map V.int)))
theorem Hs (hc:X.calm=true):DW X (.builtin "sorted") VR:=by
 intro pins s σ H xs us Q I r h;obtain⟨d,kvs,ns,rfl,h1,hk,few,q⟩:=h;obtain⟨u,rfl,ru⟩:=vals1 r;cases ru;obtain⟨_,lo,vs,rv,o,es,ep,ho,h2,h3,h4⟩:Bm X.prog X.w H s.heap d (.dK kvs):=I.hok d _ h1;have D:s.heap.DictAt (AU X.prog X.w) d vs ep:=⟨o,es,ho,h2,h3,h4⟩
 have ln:vs.length=ns.length:=by
  have:=congrArg List.length hk;rw[List.length_map,List.length_map] at this;rw[<-this];exact rv.length.symm
 refine Lk (KI (PySem.W.kdl_dict (knd:=AU X.prog X.w) (kvs:=vs) (ep:=ep) lo) (by simpa using I.ok.hd hc) D (by rw[ln,sizeLine_eq];omega) fun h' tk us k lu it=>?_);have hs:IntsAre us ns:=by
  refine Rf (by rw[lu,ln]) fun j v e=>?_
  obtain⟨ky,x,e1,e2⟩:=it j v e;have e3:(kvs.map (·.1))[j]?=some ky:=by rw[<-Oa rv,List.getElem?_map,e1];rfl
  rw[hk,List.getElem?_map] at e3;cases z:ns[j]? with
  |none=>rw[z] at e3;cases e3
  |some y=>
   rw[z] at e3;injection e3 with e3
   subst e3;obtain⟨t,rfl⟩:=OX e2;exact⟨_,t,rfl,rfl⟩
 have I1:Inv X pins σ H { s with heap:=h',toks:=tk }:=I.kept (t':=tk) k;refine⟨ns,hs,by rw[lu,ln];exact few.imp id fun z=>⟨by rw[sizeLine_eq];omega,z.2⟩,fun h2 p out ns' c a1 a2 a3 lp k2 hp=>⟨.ref p,_,I1.laid (t':=tk) k2 lp (?_:Bm X.prog X.w _ h2 p (.lst (ns'.map V.int))),rfl,q ns' p a2 a3 (I1.hok.fresh lp)⟩⟩;refine⟨?_,out,c,G0 a1,hp⟩;rw[List.length_map,a2.length_eq,sizeLine_eq];omega
theorem Tu {pins:List (Addr×Obj)} {σ:St} {H:Hp} {s:Shared} {a:Addr} {kvs:List (Key×V)} {k:Key} {u r:Value} {z:V} {A:Around} {E:Value->Shared->Prop} {Q:Value->Shared->Prop} (I:Inv X pins σ H s) (e:H a=some (.dK kvs)) (ry:RelV (kV k) u) (rz:RelV z r) (hl:kvs.length<sizeLine)
  (h1:∀v w' s',Bd kvs k=some v->Inv X pins σ H s'->RelV v w'->Q w' s') (h2:Bd kvs k=none->∀s',Inv X pins σ (upd H a (.dK (putK kvs k z))) s'->Q r s'):wpAny (model X.prog X.w) A (call (.builtin "dict.setdefault") [.ref a,u,r]) Q E s:=by
 obtain⟨z0,hd,vs,rel,dd⟩:=Oh I.hok e;have ki:=JR (P:=X.prog) (w:=X.w) ry;cases hv:Bd kvs k with
 |some v=>
  obtain⟨w',hw,rw'⟩:=Fv.some_of (v:=v) (o:=valueAt vs k) (by rw[<-hv];exact rel.val k);refine call_meetsIn PySem.F.slot_dict_setdefault dd.typeIs PySem.F.entry_dict_setdefault (PySem.F.args_dict_setdefault_3 _ _ _) (meets_dict_setdefault (AU X.prog X.w) a ki hd r) ⟨_,dd.mapOf,?_,fun v' e'=>?_,fun e'=>?_⟩
  ·obtain⟨o,es,ep,ho,_,hx,_,hp,_⟩:=id dd;intro o' es' ep' g1 g2;rw[ho] at g1;cases g1;rw[hx] at g2;cases g2;have:=hp.length;rw[Array.length_toList] at this;rw[this,<-rel.length];exact z0
  ·rw[hw] at e';cases e';exact h1 v _ _ hv (I.tok _) rw'
  ·rw[hw] at e';cases e'
 |none=>
  have hn:valueAt vs k=none:=Fv.none_of (by rw[<-hv];exact rel.val k);obtain⟨o,es,ep,ho,hc,hx,hk,hp,nd⟩:=id dd;refine wpAny_call_entry PySem.F.slot_dict_setdefault dd.typeIs PySem.F.entry_dict_setdefault ?_ (PySem.F.args_dict_setdefault_3 _ _ _);refine wpAny_bind (wpAny_bind (wpAny_notOrdered_dict dd.typeIs (wpAny_pure ?_)))
  change wpAny _ _ (if(a == sysModules)=true then _ else(dictSetDefault a u r >>= _)) _ _ s
  rw[if_neg (by rw[hd];exact Bool.false_ne_true)];have le:es.size<=sizeLine:=by
   have:=hp.length;rw[Array.length_toList] at this;rw[this,<-rel.length];exact z0
  have nk:∀kv∈vs,decide (kv.1=k)=false:=fun kv hkv=>by
   cases q:decide (kv.1=k) with
   |false=>rfl
   |true=>
    unfold valueAt at hn;rw[Option.map_eq_none_iff,List.find?_eq_none] at hn;exact absurd q (hn kv hkv)
  have fi:(es.findIdx? fun e=>(AU X.prog X.w).is k e.key)=none:=by
   have h3:(es.toList.findIdx? fun e=>(AU X.prog X.w).is k e.key)=none:=by rw[hp.findIdx k];exact List.findIdx?_eq_none_iff.mpr nk
   obtain⟨l⟩:=es;simpa using h3
  unfold dictSetDefault;refine wpAny_bind (wpAny_holding (wpAny_bind ((AU X.prog X.w).pyHash ki (wpAny_bind (wpAny_dictFind_of (s:={ s with toks:=s.toks+1 }) ki ho hx hk ?_)))));rw[fi];have est:stored vs k r=vs++[(k,r)]:=by
   unfold stored;rw[if_neg fun q=>by obtain⟨kv,h3,h4⟩:=List.any_eq_true.mp q;rw[nk kv h3] at h4;cases h4]
  refine wpAny_bind (wpAny_rule (wpAny_bind (wpAny_updateDictKeys (hz:=le) (s:={ s with toks:=s.toks+1 }) ho hx (wpAny_pure (wpAny_pure ⟨r,rfl,h2 hv _ ?_⟩)))));have hlp:(putK kvs k z).length<=sizeLine:=by have:=HA kvs k z;omega
  refine Ij (I.tok _) (by rw[e];exact True.intro) (Heap.SameBut.update ..) ⟨_,Heap.get?_update_self _ ho (Obj.isFreed_of_dict (Obj.data_mapDictKeys hx _))⟩ (Nt hlp hd (rel.put k rz) ?_);rw[est];refine⟨_,_,ep+1,Heap.get?_update_self _ ho (Obj.isFreed_of_dict (Obj.data_mapDictKeys hx _)),hc.mapDictKeys _,Obj.data_mapDictKeys hx _,hk.push ki _,?_,?_⟩
  ·have:=hp.append ki ((AU X.prog X.w).hash k) r;obtain⟨l⟩:=es;simpa using this
  ·rw[List.map_append];refine List.nodup_append.mpr ⟨nd,by simp,fun x hx y hy h5=>?_⟩;obtain⟨kv,h3,rfl⟩:=List.mem_map.mp hx;have h6:=nk kv h3;rw[decide_eq_false_iff_not] at h6;rw[List.map_cons,List.map_nil,List.mem_singleton] at hy;exact h6 (h5.trans hy)
def XJ (td ty tx:TE):TE:=fun σ H Q=>td σ H fun x H1=>∃a,x=.ref a/\WX H1 a/\ty σ H1 fun y H2=>tx σ H2 fun z H3=>∃kvs k,H3 a=some (.dK kvs)/\y=kV k/\kvs.length<sizeLine/\(∀v,Bd kvs k=some v->Q v H3)/\(Bd kvs k=none->Q z (upd H3 a (.dK (putK kvs k z))))
theorem Ug {o e f:Expr}{td ty tx:TE}{apos cpos:Pos}(ho:PE X o td)(he:PE X e ty)(hf:PE X f tx)(m:M2 X o "setdefault" apos e f cpos):PE X (.Call (.Attribute o "setdefault" apos) [e,f] [] cpos) (XJ td ty tx):=by
 intro pins s σ H Q I h;refine wpAny_Call_method m.base m.few m.line PySem.F.plainAttrs_dict PySem.F.slot_dict_setdefault PySem.F.type_dict_setdefault (Br (ho pins s σ H _ I h) fun u s1 ⟨x,H1,I1,rx,a,ex,d,q1⟩=>?_);subst ex;obtain rfl:u=Value.ref a:=rx;obtain⟨t1,t2,_⟩:=Jb I1 d;refine⟨t1,t2,?_⟩;rw[m.trees];refine Calls.callWith_builtin rfl (Calls.evalArgs_plain (Calls.spliced_cons (Br (he pins s1 σ H1 _ I1 q1) fun iv s2 ⟨y,H2,I2,ry,q2⟩=>Calls.spliced_cons (Br (hf pins s2 σ H2 _ I2 q2) fun r s3 ⟨z,H3,I3,rz,kvs,k,hd,ey,hl,q3,q4⟩=>Calls.spliced_nil ?_))));subst ey;exact Tu I3 hd ry rz hl (fun v w' s' hv I' rw'=>⟨v,H3,I',rw',q3 v hv⟩) fun hv s' I'=>⟨z,_,I',rz,q4 hv⟩
end
section
open PySem PySem.Calls PyProof.Rows
variable {prog:Program}{w:World}{A:Around}{E:Value->Shared->Prop}{I S:Addr}{fp wr:List Addr}{n:Nat}{P:Nat->Value->Prop}{St:Nat->Heap->Prop}{bt:Nat->Nat->Bool}{d:Value}{R:Result->Shared->Prop}
def XG (P:Nat->Value->Prop)(bt:Nat->Nat->Bool)(i:Nat)(arr:List Value):Prop:=(arr=[]/\i=0)\/∃v,arr=[v,v]/\0<i/\P (argBest bt (i-1)) v
theorem R6 (W:Walks prog w A.in1 I fp wr n P St)(hcmp:CmpOf prog w A.in1 .Gt P bt)(hSf:S∉fp):∀(k i:Nat) (s:Shared) (arr:List Value) (c:Nat),i+k=n->St i s.heap->s.heap.get? S=some { cls:=.type "list",dict:=none,data:=.seq arr.toArray c,slots:=#[] }->XG P bt i arr->
  (∀r h' tk,(n=0/\r=d\/0<n/\P (argBest bt (n-1)) r)->(∀b o,b∉wr->b≠S->s.heap.get? b=some o->h'.get? b=some o)->R (.ok (.ret r)) { s with heap:=h',toks:=tk })->
  codeAny (model prog w) A (.builtin "max.loop" ⟨[.ref I,.none,.ref S],[("default",d)]⟩) R s:=by
 have hSw:S∉wr:=fun h=>hSf (W.sub _ h)
 intro k
 induction k with
 |zero=>
  intro i s arr c hk hst hS hb hR;cases(show i=n by omega);refine codeAny_builtin PySem.F.entry_max_loop ?_;rw[Around.under_plainId PySem.F.plain_max_loop _];refine wpAny_bind (m:=seqItems? (.ref S)) (wpAny_seqItems hS rfl (wpAny_bind (wpAny_tryCatch (W.done s _ _ hst fun h' tk k'=>?_))));rcases hb with⟨rfl,i0⟩|⟨v,rfl,i0,hv⟩
  ·exact wpAny_bind (wpAny_rule (wpAny_pure (hR d h' tk (.inl ⟨i0,rfl⟩) fun b o hb _ e=>k' b o hb e)))
  ·exact wpAny_bind (wpAny_updateSeq (k' S _ hSw hS) rfl (wpAny_bind (wpAny_letGo (wpAny_pure (hR v _ tk (.inr ⟨i0,hv⟩) fun b o hb hS e=>(Heap.get?_update_other _ _ (Ne.symm hS)).trans (k' b o hb e))))))
 |succ k ih=>
  intro i s arr c hk hst hS hb hR;refine codeAny_builtin PySem.F.entry_max_loop ?_;rw[Around.under_plainId PySem.F.plain_max_loop _];refine wpAny_bind (m:=seqItems? (.ref S)) (wpAny_seqItems hS rfl (wpAny_bind (wpAny_tryCatch (W.item i s _ _ (by omega) hst fun x h' tk hP st' k'=>?_))));have hS':=k' S _ hSw hS;have nm:(toString "max"++toString ".loop":String)="max.loop":=by decide
  have la:arr.toArray.size<=sizeLine:=by
   rw[sizeLine_eq];rcases hb with⟨rfl,_⟩|⟨v,rfl,_⟩
   ·exact Nat.zero_le _
   ·show 2<=_;omega
  have put:∀(tk':Nat),P (argBest bt i) x->wpAny (model prog w) A.in1 (updateSeq S (fun _=>#[x,x])) (fun _ s'=>codeAny (model prog w) A (.builtin "max.loop" ⟨[.ref I,.none,.ref S],[("default",d)]⟩) R s') (fun e s'=>R (.error e) s') { s with heap:=h',toks:=tk' }:=fun tk' hx=>by
   refine wpAny_updateSeq (hz:=la) (s:={ s with heap:=h',toks:=tk' }) hS' rfl (ih (i+1) _ [x,x] _ (by omega) (W.frame _ _ _ st' fun b hb o e=>?_) (Heap.get?_update_self _ hS' rfl) (.inr ⟨x,rfl,Nat.succ_pos _,hx⟩) fun r h2 tk2 hr k2=>?_)
   ·exact(Heap.get?_update_other _ _ (fun z:S=b=>hSf (by rw[z];exact hb))).trans e
   ·exact hR r h2 tk2 hr fun b o hb hbS e=>k2 b o hb hbS ((Heap.get?_update_other _ _ (Ne.symm hbS)).trans (k' b o hb e))
  rcases hb with⟨rfl,i0⟩|⟨v,rfl,i0,hv⟩
  ·subst i0;refine wpAny_bind (wpAny_pure (wpAny_bind (wpAny_mono (put tk hP) (fun _ s' q=>?_) fun _ _ q=>q)));rw[nm];exact wpAny_pure ⟨plainId_quiet PySem.F.plain_max_loop _,q⟩
  ·refine wpAny_bind (wpAny_pure (wpAny_bind (wpAny_tryCatch (wpAny_holding (wpAny_bind (hcmp i (argBest bt (i-1)) x v _ _ _ hP hv (wpAny_bind (wpAny_holding (wpAny_truthy_bool (wpAny_bind (wpAny_letGo (wpAny_pure ?_))))))))))));have ea:argBest bt i=if bt i (argBest bt (i-1)) then i else argBest bt (i-1):=by
    obtain⟨j,rfl⟩:∃j,i=j+1:=⟨i-1,by omega⟩
    rfl
   cases q:bt i (argBest bt (i-1)) with
   |true=>
    rw[q,if_pos rfl] at ea;rw[if_pos rfl];refine wpAny_bind (wpAny_mono (put tk (by rw[ea];exact hP)) (fun _ s' z=>wpAny_bind (wpAny_letGo ?_)) fun _ _ z=>z);rw[nm];exact wpAny_pure ⟨plainId_quiet PySem.F.plain_max_loop _,z⟩
   |false=>
    rw[q,if_neg Bool.false_ne_true] at ea;rw[if_neg Bool.false_ne_true];refine wpAny_bind (wpAny_letGo ?_);rw[nm];refine wpAny_pure ⟨plainId_quiet PySem.F.plain_max_loop _,ih (i+1) _ [v,v] _ (by omega) st' hS' (.inr ⟨v,rfl,Nat.succ_pos _,?_⟩) fun r h2 tk2 hr k2=>hR r h2 tk2 hr fun b o hb hbS e=>k2 b o hb hbS (k' b o hb e)⟩;show P (argBest bt i) v;rw[ea];exact hv
theorem Vy (l:Addr)(d:Value):checkBuiltinCall "max" ⟨[.ref l],[("default",d)]⟩=pure ():=by kernel_rfl
theorem R4 {l:Addr} {items:Array Value} {Q:Value->Shared->Prop} {s:Shared} (hh:A.handled=none) (hl:s.heap.IsList l items) (val:Nat->Int) (hval:∀i v,items[i]?=some v->∃t,v=Value.int (val i) t)
  (q:∀r h' tk,(items.size=0/\r=d\/0<items.size/\items[argBest (fun i j=>decide (val j<val i)) (items.size-1)]?=some r)->(∀b o,s.heap.get? b=some o->h'.get? b=some o)->Q r { s with heap:=h',toks:=tk }):wpAny (model prog w) A (call (.builtin "max") [.ref l] [("default",d)]) Q E s:=by
 refine wpAny_call (codeAny_call_builtin PySem.F.plain_max PySem.F.entry_max ?_);rw[Vy];refine wpAny_pure ?_;have nm:(toString "max"++toString ".loop":String)="max.loop":=by decide
 change wpAny _ A.in1 (Builtin.Builtins.bindParams "max" ["key","default"] 0 ⟨[],[("default",d)]⟩ >>= _) _ _ s
 refine wpAny_bind (wpAny_of_eq (show Builtin.Builtins.bindParams "max" ["key","default"] 0 ⟨[],[("default",d)]⟩=pure [none,some d] from rfl) (wpAny_bind (wpAny_pure (wpAny_bind (wpAny_pyIter_list hl ?_)))));refine wpAny_bind (wpAny_newObj_type ?_);rw[nm];have ll:l<s.heap.objs.size:=let⟨_,ho,_⟩:=hl;Heap.lt_size ho;have sz:(s.heap.push { cls:=.type "list_iterator",data:=.fields #[.ref l,.int 0 0] }).objs.size=s.heap.objs.size+1:=Heap.size_push ..;refine wpAny_pure ⟨plainId_quiet PySem.F.plain_max_loop _,R6 (P:=fun i v=>items[i]?=some v) (Walks.list (A:=A.in1) (show A.in1.handled=none from hh) s.heap.objs.size l (Nat.ne_of_lt ll) items) (CmpOf.ints_gt val hval) (S:=(s.heap.push { cls:=.type "list_iterator",data:=.fields #[.ref l,.int 0 0] }).objs.size) ?_ items.size 0 _ [] 0 (Nat.zero_add _) ?_ ?_ (.inl ⟨rfl,rfl⟩) fun r h' tk hr k=>?_⟩
 ·rw[sz];intro z;rcases List.mem_cons.mp z with z|z
  ·exact Nat.succ_ne_self _ z
  ·exact Nat.ne_of_gt (Nat.lt_succ_of_lt ll) (List.mem_singleton.mp z)
 ·refine⟨⟨_,Heap.get?_push_of_some _ (Heap.get?_push_size _ rfl),rfl,rfl⟩,hl.at fun o e=>Heap.get?_push_of_some _ (Heap.get?_push_of_some _ e)⟩
 ·exact Heap.get?_push_size _ rfl
 ·refine q r h' tk hr fun b o e=>k b o ?_ ?_ (Heap.get?_push_of_some _ (Heap.get?_push_of_some _ e))
  ·exact fun z=>Nat.ne_of_lt (Heap.lt_size e) (List.mem_singleton.mp z)
  ·rw[sz];exact Nat.ne_of_lt (Nat.lt_succ_of_lt (Heap.lt_size e))
theorem TY {M:Model} {A:Around} {E:Value->Shared->Prop} {s:Shared} {pos:Pos} {id:String} {args:List (Bool×Sem Value)} {kws:List (Option Str×Sem Value)} {Q:Value->Shared->Prop} (hp:args.any (·.1)=false) (hk:kws.any (·.1.isNone)=false)
  (h:wpAny M A (evalArgs (.builtin id) true args kws) (fun z sz=>wpAny M A (call (.builtin id) z.pos z.kw) Q E sz) E s):wpAny M A (callWith pos (.builtin id) [] args kws) Q E s:=by
 unfold callWith;refine wpAny_bind (wpAny_holding (wpAny_mono h (fun z sz hz=>wpAny_bind (wpAny_standAt ?_)) fun _ _ y=>y));simp only[hp,hk,Bool.or_false];refine wpAny_bind (wpAny_pure (wpAny_bind (wpAny_mono hz (fun v sv hv=>wpAny_bind (wpAny_holding (wpAny_point (wpAny_pure hv)))) fun _ _ y=>y)))
end
section
open PySem PySem.Spec PyProof.Rows PySem.Calls
variable {X:Cx}
def Ka:List Int->Int
 |[]=>0
 |x::l=>l.foldl (fun a b=>if a<b then b else a) x
theorem R5 {l:List Int}(h:l≠[])(x:Int):Ka (l++[x])=if Ka l<x then x else Ka l:=by
 cases l with
 |nil=>exact absurd rfl h
 |cons y l=>
  show(l++[x]).foldl (fun a b=>if a<b then b else a) y=_;rw[List.foldl_append];rfl
theorem MQ (ns:List Int):∀k,k<ns.length->argBest (fun i j=>decide (ns.getD j 0<ns.getD i 0)) k<ns.length/\Ka (ns.take (k+1))=ns.getD (argBest (fun i j=>decide (ns.getD j 0<ns.getD i 0)) k) 0
 |0,h=>by
  cases ns with
  |nil=>exact absurd h (Nat.not_lt_zero _)
  |cons x l=>exact⟨h,rfl⟩
 |k+1,h=>by
  obtain⟨h1,h2⟩:=MQ ns k (by omega);have e:ns.take (k+1+1)=ns.take (k+1)++[ns.getD (k+1) 0]:=by
   rw[List.take_add_one,List.getD_eq_getElem?_getD,List.getElem?_eq_getElem h];rfl
  have ne:ns.take (k+1)≠[]:=fun z=>by
   have:=congrArg List.length z;rw[List.length_take,List.length_nil] at this;omega
  rw[e,R5 ne,h2];show(if decide (_<_)=true then k+1 else _)<_/\_=ns.getD (if decide (_<_)=true then k+1 else _) 0
  by_cases q:ns.getD (argBest (fun i j=>decide (ns.getD j 0<ns.getD i 0)) k) 0<ns.getD (k+1) 0
  ·rw[if_pos q,if_pos (decide_eq_true q)];exact⟨h,rfl⟩
  ·rw[if_neg q,if_neg (by rw[decide_eq_false q];exact Bool.false_ne_true)];exact⟨h1,rfl⟩
theorem Mb:∀{its:List Value} {ns:List Int},IntsAre its ns->∀{i:Nat} {v:Value},its[i]?=some v->∃t,v=Value.int (ns.getD i 0) t
 |_,_,.nil,i,v,h=>by simp at h
 |_,_,.cons n t r,0,v,h=>by simp at h;exact⟨t,h.symm⟩
 |_,_,.cons n t r,i+1,v,h=>Mb r (by simpa using h)
def YB (K:PySem.W.Frag)(ta:TA):TE:=fun σ H Q=>ta σ H fun vs H1=>∃(a:Addr) (ns:List Int),vs=[.ref a]/\AO K H1 a (ns.map V.int)/\Q (.int (Ka ns)) H1
theorem Vv {l:Expr} {ta:TA} {p pos kp cp:Pos} {j} (hc:X.calm=true) (hg:Gl X "max") (hm:X.mg "max"=none) (ha:PA X [l] ta)
  (he:backTo pos (starEach [l] X.env)=(false,eval l X.env)::backTo pos (starEach [] X.env):=by rfl)
  (hpl:(backTo pos (starEach [l] X.env)).any (·.1)=false:=by rfl) :
  PE X (.Call (.Name "max" p) [l] [⟨some "default",.Constant (.int 0) j cp,kp⟩] pos) (YB X.K ta):=by
 intro pins s σ H Q I h;refine wpAny_Call_Name_kw (Km I hg hm Xe (TY hpl rfl ?_));have hsp:=ha pos pins s σ H _ I h;rw[he] at hsp ⊢;refine evalArgs_kwB rfl (Br hsp fun us s1 ⟨vs,H1,I1,r1,q1⟩=>?_);refine kws_cons (wpAny_Constant_int (kws_nil ?_));obtain⟨a,ns,rfl,hq,q⟩:=q1;obtain⟨u,rfl,ru⟩:=vals1 r1;cases ru;have I2:=I1.tok (s1.toks+1);obtain⟨its,rv,p1,hz⟩:=I2.list hq;have hi:=intsAre_of rv;have ln:its.length=ns.length:=IntsAre.length hi;refine R4 (items:=its.toArray) (d:=.int 0 s1.toks) (I2.ok.hd hc) p1.isList (fun i=>ns.getD i 0) (fun i v e=>Mb hi (by simpa using e)) fun r h' tk hr k=>?_
 obtain⟨t,rfl⟩:∃t,r=Value.int (Ka ns) t:=by
  rcases hr with⟨h0,rfl⟩|⟨h0,h1⟩
  ·have:ns=[]:=List.eq_nil_of_length_eq_zero (by rw[<-ln];simpa using h0);subst this;exact⟨_,rfl⟩
  ·have h2:0<ns.length:=by rw[<-ln];simpa using h0
   obtain⟨t,e⟩:=Mb hi (i:=argBest (fun i j=>decide (ns.getD j 0<ns.getD i 0)) (ns.length-1)) (v:=r) (by rw[<-ln];simpa using h1);have:=(MQ ns (ns.length-1) (by omega)).2;rw[show ns.length-1+1=ns.length by omega,List.take_length] at this;exact⟨t,by rw[e,this]⟩
 exact⟨.int (Ka ns),H1,I2.kept (t':=tk) k,⟨t,rfl⟩,q⟩
end
end L2
namespace L2
section
open PySem PySem.Calls PyProof.Rows
variable {prog:Program}{w:World}{A:Around}{E:Value->Shared->Prop}{s:Shared}
theorem OB:entryFor table "dict.update.loop"=some Builtin.«dict.update.loop»:=entryFor_of_tree (by kernel_rfl)
theorem JB:plainId "dict.update.loop"=true:=by decide +kernel
theorem Sv:typeLookup (.type "list") "keys"=pure none:=by rw[typeLookup_type,builtinLookup_eq_fast];kernel_rfl
theorem Nu {a:Addr} {xs:Array Value} {k:Nat} {sl:Array (Option Value)} {Q:Option Value->Shared->Prop} (hx:s.heap.get? a=some { cls:=.type "list",dict:=none,data:=.seq xs k,slots:=sl }) (hA:A.handled=none)
  (h:∀h' tk,(∀b o,s.heap.get? b=some o->h'.get? b=some o)->Q none { s with heap:=h',toks:=tk }):wpAny (model prog w) A (getAttr? (.ref a) "keys") Q E s:=by
 obtain⟨hp,g,d,tk,os⟩:=s;have hT:∀tk',(⟨hp,g,d,tk',os⟩:Shared).TypeIs (.ref a) "list":=fun _=>⟨_,hx,rfl⟩
 have f1:=sub_AttributeError;have f3:=F.slot_list_getattribute.lookup;have f4:=F.slot_list_getattribute.bind (.ref a);have f5:=am_list_getattr_none;unfold getAttr? getAttrBy? getAttrBy
 repeat (any_goals (first|assumption|exact hT _|((with_reducible show wpAny _ _ (call (Value.builtin "list.__getattribute__") _ _) _ _ _);refine call_meets F.slot_list_getattribute (hT _) am_entry_list_getattribute (F.args_list_getattribute_2 _ _) (meets_getattribute_miss_list a xs k sl "keys" _ Sv (by decide +kernel) (by decide +kernel)) ⟨hx,hA,fun h' tk' e hx'=>?_⟩)|wp_step))
 obtain⟨t',u',he⟩:=hx'.there;show wpAny _ _ (getattributeRaised _ _ _ _ _ _ _) _ _ _;unfold getattributeRaised
 repeat (any_goals (first|assumption|wp_step))
 exact h _ _ fun b o e=>hx'.keeps b o e
theorem pair_items {t:Addr}{k v:Value}{Q:List Value->Shared->Prop}(ht:IsTup s.heap t #[k,v])(h:Q [k,v] s):wpAny (model prog w) A (Builtin.Dict.pairItems (.ref t)) Q E s:=by
 obtain⟨o,ho,hc,n,hd⟩:=ht;have hT:s.TypeIs (.ref t) "tuple":=⟨o,ho,hc⟩
 unfold Builtin.Dict.pairItems;refine wpAny_bind (wpAny_typeOf hT ?_);rw[if_pos (by decide)];refine wpAny_bind (m:=seqItems? (.ref t)) ?_;unfold seqItems?;refine wpAny_bind (wpAny_load ho ?_);rw[hd];exact wpAny_pure (wpAny_pure h)
theorem RU {R:Result->Shared->Prop} {I d:Addr} {fp:List Addr} {vs:List Value} {St:Nat->Heap->Prop} {D:Nat->Heap->Prop} {h0:Heap} (W:Walks prog w A.in1 I fp [I] vs.length (fun i v=>vs[i]?=some v) St) (nd:d∉fp)
  (hI:h0.get? I=none) (hd0:h0.get? d=none) (keep:∀i h h',D i h->(∀o,h.get? d=some o->h'.get? d=some o)->D i h')
  (pr:∀i v,vs[i]?=some v->∃t x y,v=.ref t/\IsTup h0 t #[x,y]/\∀(s:Shared) (Q:Unit->Shared->Prop) (E:Value->Shared->Prop),(∀b o,h0.get? b=some o->s.heap.get? b=some o)->D i s.heap->(∀h' tk,D (i+1) h'->Heap.SameBut d s.heap h'->Q () { s with heap:=h',toks:=tk })->wpAny (model prog w) A.in1 (dictSet d x y) Q E s) :
  ∀(k i:Nat) (s:Shared),vs.length-i=k->i<=vs.length->(∀b o,h0.get? b=some o->s.heap.get? b=some o)->St i s.heap->D i s.heap->
   (∀h' tk,(∀b o,b∉[d,I]->s.heap.get? b=some o->h'.get? b=some o)->D vs.length h'->R (.ok (.ret .none)) { s with heap:=h',toks:=tk })->codeAny (model prog w) A (.builtin "dict.update.loop" ⟨[.ref d,.ref I,rawInt i,.none],[]⟩) R s:=by
 have nI:d∉[I]:=fun z=>nd (W.sub _ z)
 intro k
 induction k with
 |zero=>
  intro i s hk hi old st T q;have e:i=vs.length:=by omega
  subst e;refine codeAny_builtin OB ?_;rw[Around.under_plainId JB _];refine wpAny_bind (m:=pyNext (.ref I)) (W.done s _ _ st fun h' tk k'=>?_);refine wpAny_bind (m:=Builtin.Dict.addKeywords d []) (wpAny_pure (wpAny_pure ?_));exact q h' tk (fun b o n e=>k' b o (fun z=>n (List.mem_cons_of_mem _ z)) e) (keep _ _ _ T fun o e=>k' d o nI e)
 |succ k ih=>
  intro i s hk hi old st T q;have lt:i<vs.length:=by omega
  refine codeAny_builtin OB ?_;rw[Around.under_plainId JB _];refine wpAny_bind (m:=pyNext (.ref I)) (W.item i s _ _ lt st fun v h' tk hv st' k'=>?_);obtain⟨t,x,y,rfl,ht,step⟩:=pr i v hv;have old':∀b o,h0.get? b=some o->h'.get? b=some o:=fun b o e=>k' b o (fun z=>by rw[List.mem_singleton.mp z,hI] at e;cases e) (old b o e)
  refine wpAny_bind (wpAny_holding (wpAny_bind (wpAny_tryCatch (pair_items (s:={ s with heap:=h',toks:=tk }) (ht.keeps old') ?_))));refine wpAny_holding (step _ _ _ old' (keep _ _ _ T fun o e=>k' d o nI e) fun h2 tk2 T2 sb=>?_);refine wpAny_pure ⟨plainId_quiet JB _,ih (i+1) _ (by omega) lt (fun b o e=>?_) (W.frame _ _ _ st' fun b hb o e=>?_) T2 fun h3 tk3 k3 T3=>?_⟩
  ·rw[sb.2 b (fun z=>by rw[z,hd0] at e;cases e)];exact old' b o e
  ·rw[sb.2 b (fun z=>nd (z▸hb))];exact e
  ·refine q h3 tk3 (fun b o n e=>k3 b o n ?_) T3;rw[sb.2 b (fun z=>n (by simp[z]))];exact k' b o (fun z=>n (List.mem_cons_of_mem _ z)) e
theorem RN {l:Addr} {vs:List Value} {D:Nat->Heap->Prop} {Q:Value->Shared->Prop} (hh:A.handled=none) (hl:∃n sl,s.heap.get? l=some { cls:=.type "list",dict:=none,data:=.seq vs.toArray n,slots:=sl })
  (keep:∀i h h',D i h->(∀o,h.get? s.heap.objs.size=some o->h'.get? s.heap.objs.size=some o)->D i h')
  (d0:∀h:Heap,h.get? s.heap.objs.size=some { cls:=.type "dict",data:=.dict #[] }->D 0 h)
  (pr:∀i v,vs[i]?=some v->∃t x y,v=.ref t/\IsTup s.heap t #[x,y]/\∀(s1:Shared) (Q:Unit->Shared->Prop) (E:Value->Shared->Prop),(∀b o,s.heap.get? b=some o->s1.heap.get? b=some o)->D i s1.heap->(∀h' tk,D (i+1) h'->Heap.SameBut s.heap.objs.size s1.heap h'->Q () { s1 with heap:=h',toks:=tk })->wpAny (model prog w) A.in1.in1 (dictSet s.heap.objs.size x y) Q E s1)
  (q:∀h' tk,(∀b o,s.heap.get? b=some o->h'.get? b=some o)->D vs.length h'->Q (.ref s.heap.objs.size) { s with heap:=h',toks:=tk }):wpAny (model prog w) A (call (.type "dict") [.ref l]) Q E s:=by
 obtain⟨n,sl,el⟩:=hl;have lt:l<s.heap.objs.size:=Heap.lt_size el;refine callType_codes (Q₁:=fun obj s₁=>obj=.ref s.heap.objs.size/\s₁={ s with heap:=s.heap.push { cls:=.type "dict",data:=.dict #[] } }) PySem.F.kt_called_dict (PySem.F.kt_typeCall_dict_1 _) PySem.F.entry_dict_init (kt_code_dict_new _ ⟨rfl,rfl⟩) ?_
 rintro obj s₁ ⟨rfl,rfl⟩
 have hS:(s.heap.push { cls:=.type "dict",data:=.dict #[] }).get? s.heap.objs.size=some { cls:=.type "dict",data:=.dict #[] }:=Heap.get?_push_size _ rfl;have hT:Shared.TypeIs { s with heap:=s.heap.push { cls:=.type "dict",data:=.dict #[] } } (.ref s.heap.objs.size) "dict":=⟨_,hS,rfl⟩
 have el':=Heap.get?_push_of_some ({ cls:=.type "dict",data:=.dict #[] }:Obj) el;refine⟨hT,PySem.F.args_dict_init_2 _ _,?_⟩;unfold Builtin.«dict.__init__»;refine wpAny_bind ?_;unfold Builtin.Dict.selfAndRest;refine wpAny_bind (wpAny_notOrdered_dict hT ?_);show wpAny _ _ (pure (s.heap.objs.size,[Value.ref l])) _ _ _;refine wpAny_pure ?_;show wpAny _ _ (Builtin.Dict.updateFrom "dict.__init__" s.heap.objs.size (.ref l) [] .none) _ _ _;unfold Builtin.Dict.updateFrom;refine wpAny_bind (wpAny_typeOf (T:="list") ⟨_,el',rfl⟩ ?_);rw[if_pos (by decide)];refine wpAny_bind (Nu (s:={ s with heap:=s.heap.push { cls:=.type "dict",data:=.dict #[] } }) el' (by simp[hh]) fun h1 tk1 k1=>?_);rw[if_pos (show(none:Option Value).isNone=true from rfl)];refine wpAny_bind (wpAny_rule ?_);have el1:=k1 _ _ el';have l1:h1.IsList l vs.toArray:=⟨_,el1,rfl,_,rfl⟩
 refine wpAny_bind (wpAny_pyIter_list (s:={ s with heap:=h1,toks:=tk1 }) l1 ?_);have g1:s.heap.objs.size+1<=h1.objs.size:=Heap.lt_size (k1 _ _ hS);have nI:l≠h1.objs.size:=Nat.ne_of_lt (Nat.lt_of_lt_of_le lt (Nat.le_of_succ_le g1));have W:=Walks.list (prog:=prog) (w:=w) (A:=A.in1.in1) (by simp[hh]) h1.objs.size l nI vs.toArray;have W2:Walks prog w A.in1.in1 h1.objs.size [h1.objs.size,l] [h1.objs.size] vs.length (fun i v=>vs[i]?=some v) (fun i h=>h.IsListIter h1.objs.size l i/\h.IsList l vs.toArray):=by
  simpa only [List.size_toArray,List.getElem?_toArray] using W
 have old1:∀b o,s.heap.get? b=some o->h1.get? b=some o:=fun b o e=>k1 b o (Heap.get?_push_of_some _ e)
 refine wpAny_pure ⟨plainId_quiet JB _,RU (h0:=s.heap) (D:=D) W2 ?_ (Heap.get?_none_of_le (by omega)) (Heap.get?_none_of_le (Nat.le_refl _)) keep pr vs.length 0 _ (by omega) (Nat.zero_le _) (fun b o e=>Heap.get?_push_of_some _ (old1 b o e)) ⟨⟨_,Heap.get?_push_size _ rfl,rfl,rfl⟩,l1.push _⟩ (d0 _ (Heap.get?_push_of_some _ (k1 _ _ hS))) fun h' tk k' T=>⟨rfl,q h' tk (fun b o e=>k' b o (fun z=>?_) (Heap.get?_push_of_some _ (old1 b o e))) T⟩⟩
 ·simp only[List.mem_cons,List.not_mem_nil,or_false,not_or];exact⟨Nat.ne_of_lt (by omega),Nat.ne_of_gt lt⟩
 ·have lb:=Heap.lt_size e;simp only[List.mem_cons,List.not_mem_nil,or_false] at z;rcases z with rfl|rfl
  ·exact absurd lb (Nat.lt_irrefl _)
  ·exact absurd lb (Nat.not_lt.mpr (Nat.le_of_succ_le g1))
open PySem.Spec
def W9 (K:PySem.W.Frag):List V->Hp->VK->Prop:=fun xs H Q=>∃(a:Addr) (ps:List Addr) (kvs:List (List Key×V)),xs=[.ref a]/\AO K H a (ps.map V.ref)/\ps.length=kvs.length/\kvs.length<=100000/\(kvs.map (·.1)).Nodup/\
 (∀(i:Nat) t k v,ps[i]?=some t->kvs[i]?=some (k,v)->∃b,H t=some (.tup [.ref b,v])/\H b=some (.tup (k.map kV)))/\∀d,H d=none->Q (.ref d) (upd H d (.dT kvs))
theorem Rc:∀{ps:List Addr} {its:List Value},AL (ps.map V.ref) its->∀(i:Nat) v,its[i]?=some v->∃t,ps[i]?=some t/\v=.ref t
 |[],_,.nil,i,v,e=>by simp at e
 |t::ps,_,.cons r h,0,v,e=>⟨t,rfl,by cases r;simpa using e.symm⟩
 |t::ps,_,.cons r h,i+1,v,e=>by
  obtain⟨t',a,b⟩:=Rc h i v (by simpa using e);exact⟨t',by simpa using a,b⟩
theorem L6 {α β:Type}{F:α->β->Prop}:∀{l:List α} {m:List β},Paired F l m->∀{y:β},y∈m->∃x,x∈l/\F x y
 |_,_,.nil,_,h=>nomatch h
 |_,_,.cons r t,y,h=>by
  rcases List.mem_cons.mp h with rfl|h
  ·exact⟨_,List.mem_cons_self,r⟩
  ·obtain⟨x,a,b⟩:=L6 t h;exact⟨x,List.mem_cons_of_mem _ a,b⟩
theorem OA {X:Cx}{pins:List (Addr×Obj)}{σ:St}{H:Hp}{s:Shared}(I:Inv X pins σ H s):∀(ps:List Addr) (kvs:List (List Key×V)),ps.length=kvs.length->(∀(i:Nat) t k v,ps[i]?=some t->kvs[i]?=some (k,v)->∃b,H t=some (.tup [.ref b,v])/\H b=some (.tup (k.map kV)))->
  ∃xs:List (List Key×Addr×Value),Paired (fun(p:List Key×V) (q:List Key×Addr×Value)=>p.1=q.1/\H q.2.1=some (.tup (p.1.map kV))/\RelV p.2 q.2.2) kvs xs/\∀(i:Nat) t,ps[i]?=some t->∃q,xs[i]?=some q/\IsTup s.heap t #[.ref q.2.1,q.2.2]
 |[],[],_,_=>⟨[],.nil,fun i t h=>by simp at h⟩
 |[],_::_,h,_=>by cases h
 |_::_,[],h,_=>by cases h
 |t::ps,(k,v)::kvs,ln,hp=>by
  obtain⟨xs,r,a⟩:=OA I ps kvs (by simpa using ln) fun i t k v e1 e2=>hp (i+1) t k v (by simpa using e1) (by simpa using e2)
  obtain⟨b,h1,h2⟩:=hp 0 t k v rfl rfl;obtain⟨_,its,rv,it⟩:=(show Bm X.prog X.w H s.heap t (.tup [.ref b,v]) from I.hok t _ h1)
  cases rv with
  |cons ra rb=>
   cases ra;cases rb with
   |@cons _ wv _ _ rb rc=>
    cases rc;refine⟨(k,b,wv)::xs,.cons ⟨rfl,h2,rb⟩ r,fun i t' e=>?_⟩;cases i with
    |zero=>simp only[List.getElem?_cons_zero,Option.some.injEq] at e;subst e;exact⟨_,rfl,it⟩
    |succ i=>exact a i t' (by simpa using e)
theorem PH {X:Cx}{K:PySem.W.Frag}(hK:X.K=K)(hu:X.A.units+150<cLine)(hc:X.calm=true):DW X (.type "dict") (W9 K):=by
 subst hK;intro pins s σ H xs us Q I r h;obtain⟨a,ps,kvs,rfl,h1,ln,hz,nd,hp,q⟩:=h;obtain⟨u,rfl,ru⟩:=vals1 r;cases ru;obtain⟨its,r1,⟨o1,n1,e1,c1,d1,s1⟩,_⟩:=I.list h1;obtain⟨xs,rx,tx⟩:=OA I ps kvs ln hp;have lx:xs.length=kvs.length:=(Paired.length rx).symm;have kx:xs.map (·.1)=kvs.map (·.1):=by
  clear tx hp nd hz ln lx q
  induction rx with
  |nil=>rfl
  |cons hq _ ih=>rw[List.map_cons,List.map_cons,ih,hq.1]
 have ndx:(xs.map (·.1)).Nodup:=by rw[kx];exact nd
 have li:its.length=ps.length:=by have:=r1.length;rw[List.length_map] at this;exact this.symm
 have ix:∀(i:Nat) v,its[i]?=some v->∃t,ps[i]?=some t/\v=.ref t:=Rc r1;obtain⟨c,dd,da,sl⟩:=o1;simp only at c1 d1 s1;subst c1 d1 s1;refine RN (A:=X.A) (I.ok.hd hc) ⟨n1,_,e1⟩ (D:=fun i h=>∃o es ep,h.get? s.heap.objs.size=some o/\o.ExactDict/\o.data=.dict es ep/\es.toList=(xs.take i).map (entryOfKey (tupleKind (AU X.prog X.w)))) (fun i h h' ⟨o,es,ep,z1,z2⟩ k=>⟨o,es,ep,k o z1,z2⟩) (fun h e=>⟨_,#[],0,e,⟨rfl,rfl,rfl⟩,rfl,rfl⟩) (fun i v e=>?_) fun h' tk k' ⟨o,es,ep,z1,z2,z3,z4⟩=>?_
 ·obtain⟨t,et,rfl⟩:=ix i v e;obtain⟨⟨k,b,wv⟩,eq,ht⟩:=tx i t et;refine⟨t,.ref b,wv,rfl,ht,fun s2 Q2 E2 old ⟨o,es,ep,z1,z2,z3,z4⟩ hQ=>?_⟩;have ky:∀x∈xs,(tupleKind (AU X.prog X.w)).is s2.heap x.1 x.2.1:=fun x hx=>by
   obtain⟨p,hp,e1,e2,_⟩:=L6 rx hx;rw[e1] at e2;obtain⟨o,its,n,y1,y2⟩:=Hx I.hok e2;exact⟨o,its,n,old _ _ y1,y2⟩
  have hm:s2.heap.DictOfH (tupleKind (AU X.prog X.w)) s.heap.objs.size (xs.take i):=⟨o,es,ep,z1,z2,z3,z4,fun x hx=>ky x (List.mem_of_mem_take hx),by rw[List.map_take];exact ndx.sublist (List.take_sublist _ _)⟩
  have no:atKey (xs.take i) k=none:=by
   unfold atKey;rw[Option.map_eq_none_iff,List.find?_eq_none];intro x hx z;have e:=of_decide_eq_true z;obtain⟨j,hj⟩:=List.getElem?_of_mem hx;rw[List.getElem?_take] at hj
   split at hj
   ·next lt=>
    have:=idxH_unique (k:=k) (p:=x.2) ndx (by rw[hj,<-e]) eq;omega
   ·cases hj
  have ts:xs.take (i+1)=xs.take i++[(k,b,wv)]:=by rw[List.take_add_one,eq];rfl
  refine wpAny_dictSet_heap (hsz:=?_) (k:=k) ?_ (ky _ (List.mem_of_getElem? eq)) hm fun h' hm' sb=>hQ _ _ ?_ sb
  ·show X.A.in1.in1.units<cLine;simp only[units_in1];omega
  ·rw[storedH_new no,<-ts] at hm';obtain⟨o,es,ep,y1,y2,y3,y4,_⟩:=hm';exact⟨o,es,ep,y1,y2,y3,y4⟩
  ·rw[List.length_take,sizeLine_eq];omega
 ·have hb:=I.big;rw[li,ln,<-lx,List.take_length] at z4;have nn:∀c ys,H c=some (.tup ys)->(upd H s.heap.objs.size (.dT kvs)) c=some (.tup ys):=fun c ys e=>by rw[Ag (fun z=>by rw[z,I.fresh] at e;cases e)];exact e
  refine⟨.ref s.heap.objs.size,_,I.laid (o:=.dT kvs) k' (Nat.le_refl _) ⟨by rw[sizeLine_eq];omega,?_,xs,Paired.mapP rx fun p q z=>⟨z.1,nn _ _ z.2.1,z.2.2⟩,o,es,ep,z1,z2,z3,z4,ndx⟩,rfl,q _ I.fresh⟩;rw[beq_eq_false_iff_ne];exact Nat.ne_of_gt hb
theorem erase_filter {κ α:Type}[DecidableEq κ]:∀(xs:List (κ×α)) (j:Nat) (k:κ) (p:α),(xs.map (·.1)).Nodup->xs[j]?=some (k,p)->xs.eraseIdx j=xs.filter fun x=>decide (x.1≠k)
 |[],j,k,p,_,h=>by simp at h
 |x::xs,0,k,p,nd,h=>by
  rw[List.map_cons,List.nodup_cons] at nd;have e:x=(k,p):=by simpa using h
  subst e;rw[List.eraseIdx_cons_zero,List.filter_cons_of_neg (by simp)];have e:xs.filter (fun x=>decide (x.1≠k))=xs:=List.filter_eq_self.mpr fun y hy=>by
   have n:y.1≠k:=fun z=>nd.1 (List.mem_map.mpr ⟨y,hy,z⟩)
   simpa using n
  exact e.symm
 |x::xs,j+1,k,p,nd,h=>by
  rw[List.map_cons,List.nodup_cons] at nd;have h':xs[j]?=some (k,p):=by simpa using h
  have n:x.1≠k:=fun z=>nd.1 (by rw[z];exact List.mem_map.mpr ⟨_,List.mem_of_getElem? h',rfl⟩)
  rw[List.eraseIdx_cons_succ,List.filter_cons_of_pos (by simpa using n),erase_filter xs j k p nd.2 h']
theorem MB {α β:Type}(f:α->β):∀(xs:List α) (j:Nat),(xs.map f).eraseIdx j=(xs.eraseIdx j).map f
 |[],_=>rfl
 |_::_,0=>rfl
 |x::xs,j+1=>congrArg (f x :: ·) (MB f xs j)
theorem UC {κ:Type} [DecidableEq κ] {knd:HeapKind prog w κ} {d a:Addr} {xs:List (κ×Addr×Value)} {k:κ} {p:Addr×Value} {Q:Option DictEntry->Shared->Prop} (hu:knd.room A) (hkey:knd.is s.heap k a) (hm:s.heap.DictOfH knd d xs) (hp:atKey xs k=some p) (hz:xs.length<=sizeLine)
  (hQ:∀h' e,e.val=p.2->h'.DictOfH knd d (xs.filter fun x=>decide (x.1≠k))->Heap.SameBut d s.heap h'->Q (some e) { s with heap:=h',toks:=s.toks+knd.draws k }):wpAny (model prog w) A (Builtin.Dict.takeOut d (.ref a)) Q E s:=by
 obtain⟨o,es,ep,ho,hc,hd,he,his,hn⟩:=hm;have hes:es.size<=sizeLine:=by have e:=size_of_entries he;omega
 unfold Builtin.Dict.takeOut
 try with_reducible refine wpAny_holding ?_
 refine wpAny_bind (knd.pyHash hu hkey (wpAny_bind (wpAny_dictFind_heap (s:={ s with toks:=s.toks+knd.draws k }) hu hkey ho hd he his hn (fun no=>?_) fun j q hj=>?_)))
 ·rw[atKey_none_of_get no] at hp;cases hp
 rw[atKey_of_get hn hj] at hp;cases hp;refine wpAny_bind (wpAny_dictEntries (s:={ s with toks:=s.toks+knd.draws k }) ho hd ?_);rw[entry_at he j,hj];refine wpAny_bind (wpAny_updateDictKeys (hz:=hes) (s:={ s with toks:=s.toks+knd.draws k }) ho hd (wpAny_pure (hQ _ _ rfl ⟨_,_,ep+1,Heap.get?_update_self _ ho (Obj.isFreed_of_dict (Obj.data_mapDictKeys hd _)),hc.mapDictKeys _,Obj.data_mapDictKeys hd _,?_,fun x hx=>?_,?_⟩ (Heap.SameBut.update ..))))
 ·rw[<-erase_filter xs j k _ hn hj];simp only[Array.toList_eraseIdxIfInBounds,he];exact MB _ xs j
 ·exact knd.keeps (his x (List.mem_filter.mp hx).1) ho hd (Heap.SameBut.update ..)
 ·exact hn.sublist (List.Sublist.map _ List.filter_sublist)
theorem Re {H:Hp}:∀{kvs:List (List Key×V)} {xs:List (List Key×Addr×Value)},KT H kvs xs->∀k,KT H (C4 kvs k) (xs.filter fun x=>decide (x.1≠k))
 |_,_,.nil,_=>.nil
 |p::kvs,q::xs,.cons r t,k=>by
  have ih:=Re t k;unfold C4 at ih ⊢
  by_cases h:p.1=k
  ·rw[List.filter_cons_of_neg (by simpa using h),List.filter_cons_of_neg (by rw[<-r.1];simpa using h)];exact ih
  ·rw[List.filter_cons_of_pos (by simpa using h),List.filter_cons_of_pos (by rw[<-r.1];simpa using h)];exact .cons r ih
theorem WN {X:Cx} {pins:List (Addr×Obj)} {σ:St} {H:Hp} {s:Shared} {d b:Addr} {kvs:List (List Key×V)} {k:List Key} {v:V} {Q:Value->Shared->Prop} (hu:A.units+1<cLine) (I:Inv X pins σ H s) (e:H d=some (.dT kvs)) (eb:H b=some (.tup (k.map kV))) (l:Bd kvs k=some v)
  (h:∀w' s',Inv X pins σ (upd H d (.dT (C4 kvs k))) s'->RelV v w'->Q w' s'):wpAny (model X.prog X.w) A (call (.builtin "dict.pop") [.ref d,.ref b]) Q E s:=by
 obtain⟨z,hd,xs,rel,dd⟩:=WB I.hok e;obtain⟨w',hw,rw'⟩:=Fv.some_of (v:=v) (o:=(atKey xs k).map (·.2)) (by rw[<-l];exact rel.val k);obtain⟨p,hp,hp2⟩:=Option.map_eq_some_iff.mp hw;have hz:xs.length<=sizeLine:=by rw[<-Paired.length rel];exact z
 refine wpAny_call_entry PySem.F.slot_dict_pop dd.typeIs PySem.F.entry_dict_pop ?_ (PySem.F.args_dict_pop_2 _ _);unfold Builtin.«dict.pop»;refine wpAny_bind ?_;unfold Builtin.Dict.keyAndDefault;refine wpAny_bind (wpAny_notOrdered_dict dd.typeIs ?_);show wpAny _ _ (pure (d,Value.ref b,none)) _ _ s;refine wpAny_pure ?_;dsimp only;obtain⟨o,es,ep,ho,hc,hdd,he,his,hn⟩:=id dd;have hne:es.isEmpty=false:=by
  have:=size_of_entries he;rw[Array.isEmpty_eq_false_iff];intro z;subst z;have:xs=[]:=List.eq_nil_of_length_eq_zero (by simpa using this.symm);subst this;cases hp
 rw[if_neg (by show ¬(keyPart (Value.ref b)).isSome=true;exact Bool.false_ne_true)];refine wpAny_bind (wpAny_dictEntries ho hdd ?_);rw[hne];refine wpAny_bind (wpAny_pure ?_);rw[if_neg Bool.false_ne_true];refine wpAny_bind (UC (tupleKind_room_in1 hu) (Hx I.hok eb) dd hp hz fun h' en ev dd' sb=>?_);simp only[Option.isNone_some,Bool.false_eq_true,if_false];refine wpAny_bind (wpAny_letGo (wpAny_pure ⟨en.val,rfl,h en.val _ ?_ (by rw[ev,hp2];exact rw')⟩));obtain⟨q,es',ep',hq,h2,h3,h4,_,h5⟩:=dd';refine Ij I (by rw[e];exact True.intro) sb ⟨q,hq⟩ ⟨Nat.le_trans (Ov kvs k) z,hd,_,(Re rel k).keeps fun c ys ec=>?_,q,es',ep',hq,h2,h3,h4,h5⟩;rw[Ag (AM ec e (fun z=>nomatch z))];exact ec
def W7 (td ty:TE):TE:=fun σ H Q=>td σ H fun x H1=>∃a,x=.ref a/\WX H1 a/\ty σ H1 fun y H2=>∃kvs k v b,H2 a=some (.dT kvs)/\y=.ref b/\H2 b=some (.tup (k.map kV))/\Bd kvs k=some v/\Q v (upd H2 a (.dT (C4 kvs k)))
theorem U2 {X:Cx}{o e:Expr}{apos cpos:Pos}{td ty:TE}(hu:X.A.units+1<cLine)(ho:PE X o td)(he:PE X e ty)(m:M1 X o "pop" apos e cpos):PE X (.Call (.Attribute o "pop" apos) [e] [] cpos) (W7 td ty):=by
 intro pins s σ H Q I h;refine wpAny_Call_method m.base m.few m.line PySem.F.plainAttrs_dict PySem.F.slot_dict_pop PySem.F.type_dict_pop (Br (ho pins s σ H _ I h) fun u s1 ⟨x,H1,I1,rx,a,ex,d,q1⟩=>?_);subst ex;obtain rfl:u=Value.ref a:=rx;obtain⟨t1,t2,_⟩:=Jb I1 d;refine⟨t1,t2,?_⟩;rw[m.trees];refine Calls.callWith_builtin rfl (Calls.evalArgs_plain (Calls.spliced_cons (Br (he pins s1 σ H1 _ I1 q1) fun iv s2 ⟨y,H2,I2,ry,kvs,k,v,b,ea,ey,eb,l,q2⟩=>Calls.spliced_nil ?_)));subst ey;cases(show iv=Value.ref b from ry);exact WN hu I2 ea eb l fun w' s3 I3 rw'=>⟨v,_,I3,rw',q2⟩
end
end L2
namespace M06
def wsum:Nat->List Int->Int
 |_,[]=>0
 |k,x::xs=>x*((k:Int)+1)+wsum (k+1) xs
def mk (ns:List Int):Int:=wsum 0 ns%2147483647
theorem KJ:∀(xs ys:List Int) (k:Nat),wsum k (xs++ys)=wsum k xs+wsum (k+xs.length) ys
 |[],ys,k=>by simp[wsum]
 |x::xs,ys,k=>by
  rw[List.cons_append,wsum,wsum,KJ xs ys (k+1),List.length_cons,show k+1+xs.length=k+(xs.length+1) by omega];omega
theorem RV {ns:List Int}{i:Nat}(h:i<ns.length):wsum 0 (ns.take (i+1))=wsum 0 (ns.take i)+ns[i]*((i:Int)+1):=by
 rw[List.take_add_one,List.getElem?_eq_getElem h,KJ,List.length_take,Nat.min_eq_left (by omega),Nat.zero_add];simp[wsum]
theorem Sh (ns:List Int):((List.range ns.length).map fun i=>ns.getD i 0*((i:Int)+1)).sum=wsum 0 ns:=by
 have key:∀i,i<=ns.length->((List.range i).map fun i=>ns.getD i 0*((i:Int)+1)).sum=wsum 0 (ns.take i):=by
  intro i
  induction i with
  |zero=>intro _;simp[wsum]
  |succ i ih=>
   intro hi;rw[List.range_succ,List.map_append,List.sum_append,ih (by omega),RV (by omega)];simp[List.getD,List.getElem?_eq_getElem (show i<ns.length by omega)]
 have:=key ns.length (Nat.le_refl _);rw[List.take_of_length_le (Nat.le_refl _)] at this;exact this
def S1 (x:Int):Bool:=decide (0<=x)&&decide (x<=2147483646)
def sound (ns:List Int):Bool:=(!decide (ns=[]))&&(ns.all S1&&decide (ns.getLastD 0=mk ns.dropLast))
theorem Ys (ns:List Int):0<=mk ns/\mk ns<=2147483646:=by
 unfold mk;omega
theorem Wm {x:Int}:S1 x=true↔0<=x/\x<=2147483646:=by simp[S1]
theorem SE {ns:List Int}:sound ns=true↔ns≠[]/\(∀x∈ns,0<=x/\x<=2147483646)/\ns.getLastD 0=mk ns.dropLast:=by
 unfold sound;simp only[Bool.and_eq_true,Bool.not_eq_true',decide_eq_false_iff_not,List.all_eq_true,Wm,decide_eq_true_eq]
theorem N3 {ns:List Int}(h:∀x∈ns,0<=x/\x<=2147483646):sound (ns++[mk ns])=true:=by
 rw[SE];refine⟨by simp,fun x hx=>?_,by simp⟩;rcases List.mem_append.mp hx with hx|hx
 ·exact h x hx
 ·rw[List.mem_singleton.mp hx];exact Ys ns
def co (r:List Int)(i:Nat):Int:=if i+1=r.length then -1 else(i:Int)+1
end M06
namespace M10
end M10
set_option maxHeartbeats 4000000
namespace K26
local macro_rules | `(!$x) => do
  let (f, a) ← match x with | `($f:ident $a*) => pure (f, a) | `($f:ident) => pure (f, #[]) | _ => Lean.Macro.throwUnsupported
  let some (n, m, t) := ([([`Aj, `Aw, `AX, `BO, `Ld], 1, 0, ""), ([`C9, `Fh, `TQ], 2, 0, ""), ([`Al, `BK, `Fk, `K8, `RB, `Rj, `Gp], 3, 0, ""), ([`XM, `An, `Cd, `Fc, `Hh, `LX, `Ak, `BY, `EB, `Bc, `L8, `Nw], 4, 0, ""), ([`Bb], 4, 2, "r"), ([`HH, `AI], 4, 3, "d"), ([`KG], 4, 5, "dd"), ([`FL, `Ah, `NU, `Pt, `EF, `Ql, `SS], 5, 0, ""), ([`AQ], 5, 2, "f"), ([`Ac, `AD], 5, 3, "r"), ([`Wu, `GB, `BH, `L9], 6, 0, ""), ([`Ed], 6, 4, "r"), ([`NW], 6, 4, "rr"), ([`ED, `Hf, `Av, `Uw, `PN, `OM], 7, 0, ""), ([`Xv], 7, 4, "tfd"), ([`AS, `AB, `Ck, `OQ], 8, 0, ""), ([`Cm], 8, 3, "f"), ([`CU, `AA], 8, 4, "f"), ([`Vv], 8, 6, "rr"), ([`TB, `Ug, `UQ], 9, 0, ""), ([`EO], 9, 5, "f"), ([`UV], 9, 7, "rr"), ([`Au, `BL], 9, 9, "ddrr"), ([`JG, `Gh], 10, 0, ""), ([`AN], 10, 7, "drr"), ([`VH], 11, 5, "rr"), ([`DJ], 11, 5, "tr"), ([`N6], 11, 7, "drr"), ([`Ud, `TU], 12, 0, ""), ([`Hd], 12, 11, "rrrrr"), ([`Uo], 13, 7, "d"), ([`A3], 14, 8, "rrr")] : List (List Lean.Name × Nat × Nat × String)).findSome? (fun (l, n) => if l.contains f.getId then some n else none) | Lean.Macro.throwUnsupported
  let u ← `(_)
  let us := Array.replicate n u
  let mut p := #[]
  for c in t.toList.drop (t.length + a.size - m) do
    let v ← if c == 'r' then `(by rfl) else if c == 'd' then `(by decide) else if c == 'f' then `(rfl) else `(by trivial)
    p := p.push v
  `(@$f $us* $a* $p*)
set_option hygiene false
local macro_rules | `(tactic| exists $t) => `(tactic| refine F.ok $t (fun vs H Q E h => ?_) (fun cdv A outer s H vs Q E hr h => ?_))
set_option hygiene true
local macro_rules | `(tactic| trivial) => `(tactic| first | exact .inl rfl | exact .inr rfl | assumption | exact ⟨rfl, rfl, rfl, by decide +kernel, rfl, by decide +kernel, by decide +kernel⟩ | exact L2.Room.mono (by assumption) (by decide))
open PySem L2 M06 M10
theorem J8 : 0 <= sizeLine := small (by decide)
theorem VM : 1 <= sizeLine := small (by decide)
theorem Mp : 2 <= sizeLine := small (by decide)
theorem UX : 3 <= sizeLine := small (by decide)
theorem Ym : 4 <= sizeLine := small (by decide)
def top (i:Nat):Stmt:=PySem.Challenge.pw_stemshelf_k26_counts_through_deeds.main.body.getD i (.Pass ⟨0,0,0,0⟩)
abbrev D1:Stmt:=top 2
theorem OG:FnScope ["thing"] ["thing"] (Ai D1):=by trivial
abbrev C1:Stmt:=top 3
theorem Mr:FnScope ["thing","least","most"] ["thing","least","most"] (Ai C1):=by trivial
abbrev Cu:Stmt:=top 4
theorem LL:FnScope ["thing","many"] ["thing","many"] (Ai Cu):=by trivial
abbrev DC:Stmt:=top 7
theorem Nb:FnScope ["sign"] ["sign"] (Ai DC):=by trivial
abbrev E5:Stmt:=top 8
theorem QB:FnScope ["number"] ["number"] (Ai E5):=by trivial
abbrev EU:Stmt:=top 9
theorem Qn:FnScope ["thing","least","most"] ["thing","least","most"] (Ai EU):=by trivial
abbrev CH:Stmt:=top 24
theorem FE:FnScope ["thing","words","part"] ["thing"] (Ai CH):=by trivial
abbrev D4:Stmt:=top 25
theorem HK:FnScope ["words","reader","thing"] ["words"] (Ai D4):=by trivial
abbrev Bv:Stmt:=inClass (top 26) 0
theorem IP:FnScope ["self","words"] ["self","words"] (Ai Bv):=by trivial
abbrev AY:Stmt:=inClass (top 26) 1
theorem FQ:FnScope ["self"] ["self"] (Ai AY):=by trivial
abbrev A9:Stmt:=inClass (top 26) 2
theorem Hk:FnScope ["self","most"] ["self","most"] (Ai A9):=by trivial
abbrev BN:Stmt:=top 27
theorem El:FnScope ["reader","deep","first","many"] ["reader","deep"] (Ai BN):=by trivial
abbrev Dt:Stmt:=top 28
theorem JP:FnScope ["reader","many"] ["reader"] (Ai Dt):=by trivial
abbrev E4:Stmt:=top 44
theorem Qb:FnScope ["thing"] ["thing"] (Ai E4):=by trivial
abbrev Gr:Stmt:=top 45
theorem RP:FnScope ["thing"] ["thing"] (Ai Gr):=by trivial
abbrev Eb:Stmt:=top 46
theorem Pe:FnScope ["thing"] ["thing"] (Ai Eb):=by trivial
abbrev BX:Stmt:=top 47
theorem KW:FnScope ["thing","level"] ["thing","level"] (Ai BX):=by trivial
abbrev Cv:Stmt:=top 48
theorem Ho:FnScope ["thing","names"] ["thing"] (Ai Cv):=by trivial
abbrev D3:Stmt:=top 49
theorem Om:FnScope ["thing"] ["thing"] (Ai D3):=by trivial
abbrev Gk:Stmt:=top 50
theorem Ig:FnScope ["block","total","number"] ["block"] (Ai Gk):=by trivial
abbrev BW:Stmt:=top 51
theorem Cn:FnScope ["block","told","name","kind","tag"] ["block"] (Ai BW):=by trivial
abbrev EY:Stmt:=top 52
theorem Qj:FnScope ["block"] ["block"] (Ai EY):=by trivial
abbrev EZ:Stmt:=top 53
theorem Pw:FnScope ["block"] ["block"] (Ai EZ):=by trivial
abbrev E6:Stmt:=top 56
theorem Qy:FnScope ["words"] ["words"] (Ai E6):=by trivial
abbrev Gi:Stmt:=top 57
theorem R7:FnScope ["words"] ["words"] (Ai Gi):=by trivial
abbrev D8:Stmt:=top 58
theorem Ky:FnScope ["row","words"] ["row"] (Ai D8):=by trivial
abbrev MJ:Stmt:=top 60
theorem Qz:FnScope ["boards","number","birth","block","row","board"] ["boards","number","birth","block"] (Ai MJ):=by trivial
abbrev E3:Stmt:=top 61
theorem IT:FnScope ["boards","tag","board","block"] ["boards","tag"] (Ai E3):=by trivial
abbrev D2:Stmt:=top 62
theorem KE:FnScope ["boards","board","tag","told"] ["boards","board","tag"] (Ai D2):=by trivial
abbrev Ea:Stmt:=top 63
theorem HD:FnScope ["boards","board","number","row","words"] ["boards","board","number"] (Ai Ea):=by trivial
abbrev BB:Stmt:=inClass (top 65) 0
theorem JA:FnScope ["self","own_tag","block"] ["self","own_tag","block"] (Ai BB):=by trivial
abbrev DB:Stmt:=inClass (top 66) 0
theorem NN:FnScope ["self","boards"] ["self","boards"] (Ai DB):=by trivial
abbrev Ei:Stmt:=inClass (top 66) 1
theorem HI:FnScope ["self","block","birth","found","tag"] ["self","block","birth"] (Ai Ei):=by trivial
abbrev CS:Stmt:=inClass (top 66) 2
theorem Es:FnScope ["self","block","unread","number","found"] ["self","block"] (Ai CS):=by trivial
abbrev Bn:Stmt:=inClass (top 66) 3
theorem IA:FnScope ["self"] ["self"] (Ai Bn):=by trivial
abbrev Dr:Stmt:=inClass (top 66) 4
theorem ES:FnScope ["self","tag","block","cell","same_sum","named"] ["self","tag","block"] (Ai Dr):=by trivial
abbrev Bu:Stmt:=inClass (top 66) 5
theorem Jf:FnScope ["self","folder"] ["self","folder"] (Ai Bu):=by trivial
abbrev BM:Stmt:=inClass (top 66) 6
theorem Gy:FnScope ["self","folder","steps"] ["self","folder"] (Ai BM):=by trivial
abbrev CY:Stmt:=inClass (top 66) 7
theorem Mw:FnScope ["self","tag"] ["self","tag"] (Ai CY):=by trivial
abbrev Ds:Stmt:=inClass (top 66) 8
theorem Jq:FnScope ["self","tag","cell"] ["self","tag"] (Ai Ds):=by trivial
abbrev B3:Stmt:=inClass (top 66) 9
theorem Dg:FnScope ["self","tag","waiting","number","cell"] ["self","tag"] (Ai B3):=by trivial
abbrev C2:Stmt:=inClass (top 66) 10
theorem Da:FnScope ["self","unnamed","number","named","tag"] ["self"] (Ai C2):=by trivial
abbrev Dv:Stmt:=inClass (top 66) 11
theorem NF:FnScope ["self","number"] ["self","number"] (Ai Dv):=by trivial
abbrev BD:Stmt:=inClass (top 66) 12
theorem FA:FnScope ["self","number"] ["self"] (Ai BD):=by trivial
abbrev B0:Stmt:=inClass (top 66) 13
theorem K2:FnScope ["self"] ["self"] (Ai B0):=by trivial
abbrev Ek:Stmt:=inClass (top 66) 14
theorem Of:FnScope ["self","number"] ["self","number"] (Ai Ek):=by trivial
abbrev CM:Stmt:=inClass (top 66) 16
theorem Mg:FnScope ["self","number"] ["self","number"] (Ai CM):=by trivial
abbrev Dy:Stmt:=inClass (top 66) 17
theorem Na:FnScope ["self","number"] ["self","number"] (Ai Dy):=by trivial
abbrev Cb:Stmt:=inClass (top 66) 18
theorem KO:FnScope ["self","number"] ["self","number"] (Ai Cb):=by trivial
abbrev DD:Stmt:=inClass (top 66) 19
theorem Nl:FnScope ["self","number"] ["self","number"] (Ai DD):=by trivial
abbrev Cr:Stmt:=inClass (top 70) 0
theorem L3:FnScope ["self","many"] ["self","many"] (Ai Cr):=by trivial
abbrev Cs:Stmt:=inClass (top 70) 1
theorem L0:FnScope ["self"] ["self"] (Ai Cs):=by trivial
abbrev Ca:Stmt:=inClass (top 70) 2
theorem Hg:FnScope ["self","board","number","row","shelf"] ["self","board","number","row"] (Ai Ca):=by trivial
abbrev Ct:Stmt:=inClass (top 70) 3
theorem HG:FnScope ["self","board","number","row"] ["self","board","number"] (Ai Ct):=by trivial
abbrev BC:Stmt:=inClass (top 70) 7
theorem Jx:FnScope ["self"] ["self"] (Ai BC):=by trivial
abbrev B9:Stmt:=inClass (top 70) 8
theorem KU:FnScope ["self","number"] ["self","number"] (Ai B9):=by trivial
abbrev B2:Stmt:=inClass (top 70) 10
theorem KQ:FnScope ["self","board"] ["self","board"] (Ai B2):=by trivial
abbrev Eh:Stmt:=top 73
theorem CC:FnScope ["_law_cell","_law_many","_law_found","_law_number","_law_k"] ["_law_cell","_law_many"] (Ai Eh):=by trivial
abbrev CZ:Stmt:=top 74
theorem My:FnScope [] [] (Ai CZ):=by trivial
abbrev CW:Stmt:=top 76
theorem Em:FnScope ["_law_row_here","_law_text","_law_k"] ["_law_row_here"] (Ai CW):=by trivial
abbrev Cw:Stmt:=top 77
theorem CL:FnScope ["_law_row_here","_law_some","_law_entries","_law_k","_law_rows","_law_name"] ["_law_row_here","_law_some"] (Ai Cw):=by trivial
abbrev C3:Stmt:=top 78
theorem Eo:FnScope ["_law_row_here","_law_some","_law_level","_law_rows"] ["_law_row_here","_law_some"] (Ai C3):=by trivial
abbrev Dx:Stmt:=top 79
theorem N5:FnScope ["_law_block_here"] ["_law_block_here"] (Ai Dx):=by trivial
abbrev Cq:Stmt:=top 80
theorem Bt:FnScope ["_law_some","_law_held","_law_counts_here","_law_block_here","_law_tag","_law_other"] ["_law_some","_law_held"] (Ai Cq):=by trivial
abbrev Dz:Stmt:=top 81
theorem DG:FnScope ["_law_some","_law_held","_law_gone","_law_counts_here","_law_blocks","_law_waiting","_law_tag"] ["_law_some","_law_held","_law_gone"] (Ai Dz):=by trivial
abbrev CQ:Stmt:=top 82
theorem IG:FnScope ["_law_pool","_law_some","_law_held","_law_counts_here"] ["_law_pool","_law_some","_law_held"] (Ai CQ):=by trivial
abbrev Jz:Stmt:=top 83
theorem Dl:FnScope ["_law_script","_law_boards","_law_pool","_law_some","_law_held","_law_cell","_law_row_here","_law_way","_law_block_here","_law_tag","_law_counts_here"] ["_law_script"] (Ai Jz):=by trivial
structure Txt (K:W.Frag) (mg:Str->Option Value) (Ab:Addr) (Ad:Addr) (Aa:Addr) (Ae:Addr) (XC:Nat->Addr):Prop where
 cl_WordReader:Cls K Ab
 n_WordReader_words:BE K Ab "words"
 n_WordReader_place:BE K Ab "place"
 cl_Boards:Cls K Ad
 n_Boards_shelves:BE K Ad "shelves"
 n_Boards_writes:BE K Ad "writes"
 n_Boards_writes_left:BE K Ad "writes_left"
 cl_TakenCell:Cls K Aa
 n_TakenCell_own_tag:BE K Aa "own_tag"
 n_TakenCell_own_size:BE K Aa "own_size"
 n_TakenCell_named:BE K Aa "named"
 n_TakenCell_times_named:BE K Aa "times_named"
 n_TakenCell_entries_beneath:BE K Aa "entries_beneath"
 n_TakenCell_steps_beneath:BE K Aa "steps_beneath"
 cl_Pool:Cls K Ae
 n_Pool_boards:BE K Ae "boards"
 n_Pool_taken:BE K Ae "taken"
 n_Pool_by_sums:BE K Ae "by_sums"
 n_Pool_draft:BE K Ae "draft"
 n_Pool_first_maybe_free:BE K Ae "first_maybe_free"
 x_Lost:mg "Lost"=some (.ref (XC 0))
 x_NoThing:mg "NoThing"=some (.ref (XC 1))
 b_abs:mg "abs"=none
 b_all:mg "all"=none
 b_bool:mg "bool"=none
 b_dict:mg "dict"=none
 b_enumerate:mg "enumerate"=none
 b_int:mg "int"=none
 b_isinstance:mg "isinstance"=none
 b_len:mg "len"=none
 b_list:mg "list"=none
 b_max:mg "max"=none
 b_min:mg "min"=none
 b_range:mg "range"=none
 b_set:mg "set"=none
 b_sorted:mg "sorted"=none
 b_str:mg "str"=none
 b_sum:mg "sum"=none
 b_tuple:mg "tuple"=none
 c_SIGNS:∃t,mg "SIGNS"=some (.str (PySem.Str.ofString " !\"#$&'()*+,-./0123456789:;<=>?@ABCDEFGHIJKLMNOPQRSTUVWXYZ[\\]^_`abcdefghijklmnopqrstuvwxyz{|}~") t)
 c_MOST_NUMBER:∃t,mg "MOST_NUMBER"=some (.int 999999999 t)
 c_MOST_SIGNS:∃t,mg "MOST_SIGNS"=some (.int 400 t)
 c_MOST_PARTS:∃t,mg "MOST_PARTS"=some (.int 100 t)
 c_MOST_DEEP:∃t,mg "MOST_DEEP"=some (.int 8 t)
 c_NUMBER_WORD:∃t,mg "NUMBER_WORD"=some (.int 0 t)
 c_TEXT_WORD:∃t,mg "TEXT_WORD"=some (.int 1 t)
 c_TUPLE_WORD:∃t,mg "TUPLE_WORD"=some (.int 2 t)
 c_PIECE:∃t,mg "PIECE"=some (.int 0 t)
 c_ROW:∃t,mg "ROW"=some (.int 1 t)
 c_FOLDER:∃t,mg "FOLDER"=some (.int 2 t)
 c_FILE_ENTRY:∃t,mg "FILE_ENTRY"=some (.int 1 t)
 c_FOLDER_ENTRY:∃t,mg "FOLDER_ENTRY"=some (.int 2 t)
 c_NAME_SIGNS:∃t,mg "NAME_SIGNS"=some (.str (PySem.Str.ofString "0123456789abcdefghijklmnopqrstuvwxyz") t)
 c_MOST_NAME_SIGNS:∃t,mg "MOST_NAME_SIGNS"=some (.int 8 t)
 c_MOST_CELL:∃t,mg "MOST_CELL"=some (.int 999999 t)
 c_MOST_BIRTH:∃t,mg "MOST_BIRTH"=some (.int 999999999 t)
 c_SUM_RESTS:∃t,mg "SUM_RESTS"=some (.int 997 t)
 c_MOST_PIECE_SIGNS:∃t,mg "MOST_PIECE_SIGNS"=some (.int 8 t)
 c_MOST_LEVEL:∃t,mg "MOST_LEVEL"=some (.int 9 t)
 c_MOST_TAGS:∃t,mg "MOST_TAGS"=some (.int 8 t)
 c_MOST_ENTRIES:∃t,mg "MOST_ENTRIES"=some (.int 16 t)
 c_MARK_RESTS:∃t,mg "MARK_RESTS"=some (.int 2147483647 t)
 c_LEAST_BOARDS:∃t,mg "LEAST_BOARDS"=some (.int 2 t)
 c_MOST_BOARDS:∃t,mg "MOST_BOARDS"=some (.int 4 t)
abbrev SG:Str:=PySem.Str.ofString " !\"#$&'()*+,-./0123456789:;<=>?@ABCDEFGHIJKLMNOPQRSTUVWXYZ[\\]^_`abcdefghijklmnopqrstuvwxyz{|}~"
theorem Tw:SG.cps.toList.length=94:=by decide +kernel
theorem Q3:SG.length<=sizeLine:=small (by decide +kernel)
theorem VT:∀k:Nat,k<94->PySem.Txt.find SG ⟨#[SG.cps.toList.getD k 0]⟩=(k:Int):=by decide +kernel
theorem Yf {i:Int}(h0:0<=i)(h1:i<94):Kt SG.cps.toList i=some (SG.cps.toList.getD i.toNat 0):=by
 have hk:i.toNat<SG.cps.toList.length:=by rw[Tw];omega
 have q:Kt SG.cps.toList ((i.toNat:Nat):Int)=some (SG.cps.toList.getD i.toNat 0):=JM (by rw[List.getElem?_eq_getElem hk];simp only[List.getD,List.getElem?_eq_getElem hk,Option.getD_some]);have ek:((i.toNat:Nat):Int)=i:=by omega
 rw[ek] at q;exact q
section
variable {P:Program}{w:World}{K:W.Frag}{mg:Str->Option Value}{base:Heap}{f Ab Ad Aa Ae:Addr}{XC:Nat->Addr}{fd:FuncData}
def CI (K:W.Frag):Sp:=fun vs H Q _=>∃v,vs=[v]/\Ok H v/\Q (.bl (Hz H v)) H
theorem Oj (T:Txt K mg Ab Ad Aa Ae XC)(F:Fun K "is_whole" "is_whole" D1 f fd):FnOk P w K mg base Cf 1 f fd ["thing"] (CI K):=by
 exists OG
 ·obtain⟨c,rfl,_⟩:=h;rfl
 obtain⟨v,rfl,ok,q⟩:=h;refine⟨_,(!Al (!An (!ED (!Au Cg (by rfl) T.b_isinstance BA (!Ac (pv 0) (!Ac (!KG rfl T.b_int Th) (!Aj)))) (!FL (!XM (!Au Cg (by rfl) T.b_isinstance BA (!Ac (pv 0) (!Ac (!KG rfl T.b_bool Vh) (!Aj))))))))),?_⟩;exact K3 _ _ (fun R q=>⟨_,rfl,_,_,_,_,rfl,ok.ty K,ok.kit K,q⟩) (fun _ R q=>⟨_,rfl,_,_,_,_,rfl,ok.ty K,ok.kit K,_,rfl,q⟩) q
def Bo (K:W.Frag):Sp:=fun vs H Q _=>∃v a b,vs=[v,.int a,.int b]/\Ok H v/\Q (.bl (Kl a b v)) H
theorem Mu (T:Txt K mg Ab Ad Aa Ae XC)(F:Fun K "is_between" "is_between" C1 f fd)(Bi:Def P w K mg base 1 "is_whole" ["thing"] (CI K)):FnOk P w K mg base Cf 2 f fd ["thing","least","most"] (Bo K):=by
 exists Mr
 ·obtain⟨v,a,b,rfl,_⟩:=h;rfl
 obtain⟨v,a,b,rfl,ok,q⟩:=h;refine⟨_,(!Al (!An (!ED (!AN Bi (by trivial) rfl (!Ac (pv 0) (!Aj))) (!FL (!Ud Rz Rz (pv 1) (pv 0) (pv 2) (by with_unfolding_all rfl)))))),?_⟩;refine K3 (Hz H v) (Kl a b v) (fun R q=>⟨_,rfl,v,rfl,ok,q⟩) (fun hw R q=>?_) ?_
 ·obtain⟨i,rfl⟩:=SW ok hw;refine⟨_,rfl,_,rfl,_,_,rfl,rfl,_,rfl,?_⟩;refine C7 (fun c=>?_) (fun c=>?_)
  ·have e:Kl a b (.int i)=decide (i<=b):=by show(decide (a<=i)&&decide (i<=b))=_;rw[c];rfl
   rw[e] at q;exact⟨_,rfl,_,_,rfl,rfl,q⟩
  ·have e:Kl a b (.int i)=false:=by show(decide (a<=i)&&decide (i<=b))=_;rw[Bool.eq_false_iff.mpr c];rfl
   rw[e] at q;exact q
 ·cases hw:Hz H v with
  |true=>exact q
  |false=>rw[Wa hw] at q;exact q
def BI (t:Str)(z:Str):Bool:=(CA z).all fun c=>decide (c∈CA t)
def He (a b:Int):V->Bool
 | .str z=>decide (a<=(z.length:Int))&&decide ((z.length:Int)<=b)&&BI SG z
 |_=>false
theorem S6 {H:Hp}{v:V}{a b:Int}(h:isA (Iy H v) "str"=false):He a b v=false:=by
 cases v with
 |str z=>exact absurd (show isA "str" "str"=false from h) (by decide)
 |_=>rfl
def GK (K:W.Frag):Sp:=fun vs H Q _=>∃v a b,vs=[v,.int a,.int b]/\Ok H v/\∀H',Ar H H'->Q (.bl (He a b v)) H'
theorem MK (t z:Str):((CA z).map fun c=>V.str ⟨#[c]⟩).map (fun v=>match v with|V.str y=>V.bl (!(Builtin.Str.occurrences t y 0 t.length 1).isEmpty)|_=>V.non)=((CA z).map fun c=>decide (c∈CA t)).map V.bl:=by
 rw[List.map_map,List.map_map];refine List.map_congr_left fun c _=>?_
 show V.bl (!(Builtin.Str.occurrences t ⟨#[c]⟩ 0 t.length 1).isEmpty)=V.bl (decide (c∈CA t));rw[PySem.StrLaws.found_one]
theorem Qu (T:Txt K mg Ab Ad Aa Ae XC)(F:Fun K "is_text" "is_text" EU f fd):FnOk P w K mg base Cf 1 f fd ["thing","least","most"] (GK K):=by
 exists Qn
 ·obtain⟨v,a,b,rfl,_⟩:=h;rfl
 obtain⟨v,a,b,rfl,ok,q⟩:=h;refine⟨_,(!Ah (!AS (@PW.pt _ _ _ (!Hf (!Cd (!BK (!Au Cg (by rfl) T.b_isinstance BA (!Ac (pv 0) (!Ac (!KG rfl T.b_str Tj) (!Aj)))) (by intro _;rfl))) (!Fc (!Cd (!TU Rz Rz (pv 1) (!Au GO (by rfl) T.b_len BG (!Ac (pv 0) (!Aj))) (pv 2) (by with_unfolding_all rfl)))))) (!Al (!An (!Hh))) (!Aw)) (!Al (!An (!Au (Gu rfl) (by rfl) T.b_all JY (!Ac (@Bs _ ["sign"] _ _ _ _ _ _ _ _ _ _ rfl (!LX (pv 0)) (by decide +kernel) (fun C s H fp=>⟨(@Aq _ _ (0) _ (show(["sign"]:List Str).Nodup by decide +kernel) rfl (by trivial) (by trivial)),(!AX),(!CU ML (pv 0) (!HH rfl T.c_SIGNS))⟩) (by intro _;rfl)) (!Aj)))))),?_⟩;refine⟨_,rfl,_,_,_,_,rfl,ok.ty K,ok.kit K,_,rfl,?_⟩;cases hw:isA (Iy H v) "str" with
 |false=>
  refine BS rfl ?_;have:=q H (Ar.refl _);rw[S6 hw] at this;exact this
 |true=>
  refine AR rfl ?_;obtain⟨z,rfl,hz⟩:=Xl ok hw;have zl:=BU z;refine⟨_,rfl,_,rfl,_,rfl,small (by omega),_,_,rfl,rfl,_,rfl,?_⟩;refine C7 (fun c=>?_) (fun c=>?_)
  ·refine⟨_,rfl,_,_,rfl,rfl,_,rfl,?_⟩;refine C7 (fun d=>?_) (fun d=>?_)
   ·have d':decide ((z.length:Int)<=b)=false:=by simpa using d
    have e:He a b (.str z)=false:=by show(decide (a<=(z.length:Int))&&decide ((z.length:Int)<=b)&&BI SG z)=_;rw[d',Bool.and_false];rfl
    have:=q H (Ar.refl _);rw[e] at this;exact this
   ·have d':decide ((z.length:Int)<=b)=true:=by simpa using d
    refine⟨_,rfl,z,rfl,?_⟩;refine comp_map (fun v=>match v with | .str y=>.bl (!(Builtin.Str.occurrences SG y 0 SG.length 1).isEmpty)|_=>.non) HP (by rw[List.length_map];exact Nat.le_trans (Nat.le_of_eq zl) (by omega)) (fun x H' R hx s' hR=>?_) fun l H7 n7 s7 h7=>?_
    ·obtain⟨u,_,rfl⟩:=List.mem_map.mp hx;exact⟨_,rfl,_,_,rfl,rfl,hR H' (Ar.refl _)⟩
    rw[MK] at h7;refine⟨l,_,rfl,AO.of h7,?_⟩;have e:He a b (.str z)=((CA z).map fun c=>decide (c∈CA SG)).all id:=by
     show(decide (a<=(z.length:Int))&&decide ((z.length:Int)<=b)&&BI SG z)=_;unfold BI;rw[c,d',List.all_map];rfl
    have:=q H7 s7;rw[e] at this;exact this
  ·have c':decide (a<=(z.length:Int))=false:=Bool.eq_false_iff.mpr c;have e:He a b (.str z)=false:=by show(decide (a<=(z.length:Int))&&decide ((z.length:Int)<=b)&&BI SG z)=_;rw[c',Bool.false_and];rfl
   have:=q H (Ar.refl _);rw[e] at this;exact⟨_,rfl,this⟩
abbrev NS:Str:=PySem.Str.ofString "0123456789abcdefghijklmnopqrstuvwxyz"
abbrev LN:Str:=PySem.Str.ofString "abcdefghijklmnopqrstuvwxyz0123456789"
theorem UW:(∀c∈CA NS,c∈CA LN)/\∀c∈CA LN,c∈CA NS/\c∈CA SG:=by decide +kernel
def IC:V->Bool
 | .str z=>decide ((1:Int)<=z.length)&&decide ((z.length:Int)<=8)&&BI LN z
 |_=>false
theorem M7 (z:Str):(BI SG z&&BI NS z)=BI LN z:=by
 unfold BI;rw[Bool.eq_iff_iff,Bool.and_eq_true,List.all_eq_true,List.all_eq_true,List.all_eq_true];simp only[decide_eq_true_eq];exact⟨fun h c hc=>UW.1 c (h.2 c hc),fun h=>⟨fun c hc=>(UW.2 c (h c hc)).2,fun c hc=>(UW.2 c (h c hc)).1⟩⟩
theorem SK (v:V):IC v=match v with | .str z=>He 1 8 v&&BI NS z|_=>false:=by
 cases v with
 |str z=>
  show(decide ((1:Int)<=z.length)&&decide ((z.length:Int)<=8)&&BI LN z)=((decide ((1:Int)<=(z.length:Int))&&decide ((z.length:Int)<=8)&&BI SG z)&&BI NS z);rw[<-M7 z];simp only[Bool.and_assoc]
 |_=>rfl
def Ja (K:W.Frag):Sp:=fun vs H Q _=>∃v,vs=[v]/\Ok H v/\∀H',Ar H H'->Q (.bl (IC v)) H'
theorem PD (T:Txt K mg Ab Ad Aa Ae XC)(F:Fun K "is_name" "is_name" E4 f fd)(E8:Def P w K mg base 1 "is_text" ["thing","least","most"] (GK K)):FnOk P w K mg base Cf 2 f fd ["thing"] (Ja K):=by
 exists Qb
 ·obtain⟨v,rfl,_⟩:=h;rfl
 obtain⟨v,rfl,ok,q⟩:=h;refine⟨_,(!Al (!An (!ED (!AN E8 (by trivial) rfl (!Ac (pv 0) (!Ac (!Ak) (!Ac (!AI rfl T.c_MOST_NAME_SIGNS) (!Aj))))) (!FL (!Au (Gu rfl) (by rfl) T.b_all JY (!Ac (@Bs _ ["sign"] _ _ _ _ _ _ _ _ _ _ rfl (!LX (pv 0)) (by decide +kernel) (fun C s H fp=>⟨(@Aq _ _ (0) _ (show(["sign"]:List Str).Nodup by decide +kernel) rfl (by trivial) (by trivial)),(!AX),(!CU ML (pv 0) (!HH rfl T.c_NAME_SIGNS))⟩) (by intro _;rfl)) (!Aj))))))),?_⟩;refine⟨_,rfl,v,1,8,rfl,ok,fun H1 s1=>⟨_,rfl,?_⟩⟩;have en:=SK v;refine C7 (fun c=>?_) (fun c=>?_)
 ·cases v with
  |str z=>
   have hz:z.length<=1000:=ok;have zl:=BU z;refine⟨_,rfl,z,rfl,?_⟩;refine comp_map (fun v=>match v with | .str y=>.bl (!(Builtin.Str.occurrences NS y 0 NS.length 1).isEmpty)|_=>.non) HP (by rw[List.length_map];exact Nat.le_trans (Nat.le_of_eq zl) (by omega)) (fun x H' R hx s' hR=>?_) fun l H7 n7 s7 h7=>?_
   ·obtain⟨u,_,rfl⟩:=List.mem_map.mp hx;exact⟨_,rfl,_,_,rfl,rfl,hR H' (Ar.refl _)⟩
   rw[MK] at h7;refine⟨l,_,rfl,AO.of h7,?_⟩;have e:IC (.str z)=((CA z).map fun c=>decide (c∈CA NS)).all id:=by
    rw[en];show(He 1 8 (.str z)&&BI NS z)=_;rw[c];unfold BI;rw[List.all_map];rfl
   have:=q H7 (s1.trans s7);rw[e] at this;exact this
  |_=>exact absurd (show false=true from c) Bool.false_ne_true
 ·have e:IC v=false:=by
   rw[en];cases v with
   |str z=>show(He 1 8 (.str z)&&BI NS z)=false;rw[Bool.eq_false_iff.mpr c];rfl
   |_=>rfl
  have:=q H1 s1;rw[e] at this;exact this
def Sd (H:Hp)(v:V)(n:Int):Bool:=match v with
 | .ref a=>match H a with
  |some (.tup xs)=>decide ((xs.length:Int)=n)
  |_=>false
 |_=>false
theorem JI {H:Hp}{a:Addr}{xs:List V}{n:Int}(h:H a=some (.tup xs)):Sd H (.ref a) n=decide ((xs.length:Int)=n):=by simp only[Sd,h]
theorem Wh {H:Hp}{v:V}{n:Int}(ok:Ok H v)(h:isA (Iy H v) "tuple"=false):Sd H v n=false:=by
 refine ok.elim (fun e _=>?_) (fun _ e _=>?_) (fun _ e _=>?_) (fun _ e _ _=>?_) (fun a xs e e2 _=>?_) (fun _ _ _ _ e=>?_)
 ·rw[e];rfl
 ·rw[e];rfl
 ·rw[e];rfl
 ·rw[e];rfl
 ·rw[e];simp only[Sd,e2]
 ·rw[e] at h;exact absurd h (by decide)
def CK (K:W.Frag):Sp:=fun vs H Q _=>∃v n,vs=[v,.int n]/\Ok H v/\Q (.bl (Sd H v n)) H
theorem LQ (T:Txt K mg Ab Ad Aa Ae XC)(F:Fun K "is_tuple_of" "is_tuple_of" Cu f fd):FnOk P w K mg base Cf 1 f fd ["thing","many"] (CK K):=by
 exists LL
 ·obtain⟨v,n,rfl,_⟩:=h;rfl
 obtain⟨v,n,rfl,ok,q⟩:=h;refine⟨_,(!Al (!An (!ED (!Au Cg (by rfl) T.b_isinstance BA (!Ac (pv 0) (!Ac (!KG rfl T.b_tuple Ft) (!Aj)))) (!FL (!CU Bh (!Au AK (by rfl) T.b_len BG (!Ac (pv 0) (!Aj))) (pv 1) (AC _)))))),?_⟩;refine K3 (isA (Iy H v) "tuple") (Sd H v n) (fun R q=>⟨_,rfl,_,_,_,_,rfl,ok.ty K,ok.kit K,q⟩) (fun hw R q=>?_) ?_
 ·obtain⟨a,xs,rfl,e⟩:=S8 ok hw;rw[JI e] at q;refine⟨_,rfl,a,xs,rfl,.inr (AW.of e),_,rfl,rfl,?_⟩;rw[Ie,Bool.beq_eq_decide_eq];exact q
 ·cases hw:isA (Iy H v) "tuple" with
  |true=>exact q
  |false=>rw[Wh ok hw] at q;exact q
def C0 (K:W.Frag):Sp:=fun vs H Q _=>∃u:Str,vs=[.str u]/\0<=PySem.Txt.find SG u/\Q (.int (PySem.Txt.find SG u)) H
theorem Ni (T:Txt K mg Ab Ad Aa Ae XC)(F:Fun K "number_of" "number_of" DC f fd):FnOk P w K mg base Cf 1 f fd ["sign"] (C0 K):=by
 exists Nb
 ·obtain⟨u,rfl,_⟩:=h;rfl
 obtain⟨u,rfl,h0,q⟩:=h;refine⟨_,(!Al (!An (!Hd PySem.F.plainAttrs_str PySem.F.slot_str_index PySem.F.type_str_index (S5 rfl) (!HH rfl T.c_SIGNS) (!Ac (pv 0) (!Aj))))),?_⟩;exact⟨rfl,_,rfl,_,_,rfl,rfl,h0,q⟩
def Jl (K:W.Frag):Sp:=fun vs H Q _=>∃i:Int,vs=[.int i]/\0<=i/\i<94/\Q (.str ⟨#[SG.cps.toList.getD i.toNat 0]⟩) H
theorem Py (T:Txt K mg Ab Ad Aa Ae XC)(F:Fun K "sign_of" "sign_of" E5 f fd):FnOk P w K mg base Cf 1 f fd ["number"] (Jl K):=by
 exists QB
 ·obtain⟨u,rfl,_⟩:=h;rfl
 obtain⟨i,rfl,h0,h1,q⟩:=h;refine⟨_,(!Al (!An (!Av Np (!HH rfl T.c_SIGNS) (pv 0) (fun _ _=>rfl)))),?_⟩;exact⟨_,rfl,_,_,_,rfl,rfl,Q3,Yf h0 h1,q⟩
def DF:Nat->Tr->Bool
 |0,_=>false
 |_+1,.int i=>decide (0<=i)&&decide (i<=999999999)
 |_+1,.str z=>decide ((z.length:Int)<=400)&&BI SG z
 |n+1,.tup ts=>decide (ts.length<=100)&&ts.all (DF n)
 |_+1,_=>false
def All:Addr->Prop:=fun _=>True
def NL:Addr->Prop:=fun _=>False
mutual
theorem Cz {H H':Hp}(k:∀c xs,H c=some (.tup xs)->H' c=some (.tup xs)):∀(t:Tr) (v:V),Rep NL H t v->Rep NL H' t v
 | .non,_,h=>h
 | .bl _,_,h=>h
 | .int _,_,h=>h
 | .str _,_,h=>h
 | .tup ts,_,⟨a,vs,e,ha,hr⟩=>⟨a,vs,e,k a _ ha,AV k ts vs hr⟩
 | .lst _,_,⟨_,_,_,fa,_⟩=>fa.elim
theorem AV {H H':Hp}(k:∀c xs,H c=some (.tup xs)->H' c=some (.tup xs)):∀(ts:List Tr) (vs:List V),Ax NL H ts vs->Ax NL H' ts vs
 |[],_,h=>h
 |t::ts,_,⟨v,us,e,h1,h2⟩=>⟨v,us,e,Cz k t v h1,AV k ts us h2⟩
end
theorem Ik {H:Hp}{t:Tr}{v:V}(h:Rep NL H t v):Rep All H t v:=Rep.mono (fun _ z=>z.elim) t v h
mutual
theorem QJ:∀(n:Nat) (t:Tr),DF n t=true->t.ok
 |0,_,h=>nomatch h
 |n+1,.non,h=>nomatch h
 |n+1,.bl _,h=>nomatch h
 |n+1,.int _,_=>trivial
 |n+1,.str z,h=>by
  have h':(decide ((z.length:Int)<=400)&&BI SG z)=true:=h;rw[Bool.and_eq_true,decide_eq_true_eq] at h';show z.length<=1000;omega
 |n+1,.tup ts,h=>by
  have h':(decide (ts.length<=100)&&ts.all (DF n))=true:=h;rw[Bool.and_eq_true,decide_eq_true_eq] at h';exact⟨by omega,Ru n ts h'.2⟩
 |n+1,.lst _,h=>nomatch h
theorem Ru:∀(n:Nat) (ts:List Tr),ts.all (DF n)=true->Tr.oks ts
 |_,[],_=>trivial
 |n,t::ts,h=>by
  rw[List.all_cons,Bool.and_eq_true] at h;exact⟨QJ n t h.1,Ru n ts h.2⟩
end
def idx (c:Nat):Int:=PySem.Txt.find SG ⟨#[c]⟩
theorem IR {c:Nat}(h:c∈CA SG):0<=idx c/\idx c<94/\SG.cps.toList.getD (idx c).toNat 0=c:=by
 obtain⟨k,hk,e⟩:=List.getElem_of_mem (show c∈SG.cps.toList from h);have hk':k<94:=by rw[Tw] at hk;exact hk
 have eg:SG.cps.toList.getD k 0=c:=by simp only[List.getD,List.getElem?_eq_getElem hk,Option.getD_some];exact e
 have:=VT k hk';rw[eg] at this;have ei:idx c=(k:Int):=this;rw[ei];exact⟨by omega,by omega,eg⟩
mutual
def wT:Tr->List Int
 | .int i=>[0,i]
 | .str z=>1::(z.length:Int)::(CA z).map idx
 | .tup ts=>2::(ts.length:Int)::wTs ts
 |_=>[]
def wTs:List Tr->List Int
 |[]=>[]
 |t::ts=>wT t++wTs ts
end
theorem Le:∀(a b:List Tr),wTs (a++b)=wTs a++wTs b
 |[],_=>rfl
 |t::a,b=>by
  show wT t++wTs (a++b)=(wT t++wTs a)++wTs b;rw[Le a b,List.append_assoc]
theorem JH {ts:List Tr}{i:Nat}{t:Tr}(h:ts[i]?=some t):wTs (ts.take (i+1))=wTs (ts.take i)++wT t:=by
 rw[List.take_add_one,h,Le];show wTs (ts.take i)++(wT t++[])=_;rw[List.append_nil]
theorem Xg {ts:List Tr}(i:Nat):(wTs (ts.take i)).length<=(wTs ts).length:=by
 have:=congrArg List.length (Le (ts.take i) (ts.drop i));rw[List.take_append_drop,List.length_append] at this;omega
theorem Vg {ts:List Tr}{i:Nat}{t:Tr}(h:ts[i]?=some t):(wTs (ts.take i)).length+(wT t).length<=(wTs ts).length:=by
 have:=Xg (ts:=ts) (i+1);rw[JH h,List.length_append] at this;exact this
theorem K7 {n:Nat}{z:Str}(h:DF n (.str z)=true):z.length<=400/\∀c∈CA z,c∈CA SG:=by
 cases n with
 |zero=>cases h
 |succ n=>
  have h':(decide ((z.length:Int)<=400)&&BI SG z)=true:=h;rw[Bool.and_eq_true,decide_eq_true_eq] at h';refine⟨by omega,fun c hc=>?_⟩;have:=List.all_eq_true.mp h'.2 c hc;simpa using this
theorem DV {n:Nat}{ts:List Tr}(h:DF (n+1) (.tup ts)=true):ts.length<=100/\∀(i:Nat) t,ts[i]?=some t->DF n t=true:=by
 have h':(decide (ts.length<=100)&&ts.all (DF n))=true:=h;rw[Bool.and_eq_true,decide_eq_true_eq] at h';exact⟨h'.1,fun i t ht=>List.all_eq_true.mp h'.2 t (List.mem_of_getElem? ht)⟩
theorem UA (ts:List Tr):wT (.tup ts)=2::(ts.length:Int)::wTs ts:=rfl
theorem XB (z:Str):wT (.str z)=1::(z.length:Int)::(CA z).map idx:=rfl
def QV (n:Nat)(K:W.Frag):Sp:=fun vs H Q _=>∃(v:V) (t:Tr),vs=[v]/\Rep NL H t v/\DF n t=true/\(wT t).length<=900000/\∀l H',Ar H H'->H l=none->H' l=some (.lst ((wT t).map V.int))->Q (.ref l) H'
def FF (K:W.Frag):Sp:=QV 8 K
theorem Ws (T:Txt K mg Ab Ad Aa Ae XC)(F:Fun K "words_of" "words_of" CH f fd)(Bi:Def P w K mg base 1 "is_whole" ["thing"] (CI K))(Bl:Def P w K mg base 1 "number_of" ["sign"] (C0 K))(n:Nat)(CD:Def P w K mg base (1+n) "words_of" ["thing"] (QV n K)):FnOk P w K mg base Cf (1+n+1) f fd ["thing"] (QV (n+1) K):=by
 exists FE
 ·obtain⟨v,t,rfl,_⟩:=h;rfl
 obtain⟨v,t,rfl,hv,ht,hw,q⟩:=h;have ok:=QJ _ _ ht;have okv:=(Ik hv).ok ok;have ety:=(Ik hv).tyN;refine⟨_,(!Ah (!AS (!BK (!AN Bi (hr.mono (by omega)) rfl (!Ac (pv 0) (!Aj))) (by intro _;rfl)) (!Al (!An (!BY (!Ac (!AI rfl T.c_NUMBER_WORD) (!Ac (pv 0) (!Aj)))))) (!Aw)) (!Ah (!AS (!BK (!Au Cg (by rfl) T.b_isinstance BA (!Ac (pv 0) (!Ac (!KG rfl T.b_str Tj) (!Aj)))) (by intro _;rfl)) (!Al (!An (!AB NT (!BY (!Ac (!AI rfl T.c_TEXT_WORD) (!Ac (!Au GO (by rfl) T.b_len BG (!Ac (pv 0) (!Aj))) (!Aj)))) (@Bs _ ["sign"] _ _ _ _ _ _ _ _ _ _ rfl (!LX (pv 0)) (by decide +kernel) (fun C s H fp=>⟨(@Aq _ _ (0) _ (show(["sign"]:List Str).Nodup by decide +kernel) rfl (by trivial) (by trivial)),(!AX),(!AN Bl (hr.mono (by omega)) rfl (!Ac (pv 0) (!Aj)))⟩) (by intro _;rfl))))) (!Aw)) (!Ah (@AG _ _ (1) _ _ _ _ FE.nd rfl (by trivial) (!BY (!Ac (!AI rfl T.c_TUPLE_WORD) (!Ac (!Au AK (by rfl) T.b_len BG (!Ac (pv 0) (!Aj))) (!Aj)))) (by rfl) (by trivial)) (!Ah (!Ck PassesOwn.never rfl (!EB (pv 0)) (@Aq _ _ (2) _ FE.nd rfl (by trivial) (by trivial)) (!Al (!Bb (!Hd PySem.F.plainAttrs_list PySem.F.slot_list_extend PySem.F.type_list_extend Iu (pv 1) (!Ac (!AN CD (hr.mono (by omega)) rfl (!Ac (pv 2) (!Aj))) (!Aj))))) (by intro _;rfl)) (!Al (!An (pv 1))))))),?_⟩;refine⟨_,rfl,v,rfl,okv,_,rfl,?_⟩;cases t with
 |int i=>
  cases(show v=V.int i from hv);refine BS rfl ?_;exact⟨_,rfl,Mp,fun l hl=>q l _ (Am hl _) hl Af⟩
 |str z=>
  cases(show v=V.str z from hv);obtain⟨zl,zs⟩:=K7 ht;have zc:=BU z;refine AR rfl ?_;refine⟨_,rfl,_,_,_,_,rfl,okv.ty K,okv.kit K,_,rfl,BS (by rw[ety];show isA "str" "str"=true;decide) ?_⟩;refine⟨_,rfl,_,rfl,small (by omega),Mp,fun p1 hp1=>?_⟩;refine⟨_,rfl,z,rfl,?_⟩;refine comp_map (fun v=>match v with | .str y=>.int (PySem.Txt.find SG y)|_=>.non) HP (by rw[List.length_map];exact Nat.le_trans (Nat.le_of_eq zc) (by omega)) (fun x H' R hx s' hR=>?_) fun l H7 n7 s7 h7=>?_
  ·obtain⟨u,hu,rfl⟩:=List.mem_map.mp hx;exact⟨_,rfl,_,rfl,(IR (zs u hu)).1,hR H' (Ar.refl _)⟩
  have e7:((z.cps.toList.map fun c=>V.str ⟨#[c]⟩).map fun v=>match v with|V.str y=>V.int (PySem.Txt.find SG y)|_=>V.non)=((CA z).map idx).map V.int:=by
   rw[List.map_map,List.map_map];rfl
  rw[e7] at h7;have s1:=Am hp1 (.lst [V.int 1,V.int (z.length:Int)]);refine⟨p1,l,_,_,rfl,rfl,AO.of (s7.get Af),AO.of h7,small (by rw[List.length_map,List.length_map];show 2+_<=_;omega),fun p hp=>?_⟩;exact q p _ ((s1.trans s7).trans (Am hp _)) ((s1.trans s7).free hp) Af
 |tup ts=>
  obtain⟨a,vs,rfl,ha,hr'⟩:=hv;have lv:=Ax.len ts vs hr';obtain⟨tl,tt⟩:=DV ht;rw[UA] at hw q;have hw2:(wTs ts).length<=899998:=by simp only[List.length_cons] at hw;omega
  refine AR (by unfold Hz;rw[ety];rfl) ?_;refine⟨_,rfl,_,_,_,_,rfl,okv.ty K,okv.kit K,_,rfl,AR (by rw[ety];show isA "tuple" "str"=false;decide) ?_⟩;refine⟨_,rfl,a,_,rfl,.inr (AW.of ha),Mp,fun g hg=>?_⟩;rw[lv];refine⟨_,rfl,a,rfl,⟨_,AW.of ((Am hg _).get ha)⟩,Lb (K:=K) (a:=a) (xs:=vs) (fun i σ H2=>∃(v2:Option V),σ=[some (.ref a),some (.ref g),v2]/\Ar H H2/\H2 g=some (.lst ((2::(ts.length:Int)::wTs (ts.take i)).map V.int)))
   ⟨none,rfl,Am hg _,Af⟩ (fun i σ H2 _ ⟨_,_,s2,_⟩=>AW.of (s2.get ha)) ?_ ?_⟩
  ·rintro i y σ H2 hi ⟨v2,rfl,s2,hg2⟩
   obtain⟨ty,et,ry⟩:=Ax.get hr' hi;have b1:=Vg et;refine⟨_,rfl,.inl ⟨rfl,_,AO.of hg2⟩,_,rfl,y,ty,rfl,Rep.same s2 _ _ ry,tt i ty et,by omega,fun l3 H3 s3 n3 h3=>?_⟩;refine⟨g,l3,_,_,rfl,rfl,s3.get hg2,h3,small (by simp only[List.length_map,List.length_cons];omega),?_⟩;refine⟨_,rfl,A0 (s2.trans s3) hg _,?_⟩;rw[Af,<-List.map_append,JH et];rfl
  ·rintro σ H2 ⟨v2,rfl,s2,hg2⟩
   rw[lv,List.take_of_length_le (Nat.le_refl _)] at hg2;exact⟨_,rfl,q g H2 s2 hg hg2⟩
 |non=>cases n<;>cases ht
 |bl b=>cases n<;>cases ht
 |lst ts=>cases n<;>cases ht
theorem Ti (T:Txt K mg Ab Ad Aa Ae XC)(F:Fun K "words_of" "words_of" CH f fd)(Bi:Def P w K mg base 1 "is_whole" ["thing"] (CI K))(Bl:Def P w K mg base 1 "number_of" ["sign"] (C0 K))(hm:mg "words_of"=some (.ref f))(hk:W.keepIn K (.ref f)=true)(hb:Binds K fd ["thing"] []):∀n,FnOk P w K mg base Cf (1+n) f fd ["thing"] (QV n K)
 |0=>by
  exists FE
  ·obtain⟨v,t,rfl,_,ht,_⟩:=h;cases ht
  ·obtain⟨v,t,rfl,_,ht,_⟩:=h;cases ht
 |n+1=>Ws T F Bi Bl n ⟨f,fd,Ti T F Bi Bl hm hk hb n,hm,hk,hb⟩
theorem Og (T:Txt K mg Ab Ad Aa Ae XC)(F:Fun K "words_of" "words_of" CH f fd)(Bi:Def P w K mg base 1 "is_whole" ["thing"] (CI K))(Bl:Def P w K mg base 1 "number_of" ["sign"] (C0 K))(hm:mg "words_of"=some (.ref f))(hk:W.keepIn K (.ref f)=true)(hb:Binds K fd ["thing"] []):FnOk P w K mg base Cf 9 f fd ["thing"] (FF K):=
 Ti T F Bi Bl hm hk hb 8
def GW (K:W.Frag):Sp:=fun vs H Q _=>∃(a:Addr) (ns:List Int),vs=[.ref a]/\H a=some (.lst (ns.map V.int))/\ns.length<=1000/\∀H',Ar H H'->Q (.int (mk ns)) H'
def fI (i:Nat):V->V
 | .int x=>.int (x*((i:Int)+1))
 |v=>v
theorem XW (ns:List Int):(List.range (ns.map V.int).length).map (fun i=>fI i ((ns.map V.int).getD i .non))=((List.range ns.length).map fun i=>ns.getD i 0*((i:Int)+1)).map V.int:=by
 rw[List.length_map,List.map_map];refine List.map_congr_left fun i hi=>?_
 have hl:i<ns.length:=List.mem_range.mp hi;simp[List.getD,List.getElem?_eq_getElem hl,fI]
theorem P3 (T:Txt K mg Ab Ad Aa Ae XC)(F:Fun K "mark_of" "mark_of" E6 f fd):FnOk P w K mg base Cf 1 f fd ["words"] (GW K):=by
 exists Qy
 ·obtain⟨a,ns,rfl,_⟩:=h;rfl
 obtain⟨a,ns,rfl,hS,hlen,q⟩:=h;refine⟨_,(!Al (!An (!AB Bj (!Au (O7 rfl) (by rfl) T.b_sum Uu (!Ac (@Bs _ ["place","word"] _ _ _ _ _ _ _ _ _ _ rfl (!VH rfl T.b_enumerate (!Ac (pv 0) (!Aj))) (by decide +kernel) (fun C s H fp=>⟨(@Cy _ (K) _ _ _ _ (2) (by rfl) rfl (!AD (@Aq _ _ (0) _ (show(["place","word"]:List Str).Nodup by decide +kernel) rfl (by trivial) (by trivial)) (!AD (@Aq _ _ (1) _ (show(["place","word"]:List Str).Nodup by decide +kernel) rfl (by trivial) (by trivial)) (!BO))) (by rfl) (by rfl)),(!AX),(!AB IW (pv 1) (pv 0))⟩) (by intro _;rfl)) (!Aj))) (!AI rfl T.c_MARK_RESTS)))),?_⟩;refine⟨_,rfl,a,_,rfl,AO.of hS,?_⟩;refine SF fI hS (by rw[List.length_map];omega) rfl (fun i x H' R hx s' hR=>?_) (by decide) fun l H' nl s' hl=>?_
 ·obtain⟨z,rfl,hz⟩:=V0 hx;have hil:i<ns.length:=(List.getElem?_eq_some_iff.mp hz).1;exact⟨_,rfl,_,rfl,_,_,rfl,rfl,.inr ⟨by omega,by omega⟩,hR H' (Ar.refl _)⟩
 ·rw[XW] at hl;refine⟨l,_,rfl,AO.of hl,?_⟩;refine⟨_,_,rfl,rfl,(by show(0:Int)<2147483647;decide),?_⟩;rw[Sh];exact q _ s'
def Kn (K:W.Frag):Sp:=fun vs H Q _=>∃(a:Addr) (ns:List Int),vs=[.ref a]/\H a=some (.lst (ns.map V.int))/\ns.length<=1000/\
 ∀(r:Addr) (H':Hp),Ar H H'->H r=none->H' r=some (.lst ((ns++[mk ns]).map V.int))->Q (.ref r) H'
theorem SI (T:Txt K mg Ab Ad Aa Ae XC)(F:Fun K "sealed" "sealed" Gi f fd)(EW:Def P w K mg base 1 "mark_of" ["words"] (GW K)):FnOk P w K mg base Cf 2 f fd ["words"] (Kn K):=by
 exists R7
 ·obtain⟨a,ns,rfl,_⟩:=h;rfl
 obtain⟨a,ns,rfl,hS,hlen,q⟩:=h;refine⟨_,(!Al (!An (!AB NT (pv 0) (!BY (!Ac (!AN EW (by trivial) rfl (!Ac (pv 0) (!Aj))) (!Aj)))))),?_⟩;refine⟨_,rfl,_,rfl,a,ns,rfl,hS,hlen,fun H1 s1=>?_⟩;refine⟨VM,fun g hg=>?_⟩;refine⟨a,g,_,_,rfl,rfl,AO.of ((Am hg _).get (s1.get hS)),AO.of Af,small (by rw[List.length_map];show ns.length+1<=1000000;omega),fun p hp=>?_⟩;refine q p _ ((s1.trans (Am hg _)).trans (Am hp _)) (s1.free ((Am hg _).free hp)) ?_;rw[Af,List.map_append];rfl
def HC (K:W.Frag):Sp:=fun vs H Q _=>∃(a:Addr) (ns:List Int),vs=[.ref a]/\H a=some (.lst (ns.map V.int))/\ns.length<=1000/\
 (sound ns=false->∀H',Ar H H'->Q .non H')/\(sound ns=true->∀(r:Addr) (H':Hp),Ar H H'->H r=none->H' r=some (.lst (ns.dropLast.map V.int))->Q (.ref r) H')
def fB:V->V
 | .int x=>.bl (S1 x)
 |v=>v
theorem O4 (T:Txt K mg Ab Ad Aa Ae XC)(F:Fun K "unsealed" "unsealed" D8 f fd)(EW:Def P w K mg base 1 "mark_of" ["words"] (GW K))(AE:Def P w K mg base 2 "is_between" ["thing","least","most"] (Bo K)):FnOk P w K mg base Cf 3 f fd ["row"] (HC K):=by
 exists Ky
 ·obtain⟨a,ns,rfl,_⟩:=h;rfl
 obtain⟨a,ns,rfl,hS,hlen,q0,q1⟩:=h;refine⟨_,(!Ah (!AS (@PW.pt _ _ _ (!Hf (!AA Bh (!Au AK (by rfl) T.b_len BG (!Ac (pv 0) (!Aj))) (!Ak) (AC _)) (!Fc (!Cd (!BK (!Au (Gu rfl) (by rfl) T.b_all JY (!Ac (@Bs _ ["word"] _ _ _ _ _ _ _ _ _ _ rfl (!Bc (pv 0)) (by decide +kernel) (fun C s H fp=>⟨(@Aq _ _ (0) _ (show(["word"]:List Str).Nodup by decide +kernel) rfl (by trivial) (by trivial)),(!AX),(!AN AE (by trivial) rfl (!Ac (pv 0) (!Ac (!Ak) (!Ac (!AB HS (!AI rfl T.c_MARK_RESTS) (!Ak)) (!Aj)))))⟩) (by intro _;rfl)) (!Aj))) (by intro _;rfl)))))) (!Al (!An (!Fk))) (!Aw)) (!Ah (@AG _ _ (1) _ _ _ _ Ky.nd rfl (by trivial) (!JG Rn (pv 0) (!Ld) (!K8 (!Wu UF (!Ak)))) (by rfl) (by trivial)) (!Ah (!AS (!AA U5 (!Av A4 (pv 0) (!Wu UF (!Ak)) (fun _ _=>rfl)) (!AN EW (by trivial) rfl (!Ac (pv 1) (!Aj))) (AC _)) (!Al (!An (!Fk))) (!Aw)) (!Al (!An (pv 1)))))),?_⟩;dsimp only[BP,Cx.nox,Cx.wish];refine⟨_,rfl,a,_,rfl,.inl (AO.of hS),rfl,_,rfl,?_⟩;refine C7 (fun c=>?_) (fun c=>?_)
 ·have hn:ns=[]:=by simpa using c
  subst hn;exact YM (q0 (by decide) _ (Ar.refl _))
 have hne:ns≠[]:=by simpa using c
 refine⟨_,rfl,a,rfl,⟨_,AO.of hS⟩,?_⟩;refine comp_map fB (D5 (AO.of hS)) (by rw[List.length_map];omega) (fun x H' R hx s' hR=>?_) fun l H1 nl s1 hl=>?_
 ·obtain⟨u,_,rfl⟩:=List.mem_map.mp hx;exact⟨_,rfl,_,_,rfl,rfl,.int u,0,_,rfl,trivial,hR H' (Ar.refl _)⟩
 have el:(ns.map V.int).map fB=(ns.map S1).map V.bl:=by rw[List.map_map,List.map_map];rfl
 rw[el] at hl;refine⟨l,ns.map S1,rfl,AO.of hl,_,rfl,?_⟩;have ea:(ns.map S1).all id=ns.all S1:=by rw[List.all_map];rfl
 rw[ea];refine C7 (fun c2=>?_) (fun c2=>?_)
 ·have hf:sound ns=false:=by
   unfold sound;have:ns.all S1=false:=by simpa using c2
   rw[this];simp
  exact q0 hf _ s1
 have hal:ns.all S1=true:=by
  cases e:ns.all S1 with
  |true=>rfl
  |false=>rw[e] at c2;exact absurd rfl c2
 refine⟨_,rfl,_,rfl,_,rfl,a,_,rfl,AO.of (s1.get hS),fun p hp=>?_⟩;have ec:Kj (ns.map V.int) none (some (-1))=ns.dropLast.map V.int:=by rw[Up,List.map_dropLast]
 have s2:=s1.trans (Am hp (.lst (ns.dropLast.map V.int)));have eH:upd H1 p (.lst (Kj (ns.map V.int) none (some (-1))))=upd H1 p (.lst (ns.dropLast.map V.int)):=by rw[ec]
 rw[show(-(1:Int)) = -1 from rfl,eH];have at1:Kt (ns.map V.int) (-1)=some (.int (ns.getLastD 0)):=by
  have e1:ns=ns.dropLast++[ns.getLast hne]:=(List.dropLast_concat_getLast hne).symm;have e2:ns.getLastD 0=ns.getLast hne:=by rw[List.getLastD_eq_getLast?,List.getLast?_eq_some_getLast hne];rfl
  rw[e2]
  conv=>lhs;rw[e1]
  rw[List.map_append];exact U1 _ _
 refine⟨_,rfl,_,rfl,a,_,_,_,rfl,rfl,AO.of (s2.get hS),at1,_,rfl,p,_,rfl,Af,by rw[List.length_dropLast];omega,fun H3 s3=>?_⟩;refine⟨rfl,_,rfl,?_⟩;refine C7 (fun c3=>?_) (fun c3=>?_)
 ·have hf:sound ns=false:=by
   unfold sound;have:¬ns.getLastD 0=mk ns.dropLast:=by simpa using c3
   rw[decide_eq_false this];simp
  exact q0 hf _ (s2.trans s3)
 ·have he:ns.getLastD 0=mk ns.dropLast:=by simpa using c3
  have ht:sound ns=true:=by
   unfold sound;rw[hal,decide_eq_true he,decide_eq_false hne];rfl
  exact⟨_,rfl,q1 ht p _ (s2.trans s3) (s1.free hp) (s3.get Af)⟩
theorem Ls {g:Array Nat}(hg:g.toList=[]):∀(xs:List Str) (acc:Array Nat),(xs.foldl (fun acc p=>acc++g++p.cps) acc).toList=acc.toList++(xs.map CA).flatten
 |[],acc=>by simp
 |x::xs,acc=>by
  rw[List.foldl_cons,Ls hg xs,Array.toList_append,Array.toList_append,hg,List.append_nil,List.map_cons,List.flatten_cons,List.append_assoc]
theorem SZ {g:Str}(hg:CA g=[])(ys:List Str):CA (PySem.Txt.join g ys)=(ys.map CA).flatten:=by
 unfold PySem.Txt.join PySem.Builtin.Str.glued
 change Array.toList (List.foldl _ _ _)=_
 rw[Ls (g:=g.cps) hg];cases ys with
 |nil=>rfl
 |cons y ys=>simp
abbrev W6:Str:=PySem.Str.ofString ""
def Kp (H H':Hp)(p:Addr):Prop:=∀b o,H b=some o->b≠p->H' b=some o
theorem Kp.refl (H:Hp)(p:Addr):Kp H H p:=fun _ _ e _=>e
theorem Kp.trans {H H1 H2:Hp}{p:Addr}(a:Kp H H1 p)(b:Kp H1 H2 p):Kp H H2 p:=fun c o e n=>b c o (a c o e n) n
theorem Kp.put {H:Hp}{p:Addr}(o:HO):Kp H (upd H p o) p:=fun c u e n=>by rw[Ag n];exact e
theorem Ar.kp {H H':Hp}(s:Ar H H')(p:Addr):Kp H H' p:=fun c o e _=>s c o e
theorem Kp.new {H H':Hp}{p l:Addr}(a:Kp H H' p)(h:H l=none)(o:HO):Kp H (upd H' l o) p:=fun c u e n=>by rw[Ag (AF e h)];exact a c u e n
def RW (wl:Addr)(k:Int):List (Str×V):=[("words",.ref wl),("place",.int k)]
def Dn (K:W.Frag)(Ab:Addr):Sp:=fun vs H Q _=>∃(p dx wl:Addr),vs=[.ref p,.ref wl]/\H p=some (.ins Ab dx [])/\Q .non (upd H p (.ins Ab dx (RW wl 0)))
def Bq (K:W.Frag)(Ab:Addr):Sp:=fun vs H Q _=>∃(p dx wl:Addr) (ws:List Int) (k:Nat),vs=[.ref p]/\H p=some (.ins Ab dx (RW wl k))/\H wl=some (.lst (ws.map V.int))/\Q (.bl (decide (k=ws.length))) H
theorem Je (T:Txt K mg Ab Ad Aa Ae XC)(F:Fun K "__init__" "WordReader.__init__" Bv f fd):FnOk P w K mg base Cf 1 f fd ["self","words"] (Dn K Ab):=by
 exists IP
 ·obtain⟨p,dx,wl,rfl,_⟩:=h;rfl
 obtain⟨p,dx,wl,rfl,h1,q⟩:=h;refine⟨_,(!Ah (!Cm (pv 0) (pv 1)) (!Al (!Cm (pv 0) (!Ak)))),?_⟩;refine⟨_,rfl,_,rfl,p,Ab,dx,[],rfl,h1,T.cl_WordReader,T.n_WordReader_words,(by show 0<1000;decide),?_⟩;refine⟨_,rfl,p,Ab,dx,_,rfl,Af,T.cl_WordReader,T.n_WordReader_place,(by show 1<1000;decide),?_⟩;rw[FB];exact q
theorem Gf (T:Txt K mg Ab Ad Aa Ae XC)(F:Fun K "is_through" "WordReader.is_through" AY f fd):FnOk P w K mg base Cf 1 f fd ["self"] (Bq K Ab):=by
 exists FQ
 ·obtain⟨p,dx,wl,ws,k,rfl,_⟩:=h;rfl
 obtain⟨p,dx,wl,ws,k,rfl,h1,h2,q⟩:=h;refine⟨_,(!Al (!An (!CU Bh (!AQ (pv 0)) (!Au AK (by rfl) T.b_len BG (!Ac (!AQ (pv 0)) (!Aj))) (AC _)))),?_⟩;refine⟨_,rfl,p,Ab,dx,_,_,rfl,h1,T.cl_WordReader,T.n_WordReader_place,rfl,_,rfl,p,Ab,dx,_,_,rfl,h1,T.cl_WordReader,T.n_WordReader_words,rfl,wl,_,rfl,.inl (AO.of h2),rfl,?_⟩;have e:decide (V.int (k:Int)=V.int ((ws.map V.int).length:Int))=decide (k=ws.length):=by
  rw[Ie,List.length_map];rw[Bool.eq_iff_iff];simp;omega
 rw[e];exact q
theorem Gm {ws:List Int}{k:Nat}{x:Int}{r:List Int}(h:ws.drop k=x::r):ws[k]?=some x/\ws.drop (k+1)=r:=by
 constructor
 ·have:(ws.drop k)[0]?=some x:=by rw[h];rfl
  rw[List.getElem?_drop] at this;simpa using this
 ·have:(ws.drop k).drop 1=r:=by rw[h];rfl
  rw[List.drop_drop] at this;exact this
def A5 (K:W.Frag)(Ab:Addr):Sp:=fun vs H Q _=>∃(p dx wl:Addr) (ws:List Int) (k:Nat) (x m:Int),vs=[.ref p,.int m]/\H p=some (.ins Ab dx (RW wl k))/\H wl=some (.lst (ws.map V.int))/\ws[k]?=some x/\0<=x/\x<=m/\
 Q (.int x) (upd H p (.ins Ab dx (RW wl ((k+1:Nat):Int))))
theorem Hj (T:Txt K mg Ab Ad Aa Ae XC)(F:Fun K "word_to" "WordReader.word_to" A9 f fd)(AZ:A2 P w K mg base 1 Ab "is_through" ["self"] (Bq K Ab))(AE:Def P w K mg base 2 "is_between" ["thing","least","most"] (Bo K)):FnOk P w K mg base Cf 3 f fd ["self","most"] (A5 K Ab):=by
 exists Hk
 ·obtain⟨p,dx,wl,ws,k,x,m,rfl,_⟩:=h;rfl
 obtain⟨p,dx,wl,ws,k,x,m,rfl,h1,h2,hx,x0,x1,q⟩:=h;have hk:k<ws.length:=(List.getElem?_eq_some_iff.mp hx).1;have ax:Kt (ws.map V.int) (k:Int)=some (V.int x):=JM (by rw[List.getElem?_map,hx];rfl);have nwp:wl≠p:=AM h2 h1 (by intro z;cases z);refine⟨_,(!Ah (!AS (@PW.pt _ _ _ (!Hf (!BK (!DJ (pv 0) T.cl_WordReader AZ) (by intro _;rfl)) (!Fc (!Cd (!BK (!AN AE (by trivial) rfl (!Ac (!Av A4 (!AQ (pv 0)) (!AQ (pv 0)) (fun _ _=>rfl)) (!Ac (!Ak) (!Ac (pv 1) (!Aj))))) (by intro _;rfl)))))) (!Al (!C9)) (!Aw)) (!Ah (!Gh (pv 0) (!Ak) La) (!Al (!An (!Av A4 (!AQ (pv 0)) (!AB HS (!AQ (pv 0)) (!Ak)) (fun _ _=>rfl)))))),?_⟩;refine WI false false (fun R q=>⟨_,rfl,p,dx,_,rfl,h1,rfl,p,dx,wl,ws,k,rfl,h1,h2,_,rfl,?_⟩) (fun _ R q=>?_) ?_
 ·rw[decide_eq_false (by omega)];exact q
 ·refine⟨_,rfl,p,Ab,dx,_,_,rfl,h1,T.cl_WordReader,T.n_WordReader_words,rfl,_,rfl,p,Ab,dx,_,_,rfl,h1,T.cl_WordReader,T.n_WordReader_place,rfl,wl,_,_,_,rfl,rfl,AO.of h2,ax,_,rfl,V.int x,0,m,rfl,trivial,_,rfl,?_⟩;have:Kl 0 m (V.int x)=true:=by show(decide (0<=x)&&decide (x<=m))=true;rw[decide_eq_true x0,decide_eq_true x1];rfl
  rw[this];exact q
 refine AR rfl ?_;refine⟨_,rfl,p,Ab,dx,_,_,rfl,h1,T.cl_WordReader,T.n_WordReader_place,rfl,_,_,rfl,rfl,dx,_,h1,(by show 2<1000;decide),?_⟩;have q':Q (.int x) (upd H p (.ins Ab dx (Eu "place" (V.int ((k:Int)+1)) (RW wl k)))):=q;refine⟨_,rfl,p,Ab,dx,_,_,rfl,Af,T.cl_WordReader,T.n_WordReader_words,rfl,_,rfl,p,Ab,dx,_,_,rfl,Af,T.cl_WordReader,T.n_WordReader_place,rfl,_,_,rfl,rfl,wl,_,_,_,rfl,rfl,AO.of (by rw[Ag nwp];exact h2),?_,q'⟩;have:(k:Int)+1-1=(k:Int):=by omega
 show Kt (ws.map V.int) ((k:Int)+1-1)=_;rw[this];exact ax
def DX (K:W.Frag)(Ab:Addr):Sp:=fun vs H Q _=>∃(p dx wl:Addr) (ws:List Int) (k:Nat) (z:Str) (r:List Int),vs=[.ref p]/\H p=some (.ins Ab dx (RW wl k))/\H wl=some (.lst (ws.map V.int))/\ws.drop k=(z.length:Int)::((CA z).map idx++r)/\z.length<=400/\(∀c∈CA z,c∈CA SG)/\
 ∀H',Kp H H' p->H' p=some (.ins Ab dx (RW wl ((k+1+z.length:Nat):Int)))->Q (.str z) H'
theorem Wq:(SG.length:Int)-1=93:=by decide +kernel
theorem N1 (T:Txt K mg Ab Ad Aa Ae XC)(F:Fun K "read_text" "read_text" Dt f fd)(Az:A2 P w K mg base 3 Ab "word_to" ["self","most"] (A5 K Ab))(J2:Def P w K mg base 1 "sign_of" ["number"] (Jl K)):FnOk P w K mg base Cf 4 f fd ["reader"] (DX K Ab):=by
 exists JP
 ·obtain⟨p,dx,wl,ws,k,z,r,rfl,_⟩:=h;rfl
 obtain⟨p,dx,wl,ws,k,z,r,rfl,h1,h2,hd,zl,zs,q⟩:=h;obtain⟨g1,g2⟩:=Gm hd;have zc:=BU z;have nwp:wl≠p:=AM h2 h1 (by intro z;cases z);refine⟨_,(!Ah (@AG _ _ (1) _ _ _ _ JP.nd rfl (by trivial) (!A3 (pv 0) T.cl_WordReader Az (by trivial) (!Ac (!AI rfl T.c_MOST_SIGNS) (!Aj))) (by rfl) (by trivial)) (!Al (!An (!Hd PySem.F.plainAttrs_str PySem.F.slot_str_join PySem.F.type_str_join (Wn rfl) (!L8) (!Ac (@Er _ ["sign","reader"] [none,some 0] _ _ _ _ _ _ _ _ _ _ _ rfl (!Ed rfl T.b_range (!Ac (pv 1) (!Aj))) (by rfl) rfl (by repeat (first|exact trivial|refine⟨rfl,?_⟩)) (by repeat (first|exact trivial|refine⟨fun h=>(by first|exact⟨_,rfl⟩|cases h),?_⟩)) (fun C s H fp=>⟨(@Aq _ _ (0) _ (show(["sign","reader"]:List Str).Nodup by decide +kernel) rfl (by trivial) (by trivial)),(!AX),(!AN J2 (by trivial) rfl (!Ac (!A3 (pv 1) T.cl_WordReader Az (by trivial) (!Ac (!AB HS (!Au GO (by rfl) T.b_len BG (!Ac (!HH rfl T.c_SIGNS) (!Aj))) (!Ak)) (!Aj))) (!Aj)))⟩) (by intro _;rfl)) (!Aj)))))),?_⟩;refine⟨_,rfl,p,dx,_,rfl,h1,rfl,p,dx,wl,ws,k,_,400,rfl,h1,h2,g1,by omega,by omega,?_⟩;refine⟨rfl,_,rfl,(z.length:Int),rfl,by omega,by omega,?_⟩;refine N9 (xs:=(List.range ((z.length:Int)).toNat).map fun(i:Nat)=>V.int (0+(i:Int))) (fun i ys l H'=>Kp (upd H p (.ins Ab dx (RW wl ((k+1:Nat):Int)))) H' p/\H' p=some (.ins Ab dx (RW wl ((k+1+i:Nat):Int)))/\ys=((CA z).take i).map fun c=>V.str ⟨#[c]⟩) (by rw[List.length_map,List.length_range];omega) (fun i ys l H' _=>PQ) (fun l hl=>⟨(Kp.refl _ p).new hl _,by rw[Ag (AF Af hl)];exact Af,rfl⟩) (fun i x ys l H' R hx hl hl' hlen hI hR=>?_) fun l H1 ys n1 hl1 ly hI=>?_
 ·obtain⟨kp,hp,hy⟩:=hI;have hi:i<z.length:=by
   have:=(List.getElem?_eq_some_iff.mp hx).1;rw[List.length_map,List.length_range] at this;omega
  obtain⟨c,hc⟩:∃c,(CA z)[i]?=some c:=⟨(CA z)[i]'(by omega),List.getElem?_eq_getElem _⟩
  obtain⟨i0,i1,i2⟩:=IR (zs c (List.mem_of_getElem? hc));have hw':H' wl=some (.lst (ws.map V.int)):=kp wl _ (by rw[Ag nwp];exact h2) nwp;have gx:ws[k+1+i]?=some (idx c):=by
   have:(ws.drop (k+1))[i]?=some (idx c):=by
    rw[g2,List.getElem?_append_left (by rw[List.length_map];omega),List.getElem?_map,hc];rfl
   rw[List.getElem?_drop] at this;exact this
  have npl:l≠p:=AM hl' hp (by intro z;cases z);refine⟨_,rfl,p,dx,_,rfl,hp,rfl,SG,rfl,Q3,_,_,rfl,rfl,p,dx,wl,ws,k+1+i,idx c,_,rfl,hp,hw',gx,i0,?_,?_⟩
  ·rw[Wq];omega
  refine⟨idx c,rfl,i0,i1,hR _ _ (by rw[Ag npl];exact hl') ⟨?_,?_,?_⟩⟩
  ·exact(kp.trans (Kp.put _)).new hl _
  ·rw[Ag npl.symm,Af];rfl
  ·rw[hy,List.take_add_one,hc,i2];simp
 ·obtain⟨kp,hp,hy⟩:=hI;have ez:z.length=((List.range ((z.length:Int)).toNat).map fun(i:Nat)=>V.int (0+(i:Int))).length:=by rw[List.length_map,List.length_range];omega
  rw[<-ez] at hp hy;rw[List.take_of_length_le (by omega)] at hy;have hy':ys=((CA z).map fun c=>(⟨#[c]⟩:Str)).map V.str:=by rw[hy,List.map_map];rfl
  rw[hy'] at hl1;refine⟨l,W6,_,rfl,rfl,AO.of hl1,?_,?_⟩
  ·have:(((CA z).map fun c=>(⟨#[c]⟩:Str)).map (·.length)).sum<=(CA z).length:=by
    generalize CA z=l
    induction l with
    |nil=>exact Nat.le_refl _
    |cons c l ih=>
     simp only[List.map_cons,List.sum_cons,List.length_cons];have:(⟨#[c]⟩:Str).length=1:=rfl;omega
   have e0:W6.length=0:=rfl;rw[e0];omega
  ·have ej:PySem.Txt.join W6 ((CA z).map fun c=>(⟨#[c]⟩:Str))=z:=by
    refine RE ?_;rw[SZ rfl,List.map_map];show((CA z).map fun c=>[c]).flatten=_;generalize CA z=l
    induction l with
    |nil=>rfl
    |cons c l ih=>rw[List.map_cons,List.flatten_cons,ih];rfl
   rw[ej];exact q H1 ((Kp.put _).trans kp) hp
def Ra (n:Nat)(K:W.Frag)(Ab:Addr):Sp:=fun vs H Q _=>∃(p dx wl:Addr) (ws:List Int) (k:Nat) (t:Tr) (r:List Int),vs=[.ref p,.int (n:Int)]/\H p=some (.ins Ab dx (RW wl k))/\H wl=some (.lst (ws.map V.int))/\ws.drop k=wT t++r/\DF n t=true/\
 ∀v H',Kp H H' p->H' p=some (.ins Ab dx (RW wl ((k+(wT t).length:Nat):Int)))->Rep NL H' t v->Q v H'
def FM (K:W.Frag)(Ab:Addr):Sp:=Ra 8 K Ab
theorem Vm (T:Txt K mg Ab Ad Aa Ae XC)(F:Fun K "read_thing" "read_thing" BN f fd)(Az:A2 P w K mg base 3 Ab "word_to" ["self","most"] (A5 K Ab))(Cj:Def P w K mg base 4 "read_text" ["reader"] (DX K Ab))(n:Nat)(DN:Def P w K mg base (4+n) "read_thing" ["reader","deep"] (Ra n K Ab)):FnOk P w K mg base Cf (4+n+1) f fd ["reader","deep"] (Ra (n+1) K Ab):=by
 exists El
 ·obtain⟨p,dx,wl,ws,k,t,r,rfl,_⟩:=h;rfl
 obtain⟨p,dx,wl,ws,k,t,r,rfl,h1,h2,hd,ht,q⟩:=h;have nwp:wl≠p:=AM h2 h1 (by intro z;cases z);refine⟨_,(!Ah (!AS (!AA Bh (pv 1) (!Ak) (AC _)) (!Al (!C9)) (!Aw)) (!Ah (@AG _ _ (2) _ _ _ _ El.nd rfl (by trivial) (!A3 (pv 0) T.cl_WordReader Az (hr.mono (by omega)) (!Ac (!AI rfl T.c_TUPLE_WORD) (!Aj))) (by rfl) (by trivial)) (!Ah (!AS (!AA Bh (pv 2) (!AI rfl T.c_NUMBER_WORD) (AC _)) (!Al (!An (!A3 (pv 0) T.cl_WordReader Az (hr.mono (by omega)) (!Ac (!AI rfl T.c_MOST_NUMBER) (!Aj))))) (!Aw)) (!Ah (!AS (!AA Bh (pv 2) (!AI rfl T.c_TEXT_WORD) (AC _)) (!Al (!An (!AN Cj (hr.mono (by omega)) rfl (!Ac (pv 0) (!Aj))))) (!Aw)) (!Ah (@AG _ _ (3) _ _ _ _ El.nd rfl (by trivial) (!A3 (pv 0) T.cl_WordReader Az (hr.mono (by omega)) (!Ac (!AI rfl T.c_MOST_PARTS) (!Aj))) (by rfl) (by trivial)) (!Al (!An (!BL FP (by rfl) T.b_tuple Ft (!Ac (@Er _ ["part","reader","deep"] [none,some 0,some 1] _ _ _ _ _ _ _ _ _ _ _ rfl (!Ed rfl T.b_range (!Ac (pv 3) (!Aj))) (by rfl) rfl (by repeat (first|exact trivial|refine⟨rfl,?_⟩)) (by repeat (first|exact trivial|refine⟨fun h=>(by first|exact⟨_,rfl⟩|cases h),?_⟩)) (fun C s H fp=>⟨(@Aq _ _ (0) _ (show(["part","reader","deep"]:List Str).Nodup by decide +kernel) rfl (by trivial) (by trivial)),(!AX),(!AN DN (hr.mono (by omega)) rfl (!Ac (pv 1) (!Ac (!AB HS (pv 2) (!Ak)) (!Aj))))⟩) (by intro _;rfl)) (!Aj)))))))))),?_⟩;refine⟨_,rfl,rfl,_,rfl,AR ?_ ?_⟩
 ·rw[Ie];simp;omega
 have hw1:∀o,upd H p o wl=some (.lst (ws.map V.int)):=fun o=>by rw[Ag nwp];exact h2
 cases t with
 |int i=>
  have i01:(decide (0<=i)&&decide (i<=999999999))=true:=ht;rw[Bool.and_eq_true,decide_eq_true_eq,decide_eq_true_eq] at i01;obtain⟨g1,g2⟩:=Gm (r:=i::r) hd;obtain⟨g3,_⟩:=Gm g2;refine⟨_,rfl,p,dx,_,rfl,h1,rfl,p,dx,wl,ws,k,0,2,rfl,h1,h2,g1,by omega,by omega,?_⟩;refine⟨_,rfl,rfl,_,rfl,BS rfl ?_⟩;refine⟨_,rfl,p,dx,_,rfl,Af,rfl,p,dx,wl,ws,k+1,i,999999999,rfl,Af,hw1 _,g3,i01.1,i01.2,?_⟩;exact q _ _ ((Kp.put _).trans (Kp.put _)) Af rfl
 |str z=>
  obtain⟨zl,zs⟩:=K7 ht;obtain⟨g1,g2⟩:=Gm (r:=(z.length:Int)::((CA z).map idx++r)) hd;refine⟨_,rfl,p,dx,_,rfl,h1,rfl,p,dx,wl,ws,k,1,2,rfl,h1,h2,g1,by omega,by omega,?_⟩;refine⟨_,rfl,rfl,_,rfl,AR rfl ?_⟩;refine⟨_,rfl,rfl,_,rfl,BS rfl ?_⟩;refine⟨_,rfl,p,dx,wl,ws,k+1,z,r,rfl,Af,hw1 _,g2,zl,zs,fun H' kp hp=>?_⟩;refine q _ _ ((Kp.put _).trans kp) ?_ rfl;rw[hp,XB];have:k+1+1+z.length=k+(1::(z.length:Int)::(CA z).map idx).length:=by
   simp only[List.length_cons,List.length_map,BU];omega
  rw[this]
 |tup ts=>
  obtain⟨tl,tt⟩:=DV ht;rw[UA] at hd q;obtain⟨g1,g2⟩:=Gm (r:=(ts.length:Int)::(wTs ts++r)) hd;obtain⟨g3,g4⟩:=Gm (r:=wTs ts++r) g2;refine⟨_,rfl,p,dx,_,rfl,h1,rfl,p,dx,wl,ws,k,2,2,rfl,h1,h2,g1,by omega,by omega,?_⟩;refine⟨_,rfl,rfl,_,rfl,AR rfl ?_⟩;refine⟨_,rfl,rfl,_,rfl,AR rfl ?_⟩;refine⟨_,rfl,p,dx,_,rfl,Af,rfl,p,dx,wl,ws,k+1,_,100,rfl,Af,hw1 _,g3,by omega,by omega,?_⟩;rw[FB];refine⟨_,rfl,(ts.length:Int),rfl,by omega,by omega,?_⟩;refine N9 (xs:=(List.range ((ts.length:Int)).toNat).map fun(i:Nat)=>V.int (0+(i:Int))) (fun i ys l H'=>Kp (upd H p (.ins Ab dx (RW wl ((k+1+1:Nat):Int)))) H' p/\H' p=some (.ins Ab dx (RW wl ((k+2+(wTs (ts.take i)).length:Nat):Int)))/\Ax NL H' (ts.take i) ys) (by rw[List.length_map,List.length_range];omega) (fun i ys l H' _=>PQ) (fun l hl=>⟨(Kp.refl _ p).new hl _,by rw[Ag (AF Af hl)];exact Af,rfl⟩) (fun i x ys l H' R hx hl hl' hlen hI hR=>?_) fun l H1 ys n1 hl1 ly hI=>?_
  ·obtain⟨kp,hp,hrs⟩:=hI;have hi:i<ts.length:=by
    have:=(List.getElem?_eq_some_iff.mp hx).1;rw[List.length_map,List.length_range] at this;omega
   obtain⟨ti,eti⟩:∃ti,ts[i]?=some ti:=⟨ts[i],List.getElem?_eq_getElem _⟩
   have hw':H' wl=some (.lst (ws.map V.int)):=kp wl _ (hw1 _) nwp;have npl:l≠p:=AM hl' hp (by intro z;cases z);have gd:ws.drop (k+2+(wTs (ts.take i)).length)=wT ti++(wTs (ts.drop (i+1))++r):=by
    have e1:wTs ts=wTs (ts.take i)++(wT ti++wTs (ts.drop (i+1))):=by
     have:=Le (ts.take (i+1)) (ts.drop (i+1));rw[List.take_append_drop,JH eti,List.append_assoc] at this;exact this
    have e2:(ws.drop (k+1+1)).drop (wTs (ts.take i)).length=wT ti++(wTs (ts.drop (i+1))++r):=by
     rw[g4,e1,List.append_assoc,List.append_assoc,List.drop_left]
    rw[List.drop_drop] at e2;exact e2
   have ed:((n+1:Nat):Int)-1=(n:Int):=by omega
   refine⟨_,rfl,_,rfl,_,_,rfl,rfl,p,dx,wl,ws,_,ti,_,?_,hp,hw',gd,tt i ti eti,fun v H'' kp2 hp2 rv=>?_⟩
   ·show[V.ref p,V.int (((n+1:Nat):Int)-1)]=_;rw[ed]
   have hl2:H'' l=some (.lst ys):=kp2 l _ hl' npl;have keepT:∀c xs,H'' c=some (.tup xs)->upd H'' l (.lst (ys++[v])) c=some (.tup xs):=fun c xs e=>by rw[Ag (AM e hl2 (by intro z;cases z))];exact e
   refine hR v H'' hl2 ⟨(kp.trans kp2).new hl _,?_,?_⟩
   ·rw[Ag npl.symm,hp2,JH eti,List.length_append,Nat.add_assoc]
   ·rw[List.take_add_one,eti];refine Ax.append (AV keepT _ _ (AV (fun c xs e=>kp2 c _ e (AM e hp (by intro z;cases z))) _ _ hrs)) (Ax.one (Cz keepT _ _ rv))
  ·obtain⟨kp,hp,hrs⟩:=hI;have ez:ts.length=((List.range ((ts.length:Int)).toNat).map fun(i:Nat)=>V.int (0+(i:Int))).length:=by rw[List.length_map,List.length_range];omega
   rw[<-ez,List.take_of_length_le (Nat.le_refl _)] at hp hrs;refine⟨l,ys,rfl,.inl ⟨AO.of hl1,fun u hu=>?_⟩⟩;have su:=Am hu (.tup ys);refine q _ _ (((Kp.put _).trans kp).trans (Ar.kp su p)) ?_ ⟨u,ys,rfl,Af,Ax.same su _ _ hrs⟩;rw[su _ _ hp];have:k+2+(wTs ts).length=k+(2::(ts.length:Int)::wTs ts).length:=by simp only[List.length_cons];omega
   rw[this]
 |non=>cases n<;>cases ht
 |bl b=>cases n<;>cases ht
 |lst ts=>cases n<;>cases ht
theorem TJ (T:Txt K mg Ab Ad Aa Ae XC)(F:Fun K "read_thing" "read_thing" BN f fd)(Az:A2 P w K mg base 3 Ab "word_to" ["self","most"] (A5 K Ab))(Cj:Def P w K mg base 4 "read_text" ["reader"] (DX K Ab))(hm:mg "read_thing"=some (.ref f))(hk:W.keepIn K (.ref f)=true)(hb:Binds K fd ["reader","deep"] []):∀n,FnOk P w K mg base Cf (4+n) f fd ["reader","deep"] (Ra n K Ab)
 |0=>by
  exists El
  ·obtain⟨p,dx,wl,ws,k,t,r,rfl,_,_,_,ht,_⟩:=h;cases ht
  ·obtain⟨p,dx,wl,ws,k,t,r,rfl,_,_,_,ht,_⟩:=h;cases ht
 |n+1=>Vm T F Az Cj n ⟨f,fd,TJ T F Az Cj hm hk hb n,hm,hk,hb⟩
theorem Mi (T:Txt K mg Ab Ad Aa Ae XC)(F:Fun K "read_thing" "read_thing" BN f fd)(Az:A2 P w K mg base 3 Ab "word_to" ["self","most"] (A5 K Ab))(Cj:Def P w K mg base 4 "read_text" ["reader"] (DX K Ab))(hm:mg "read_thing"=some (.ref f))(hk:W.keepIn K (.ref f)=true)(hb:Binds K fd ["reader","deep"] []):FnOk P w K mg base Cf 12 f fd ["reader","deep"] (FM K Ab):=
 TJ T F Az Cj hm hk hb 8
def Hm (K:W.Frag):Sp:=fun vs H Q _=>∃(wl:Addr) (t:Tr),vs=[.ref wl]/\H wl=some (.lst ((wT t).map V.int))/\DF 8 t=true/\∀v H',Ar H H'->Rep NL H' t v->Q v H'
theorem OP (T:Txt K mg Ab Ad Aa Ae XC)(F:Fun K "thing_of" "thing_of" D4 f fd)(DP:NV P w K mg base 1 Ab "WordReader" ["self","words"] (Dn K Ab))(DN:Def P w K mg base 12 "read_thing" ["reader","deep"] (FM K Ab))(AZ:A2 P w K mg base 1 Ab "is_through" ["self"] (Bq K Ab)):FnOk P w K mg base Cf 13 f fd ["words"] (Hm K):=by
 exists HK
 ·obtain⟨wl,t,rfl,_⟩:=h;rfl
 obtain⟨wl,t,rfl,hw,ht,q⟩:=h;refine⟨_,(!Ah (@AG _ _ (1) _ _ _ _ HK.nd rfl (by trivial) (!N6 DP (by trivial) rfl (!Ac (pv 0) (!Aj))) (by rfl) (by trivial)) (!Ah (@AG _ _ (2) _ _ _ _ HK.nd rfl (by trivial) (!AN DN (by trivial) rfl (!Ac (pv 1) (!Ac (!AI rfl T.c_MOST_DEEP) (!Aj)))) (by rfl) (by trivial)) (!Ah (!AS (!Cd (!BK (!DJ (pv 1) T.cl_WordReader AZ) (by intro _;rfl))) (!Al (!C9)) (!Aw)) (!Al (!An (pv 2)))))),?_⟩;refine⟨_,rfl,?_⟩;intro x dx nx ndx _;have nwx:wl≠x:=AF hw nx;have nwd:wl≠dx:=AF hw ndx;refine⟨x,dx,wl,rfl,Af,rfl,?_⟩;rw[FB];have hw1:∀o,upd (upd H dx (.own x)) x o wl=some (.lst ((wT t).map V.int)):=fun o=>by rw[Ag nwx,Ag nwd];exact hw
 refine⟨_,rfl,x,dx,wl,wT t,0,t,[],rfl,Af,hw1 _,by simp,ht,fun v H' kp hp rv=>?_⟩;have hw':H' wl=some (.lst ((wT t).map V.int)):=kp wl _ (hw1 _) nwx;refine⟨_,rfl,x,dx,_,rfl,hp,rfl,x,dx,wl,wT t,_,rfl,hp,hw',_,rfl,AR ?_ ?_⟩
 ·simp
 refine⟨_,rfl,q v H' (fun b o e=>?_) rv⟩;have n1:=AF e nx;exact kp b o (by rw[Ag n1,Ag (AF e ndx)];exact e) n1
def YJ (g:List Int->Option (Tr×List Int)):Nat->List Int->Option (List Tr×List Int)
 |0,ws=>some ([],ws)
 |i+1,ws=>match YJ g i ws with
  |none=>none
  |some (ts,r)=>match g r with
   |none=>none
   |some (t,r')=>some (ts++[t],r')
def T9 (x:Int):Nat:=SG.cps.toList.getD x.toNat 0
def YG:Nat->List Int->Option (List Nat×List Int)
 |0,ws=>some ([],ws)
 |i+1,ws=>match YG i ws with
  |some (cs,x::r)=>if 0<=x/\x<=93 then some (cs++[T9 x],r) else none
  |_=>none
def rd:Nat->List Int->Option (Tr×List Int)
 |0,_=>none
 |n+1,ws=>match ws with
  |[]=>none
  |x::ws1=>if 0<=x/\x<=2 then match ws1 with
    |[]=>none
    |m::r=>if x=0 then(if 0<=m/\m<=999999999 then some (.int m,r) else none)
     else if x=1 then(if 0<=m/\m<=400 then(match YG m.toNat r with|some (cs,r')=>some (.str ⟨cs.toArray⟩,r')|none=>none) else none)
     else(if 0<=m/\m<=100 then(match YJ (rd n) m.toNat r with|some (ts,r')=>some (.tup ts,r')|none=>none) else none)
   else none
theorem P8 {c:Nat}(h:c∈CA SG):T9 (idx c)=c:=(IR h).2.2
theorem On:∀(cs:List Nat) (r:List Int),(∀c∈cs,c∈CA SG)->∀i,i<=cs.length->YG i (cs.map idx++r)=some (cs.take i,(cs.drop i).map idx++r)
 |cs,r,h,0,_=>rfl
 |cs,r,h,i+1,hi=>by
  have ih:=On cs r h i (by omega);obtain⟨c,hc⟩:∃c,cs[i]?=some c:=⟨cs[i],List.getElem?_eq_getElem _⟩
  have hd:cs.drop i=c::cs.drop (i+1):=by rw[List.drop_eq_getElem_cons (by omega)];congr 1;rw[List.getElem?_eq_getElem (by omega)] at hc;exact Option.some.inj hc
  obtain⟨b1,b2,b3⟩:=IR (h c (List.mem_of_getElem? hc));unfold YG;rw[ih,hd];show(if 0<=idx c/\idx c<=93 then _ else _)=_;rw[if_pos ⟨b1,by omega⟩,List.take_add_one,hc,P8 (h c (List.mem_of_getElem? hc))];rfl
theorem OC {g:List Int->Option (Tr×List Int)}(ts:List Tr)(r:List Int)(hg:∀t∈ts,∀r,g (wT t++r)=some (t,r)):∀i,i<=ts.length->YJ g i (wTs ts++r)=some (ts.take i,wTs (ts.drop i)++r)
 |0,_=>rfl
 |i+1,hi=>by
  have ih:=OC ts r hg i (by omega);obtain⟨t,ht⟩:∃t,ts[i]?=some t:=⟨ts[i],List.getElem?_eq_getElem _⟩
  have hd:ts.drop i=t::ts.drop (i+1):=by rw[List.drop_eq_getElem_cons (by omega)];congr 1;rw[List.getElem?_eq_getElem (by omega)] at ht;exact Option.some.inj ht
  unfold YJ;rw[ih,hd];show(match g ((wT t++wTs (ts.drop (i+1)))++r) with|none=>none|some (t,r')=>some (ts.take i++[t],r'))=_;rw[List.append_assoc,hg t (List.mem_of_getElem? ht),List.take_add_one,ht];rfl
theorem Nd:∀(n:Nat) (t:Tr) (r:List Int),DF n t=true->rd n (wT t++r)=some (t,r)
 |0,_,_,h=>nomatch h
 |n+1,.non,_,h=>nomatch h
 |n+1,.bl _,_,h=>nomatch h
 |n+1,.lst _,_,h=>nomatch h
 |n+1,.int i,r,h=>by
  have h':(decide (0<=i)&&decide (i<=999999999))=true:=h;rw[Bool.and_eq_true,decide_eq_true_eq,decide_eq_true_eq] at h';show rd (n+1) (0::i::r)=_;unfold rd;dsimp only;rw[if_pos ⟨by decide,by decide⟩,if_pos rfl,if_pos h']
 |n+1,.str z,r,h=>by
  obtain⟨zl,zs⟩:=K7 h;have zc:=BU z;show rd (n+1) (1::(z.length:Int)::((CA z).map idx++r))=_;unfold rd;dsimp only;rw[if_pos ⟨by decide,by decide⟩];rw[if_neg (by decide),if_pos rfl,if_pos ⟨by omega,by omega⟩,On (CA z) r zs _ (by omega),List.take_of_length_le (by omega),List.drop_eq_nil_of_le (by omega)];have:(⟨(CA z).toArray⟩:Str)=z:=RE rfl;show some (Tr.str ⟨(CA z).toArray⟩,r)=_;rw[this]
 |n+1,.tup ts,r,h=>by
  obtain⟨tl,tt⟩:=DV h;have hg:∀t∈ts,∀r,rd n (wT t++r)=some (t,r):=fun t ht r=>by
   obtain⟨i,hi⟩:=List.getElem?_of_mem ht;exact Nd n t r (tt i t hi)
  show rd (n+1) (2::(ts.length:Int)::(wTs ts++r))=_;unfold rd;dsimp only;rw[if_pos ⟨by decide,by decide⟩];rw[if_neg (by decide),if_neg (by decide),if_pos ⟨by omega,by omega⟩,OC ts r hg _ (by omega),List.take_of_length_le (by omega),List.drop_eq_nil_of_le (by omega)];rfl
theorem N7 {n:Nat}{t u:Tr}(ht:DF n t=true)(hu:DF n u=true)(h:wT t=wT u):t=u:=by
 have e1:=Nd n t [] ht;rw[h,Nd n u [] hu] at e1;exact(Prod.mk.inj (Option.some.inj e1)).1.symm
theorem Nn {H:Hp}:∀(n:Nat) (t u:Tr) (v:V),DF n t=true->DF n u=true->Rep NL H t v->Rep NL H u v->t=u
 |0,_,_,_,h,_,_,_=>nomatch h
 |n+1,.int i,.int j,v,_,_,h1,h2=>by
  have e1:v=V.int i:=h1;have e2:v=V.int j:=h2;rw[e1] at e2;cases e2;rfl
 |n+1,.int i,.str z,v,_,_,h1,h2=>by
  have e1:v=V.int i:=h1;have e2:v=V.str z:=h2;rw[e1] at e2;cases e2
 |n+1,.int i,.tup ts,v,_,_,h1,⟨a,vs,e2,_⟩=>by
  have e1:v=V.int i:=h1;rw[e1] at e2;cases e2
 |n+1,.str z,.int j,v,_,_,h1,h2=>by
  have e1:v=V.str z:=h1;have e2:v=V.int j:=h2;rw[e1] at e2;cases e2
 |n+1,.str z,.str y,v,_,_,h1,h2=>by
  have e1:v=V.str z:=h1;have e2:v=V.str y:=h2;rw[e1] at e2;cases e2;rfl
 |n+1,.str z,.tup ts,v,_,_,h1,⟨a,vs,e2,_⟩=>by
  have e1:v=V.str z:=h1;rw[e1] at e2;cases e2
 |n+1,.tup ts,.int j,v,_,_,⟨a,vs,e1,_⟩,h2=>by
  have e2:v=V.int j:=h2;rw[e1] at e2;cases e2
 |n+1,.tup ts,.str y,v,_,_,⟨a,vs,e1,_⟩,h2=>by
  have e2:v=V.str y:=h2;rw[e1] at e2;cases e2
 |n+1,.tup ts,.tup us,v,ht,hu,⟨a,vs,e1,ha,r1⟩,⟨b,ws,e2,hb,r2⟩=>by
  subst e1;cases e2;rw[ha] at hb;cases hb;obtain⟨_,tt⟩:=DV ht;obtain⟨_,tu⟩:=DV hu;have l1:=Ax.len ts vs r1;have l2:=Ax.len us vs r2;have:ts=us:=by
   refine List.ext_getElem? fun i=>?_
   by_cases hi:i<vs.length
   ·obtain⟨t1,g1,p1⟩:=Ax.get r1 (List.getElem?_eq_getElem hi);obtain⟨t2,g2,p2⟩:=Ax.get r2 (List.getElem?_eq_getElem hi);rw[g1,g2,Nn n t1 t2 _ (tt i t1 g1) (tu i t2 g2) p1 p2]
   ·rw[List.getElem?_eq_none (by omega),List.getElem?_eq_none (by omega)]
  rw[this]
 |n+1,.non,_,_,h,_,_,_=>nomatch h
 |n+1,.bl _,_,_,h,_,_,_=>nomatch h
 |n+1,.lst _,_,_,h,_,_,_=>nomatch h
 |n+1,.int _,.non,_,_,h,_,_=>nomatch h
 |n+1,.int _,.bl _,_,_,h,_,_=>nomatch h
 |n+1,.int _,.lst _,_,_,h,_,_=>nomatch h
 |n+1,.str _,.non,_,_,h,_,_=>nomatch h
 |n+1,.str _,.bl _,_,_,h,_,_=>nomatch h
 |n+1,.str _,.lst _,_,_,h,_,_=>nomatch h
 |n+1,.tup _,.non,_,_,h,_,_=>nomatch h
 |n+1,.tup _,.bl _,_,_,h,_,_=>nomatch h
 |n+1,.tup _,.lst _,_,_,h,_,_=>nomatch h
theorem EA {n:Nat}{t u:Tr}(ht:DF n t=true)(hu:DF n u=true){b:Bool}(h:b=true↔t=u):decide (wT t=wT u)=b:=by
 rw[Bool.eq_iff_iff,decide_eq_true_eq,h];exact⟨N7 ht hu,fun e=>by rw[e]⟩
theorem Pa {n:Nat}{ts us:List Tr}(ht:DF (n+1) (.tup ts)=true)(hu:DF (n+1) (.tup us)=true):decide (wT (.tup ts)=wT (.tup us))=((List.range (min ts.length us.length)).all (fun j=>decide (wT (ts.getD j .non)=wT (us.getD j .non)))&&ts.length == us.length):=by
 obtain⟨_,tt⟩:=DV ht;obtain⟨_,tu⟩:=DV hu;refine EA ht hu ?_;rw[Bool.and_eq_true,List.all_eq_true,beq_iff_eq];constructor
 ·rintro⟨h1,h2⟩
  congr 1
  refine List.ext_getElem? fun i=>?_
  by_cases hi:i<ts.length
  ·have e:=h1 i (List.mem_range.mpr (by omega));obtain⟨t1,g1⟩:∃t1,ts[i]?=some t1:=⟨ts[i],List.getElem?_eq_getElem hi⟩
   obtain⟨t2,g2⟩:∃t2,us[i]?=some t2:=⟨us[i]'(by omega),List.getElem?_eq_getElem _⟩
   simp only[List.getD,g1,g2,Option.getD_some,decide_eq_true_eq] at e;rw[g1,g2,N7 (tt i t1 g1) (tu i t2 g2) e]
  ·rw[List.getElem?_eq_none (by omega),List.getElem?_eq_none (by omega)]
 ·intro h;cases h;exact⟨fun i _=>decide_eq_true rfl,rfl⟩
section
variable {X:Cx}{pins:List (Addr×Obj)}{σ:St}{H:Hp}{s:Shared}
theorem PY (I:Inv X pins σ H s):∀(n:Nat) (t u:Tr) (A:Around) (v w:V) (vv ww:Value),DF n t=true->DF n u=true->A.units+n<cLine->Rep NL H t v->Rep NL H u w->RelV v vv->RelV w ww->SeqAt.EqAt A s vv ww (decide (wT t=wT u))
 |0,_,_,_,_,_,_,_,h,_,_,_,_,_,_=>nomatch h
 |n+1,t,u,A,v,w,vv,ww,ht,hu,hA,h1,h2,r1,r2=>by
  cases t with
  |int i=>
   cases(show v=V.int i from h1);obtain⟨t1,rfl⟩:=r1;cases u with
   |int j=>
    cases(show w=V.int j from h2);obtain⟨t2,rfl⟩:=r2;rw[EA ht hu (b:=i == j) (by rw[beq_iff_eq];exact⟨fun e=>by rw[e],fun e=>by cases e;rfl⟩)];exact SeqAt.EqAt.int_int i t1 j t2
   |str z=>
    cases(show w=V.str z from h2);obtain⟨t2,rfl⟩:=r2;rw[EA ht hu (b:=false) ⟨(fun e=>nomatch e),(fun e=>nomatch e)⟩];exact SeqAt.EqAt.int_str i t1 z t2
   |tup us=>
    obtain⟨b,ws,rfl,hb,_⟩:=h2;cases r2;obtain⟨its,_,p,_⟩:=I.tuple (AW.of (K:=X.K) hb);rw[EA ht hu (b:=false) ⟨(fun e=>nomatch e),(fun e=>nomatch e)⟩];exact SeqAt.EqAt.int_tuple i t1 p (by omega)
   |non=>cases hu
   |bl _=>cases hu
   |lst _=>cases hu
  |str y=>
   cases(show v=V.str y from h1);obtain⟨t1,rfl⟩:=r1;cases u with
   |int j=>
    cases(show w=V.int j from h2);obtain⟨t2,rfl⟩:=r2;rw[EA ht hu (b:=false) ⟨(fun e=>nomatch e),(fun e=>nomatch e)⟩];exact SeqAt.EqAt.str_int y t1 j t2
   |str z=>
    cases(show w=V.str z from h2);obtain⟨t2,rfl⟩:=r2;rw[EA ht hu (b:=y == z) (by rw[beq_iff_eq];exact⟨fun e=>by rw[e],fun e=>by cases e;rfl⟩)];exact SeqAt.EqAt.str_str y t1 z t2
   |tup us=>
    obtain⟨b,ws,rfl,hb,_⟩:=h2;cases r2;obtain⟨its,_,p,_⟩:=I.tuple (AW.of (K:=X.K) hb);rw[EA ht hu (b:=false) ⟨(fun e=>nomatch e),(fun e=>nomatch e)⟩];exact SeqAt.EqAt.str_tuple y t1 p (by omega)
   |non=>cases hu
   |bl _=>cases hu
   |lst _=>cases hu
  |tup ts=>
   obtain⟨a,vs,rfl,ha,hr1⟩:=h1;cases r1;obtain⟨its,rv1,p1,_⟩:=I.tuple (AW.of (K:=X.K) ha);cases u with
   |int j=>
    cases(show w=V.int j from h2);obtain⟨t2,rfl⟩:=r2;rw[EA ht hu (b:=false) ⟨(fun e=>nomatch e),(fun e=>nomatch e)⟩];exact SeqAt.EqAt.tuple_int j t2 p1 (by omega)
   |str z=>
    cases(show w=V.str z from h2);obtain⟨t2,rfl⟩:=r2;rw[EA ht hu (b:=false) ⟨(fun e=>nomatch e),(fun e=>nomatch e)⟩];exact SeqAt.EqAt.tuple_str z t2 p1 (by omega)
   |tup us=>
    obtain⟨b,ws,rfl,hb,hr2⟩:=h2;cases r2;obtain⟨its2,rv2,p2,_⟩:=I.tuple (AW.of (K:=X.K) hb)
    by_cases hab:a=b
    ·subst hab;have:=Nn (n+1) (.tup ts) (.tup us) (.ref a) ht hu ⟨a,vs,rfl,ha,hr1⟩ ⟨a,ws,rfl,hb,hr2⟩;rw[this,decide_eq_true rfl];exact SeqAt.EqAt.same _
    obtain⟨_,tt⟩:=DV ht;obtain⟨_,tu⟩:=DV hu;have l1:=rv1.length.symm.trans (Ax.len ts vs hr1);have l2:=rv2.length.symm.trans (Ax.len us ws hr2);have q:=SeqAt.RcAt.tuples (A:=A) (s:=s) (e:=fun j=>decide (wT (ts.getD j .non)=wT (us.getD j .non))) p1 p2 (by omega) (fun j g1 g2=>by
     have g1':j<its.length:=by simpa using g1
     have g2':j<its2.length:=by simpa using g2
     have lv1:=rv1.length;have lv2:=rv2.length;obtain⟨x1,hx1⟩:∃x1,vs[j]?=some x1:=⟨vs[j]'(by omega),List.getElem?_eq_getElem _⟩
     obtain⟨x2,hx2⟩:∃x2,ws[j]?=some x2:=⟨ws[j]'(by omega),List.getElem?_eq_getElem _⟩
     obtain⟨y1,hy1,ry1⟩:=rv1.get hx1;obtain⟨y2,hy2,ry2⟩:=rv2.get hx2;obtain⟨t1,e1,p1'⟩:=Ax.get hr1 hx1;obtain⟨t2,e2,p2'⟩:=Ax.get hr2 hx2;have:=PY I n t1 t2 A.in1 x1 x2 y1 y2 (tt j t1 e1) (tu j t2 e2) (by show A.units+1+n<cLine;omega) p1' p2' ry1 ry2;rw[List.getElem?_eq_getElem g1'] at hy1;rw[List.getElem?_eq_getElem g2'] at hy2;cases hy1;cases hy2;simp only[List.getD,e1,e2,Option.getD_some];simpa using this)
    rw[Pa ht hu];simp only[List.size_toArray,l1,l2] at q;exact SeqAt.EqAt.of_refs hab q
   |non=>cases hu
   |bl _=>cases hu
   |lst _=>cases hu
  |non=>cases ht
  |bl _=>cases ht
  |lst _=>cases ht
end
section
variable {X:Cx}
def Zc (neg:Bool):R2:=fun x y H Q=>∃t u,DF 8 t=true/\DF 8 u=true/\Rep NL H t x/\Rep NL H u y/\Q (.bl (if neg then !decide (wT t=wT u) else decide (wT t=wT u))) H
theorem Te {pins:List (Addr×Obj)} {σ:St} {H:Hp} {s:Shared} (I:Inv X pins σ H s) {n:Nat} {A:Around} {ts us:List Tr} {vs ws:List V} {its its2:List Value} (hA:A.units+1+n<cLine) (tt:∀(i:Nat) t,ts[i]?=some t->DF n t=true) (tu:∀(i:Nat) t,us[i]?=some t->DF n t=true)
  (hr1:Ax NL H ts vs) (hr2:Ax NL H us ws) (rv1:AL vs its) (rv2:AL ws its2) (j:Nat) (g1:j<its.toArray.size) (g2:j<its2.toArray.size):SeqAt.EqAt A.in1 s its.toArray[j] its2.toArray[j] (decide (wT (ts.getD j .non)=wT (us.getD j .non))):=by
 have g1':j<its.length:=by simpa using g1
 have g2':j<its2.length:=by simpa using g2
 have lv1:=rv1.length;have lv2:=rv2.length;obtain⟨x1,hx1⟩:∃x1,vs[j]?=some x1:=⟨vs[j]'(by omega),List.getElem?_eq_getElem _⟩
 obtain⟨x2,hx2⟩:∃x2,ws[j]?=some x2:=⟨ws[j]'(by omega),List.getElem?_eq_getElem _⟩
 obtain⟨y1,hy1,ry1⟩:=rv1.get hx1;obtain⟨y2,hy2,ry2⟩:=rv2.get hx2;obtain⟨t1,e1,p1'⟩:=Ax.get hr1 hx1;obtain⟨t2,e2,p2'⟩:=Ax.get hr2 hx2;have:=PY I n t1 t2 A.in1 x1 x2 y1 y2 (tt j t1 e1) (tu j t2 e2) (by show A.units+1+n<cLine;omega) p1' p2' ry1 ry2;rw[List.getElem?_eq_getElem g1'] at hy1;rw[List.getElem?_eq_getElem g2'] at hy2;cases hy1;cases hy2;simp only[List.getD,e1,e2,Option.getD_some];simpa using this
theorem SY (hu9:X.A.units+150<cLine):Il X (compareOp .Eq) (Zc false):=by
 intro pins s σ H x y v u Q I rx ry h;obtain⟨t,w,ht,hw,h1,h2,q⟩:=h;have fin:∀b:Bool,decide (wT t=wT w)=b->SeqAt.RcAt X.A s v u b->wpAny (model X.prog X.w) X.A (compareOp .Eq v u) (EP X pins σ Q) X.xe s:=fun b e r=>by
  rw[e] at q;exact r _ _ _ _ ⟨.bl _,H,I,rfl,q⟩
 cases t with
 |int i=>
  cases(show x=V.int i from h1);obtain⟨t1,rfl⟩:=rx;cases w with
  |int j=>
   cases(show y=V.int j from h2);obtain⟨t2,rfl⟩:=ry;exact fin (i == j) (EA ht hw (by rw[beq_iff_eq];exact⟨fun e=>by rw[e],fun e=>by cases e;rfl⟩)) (SeqAt.RcAt.int_int i t1 j t2)
  |str z=>
   cases(show y=V.str z from h2);obtain⟨t2,rfl⟩:=ry;exact fin false (EA ht hw ⟨(fun e=>nomatch e),(fun e=>nomatch e)⟩) (SeqAt.RcAt.int_str i t1 z t2)
  |tup us=>
   obtain⟨b,ws,rfl,hb,_⟩:=h2;cases ry;obtain⟨its,_,p,_⟩:=I.tuple (AW.of (K:=X.K) hb);exact fin false (EA ht hw ⟨(fun e=>nomatch e),(fun e=>nomatch e)⟩) (SeqAt.RcAt.int_tuple i t1 p (by omega))
  |non=>cases hw
  |bl _=>cases hw
  |lst _=>cases hw
 |str a=>
  cases(show x=V.str a from h1);obtain⟨t1,rfl⟩:=rx;cases w with
  |int j=>
   cases(show y=V.int j from h2);obtain⟨t2,rfl⟩:=ry;exact fin false (EA ht hw ⟨(fun e=>nomatch e),(fun e=>nomatch e)⟩) (SeqAt.RcAt.str_int a t1 j t2)
  |str z=>
   cases(show y=V.str z from h2);obtain⟨t2,rfl⟩:=ry;exact fin (a == z) (EA ht hw (by rw[beq_iff_eq];exact⟨fun e=>by rw[e],fun e=>by cases e;rfl⟩)) (SeqAt.RcAt.str_str a t1 z t2)
  |tup us=>
   obtain⟨b,ws,rfl,hb,_⟩:=h2;cases ry;obtain⟨its,_,p,_⟩:=I.tuple (AW.of (K:=X.K) hb);exact fin false (EA ht hw ⟨(fun e=>nomatch e),(fun e=>nomatch e)⟩) (SeqAt.RcAt.str_tuple a t1 p (by omega))
  |non=>cases hw
  |bl _=>cases hw
  |lst _=>cases hw
 |tup ts=>
  obtain⟨a,vs,rfl,ha,hr1⟩:=h1;cases rx;obtain⟨its,rv1,p1,_⟩:=I.tuple (AW.of (K:=X.K) ha);cases w with
  |int j=>
   cases(show y=V.int j from h2);obtain⟨t2,rfl⟩:=ry;exact fin false (EA ht hw ⟨(fun e=>nomatch e),(fun e=>nomatch e)⟩) (SeqAt.RcAt.tuple_int j t2 p1 (by omega))
  |str z=>
   cases(show y=V.str z from h2);obtain⟨t2,rfl⟩:=ry;exact fin false (EA ht hw ⟨(fun e=>nomatch e),(fun e=>nomatch e)⟩) (SeqAt.RcAt.tuple_str z t2 p1 (by omega))
  |tup us=>
   obtain⟨b,ws,rfl,hb,hr2⟩:=h2;cases ry;obtain⟨its2,rv2,p2,_⟩:=I.tuple (AW.of (K:=X.K) hb);have l1:=rv1.length.symm.trans (Ax.len ts vs hr1);have l2:=rv2.length.symm.trans (Ax.len us ws hr2);have r:=SeqAt.RcAt.tuples (A:=X.A) (s:=s) (e:=fun j=>decide (wT (ts.getD j .non)=wT (us.getD j .non))) p1 p2 (by omega) (fun j g1 g2=>Te I (n:=7) (by omega) (DV ht).2 (DV hw).2 hr1 hr2 rv1 rv2 j g1 g2);simp only[List.size_toArray,l1,l2] at r;exact fin _ (Pa ht hw) r
  |non=>cases hw
  |bl _=>cases hw
  |lst _=>cases hw
 |non=>cases ht
 |bl _=>cases ht
 |lst _=>cases ht
end
end
section
variable {P:Program}{w:World}{K:W.Frag}{mg:Str->Option Value}{base:Heap}{f Ab Ad Aa Ae:Addr}{XC:Nat->Addr}{fd:FuncData}
abbrev Fy:=List (Int×List Int)
def Hn (b:Fy)(k:Int)(row:List Int):Fy:=if(b.any fun x=>decide (x.1=k))=true then b.map (fun x=>if x.1=k then(x.1,row) else x) else b++[(k,row)]
def Eg (b:Fy)(k:Int):Option (List Int):=(b.find? fun x=>decide (x.1=k)).map (·.2)
def YY (H:Hp):Key×V->Int×List Int->Prop:=fun kv x=>kv.1=Sum.inl x.1/\∃r,kv.2=.ref r/\H r=some (.lst (x.2.map V.int))
def CF (H:Hp)(kvs:List (Key×V))(b:Fy):Prop:=Paired (YY H) kvs b
theorem CF.same {H H':Hp}{kvs:List (Key×V)}{b:Fy}(r:CF H kvs b)(s:∀a xs,H a=some (.lst xs)->H' a=some (.lst xs)):CF H' kvs b:=Paired.mapP r fun _ _ ⟨h1,a,h2,h3⟩=>⟨h1,a,h2,s _ _ h3⟩
theorem Wt (a k:Int):decide ((Sum.inl a:Key)=Sum.inl k)=decide (a=k):=by
 by_cases e:a=k
 ·rw[e];simp
 ·rw[decide_eq_false e,decide_eq_false fun z=>e (Sum.inl.inj z)]
theorem CF.any {H:Hp}{kvs:List (Key×V)}{b:Fy}(r:CF H kvs b)(k:Int):(kvs.any fun kv=>decide (kv.1=Sum.inl k))=(b.any fun x=>decide (x.1=k)):=by
 unfold CF at r
 induction r with
 |nil=>rfl
 |cons h t ih=>rw[List.any_cons,List.any_cons,ih,h.1,Wt]
theorem CF.put {H:Hp}{kvs:List (Key×V)}{b:Fy}(r:CF H kvs b)(k:Int){l:Addr}{row:List Int}(hl:H l=some (.lst (row.map V.int))):CF H (putK kvs (Sum.inl k) (.ref l)) (Hn b k row):=by
 unfold putK Hn;rw[r.any k]
 by_cases hc:(b.any fun x=>decide (x.1=k))=true
 ·rw[if_pos hc,if_pos hc]
  clear hc
  unfold CF at r ⊢
  induction r with
  |nil=>exact .nil
  |@cons kv x ps qs h t ih=>
   rw[List.map_cons,List.map_cons];refine .cons ?_ ih
   by_cases e:x.1=k
   ·rw[if_pos (by rw[h.1,e]),if_pos e];exact⟨h.1,l,rfl,hl⟩
   ·rw[if_neg (by rw[h.1];exact fun z=>e (Sum.inl.inj z)),if_neg e];exact h
 ·rw[if_neg hc,if_neg hc];exact Paired.snoc r ⟨rfl,l,rfl,hl⟩
theorem CF.get {H:Hp}{kvs:List (Key×V)}{b:Fy}(r:CF H kvs b)(k:Int):(Bd kvs (Sum.inl k)=none/\Eg b k=none)\/∃a row,Bd kvs (Sum.inl k)=some (.ref a)/\Eg b k=some row/\H a=some (.lst (row.map V.int)):=by
 unfold CF at r
 induction r with
 |nil=>exact .inl ⟨rfl,rfl⟩
 |@cons kv x ps qs h t ih=>
  obtain⟨h1,a,h2,h3⟩:=h
  by_cases e:x.1=k
  ·refine .inr ⟨a,x.2,?_,?_,h3⟩
   ·rw[HX (by rw[h1,e]),h2]
   ·unfold Eg;rw[List.find?_cons,decide_eq_true e];rfl
  ·have g1:Eg (x::qs) k=Eg qs k:=by unfold Eg;rw[List.find?_cons,decide_eq_false e]
   have g2:Bd (kv::ps) (Sum.inl k)=Bd ps (Sum.inl k):=HR (by rw[h1];exact fun z=>e (Sum.inl.inj z));rw[g1,g2];exact ih
theorem CF.len {H:Hp}{kvs:List (Key×V)}{b:Fy}(r:CF H kvs b):kvs.length=b.length:=Paired.length r
theorem T8 (b:Fy)(k:Int)(row:List Int):(Hn b k row).length<=b.length+1:=by
 unfold Hn
 split
 ·rw[List.length_map];omega
 ·rw[List.length_append];show b.length+1<=_;omega
theorem Lm {α β:Type}{F G:α->β->Prop}:∀{l₁:List α} {l₂:List β},Paired F l₁ l₂->(∀a∈l₁,∀b,F a b->G a b)->Paired G l₁ l₂
 |_,_,.nil,_=>.nil
 |_,_,.cons r t,f=>.cons (f _ List.mem_cons_self _ r) (Lm t fun a ha=>f a (List.mem_cons_of_mem _ ha))
theorem D9 {α β:Type}{F:α->β->Prop}:∀{l₁:List α} {l₂:List β} {i:Nat} {a:α},Paired F l₁ l₂->l₁[i]?=some a->∃b,l₂[i]?=some b/\F a b
 |_,_,_,_,.nil,e=>by simp at e
 |_,_,0,_,.cons r _,e=>by simp at e;subst e;exact⟨_,rfl,r⟩
 |_,_,i+1,a,.cons _ t,e=>by
  obtain⟨b,h1,h2⟩:=D9 (i:=i) (a:=a) t (by simpa using e);exact⟨b,by simpa using h1,h2⟩
theorem Sa {b:Fy}{k:Int}{row:List Int}(h:(b.any fun x=>decide (x.1=k))=true):(Hn b k row).map (·.1)=b.map (·.1):=by
 unfold Hn;rw[if_pos h,List.map_map];refine List.map_congr_left fun x _=>?_
 show(if x.1=k then(x.1,row) else x).1=x.1
 split<;>rfl
theorem TZ {b:Fy}{k:Int}{row:List Int}(h:k∉b.map (·.1)):Hn b k row=b++[(k,row)]:=by
 unfold Hn;rw[if_neg];intro z;obtain⟨x,hx,e⟩:=List.any_eq_true.mp z;exact h (List.mem_map.mpr ⟨x,hx,of_decide_eq_true e⟩)
theorem QR {b:Fy}{k:Int}{row:List Int}(h:(b.map (·.1)).Nodup):((Hn b k row).map (·.1)).Nodup:=by
 by_cases c:k∈b.map (·.1)
 ·rw[Sa]
  ·exact h
  ·obtain⟨x,hx,e⟩:=List.mem_map.mp c;exact List.any_eq_true.mpr ⟨x,hx,decide_eq_true e⟩
 ·rw[TZ c,List.map_append,List.nodup_append];refine⟨h,by simp,fun e he g hg=>?_⟩;rw[show g=k by simpa using hg];intro z;exact c (z▸he)
def Sl (H:Hp)(ds:List Addr)(bs:List Fy):Prop:=Paired (fun d b=>∃kvs,H d=some (.dK kvs)/\CF H kvs b/\(b.map (·.1)).Nodup) ds bs
theorem Sl.same {H H':Hp}{ds:List Addr}{bs:List Fy}(r:Sl H ds bs)(s:∀a xs,H a=some (.lst xs)->H' a=some (.lst xs))(k:∀d∈ds,∀kvs,H d=some (.dK kvs)->H' d=some (.dK kvs)):Sl H' ds bs:=
 Lm r fun d hd _ ⟨kvs,h1,h2,h3⟩=>⟨kvs,k d hd kvs h1,h2.same s,h3⟩
theorem Sl.set {H H':Hp}{d:Addr}{b':Fy}(s:∀a xs,H a=some (.lst xs)->H' a=some (.lst xs))(hd:∃kvs,H' d=some (.dK kvs)/\CF H' kvs b'/\(b'.map (·.1)).Nodup):∀{ds:List Addr} {bs:List Fy},Sl H ds bs->ds.Nodup->(∀e∈ds,e≠d->∀kvs,H e=some (.dK kvs)->H' e=some (.dK kvs))->∀{i:Nat},ds[i]?=some d->Sl H' ds (bs.set i b')
 |_,_,.nil,_,_,i,hi=>by simp at hi
 |_,_,.cons h t,nd,k,0,hi=>by
  simp at hi;subst hi;refine .cons hd (Lm t fun e he _ ⟨kvs,h1,h2,h3⟩=>⟨kvs,k e (List.mem_cons_of_mem _ he) (fun z=>(List.nodup_cons.mp nd).1 (z▸he)) kvs h1,h2.same s,h3⟩)
 |e::es,_,.cons h t,nd,k,i+1,hi=>by
  have hi':es[i]?=some d:=by simpa using hi
  obtain⟨kvs,h1,h2,h3⟩:=h;refine .cons ⟨kvs,k e List.mem_cons_self (fun z=>(List.nodup_cons.mp nd).1 (by rw[z];exact List.mem_of_getElem? hi')) kvs h1,h2.same s,h3⟩ ?_;exact Sl.set s hd t (List.nodup_cons.mp nd).2 (fun e' he'=>k e' (List.mem_cons_of_mem _ he')) hi'
def KH (s:Addr)(n:Int)(lf:V):List (Str×V):=[("shelves",.ref s),("writes",.int n),("writes_left",lf)]
theorem Xs (s:Addr)(n y:Int)(lf:V):Eu "writes" (.int y) (KH s n lf)=KH s y lf:=by
 unfold KH;simp only[Eu];rfl
def Hu (Ad:Addr)(H:Hp)(p:Addr)(ds:List Addr)(bs:List Fy)(n:Int)(lf:V):Prop:=∃dx s,H p=some (.ins Ad dx (KH s n lf))/\H s=some (.lst (ds.map V.ref))/\ds.Nodup/\Sl H ds bs
theorem Hu.len {Ad:Addr}{H:Hp}{p:Addr}{ds:List Addr}{bs:List Fy}{n:Int}{lf:V}(h:Hu Ad H p ds bs n lf):ds.length=bs.length:=by
 obtain⟨_,_,_,_,_,r⟩:=h;exact Paired.length r
def Kb (H H':Hp)(p:Addr)(ds:List Addr):Prop:=∀b o,H b=some o->b≠p->b∉ds->H' b=some o
theorem Hu.kept {Ad:Addr}{H H':Hp}{p q:Addr}{ds es:List Addr}{bs:List Fy}{n:Int}{lf:V}{m:Int}{lf2:V}{cs:List Fy}(h:Hu Ad H q es bs n lf)(g:Hu Ad H p ds cs m lf2)(k:Kb H H' p ds)(hq:q≠p)(ha:∀e∈es,e∉ds):Hu Ad H' q es bs n lf:=by
 obtain⟨dx,s,h1,h2,h3,h4⟩:=h;obtain⟨dx2,s2,g1,g2,g3,g4⟩:=g;have nd:∀{b:Addr} {o:HO},H b=some o->(∀kvs,o≠.dK kvs)->b∉ds:=fun{b o} e z hb=>by
  obtain⟨i,hi,ei⟩:=List.getElem_of_mem hb;obtain⟨c,_,kvs,q1,_⟩:=D9 (i:=i) g4 (by rw[List.getElem?_eq_getElem hi,ei]);rw[e] at q1;exact z kvs (Option.some.inj q1)
 refine⟨dx,s,k q _ h1 hq (nd h1 (by intro kvs z;cases z)),k s _ h2 (AM h2 g1 (by intro z;cases z)) (nd h2 (by intro kvs z;cases z)),h3,h4.same (fun a xs e=>k a _ e (AM e g1 (by intro z;cases z)) (nd e (by intro kvs z;cases z))) fun d hd kvs e=>k d _ e (AM e g1 (by intro z;cases z)) (ha d hd)⟩
theorem Hu.same {Ad:Addr}{H H':Hp}{p:Addr}{ds:List Addr}{bs:List Fy}{n:Int}{lf:V}(h:Hu Ad H p ds bs n lf)(s:Ar H H'):Hu Ad H' p ds bs n lf:=by
 obtain⟨dx,s0,h1,h2,h3,h4⟩:=h;exact⟨dx,s0,s.get h1,s.get h2,h3,h4.same (fun a xs e=>s.get e) fun d _ kvs e=>s.get e⟩
theorem Ar.kb {H H':Hp}(s:Ar H H')(p:Addr)(ds:List Addr):Kb H H' p ds:=fun b o e _ _=>s b o e
theorem Kb.trans {H H1 H2:Hp}{p:Addr}{ds:List Addr}(a:Kb H H1 p ds)(b:Kb H1 H2 p ds):Kb H H2 p ds:=fun c o e h1 h2=>b c o (a c o e h1 h2) h1 h2
theorem Hu.notin {Ad:Addr}{H:Hp}{p:Addr}{ds:List Addr}{bs:List Fy}{n:Int}{lf:V}(g:Hu Ad H p ds bs n lf){b:Addr}{o:HO}(e:H b=some o)(z:∀kvs,o≠.dK kvs):b∉ds:=fun hb=>by
 obtain⟨_,_,_,_,_,g4⟩:=g;obtain⟨i,hi,ei⟩:=List.getElem_of_mem hb;obtain⟨c,_,kvs,q1,_⟩:=D9 (i:=i) g4 (by rw[List.getElem?_eq_getElem hi,ei]);rw[e] at q1;exact z kvs (Option.some.inj q1)
theorem Hu.there {Ad:Addr}{H:Hp}{p:Addr}{ds:List Addr}{bs:List Fy}{n:Int}{lf:V}(g:Hu Ad H p ds bs n lf):∀d∈ds,∃kvs,H d=some (.dK kvs):=fun d hb=>by
 obtain⟨_,_,_,_,_,g4⟩:=g;obtain⟨i,hi,ei⟩:=List.getElem_of_mem hb;obtain⟨c,_,kvs,q1,_⟩:=D9 (i:=i) g4 (by rw[List.getElem?_eq_getElem hi,ei]);exact⟨kvs,q1⟩
def Fm (K:W.Frag)(Ad:Addr):Sp:=fun vs H Q _=>∃(p dx:Addr) (m:Nat),vs=[.ref p,.int m]/\2<=m/\m<=4/\H p=some (.ins Ad dx [])/\∀H' ds,Hu Ad H' p ds (List.replicate m []) 0 .non->(∀d∈ds,H d=none)->(∀b o,H b=some o->b≠p->H' b=some o)->Q .non H'
def DR (K:W.Frag)(Ad:Addr):Sp:=fun vs H Q _=>∃p ds bs n lf,vs=[.ref p]/\Hu Ad H p ds bs n lf/\Q (.int (bs.length:Int)) H
def Di (K:W.Frag)(Ad:Addr):Sp:=fun vs H Q _=>∃p ds bs n lf,∃(b:Nat),vs=[.ref p,.int (b:Int)]/\Hu Ad H p ds bs n lf/\b<bs.length/\∀d,ds[b]?=some d->Q (.ref d) H
def EI (K:W.Frag)(Ad:Addr):Sp:=fun vs H Q _=>∃p ds bs n,∃(b:Nat) (z:Int) (a:Addr) (row:List Int),vs=[.ref p,.int (b:Int),.int z,.ref a]/\Hu Ad H p ds bs n .non/\b<bs.length/\(∀c∈bs,c.length<100000)/\H a=some (.lst (row.map V.int))/\
 ∀H',Hu Ad H' p ds (bs.set b (Hn (bs.getD b []) z row)) (n+1) .non->Kb H H' p ds->Q .non H'
def Fp (K:W.Frag)(Ad:Addr):Sp:=fun vs H Q _=>∃p ds bs n lf,∃(b:Nat) (z:Int),vs=[.ref p,.int (b:Int),.int z]/\Hu Ad H p ds bs n lf/\b<bs.length/\(Eg (bs.getD b []) z=none->Q .non H)/\
 ∀row,Eg (bs.getD b []) z=some row->∀l,H l=none->Q (.ref l) (upd H l (.lst (row.map V.int)))
theorem LU (T:Txt K mg Ab Ad Aa Ae XC)(F:Fun K "many" "Boards.many" Cs f fd):FnOk P w K mg base Cf 1 f fd ["self"] (DR K Ad):=by
 exists L0
 ·obtain⟨p,ds,bs,n,lf,rfl,_⟩:=h;rfl
 obtain⟨p,ds,bs,n,lf,rfl,hB,q⟩:=h;have hl:=hB.len;obtain⟨dx,s0,h1,h2,h3,h4⟩:=hB;refine⟨_,(!Al (!An (!Au AK (by rfl) T.b_len BG (!Ac (!AQ (pv 0)) (!Aj))))),?_⟩;refine⟨_,rfl,p,Ad,dx,_,_,rfl,h1,T.cl_Boards,T.n_Boards_shelves,rfl,s0,_,rfl,.inl (AO.of h2),?_⟩;rw[List.length_map,hl];exact q
theorem KS (T:Txt K mg Ab Ad Aa Ae XC)(F:Fun K "shelf" "Boards.shelf" B2 f fd)(AE:Def P w K mg base 2 "is_between" ["thing","least","most"] (Bo K))(BR:A2 P w K mg base 1 Ad "many" ["self"] (DR K Ad)):FnOk P w K mg base Cf 3 f fd ["self","board"] (Di K Ad):=by
 exists KQ
 ·obtain⟨p,ds,bs,n,lf,b,rfl,_⟩:=h;rfl
 obtain⟨p,ds,bs,n,lf,b,rfl,hB,b1,q⟩:=h;have hl:=hB.len;obtain⟨dx,s0,h1,h2,h3,h4⟩:=id hB;refine⟨_,(!Ah (!AS (!Cd (!BK (!AN AE (by trivial) rfl (!Ac (pv 1) (!Ac (!Ak) (!Ac (!AB HS (!DJ (pv 0) T.cl_Boards BR) (!Ak)) (!Aj))))) (by intro _;rfl))) (!Al (!C9)) (!Aw)) (!Al (!An (!Av A4 (!AQ (pv 0)) (pv 1) (fun _ _=>rfl))))),?_⟩;refine⟨_,rfl,_,rfl,p,dx,_,rfl,h1,rfl,p,ds,bs,n,lf,rfl,hB,_,_,rfl,rfl,.int (b:Int),0,_,rfl,trivial,_,rfl,AR ?_ ?_⟩
 ·show(!(decide ((0:Int)<=(b:Int))&&decide ((b:Int)<=(bs.length:Int)-1)))=false;rw[decide_eq_true (show(0:Int)<=(b:Int) by omega),decide_eq_true (show(b:Int)<=(bs.length:Int)-1 by omega)];rfl
 have hk:b<ds.length:=by omega
 exact⟨_,rfl,p,Ad,dx,_,_,rfl,h1,T.cl_Boards,T.n_Boards_shelves,rfl,_,rfl,s0,_,_,_,rfl,rfl,AO.of h2,JM (j:=b) (by rw[List.getElem?_map,List.getElem?_eq_getElem hk];rfl),q _ (List.getElem?_eq_getElem hk)⟩
theorem V4 {H H':Hp} {p dx s0 l:Addr} {ds:List Addr} {bs:List Fy} {n y:Int} {lf lf2:V} {b:Nat} {d:Addr} {z:Int} {row:List Int} {kvs:List (Key×V)} (h1:H p=some (.ins Ad dx (KH s0 n lf))) (h2:H s0=some (.lst (ds.map V.ref))) (h3:ds.Nodup) (h4:Sl H ds bs) (hb:ds[b]?=some d) (hd:H d=some (.dK kvs))
  (hl:H l=none) (e:H'=upd (upd (upd H p (.ins Ad dx (KH s0 y lf2))) l (.lst (row.map V.int))) d (.dK (putK kvs (Sum.inl z) (.ref l)))):Hu Ad H' p ds (bs.set b (Hn (bs.getD b []) z row)) y lf2/\Kb H H' p ds:=by
 have npd:p≠d:=AM h1 hd (by intro z;cases z);have nld:l≠d:=fun z=>by rw[z,hd] at hl;cases hl
 have nlp:l≠p:=fun z=>by rw[z,h1] at hl;cases hl
 have lists:∀a xs,H a=some (.lst xs)->H' a=some (.lst xs):=fun a xs q=>by
  rw[e,Ag (AM q hd (by intro z;cases z)),Ag (AF q hl),Ag (AM q h1 (by intro z;cases z))];exact q
 have hl':H' l=some (.lst (row.map V.int)):=by rw[e,Ag nld,Af]
 obtain⟨b0,g1,kvs0,g2,g3,g5⟩:=D9 h4 hb;rw[hd] at g2;cases g2;have eb:bs.getD b []=b0:=by simp[List.getD,g1]
 refine⟨⟨dx,s0,?_,lists _ _ h2,h3,?_⟩,fun c o q hc hcd=>?_⟩
 ·rw[e,Ag npd,Ag nlp.symm,Af]
 ·rw[eb];refine Sl.set lists ⟨_,by rw[e,Af],(g3.same lists).put z hl',QR g5⟩ h4 h3 (fun e' he' ne' kvs' q=>?_) hb;rw[e,Ag ne',Ag (AF q hl),Ag (AM q h1 (by intro z;cases z))];exact q
 ·rw[e,Ag (fun z=>hcd (by rw[z];exact List.mem_of_getElem? hb)),Ag (AF q hl),Ag hc];exact q
theorem K1 (T:Txt K mg Ab Ad Aa Ae XC)(F:Fun K "write" "Boards.write" Ca f fd)(BV:A2 P w K mg base 3 Ad "shelf" ["self","board"] (Di K Ad)):FnOk P w K mg base Cf 4 f fd ["self","board","number","row"] (EI K Ad):=by
 exists Hg
 ·obtain⟨p,ds,bs,n,b,z,a,row,rfl,_⟩:=h;rfl
 obtain⟨p,ds,bs,n,b,z,a,row,rfl,hB,b1,b2,ha,q⟩:=h;have hl:=hB.len;obtain⟨dx,s0,h1,h2,h3,h4⟩:=id hB;have hu:=BJ hr;refine⟨_,(!Ah (@AG _ _ (4) _ _ _ _ Hg.nd rfl (by trivial) (!A3 (pv 0) T.cl_Boards BV (by trivial) (!Ac (pv 1) (!Aj))) (by rfl) (by trivial)) (!Ah (!AS (!AA Bh (!AQ (pv 0)) (!Ak) (AC _)) (!Al (!C9)) (!Aw)) (!Ah (!AS (!GB (!NU (!AQ (pv 0))) (by first|exact Df _ (by decide) (by decide)|rfl)) (!Al (!C9)) (!Aw)) (!Ah (!Gh (pv 0) (!Ak) La) (!Al (!EO hu (pv 4) (pv 2) (!BL CN (by rfl) T.b_list Io (!Ac (pv 3) (!Aj))))))))),?_⟩;dsimp only[BP];refine⟨_,rfl,p,dx,_,rfl,h1,rfl,_,rfl,p,ds,bs,n,.non,b,rfl,hB,b1,fun d hd=>?_⟩;obtain⟨c0,g1,kvs,e1,g3,g5⟩:=D9 h4 hd;have npd:p≠d:=AM h1 e1 (by intro z;cases z);have npa:a≠p:=AM ha h1 (by intro z;cases z);have kl:kvs.length<100000:=by rw[g3.len];exact b2 _ (List.mem_of_getElem? g1)
 dsimp only;refine⟨_,rfl,p,Ad,dx,_,_,rfl,h1,T.cl_Boards,T.n_Boards_writes_left,rfl,rfl,_,rfl,AR rfl ?_⟩;refine⟨_,rfl,p,Ad,dx,_,_,rfl,h1,T.cl_Boards,T.n_Boards_writes_left,rfl,_,rfl,AR rfl ?_⟩;refine⟨_,rfl,p,Ad,dx,_,_,rfl,h1,T.cl_Boards,T.n_Boards_writes,rfl,_,_,rfl,rfl,dx,_,h1,(by show 3<1000;decide),?_⟩;rw[Xs];refine⟨_,rfl,a,_,rfl,.inl (AO.of (by rw[Ag npa];exact ha)),fun l hl0=>?_⟩;have nlp:l≠p:=fun z=>by rw[z,Af] at hl0;cases hl0
 have hlH:H l=none:=by rw[Ag nlp] at hl0;exact hl0
 have ndl:d≠l:=AF e1 hlH;refine⟨_,rfl,_,rfl,d,_,rfl,IY.k (k:=Sum.inl z) (by rw[Ag ndl,Ag npd.symm];exact e1) (Ba (by omega)),?_⟩;obtain⟨x1,x2⟩:=V4 (Ad:=Ad) (y:=n+1) (lf2:=.non) (row:=row) (z:=z) h1 h2 h3 h4 hd e1 hlH rfl;exact q _ x1 x2
theorem Li (T:Txt K mg Ab Ad Aa Ae XC)(F:Fun K "cell" "Boards.cell" Ct f fd)(BV:A2 P w K mg base 3 Ad "shelf" ["self","board"] (Di K Ad)):FnOk P w K mg base Cf 4 f fd ["self","board","number"] (Fp K Ad):=by
 exists HG
 ·obtain⟨p,ds,bs,n,lf,b,z,rfl,_⟩:=h;rfl
 obtain⟨p,ds,bs,n,lf,b,z,rfl,hB,b1,q0,q1⟩:=h;obtain⟨dx,s0,h1,h2,h3,h4⟩:=id hB;have hu:=BJ hr;refine⟨_,(!Ah (@AG _ _ (3) _ _ _ _ HG.nd rfl (by trivial) (!Uw hu (!A3 (pv 0) T.cl_Boards BV (by trivial) (!Ac (pv 1) (!Aj))) (pv 2) ⟨rfl,rfl,rfl,rfl⟩) (by rfl) (by trivial)) (!Ah (!AS (!GB (!Pt (pv 3)) (by first|exact Df _ (by decide) (by decide)|rfl)) (!Al (!An (!Fk))) (!Aw)) (!Al (!An (!BL CN (by rfl) T.b_list Io (!Ac (pv 3) (!Aj))))))),?_⟩
 try dsimp only[BP,Cx.nox,Cx.wish]
 refine⟨_,rfl,p,dx,_,rfl,h1,rfl,_,rfl,p,ds,bs,n,lf,b,rfl,hB,b1,fun d hd=>?_⟩;obtain⟨c0,g1,kvs,e1,g3,g5⟩:=D9 h4 hd;have eb:bs.getD b []=c0:=by simp[List.getD,g1]
 rw[eb] at q0 q1;refine⟨d,rfl,.inl ⟨kvs,.inl e1⟩,_,rfl,_,Bx.k (k:=Sum.inl z) e1,?_⟩;rcases g3.get z with⟨v1,v2⟩|⟨a,row,v1,v2,v3⟩
 ·rw[v1];exact⟨_,rfl,_,rfl,BS rfl (q0 v2)⟩
 ·rw[v1];refine⟨_,rfl,_,rfl,AR rfl ?_⟩;exact⟨_,rfl,a,_,rfl,.inl (AO.of v3),fun l hl=>q1 row v2 l hl⟩
theorem LM (T:Txt K mg Ab Ad Aa Ae XC)(F:Fun K "__init__" "Boards.__init__" Cr f fd)(AE:Def P w K mg base 2 "is_between" ["thing","least","most"] (Bo K)):FnOk P w K mg base Cf 3 f fd ["self","many"] (Fm K Ad):=by
 exists L3
 ·obtain⟨p,dx,m,rfl,_⟩:=h;rfl
 obtain⟨p,dx,m,rfl,m1,m2,h1,q⟩:=h;refine⟨_,(!Ah (!AS (!Cd (!BK (!AN AE (by trivial) rfl (!Ac (pv 1) (!Ac (!AI rfl T.c_LEAST_BOARDS) (!Ac (!AI rfl T.c_MOST_BOARDS) (!Aj))))) (by intro _;rfl))) (!Al (!C9)) (!Aw)) (!Ah (!Cm (pv 0) (@Bs _ ["board"] _ _ _ _ _ _ _ _ _ _ rfl (!Ed rfl T.b_range (!Ac (pv 1) (!Aj))) (by decide +kernel) (fun C s H fp=>⟨(@Aq _ _ (0) _ (show(["board"]:List Str).Nodup by decide +kernel) rfl (by trivial) (by trivial)),(!AX),(!Fh)⟩) (by intro _;rfl))) (!Ah (!Cm (pv 0) (!Ak)) (!Al (!Cm (pv 0) (!Fk)))))),?_⟩
 try dsimp only[BP,Cx.nox,Cx.wish]
 refine⟨_,rfl,.int m,2,4,rfl,trivial,_,rfl,AR ?_ ?_⟩
 ·show(!(decide ((2:Int)<=(m:Int))&&decide ((m:Int)<=4)))=false;rw[decide_eq_true (show(2:Int)<=(m:Int) by omega),decide_eq_true (show(m:Int)<=4 by omega)];rfl
 refine⟨_,rfl,m,rfl,by omega,by omega,?_⟩;refine N9 (xs:=(List.range (m:Int).toNat).map fun(i:Nat)=>V.int (0+(i:Int))) (fun i ys l H'=>Ar H H'/\∃ds:List Addr,ys=ds.map V.ref/\ds.Nodup/\∀d∈ds,H' d=some (.dK [])/\H d=none) (by rw[List.length_map,List.length_range];omega) (fun i ys l H' _=>PQ) (fun l hl=>⟨Am hl _,[],rfl,List.nodup_nil,fun _ h=>nomatch h⟩) (fun i x ys l H' R hx hl hl' hlen hI hR d hd=>?_) fun l H1 ys hl hl1 ly hI=>?_
 ·obtain⟨s',ds,rfl,nd,hds⟩:=hI;have nld:l≠d:=AF hl' hd;refine hR _ _ (by rw[Ag nld];exact hl') ⟨A0 (A0 s' (s'.free hd) _) hl _,ds++[d],by rw[List.map_append];rfl,?_,fun e he=>?_⟩
  ·rw[List.nodup_append];refine⟨nd,by simp,fun e he g hg=>?_⟩;rw[List.mem_singleton.mp hg];intro z;have:=(hds e he).1;rw[z,hd] at this;cases this
  ·have nel:∀{o},H' e=some (.dK o)->e≠l:=fun q=>AM q hl' (by intro z;cases z)
   rcases List.mem_append.mp he with he|he
   ·obtain⟨g1,g2⟩:=hds e he;exact⟨by rw[Ag (nel g1),Ag (AF g1 hd)];exact g1,g2⟩
   ·rw[List.mem_singleton.mp he];exact⟨by rw[Ag nld.symm,Af],s'.free hd⟩
 obtain⟨s1,ds,rfl,nd,hds⟩:=hI;have lds:ds.length=m:=by rw[List.length_map,List.length_map,List.length_range] at ly;omega
 have p1:=s1.get h1;have npl:l≠p:=AM hl1 p1 (by intro z;cases z);refine⟨_,rfl,p,Ad,dx,[],rfl,p1,T.cl_Boards,T.n_Boards_shelves,(by show 0<1000;decide),?_⟩;refine⟨_,rfl,p,Ad,dx,_,rfl,Af,T.cl_Boards,T.n_Boards_writes,(by show 1<1000;decide),?_⟩;refine⟨_,rfl,p,Ad,dx,_,rfl,Af,T.cl_Boards,T.n_Boards_writes_left,(by show 2<1000;decide),?_⟩;rw[FB,FB];refine q _ ds ⟨dx,l,Af,by rw[Ag npl];exact hl1,nd,?_⟩ (fun d hd=>(hds d hd).2) fun b o e hb=>?_
 ·have all:∀(es:List Addr),(∀d∈es,d∈ds)->Sl (upd H1 p (.ins Ad dx (Eu "writes_left" V.non (Eu "writes" (V.int 0) (Eu "shelves" (V.ref l) []))))) es (List.replicate es.length []):=by
   intro es
   induction es with
   |nil=>intro _;exact .nil
   |cons d es ih=>
    intro hm;refine .cons ⟨[],?_,.nil,List.nodup_nil⟩ (ih fun e he=>hm e (List.mem_cons_of_mem _ he));have:=(hds d (hm d List.mem_cons_self)).1;rw[Ag (AM this p1 (by intro z;cases z))];exact this
  have:=all ds fun _ h=>h
  rw[lds] at this;exact this
 ·rw[Ag hb];exact s1.get e
abbrev Tg:=Int×Int×Int
structure En where
 nm:Str
 kd:Int
 tg:Tg
inductive Bk where
 |piece (z:Str)
 |row (lv:Int) (ts:List Tg)
 |folder (es:List En)
def Fn (t:Tg):Tr:=.tup [.int t.1,.int t.2.1,.int t.2.2]
def KM (e:En):Tr:=.tup [.str e.nm,.int e.kd,Fn e.tg]
def Ce:Bk->Tr
 | .piece z=>.tup [.int 0,.str z]
 | .row lv ts=>.tup [.int 1,.int lv,.tup (ts.map Fn)]
 | .folder es=>.tup [.int 2,.tup (es.map KM)]
def Qd (t:Tg):Prop:=(1<=t.1/\t.1<=999999)/\(0<=t.2.1/\t.2.1<=999999999)/\0<=t.2.2/\t.2.2<=996
def R0 (e:En):Prop:=IC (.str e.nm)=true/\(1<=e.kd/\e.kd<=2)/\Qd e.tg
def TM (lv:Int)(ts:List Tg):Prop:=ts.length<=8/\(1<lv->ts≠[])/\∀t∈ts,Qd t
def YC (es:List En):Prop:=es.length<=16/\(∀e∈es,R0 e)/\PyProof.Rows.sortedS (es.map (·.nm))=true/\(es.map (·.nm)).Nodup
def DH:Bk->Prop
 | .piece z=>He 1 8 (.str z)=true
 | .row lv ts=>(1<=lv/\lv<=9)/\TM lv ts
 | .folder es=>YC es
theorem GC {H:Hp}{t:Tg}{v:V}(h:Rep NL H (Fn t) v):∃a,v=.ref a/\H a=some (.tup [.int t.1,.int t.2.1,.int t.2.2]):=by
 obtain⟨a,vs,rfl,e,x1,u1,rfl,rfl,x2,u2,rfl,rfl,x3,u3,rfl,rfl,rfl⟩:=h;exact⟨a,rfl,e⟩
theorem LS {H:Hp}{t:Tg}{a:Addr}(e:H a=some (.tup [.int t.1,.int t.2.1,.int t.2.2])):Rep NL H (Fn t) (.ref a):=⟨a,_,rfl,e,_,_,rfl,rfl,_,_,rfl,rfl,_,_,rfl,rfl,rfl⟩
theorem EH {H:Hp}{x:En}{v:V}(h:Rep NL H (KM x) v):∃a b,v=.ref a/\H a=some (.tup [.str x.nm,.int x.kd,.ref b])/\H b=some (.tup [.int x.tg.1,.int x.tg.2.1,.int x.tg.2.2]):=by
 obtain⟨a,vs,rfl,e,x1,u1,rfl,rfl,x2,u2,rfl,rfl,x3,u3,rfl,r3,rfl⟩:=h;obtain⟨b,rfl,e2⟩:=GC r3;exact⟨a,b,rfl,e,e2⟩
theorem W0 {H:Hp}{x:En}{a b:Addr}(e:H a=some (.tup [.str x.nm,.int x.kd,.ref b]))(e2:H b=some (.tup [.int x.tg.1,.int x.tg.2.1,.int x.tg.2.2])):Rep NL H (KM x) (.ref a):=⟨a,_,rfl,e,_,_,rfl,rfl,_,_,rfl,rfl,_,_,rfl,LS e2,rfl⟩
theorem E7 {H:Hp}{z:Str}{v:V}(h:Rep NL H (Ce (.piece z)) v):∃a,v=.ref a/\H a=some (.tup [.int 0,.str z]):=by
 obtain⟨a,vs,rfl,e,x1,u1,rfl,rfl,x2,u2,rfl,rfl,rfl⟩:=h;exact⟨a,rfl,e⟩
theorem Ii {H:Hp}{lv:Int}{ts:List Tg}{v:V}(h:Rep NL H (Ce (.row lv ts)) v):∃a b vs,v=.ref a/\H a=some (.tup [.int 1,.int lv,.ref b])/\H b=some (.tup vs)/\Ax NL H (ts.map Fn) vs:=by
 obtain⟨a,vs,rfl,e,x1,u1,rfl,rfl,x2,u2,rfl,rfl,x3,u3,rfl,⟨b,us,rfl,e2,r⟩,rfl⟩:=h;exact⟨a,b,us,rfl,e,e2,r⟩
theorem CJ {H:Hp}{es:List En}{v:V}(h:Rep NL H (Ce (.folder es)) v):∃a b vs,v=.ref a/\H a=some (.tup [.int 2,.ref b])/\H b=some (.tup vs)/\Ax NL H (es.map KM) vs:=by
 obtain⟨a,vs,rfl,e,x1,u1,rfl,rfl,x2,u2,rfl,⟨b,us,rfl,e2,r⟩,rfl⟩:=h;exact⟨a,b,us,rfl,e,e2,r⟩
theorem DU {α:Type}{g:α->Tr}{H:Hp}{xs:List α}{vs:List V}(h:Ax NL H (xs.map g) vs){v:V}(hv:v∈vs):∃x∈xs,Rep NL H (g x) v:=by
 obtain⟨i,hi,e⟩:=List.getElem_of_mem hv;obtain⟨t,ht,r⟩:=Ax.get h (show vs[i]?=some v by rw[List.getElem?_eq_getElem hi,e]);rw[List.getElem?_map] at ht;cases z:xs[i]? with
 |none=>rw[z] at ht;cases ht
 |some x=>
  rw[z] at ht;cases ht;exact⟨x,List.mem_of_getElem? z,r⟩
theorem Lg {t:Tg}(h:Qd t)(n:Nat):DF (n+2) (Fn t)=true:=by
 obtain⟨⟨a1,a2⟩,⟨b1,b2⟩,c1,c2⟩:=h;simp only[Fn,DF,List.all_cons,List.all_nil,List.length_cons,List.length_nil,Bool.and_true,Bool.and_eq_true,decide_eq_true_eq];omega
theorem E9 {z:Str}(h:IC (.str z)=true):1<=z.length/\z.length<=8/\BI SG z=true/\∀c∈CA z,c∈CA SG:=by
 have h':(decide ((1:Int)<=z.length)&&decide ((z.length:Int)<=8)&&BI LN z)=true:=h;simp only[Bool.and_eq_true,decide_eq_true_eq] at h';have a:BI SG z=true:=by
  have:=h'.2;rw[<-M7,Bool.and_eq_true] at this;exact this.1
 refine⟨by omega,by omega,a,fun c hc=>?_⟩;have:=List.all_eq_true.mp a c hc;simpa using this
theorem Lh {x:En}(h:R0 x)(n:Nat):DF (n+3) (KM x)=true:=by
 obtain⟨a,b,c⟩:=h;obtain⟨n1,n2,n3,_⟩:=E9 a;have d:=Lg c n;simp only[KM,DF,List.all_cons,List.all_nil,List.length_cons,List.length_nil,Bool.and_true,Bool.and_eq_true,decide_eq_true_eq,n3,d,and_true];omega
theorem Dm {b:Bk}(h:DH b):DF 8 (Ce b)=true:=by
 cases b with
 |piece z=>
  have h':(decide ((1:Int)<=(z.length:Int))&&decide ((z.length:Int)<=8)&&BI SG z)=true:=h;simp only[Bool.and_eq_true,decide_eq_true_eq] at h';simp only[Ce,DF,List.all_cons,List.all_nil,List.length_cons,List.length_nil,Bool.and_true,Bool.and_eq_true,decide_eq_true_eq,h'.2,and_true];omega
 |row lv ts=>
  obtain⟨l,n,_,o⟩:=h;have d:(ts.map Fn).all (DF 6)=true:=List.all_eq_true.mpr fun t ht=>by
   obtain⟨x,hx,rfl⟩:=List.mem_map.mp ht;exact Lg (o x hx) 4
  simp only[Ce,DF,List.all_cons,List.all_nil,List.length_cons,List.length_nil,List.length_map,Bool.and_true,Bool.and_eq_true,decide_eq_true_eq,d,and_true];omega
 |folder es=>
  obtain⟨n,o,_⟩:=h;have d:(es.map KM).all (DF 6)=true:=List.all_eq_true.mpr fun t ht=>by
   obtain⟨x,hx,rfl⟩:=List.mem_map.mp ht;exact Lh (o x hx) 3
  simp only[Ce,DF,List.all_cons,List.all_nil,List.length_cons,List.length_nil,List.length_map,Bool.and_true,Bool.and_eq_true,decide_eq_true_eq,d,and_true];omega
theorem Lw {H:Hp}{t:Tr}{v:V}{n:Nat}(h:Rep NL H t v)(i:DF n t=true):Ok H v:=(Ik h).ok (QJ _ _ i)
theorem VU {a b:List Nat}(h1:¬b<a)(h2:¬a<b):a=b:=List.le_antisymm h1 h2
theorem II:∀{p:Str} {l:List Str},PyProof.Rows.risingS p l=true->∀x∈l,¬x.cps.toList<p.cps.toList
 |p,y::r,h,x,hx=>by
  have h':=h;rw[PyProof.Rows.risingS,Bool.and_eq_true,PyProof.Rows.ltCps_eq] at h';have h1:¬y.cps.toList<p.cps.toList:=by simpa using h'.1
  rcases List.mem_cons.mp hx with rfl|hx
  ·exact h1
  ·exact List.le_trans h1 (II h'.2 x hx)
theorem KB {x:Str}{l:List Str}(h:PyProof.Rows.sortedS (x::l)=true):PyProof.Rows.sortedS l=true:=by
 cases l with
 |nil=>rfl
 |cons y r=>
  have h':=h;rw[PyProof.Rows.sortedS,PyProof.Rows.risingS,Bool.and_eq_true] at h';exact h'.2
theorem Ln:∀{a b:List Str},a.Perm b->PyProof.Rows.sortedS a=true->PyProof.Rows.sortedS b=true->a=b
 |[],b,p,_,_=>(List.nil_perm.mp p).symm
 |x::a,[],p,_,_=>absurd p.length_eq (by simp)
 |x::a,y::b,p,ha,hb=>by
  have e:x=y:=by
   have m1:x∈y::b:=p.mem_iff.mp List.mem_cons_self;have m2:y∈x::a:=p.mem_iff.mpr List.mem_cons_self;rcases List.mem_cons.mp m1 with e|m1
   ·exact e
   rcases List.mem_cons.mp m2 with e|m2
   ·exact e.symm
   have l1:=II (p:=x) (l:=a) ha y m2;have l2:=II (p:=y) (l:=b) hb x m1;have:=VU l1 l2;cases x;cases y;simp only[PySem.Str.mk.injEq];exact Array.toList_inj.mp this
  subst e;rw[Ln p.cons_inv (KB ha) (KB hb)]
theorem Pd:∀(l ks:List Str),(ks++l).Nodup->l.foldl (fun ks k=>if k∈ks then ks else ks++[k]) ks=ks++l
 |[],ks,_=>(List.append_nil _).symm
 |k::r,ks,h=>by
  have nk:k∉ks:=fun z=>by
   have:=(List.nodup_append.mp h).2.2 k z k List.mem_cons_self;exact this rfl
  have e:(if k∈ks then ks else ks++[k])=ks++[k]:=if_neg nk;rw[List.foldl_cons,e,Pd r (ks++[k]) (by rw[List.append_assoc];exact h),List.append_assoc];rfl
theorem VY {a:List Str}(h:a.Nodup):Fd a=a:=Pd a [] h
theorem Os:∀{es:List En} {us:List V} {H:Hp},Ax NL H (es.map KM) us->(us.map fun v=>match v with | .ref x=>(match H x with|some (.tup (y::_))=>y|_=>.non)|_=>.non)=(es.map (·.nm)).map V.str
 |[],us,H,r=>by rw[show us=[] from r];rfl
 |e::es,us,H,r=>by
  obtain⟨v,us',rfl,r1,r2⟩:=r;obtain⟨a,b,rfl,e1,_⟩:=EH r1;rw[List.map_cons,List.map_cons,List.map_cons,Os r2];simp only[e1]
theorem Tn {H:Hp}{l:Addr}{us:List V}(h:H l=some (.lst (us.map fun _=>V.bl true))):H l=some (.lst ((us.map fun _=>true).map V.bl)):=by rw[h,List.map_map];rfl
theorem MI (us:List V):(us.map fun _=>true).all id=true:=by simp
theorem WG {Q:VK}{H:Hp}{us:List V}(q:Q (.bl true) H):Q (.bl ((us.map fun _=>true).all id)) H:=by rw[MI];exact q
theorem J1 {J:It} {xs:List V} {te:TE} {Q:VK} {σ:St} {H:Hp} (f:V->V) (hJ:Oo J H xs) (hn:xs.length<=1000000) (htg:∀x∈xs,∃a x1 x2 x3,x=.ref a/\H a=some (.tup [x1,x2,x3]))
  (helt:∀a x1 x2 x3 (H':Hp) (R:VK),V.ref a∈xs->H a=some (.tup [x1,x2,x3])->Ar H H'->(∀H'',Ar H' H''->R (f (.ref a)) H'')->te [some x1,some x2,some x3] H' R)
  (hQ:∀l H',H l=none->Ar H H'->H' l=some (.lst (xs.map f))->Q (.ref l) H') :
  FO [none,none,none] (Pg K 3 (Fj (Ci 0) (Fj (Ci 1) (Fj (Ci 2) QO)))) Pc te σ Q J H:=by
 intro l hl;refine⟨fun i m σ' H'=>m=xs.length-i/\i<=xs.length/\(∃y0 y1 y2,σ'=[y0,y1,y2])/\Ar H H'/\H' l=some (.lst ((xs.take i).map f)),⟨xs.length,by simp,Nat.zero_le _,⟨_,_,_,rfl⟩,Am hl _,by rw[Af,List.take_zero,List.map_nil]⟩,?_⟩
 rintro i m σ' H' ⟨rfl,hi,⟨y0,y1,y2,rfl⟩,hs,hl'⟩
 obtain⟨h1,h2,h3⟩:=hJ H' hs i
 by_cases hlt:i<xs.length
 ·refine .inr ⟨h1 hlt,fun x H'' y=>?_⟩;obtain⟨rfl,hx⟩:=h2 x H'' y;have hx:=hx hlt;obtain⟨a,x1,x2,x3,rfl,ha⟩:=htg x (List.mem_of_getElem? hx);refine⟨a,_,rfl,AW.of (hs.get ha),rfl,_,_,rfl,_,_,rfl,_,_,rfl,rfl,?_⟩;refine helt a x1 x2 x3 H'' _ (List.mem_of_getElem? hx) ha hs fun H4 s4=>?_
  refine⟨_,s4.get hl',Ba (by rw[List.length_map,List.length_take];omega),xs.length-(i+1),by omega,rfl,hlt,⟨_,_,_,rfl⟩,A0 (hs.trans s4) hl _,?_⟩;rw[Af,List.take_add_one,hx];simp
 ·have e:i=xs.length:=by omega
  subst e;exact .inl ⟨h3 (Nat.le_refl _),hQ l H' hl hs (by rw[hl',List.take_of_length_le (Nat.le_refl _)])⟩
def Ir (K:W.Frag):Sp:=fun vs H Q _=>∃v t,vs=[v]/\Rep NL H (Fn t) v/\Qd t/\Q (.bl true) H
theorem Sf (T:Txt K mg Ab Ad Aa Ae XC)(F:Fun K "is_tag" "is_tag" Gr f fd)(AE:Def P w K mg base 2 "is_between" ["thing","least","most"] (Bo K))(Bp:Def P w K mg base 1 "is_tuple_of" ["thing","many"] (CK K)):FnOk P w K mg base Cf 3 f fd ["thing"] (Ir K):=by
 exists RP
 ·obtain⟨v,t,rfl,_⟩:=h;rfl
 obtain⟨v,t,rfl,hv,ok,q⟩:=h;have okv:=Lw hv (Lg ok 0);obtain⟨a,rfl,e⟩:=GC hv;obtain⟨⟨a1,a2⟩,⟨b1,b2⟩,c1,c2⟩:=ok;refine⟨_,(!Ah (!AS (!Cd (!BK (!AN Bp (by trivial) rfl (!Ac (pv 0) (!Ac (!Ak) (!Aj)))) (by intro _;rfl))) (!Al (!An (!Hh))) (!Aw)) (!Ah (!AS (@PW.pt _ _ _ (!Hf (!Cd (!BK (!AN AE (by trivial) rfl (!Ac (!Av AJ (pv 0) (!Ak) (fun _ _=>rfl)) (!Ac (!Ak) (!Ac (!AI rfl T.c_MOST_CELL) (!Aj))))) (by intro _;rfl))) (!Fc (!Cd (!BK (!AN AE (by trivial) rfl (!Ac (!Av AJ (pv 0) (!Ak) (fun _ _=>rfl)) (!Ac (!Ak) (!Ac (!AI rfl T.c_MOST_BIRTH) (!Aj))))) (by intro _;rfl)))))) (!Al (!An (!Hh))) (!Aw)) (!Al (!An (!AN AE (by trivial) rfl (!Ac (!Av AJ (pv 0) (!Ak) (fun _ _=>rfl)) (!Ac (!Ak) (!Ac (!AB HS (!AI rfl T.c_SUM_RESTS) (!Ak)) (!Aj))))))))),?_⟩;refine⟨_,rfl,_,3,rfl,okv,_,rfl,AR (by rw[JI e];rfl) ?_⟩;dsimp only[Pi,Xp,V6];have w1:Kl 1 999999 (.int t.1)=true:=by show(decide (1<=t.1)&&decide (t.1<=999999))=true;simp;omega
 have w2:Kl 0 999999999 (.int t.2.1)=true:=by show(decide (0<=t.2.1)&&decide (t.2.1<=999999999))=true;simp;omega
 have w3:Kl 0 996 (.int t.2.2)=true:=by show(decide (0<=t.2.2)&&decide (t.2.2<=996))=true;simp;omega
 refine WI (!Kl 1 999999 (.int t.1)) (!Kl 0 999999999 (.int t.2.1)) (fun R q=>⟨_,rfl,a,_,_,_,rfl,rfl,AW.of e,rfl,_,1,999999,rfl,trivial,_,rfl,q⟩) (fun _ R q=>⟨_,rfl,a,_,_,_,rfl,rfl,AW.of e,rfl,_,0,999999999,rfl,trivial,_,rfl,q⟩) ?_;rw[w1,w2];refine AR rfl ?_;refine⟨_,rfl,a,_,_,_,rfl,rfl,AW.of e,rfl,_,_,rfl,rfl,_,0,996,rfl,trivial,?_⟩;rw[w3];exact q
def EL (K:W.Frag):Sp:=fun vs H Q _=>∃v lv ts,vs=[v,.int lv]/\Rep NL H (.tup (ts.map Fn)) v/\TM lv ts/\∀H',Ar H H'->Q (.bl true) H'
theorem KY (T:Txt K mg Ab Ad Aa Ae XC)(F:Fun K "are_row_tags" "are_row_tags" BX f fd)(Gn:Def P w K mg base 3 "is_tag" ["thing"] (Ir K)):FnOk P w K mg base Cf 4 f fd ["thing","level"] (EL K):=by
 exists KW
 ·obtain⟨v,lv,ts,rfl,_⟩:=h;rfl
 obtain⟨v,lv,ts,rfl,hv,ok,q⟩:=h;have okv:Ok H v:=Lw (n:=3) hv (by
  show(decide ((ts.map Fn).length<=100)&&(ts.map Fn).all (DF 2))=true;rw[Bool.and_eq_true,decide_eq_true_eq,List.length_map];refine⟨by have:=ok.1;omega,List.all_eq_true.mpr fun t ht=>?_⟩;obtain⟨x,hx,rfl⟩:=List.mem_map.mp ht;exact Lg (ok.2.2 x hx) 0)
 have ety:=(Ik hv).tyN;obtain⟨a,us,rfl,e,r⟩:=hv;have lu:=Ax.len _ _ r;rw[List.length_map] at lu;obtain⟨o1,o2,o3⟩:=ok;have alls:∀(te:TE) (l0:Nat),True:=fun _ _=>trivial
 clear alls
 refine⟨_,(!Ah (!AS (@PW.pt _ _ _ (!Hf (!Cd (!BK (!Au Cg (by rfl) T.b_isinstance BA (!Ac (pv 0) (!Ac (!KG rfl T.b_tuple Ft) (!Aj)))) (by intro _;rfl))) (!Fc (!AA MX (!Au AK (by rfl) T.b_len BG (!Ac (pv 0) (!Aj))) (!AI rfl T.c_MOST_TAGS) (AC _))))) (!Al (!An (!Hh))) (!Aw)) (!Ah (!AS (@PW.pt _ _ _ (!PN (!AA Bh (!Au AK (by rfl) T.b_len BG (!Ac (pv 0) (!Aj))) (!Ak) (AC _)) (!Nw (!AA MX (pv 1) (!Ak) (AC _))))) (!Al (!An (!Hh))) (!Aw)) (!Al (!An (!Au (Gu rfl) (by rfl) T.b_all JY (!Ac (@Bs _ ["tag"] _ _ _ _ _ _ _ _ _ _ rfl (!EB (pv 0)) (by decide +kernel) (fun C s H fp=>⟨(@Aq _ _ (0) _ (show(["tag"]:List Str).Nodup by decide +kernel) rfl (by trivial) (by trivial)),(!AX),(!AN Gn (by trivial) rfl (!Ac (pv 0) (!Aj)))⟩) (by intro _;rfl)) (!Aj))))))),?_⟩;refine⟨_,rfl,_,_,_,_,rfl,okv.ty K,okv.kit K,_,rfl,AR (by rw[ety];show(!isA "tuple" "tuple")=false;decide) ?_⟩;refine⟨_,rfl,a,_,rfl,.inr (AW.of e),_,_,rfl,rfl,_,rfl,AR (decide_eq_false (by omega)) ?_⟩;refine⟨_,rfl,a,_,rfl,.inr (AW.of e),rfl,_,rfl,C7 (fun c=>?_) (fun c=>?_)⟩
 ·have c':V.int (us.length:Int)=V.int 0:=dec_true c;have z:us.length=0:=by injection c' with c';omega
  have lz:¬1<lv:=fun y=>o2 y (List.length_eq_zero_iff.mp (by omega))
  refine⟨_,rfl,_,_,rfl,rfl,_,rfl,AR (decide_eq_false lz) ?_⟩;refine⟨_,rfl,a,rfl,⟨_,AW.of e⟩,comp_map (fun _=>V.bl true) (DL e) (by omega) (fun x H' R hx s' hR=>?_) fun l H7 n7 s7 h7=>?_⟩
  ·obtain⟨t,ht,rt⟩:=DU r hx;exact⟨_,rfl,x,t,rfl,Rep.same s' _ _ rt,o3 t ht,hR H' (Ar.refl _)⟩
  ·exact⟨l,us.map fun _=>true,rfl,AO.of (Tn h7),WG (q H7 s7)⟩
 ·refine AR rfl ?_;refine⟨_,rfl,a,rfl,⟨_,AW.of e⟩,comp_map (fun _=>V.bl true) (DL e) (by omega) (fun x H' R hx s' hR=>?_) fun l H7 n7 s7 h7=>?_⟩
  ·obtain⟨t,ht,rt⟩:=DU r hx;exact⟨_,rfl,x,t,rfl,Rep.same s' _ _ rt,o3 t ht,hR H' (Ar.refl _)⟩
  ·exact⟨l,us.map fun _=>true,rfl,AO.of (Tn h7),WG (q H7 s7)⟩
def Ic (K:W.Frag):Sp:=fun vs H Q _=>∃v x,vs=[v]/\Rep NL H (KM x) v/\R0 x/\∀H',Ar H H'->Q (.bl true) H'
theorem O8 (T:Txt K mg Ab Ad Aa Ae XC)(F:Fun K "is_entry" "is_entry" D3 f fd)(AE:Def P w K mg base 2 "is_between" ["thing","least","most"] (Bo K))(Gn:Def P w K mg base 3 "is_tag" ["thing"] (Ir K))(Bp:Def P w K mg base 1 "is_tuple_of" ["thing","many"] (CK K))(Kg:Def P w K mg base 2 "is_name" ["thing"] (Ja K)):FnOk P w K mg base Cf 4 f fd ["thing"] (Ic K):=by
 exists Om
 ·obtain⟨v,x,rfl,_⟩:=h;rfl
 obtain⟨v,x,rfl,hv,ok,q⟩:=h;have okv:=Lw hv (Lh ok 0);obtain⟨a,b,rfl,e,e2⟩:=EH hv;obtain⟨o1,⟨k1,k2⟩,o3⟩:=ok;have nl:=(E9 o1).2.1;have w2:Kl 1 2 (.int x.kd)=true:=by show(decide (1<=x.kd)&&decide (x.kd<=2))=true;simp;omega
 refine⟨_,(!Ah (!AS (@PW.pt _ _ _ (!Hf (!Cd (!BK (!AN Bp (by trivial) rfl (!Ac (pv 0) (!Ac (!Ak) (!Aj)))) (by intro _;rfl))) (!Fc (!Cd (!BK (!AN Kg (by trivial) rfl (!Ac (!Av AJ (pv 0) (!Ak) (fun _ _=>rfl)) (!Aj))) (by intro _;rfl)))))) (!Al (!An (!Hh))) (!Aw)) (!Al (!An (!ED (!AN AE (by trivial) rfl (!Ac (!Av AJ (pv 0) (!Ak) (fun _ _=>rfl)) (!Ac (!AI rfl T.c_FILE_ENTRY) (!Ac (!AI rfl T.c_FOLDER_ENTRY) (!Aj))))) (!FL (!AN Gn (by trivial) rfl (!Ac (!Av AJ (pv 0) (!Ak) (fun _ _=>rfl)) (!Aj)))))))),?_⟩;refine⟨_,rfl,_,3,rfl,okv,_,rfl,AR (by rw[JI e];rfl) ?_⟩;refine⟨_,rfl,a,_,_,_,rfl,rfl,AW.of e,rfl,_,rfl,(show x.nm.length<=1000 by omega),fun H1 s1=>⟨_,rfl,AR (by rw[o1];rfl) ?_⟩⟩;dsimp only[Pi,X8];refine K3 true true (fun R q=>⟨_,rfl,a,_,_,_,rfl,rfl,AW.of (s1.get e),rfl,_,1,2,rfl,trivial,by rw[w2];exact q⟩) (fun _ R q=>?_) (q H1 s1);exact⟨_,rfl,a,_,_,_,rfl,rfl,AW.of (s1.get e),rfl,_,x.tg,rfl,LS (s1.get e2),o3,q⟩
def WC (es:List En):Prop:=es.length<=16/\∀e∈es,R0 e
def NZ (es:List En):Bool:=decide (PyProof.Rows.sortedS (es.map (·.nm))=true/\(es.map (·.nm)).Nodup)
def QF:Bk->Prop
 | .piece z=>He 1 8 (.str z)=true
 | .row lv ts=>(1<=lv/\lv<=9)/\TM lv ts
 | .folder es=>WC es
def Zn:Bk->Bool
 | .folder es=>NZ es
 |_=>true
theorem Vp {b:Bk}(h:DH b):QF b/\Zn b=true:=by
 cases b with
 |piece z=>exact⟨h,rfl⟩
 |row lv ts=>exact⟨h,rfl⟩
 |folder es=>exact⟨⟨h.1,h.2.1⟩,decide_eq_true ⟨h.2.2.1,h.2.2.2⟩⟩
theorem Ur {b:Bk}(h:QF b):DF 8 (Ce b)=true:=by
 cases b with
 |piece z=>exact Dm (b:=.piece z) h
 |row lv ts=>exact Dm (b:=.row lv ts) h
 |folder es=>
  obtain⟨n,o⟩:=h;have d:(es.map KM).all (DF 6)=true:=List.all_eq_true.mpr fun t ht=>by
   obtain⟨x,hx,rfl⟩:=List.mem_map.mp ht;exact Lh (o x hx) 3
  simp only[Ce,DF,List.all_cons,List.all_nil,List.length_cons,List.length_nil,List.length_map,Bool.and_true,Bool.and_eq_true,decide_eq_true_eq,d,and_true];omega
theorem Ou:∀{a b:List Str},a.map V.str=b.map V.str->a=b
 |[],[],_=>rfl
 |[],_::_,h=>nomatch h
 |_::_,[],h=>nomatch h
 |x::a,y::b,h=>by
  rw[List.map_cons,List.map_cons] at h;injection h with h1 h2
  injection h1 with h1
  rw[h1,Ou h2]
theorem P0 (a:List Str):(Fd a).Nodup:=by
 have z:∀(l ks:List Str),ks.Nodup->(l.foldl (fun ks k=>if k∈ks then ks else ks++[k]) ks).Nodup:=fun l=>by
  induction l with
  |nil=>intro ks h;exact h
  |cons k r ih=>
   intro ks h;refine ih _ ?_;dsimp only
   split
   ·exact h
   ·rename_i nk
    refine List.nodup_append.mpr ⟨h,by simp,fun a ha b hb=>?_⟩;rw[List.mem_singleton] at hb;subst hb;intro e;subst e;exact nk ha
 exact z a [] List.nodup_nil
def Fl (K:W.Frag):Sp:=fun vs H Q _=>∃v es,vs=[v]/\Rep NL H (.tup (es.map KM)) v/\WC es/\∀H',Ar H H'->Q (.bl (NZ es)) H'
theorem L1 (T:Txt K mg Ab Ad Aa Ae XC)(F:Fun K "are_entries" "are_entries" Cv f fd)(IQ:Def P w K mg base 4 "is_entry" ["thing"] (Ic K)):FnOk P w K mg base Cf 5 f fd ["thing"] (Fl K):=by
 exists Ho
 ·obtain⟨v,es,rfl,_⟩:=h;rfl
 obtain⟨v,es,rfl,hv,ok,q⟩:=h;have okv:Ok H v:=Lw (n:=4) hv (by
  show(decide ((es.map KM).length<=100)&&(es.map KM).all (DF 3))=true;rw[Bool.and_eq_true,decide_eq_true_eq,List.length_map];refine⟨by have:=ok.1;omega,List.all_eq_true.mpr fun t ht=>?_⟩;obtain⟨x,hx,rfl⟩:=List.mem_map.mp ht;exact Lh (ok.2 x hx) 0)
 have ety:=(Ik hv).tyN;obtain⟨a,us,rfl,e,r⟩:=hv;have lu:=Ax.len _ _ r;rw[List.length_map] at lu;obtain⟨o1,o2⟩:=ok;have hu:=BJ hr;refine⟨_,(!Ah (!AS (@PW.pt _ _ _ (!Hf (!Cd (!BK (!Au Cg (by rfl) T.b_isinstance BA (!Ac (pv 0) (!Ac (!KG rfl T.b_tuple Ft) (!Aj)))) (by intro _;rfl))) (!Fc (!AA MX (!Au AK (by rfl) T.b_len BG (!Ac (pv 0) (!Aj))) (!AI rfl T.c_MOST_ENTRIES) (AC _))))) (!Al (!An (!Hh))) (!Aw)) (!Ah (!AS (!Cd (!BK (!Au (Gu rfl) (by rfl) T.b_all JY (!Ac (@Bs _ ["entry"] _ _ _ _ _ _ _ _ _ _ rfl (!EB (pv 0)) (by decide +kernel) (fun C s H fp=>⟨(@Aq _ _ (0) _ (show(["entry"]:List Str).Nodup by decide +kernel) rfl (by trivial) (by trivial)),(!AX),(!AN IQ (by trivial) rfl (!Ac (pv 0) (!Aj)))⟩) (by intro _;rfl)) (!Aj))) (by intro _;rfl))) (!Al (!An (!Hh))) (!Aw)) (!Ah (@Tf _ ["name","kind","tag"] (1) _ _ _ _ _ _ _ _ _ _ _ _ _ Ho.nd rfl (by trivial) rfl (!EB (pv 0)) (by decide +kernel) (fun C s H fp=>⟨(@Cy _ (K) _ _ _ _ (3) (by rfl) rfl (!AD (@Aq _ _ (0) _ (show(["name","kind","tag"]:List Str).Nodup by decide +kernel) rfl (by trivial) (by trivial)) (!AD (@Aq _ _ (1) _ (show(["name","kind","tag"]:List Str).Nodup by decide +kernel) rfl (by trivial) (by trivial)) (!AD (@Aq _ _ (2) _ (show(["name","kind","tag"]:List Str).Nodup by decide +kernel) rfl (by trivial) (by trivial)) (!BO)))) (by rfl) (by rfl)),(!AX),(pv 0)⟩) (by intro _;rfl) (by rfl) (by trivial)) (!Al (!An (!CU (XF hu) (pv 1) (!Au (Qs (P:=P) (w:=w) (by rfl) (by rfl) rfl) (by rfl) T.b_sorted EV (!Ac (!BL (SM (P:=P) (w:=w) (K:=K) (by rfl) (by rfl) (by rfl) rfl) (by rfl) T.b_set WU (!Ac (pv 1) (!Aj))) (!Aj))) (AC _))))))),?_⟩;refine⟨_,rfl,_,_,_,_,rfl,okv.ty K,okv.kit K,_,rfl,AR (by rw[ety];show(!isA "tuple" "tuple")=false;decide) ?_⟩;refine⟨_,rfl,a,_,rfl,.inr (AW.of e),_,_,rfl,rfl,_,rfl,AR (decide_eq_false (by omega)) ?_⟩;refine⟨_,rfl,a,rfl,⟨_,AW.of e⟩,comp_map (fun _=>V.bl true) (DL e) (by omega) (fun x H' R hx s' hR=>?_) fun l H7 n7 s7 h7=>?_⟩
 ·obtain⟨t,ht,rt⟩:=DU r hx;exact⟨_,rfl,x,t,rfl,Rep.same s' _ _ rt,o2 t ht,fun H'' s''=>hR H'' s''⟩
 refine⟨l,us.map fun _=>true,rfl,AO.of (Tn h7),_,rfl,AR (by rw[MI];rfl) ?_⟩;have e7:=s7.get e;have r7:=Ax.same s7 _ _ r;refine⟨_,rfl,a,rfl,⟨_,AW.of e7⟩,J1 (fun v=>match v with | .ref x=>(match H7 x with|some (.tup (y::_))=>y|_=>.non)|_=>.non) (DL e7) (by omega) (fun x hx=>?_) (fun x x1 x2 x3 H' R hx hx2 s' hR=>?_) fun l2 H8 n8 s8 h8=>?_⟩
 ·obtain⟨t,ht,rt⟩:=DU r7 hx;obtain⟨c,d,rfl,ec,_⟩:=EH rt;exact⟨c,_,_,_,rfl,ec⟩
 ·refine⟨_,rfl,?_⟩;have:=hR H' (Ar.refl _);simp only[hx2] at this;exact this
 have nm:(us.map fun v=>match v with | .ref x=>(match H7 x with|some (.tup (y::_))=>y|_=>.non)|_=>.non)=(es.map (·.nm)).map V.str:=Os r7;rw[nm] at h8;have ln:(es.map (·.nm)).length<=16:=by rw[List.length_map];exact o1
 refine⟨_,rfl,_,rfl,l2,_,rfl,AO.of h8,by omega,fun p hp=>?_⟩;have sp:=Am hp (SV P w p (Fd (es.map (·.nm))));have lo:=Oi (es.map (·.nm));refine⟨p,_,rfl,Af,by omega,fun ts p2 pt st hp2=>?_⟩;have s2:=Am hp2 (.lst (ts.map V.str));refine⟨l2,p2,_,_,rfl,rfl,AO.of (s2.get (sp.get h8)),AO.of Af,Jy _,Jy _,?_⟩;rw[if_neg Bool.false_ne_true];have eq:decide ((es.map (·.nm)).map V.str=ts.map V.str)=NZ es:=by
  unfold NZ;rw[Bool.eq_iff_iff,decide_eq_true_eq,decide_eq_true_eq];constructor
  ·intro e;have e':es.map (·.nm)=ts:=Ou e;rw[e'];exact⟨st,pt.nodup_iff.mpr (P0 _)⟩
  ·rintro⟨h1,h2⟩
   rw[VY h2] at pt;rw[Ln pt st h1]
 have:=q _ (((s7.trans s8).trans sp).trans s2);rw[<-eq] at this;exact this
def HM (K:W.Frag):Sp:=fun vs H Q _=>∃v b,vs=[v]/\Rep NL H (Ce b) v/\QF b/\∀H',Ar H H'->Q (.bl (Zn b)) H'
theorem Pk (T:Txt K mg Ab Ad Aa Ae XC)(F:Fun K "is_block" "is_block" Eb f fd)(Ga:Def P w K mg base 5 "are_entries" ["thing"] (Fl K))(Bi:Def P w K mg base 1 "is_whole" ["thing"] (CI K))(E8:Def P w K mg base 1 "is_text" ["thing","least","most"] (GK K))(AE:Def P w K mg base 2 "is_between" ["thing","least","most"] (Bo K))(Fo:Def P w K mg base 4 "are_row_tags" ["thing","level"] (EL K)):FnOk P w K mg base Cf 6 f fd ["thing"] (HM K):=by
 exists Pe
 ·obtain⟨v,b,rfl,_⟩:=h;rfl
 obtain⟨v,b,rfl,hv,ok,q⟩:=h;have okv:Ok H v:=Lw hv (Ur ok);have ety:=(Ik hv).tyN;have tyt:Iy H v="tuple":=by rw[ety];cases b<;>rfl
 refine⟨_,(!Ah (!AS (@PW.pt _ _ _ (!Hf (!Cd (!BK (!Au Cg (by rfl) T.b_isinstance BA (!Ac (pv 0) (!Ac (!KG rfl T.b_tuple Ft) (!Aj)))) (by intro _;rfl))) (!Hf (!AA Bh (!Au AK (by rfl) T.b_len BG (!Ac (pv 0) (!Aj))) (!Ak) (AC _)) (!Fc (!Cd (!BK (!AN Bi (by trivial) rfl (!Ac (!Av AJ (pv 0) (!Ak) (fun _ _=>rfl)) (!Aj))) (by intro _;rfl))))))) (!Al (!An (!Hh))) (!Aw)) (!Ah (!AS (!AA Bh (!Av AJ (pv 0) (!Ak) (fun _ _=>rfl)) (!AI rfl T.c_PIECE) (AC _)) (!Al (!An (!ED (!CU Bh (!Au AK (by rfl) T.b_len BG (!Ac (pv 0) (!Aj))) (!Ak) (AC _)) (!FL (!AN E8 (by trivial) rfl (!Ac (!Av AJ (pv 0) (!Ak) (fun _ _=>rfl)) (!Ac (!Ak) (!Ac (!AI rfl T.c_MOST_PIECE_SIGNS) (!Aj))))))))) (!Aw)) (!Ah (!AS (!AA Bh (!Av AJ (pv 0) (!Ak) (fun _ _=>rfl)) (!AI rfl T.c_ROW) (AC _)) (!Al (!An (!ED (!CU Bh (!Au AK (by rfl) T.b_len BG (!Ac (pv 0) (!Aj))) (!Ak) (AC _)) (!ED (!AN AE (by trivial) rfl (!Ac (!Av AJ (pv 0) (!Ak) (fun _ _=>rfl)) (!Ac (!Ak) (!Ac (!AI rfl T.c_MOST_LEVEL) (!Aj))))) (!FL (!AN Fo (by trivial) rfl (!Ac (!Av AJ (pv 0) (!Ak) (fun _ _=>rfl)) (!Ac (!Av AJ (pv 0) (!Ak) (fun _ _=>rfl)) (!Aj))))))))) (!Aw)) (!Al (!An (!ED (!CU Bh (!Av AJ (pv 0) (!Ak) (fun _ _=>rfl)) (!AI rfl T.c_FOLDER) (AC _)) (!ED (!CU Bh (!Au AK (by rfl) T.b_len BG (!Ac (pv 0) (!Aj))) (!Ak) (AC _)) (!FL (!AN Ga (by trivial) rfl (!Ac (!Av AJ (pv 0) (!Ak) (fun _ _=>rfl)) (!Aj))))))))))),?_⟩;refine⟨_,rfl,_,_,_,_,rfl,okv.ty K,okv.kit K,_,rfl,AR (by rw[tyt];decide) ?_⟩;cases b with
 |piece z=>
  obtain⟨a,rfl,e⟩:=E7 hv;refine⟨_,rfl,a,_,rfl,.inr (AW.of e),rfl,_,rfl,AR rfl ?_⟩;refine⟨_,rfl,a,_,_,_,rfl,rfl,AW.of e,rfl,_,rfl,trivial,_,rfl,AR rfl ?_⟩;have ok':He 1 8 (.str z)=true:=ok;have zl:z.length<=1000:=by
   have h':(decide ((1:Int)<=(z.length:Int))&&decide ((z.length:Int)<=8)&&BI SG z)=true:=ok;simp only[Bool.and_eq_true,decide_eq_true_eq] at h';omega
  refine⟨_,rfl,a,_,_,_,rfl,rfl,AW.of e,rfl,rfl,_,rfl,BS rfl ?_⟩;refine⟨_,rfl,a,_,rfl,.inr (AW.of e),rfl,_,rfl,BS rfl ?_⟩;exact⟨_,rfl,a,_,_,_,rfl,rfl,AW.of e,rfl,_,1,8,rfl,zl,fun H1 s1=>by rw[ok'];exact q H1 s1⟩
 |row lv ts=>
  obtain⟨a,b,us,rfl,e,e2,r⟩:=Ii hv;obtain⟨⟨l1,l2⟩,ok2⟩:=ok;have w2:Kl 1 9 (.int lv)=true:=by show(decide (1<=lv)&&decide (lv<=9))=true;simp;omega
  refine⟨_,rfl,a,_,rfl,.inr (AW.of e),rfl,_,rfl,AR rfl ?_⟩;refine⟨_,rfl,a,_,_,_,rfl,rfl,AW.of e,rfl,_,rfl,trivial,_,rfl,AR rfl ?_⟩;refine⟨_,rfl,a,_,_,_,rfl,rfl,AW.of e,rfl,rfl,_,rfl,AR rfl ?_⟩;refine⟨_,rfl,a,_,_,_,rfl,rfl,AW.of e,rfl,rfl,_,rfl,BS rfl ?_⟩;refine⟨_,rfl,a,_,rfl,.inr (AW.of e),rfl,_,rfl,BS rfl ?_⟩;refine⟨_,rfl,a,_,_,_,rfl,rfl,AW.of e,rfl,_,1,9,rfl,trivial,_,rfl,BS w2 ?_⟩;exact⟨_,rfl,a,_,_,_,rfl,rfl,AW.of e,rfl,_,rfl,a,_,_,_,rfl,rfl,AW.of e,rfl,_,lv,ts,rfl,⟨b,us,rfl,e2,r⟩,ok2,q⟩
 |folder es=>
  obtain⟨a,b,us,rfl,e,e2,r⟩:=CJ hv;refine⟨_,rfl,a,_,rfl,.inr (AW.of e),rfl,_,rfl,AR rfl ?_⟩;refine⟨_,rfl,a,_,_,_,rfl,rfl,AW.of e,rfl,_,rfl,trivial,_,rfl,AR rfl ?_⟩;refine⟨_,rfl,a,_,_,_,rfl,rfl,AW.of e,rfl,rfl,_,rfl,AR rfl ?_⟩;refine⟨_,rfl,a,_,_,_,rfl,rfl,AW.of e,rfl,rfl,_,rfl,AR rfl ?_⟩;refine⟨_,rfl,a,_,_,_,rfl,rfl,AW.of e,rfl,rfl,_,rfl,BS rfl ?_⟩;refine⟨_,rfl,a,_,rfl,.inr (AW.of e),rfl,_,rfl,BS rfl ?_⟩;exact⟨_,rfl,a,_,_,_,rfl,rfl,AW.of e,rfl,_,es,rfl,⟨b,us,rfl,e2,r⟩,ok,q⟩
def EC (x:En):List Int:=(CA x.nm).map idx++[x.kd,x.tg.2.2]
def told:Bk->List Int
 | .piece z=>(CA z).map idx
 | .row lv ts=>lv::ts.map (·.2.2)
 | .folder es=>es.flatMap EC
theorem idx_map (z:Str):((z.cps.toList.map fun c=>V.str ⟨#[c]⟩).map fun v=>match v with|V.str y=>V.int (PySem.Txt.find SG y)|_=>V.non)=((CA z).map idx).map V.int:=by
 rw[List.map_map,List.map_map];rfl
theorem OO:∀{ts:List Tg} {us:List V} {H:Hp},Ax NL H (ts.map Fn) us->(us.map fun v=>match v with | .ref x=>(match H x with|some (.tup [_,_,y])=>y|_=>.non)|_=>.non)=(ts.map (·.2.2)).map V.int
 |[],us,H,r=>by rw[show us=[] from r];rfl
 |e::es,us,H,r=>by
  obtain⟨v,us',rfl,r1,r2⟩:=r;obtain⟨a,rfl,e1⟩:=GC r1;rw[List.map_cons,List.map_cons,List.map_cons,OO r2];simp only[e1]
theorem Sg {es:List En}{i:Nat}{x:En}(h:es[i]?=some x):(es.take (i+1)).flatMap EC=(es.take i).flatMap EC++EC x:=by
 rw[List.take_add_one,h,List.flatMap_append];simp
theorem UB {es:List En}(h:∀x∈es,(EC x).length<=10):(es.flatMap EC).length<=10*es.length:=by
 induction es with
 |nil=>exact Nat.le_refl _
 |cons x r ih=>
  rw[List.flatMap_cons,List.length_append,List.length_cons];have:=h x List.mem_cons_self;have:=ih fun y hy=>h y (List.mem_cons_of_mem _ hy)
  omega
theorem W8 {x:En}(h:R0 x):(EC x).length<=10:=by
 have:=(E9 h.1).2.1;unfold EC;rw[List.length_append,List.length_map,BU];show x.nm.length+2<=10;omega
def EE (K:W.Frag):Sp:=fun vs H Q _=>∃v b,vs=[v]/\Rep NL H (Ce b) v/\DH b/\∀l H',Ar H H'->H l=none->H' l=some (.lst ((told b).map V.int))->Q (.ref l) H'
theorem K0 (T:Txt K mg Ab Ad Aa Ae XC)(F:Fun K "numbers_told" "numbers_told" BW f fd)(Bl:Def P w K mg base 1 "number_of" ["sign"] (C0 K)):FnOk P w K mg base Cf 2 f fd ["block"] (EE K):=by
 exists Cn
 ·obtain⟨v,b,rfl,_⟩:=h;rfl
 obtain⟨v,b,rfl,hv,ok,q⟩:=h;refine⟨_,(!Ah (!AS (!AA Bh (!Av AJ (pv 0) (!Ak) (fun _ _=>rfl)) (!AI rfl T.c_PIECE) (AC _)) (!Al (!An (@Bs _ ["sign"] _ _ _ _ _ _ _ _ _ _ rfl (!LX (!Av AJ (pv 0) (!Ak) (fun _ _=>rfl))) (by decide +kernel) (fun C s H fp=>⟨(@Aq _ _ (0) _ (show(["sign"]:List Str).Nodup by decide +kernel) rfl (by trivial) (by trivial)),(!AX),(!AN Bl (by trivial) rfl (!Ac (pv 0) (!Aj)))⟩) (by intro _;rfl)))) (!Aw)) (!Ah (!AS (!AA Bh (!Av AJ (pv 0) (!Ak) (fun _ _=>rfl)) (!AI rfl T.c_ROW) (AC _)) (!Al (!An (!AB NT (!BY (!Ac (!Av AJ (pv 0) (!Ak) (fun _ _=>rfl)) (!Aj))) (@Bs _ ["tag"] _ _ _ _ _ _ _ _ _ _ rfl (!EB (!Av AJ (pv 0) (!Ak) (fun _ _=>rfl))) (by decide +kernel) (fun C s H fp=>⟨(@Aq _ _ (0) _ (show(["tag"]:List Str).Nodup by decide +kernel) rfl (by trivial) (by trivial)),(!AX),(!Av (Ep (K:=K) (by rfl)) (pv 0) (!Ak) (fun _ _=>rfl))⟩) (by intro _;rfl))))) (!Aw)) (!Ah (@AG _ _ (1) _ _ _ _ Cn.nd rfl (by trivial) (!BY (!Aj)) (by rfl) (by trivial)) (!Ah (!Ck PassesOwn.never rfl (!EB (!Av AJ (pv 0) (!Ak) (fun _ _=>rfl))) (!NW rfl (!AD (@Aq _ _ (2) _ Cn.nd rfl (by trivial) (by trivial)) (!AD (@Aq _ _ (3) _ Cn.nd rfl (by trivial) (by trivial)) (!AD (@Aq _ _ (4) _ Cn.nd rfl (by trivial) (by trivial)) (!BO))))) (!Ah (!Bb (!Hd PySem.F.plainAttrs_list PySem.F.slot_list_extend PySem.F.type_list_extend Iu (pv 1) (!Ac (@Bs _ ["sign"] _ _ _ _ _ _ _ _ _ _ rfl (!LX (pv 2)) (by decide +kernel) (fun C s H fp=>⟨(@Aq _ _ (0) _ (show(["sign"]:List Str).Nodup by decide +kernel) rfl (by trivial) (by trivial)),(!AX),(!AN Bl (by trivial) rfl (!Ac (pv 0) (!Aj)))⟩) (by intro _;rfl)) (!Aj)))) (!Al (!Bb (!Hd PySem.F.plainAttrs_list PySem.F.slot_list_extend PySem.F.type_list_extend Iu (pv 1) (!Ac (!BY (!Ac (pv 3) (!Ac (!Av AJ (pv 4) (!Ak) (fun _ _=>rfl)) (!Aj)))) (!Aj)))))) (by intro _;rfl)) (!Al (!An (pv 1))))))),?_⟩;cases b with
 |piece z=>
  obtain⟨a,rfl,e⟩:=E7 hv;have h':(decide ((1:Int)<=(z.length:Int))&&decide ((z.length:Int)<=8)&&BI SG z)=true:=ok;simp only[Bool.and_eq_true,decide_eq_true_eq] at h';have zs:∀c∈CA z,c∈CA SG:=fun c hc=>by simpa using List.all_eq_true.mp h'.2 c hc
  refine⟨_,rfl,a,_,_,_,rfl,rfl,AW.of e,rfl,rfl,_,rfl,BS rfl ?_⟩;refine⟨_,rfl,a,_,_,_,rfl,rfl,AW.of e,rfl,z,rfl,?_⟩;refine comp_map (fun v=>match v with | .str y=>.int (PySem.Txt.find SG y)|_=>.non) HP (by rw[List.length_map];exact Nat.le_trans (Nat.le_of_eq (BU z)) (by omega)) (fun x H' R hx s' hR=>?_) fun l H7 n7 s7 h7=>?_
  ·obtain⟨u,hu,rfl⟩:=List.mem_map.mp hx;exact⟨_,rfl,_,rfl,(IR (zs u hu)).1,hR H' (Ar.refl _)⟩
  rw[idx_map] at h7;exact q l H7 s7 n7 h7
 |row lv ts=>
  obtain⟨a,b,us,rfl,e,e2,r⟩:=Ii hv;have lu:=Ax.len _ _ r;rw[List.length_map] at lu;have l8:=ok.2.1;refine⟨_,rfl,a,_,_,_,rfl,rfl,AW.of e,rfl,rfl,_,rfl,AR rfl ?_⟩;refine⟨_,rfl,a,_,_,_,rfl,rfl,AW.of e,rfl,rfl,_,rfl,BS rfl ?_⟩;refine⟨_,rfl,a,_,_,_,rfl,rfl,AW.of e,rfl,VM,fun p1 hp1=>?_⟩;have s1:=Am hp1 (.lst [V.int lv]);have e2':=s1.get e2;have r':=Ax.same s1 _ _ r;refine⟨_,rfl,a,_,_,_,rfl,rfl,AW.of (s1.get e),rfl,b,rfl,⟨_,AW.of e2'⟩,comp_map (fun v=>match v with | .ref x=>(match(upd H p1 (.lst [V.int lv])) x with|some (.tup [_,_,y])=>y|_=>.non)|_=>.non) (DL e2') (by omega) (fun x H' R hx s' hR=>?_) fun l H7 n7 s7 h7=>?_⟩
  ·obtain⟨t,ht,rt⟩:=DU r' hx;obtain⟨c,rfl,ec⟩:=GC rt;have:=hR H' (Ar.refl _);simp only[ec] at this;exact⟨_,rfl,c,_,_,_,rfl,rfl,AW.of (s'.get ec),rfl,this⟩
  rw[OO r'] at h7;refine⟨p1,l,_,_,rfl,rfl,AO.of (s7.get Af),AO.of h7,small (by rw[List.length_map,List.length_map];show 1+ts.length<=1000000;omega),fun p hp=>?_⟩;exact q p _ ((s1.trans s7).trans (Am hp _)) ((s1.trans s7).free hp) Af
 |folder es=>
  obtain⟨a,b,us,rfl,e,e2,r⟩:=CJ hv;have lu:=Ax.len _ _ r;rw[List.length_map] at lu;obtain⟨o1,o2,_⟩:=ok;refine⟨_,rfl,a,_,_,_,rfl,rfl,AW.of e,rfl,rfl,_,rfl,AR rfl ?_⟩;refine⟨_,rfl,a,_,_,_,rfl,rfl,AW.of e,rfl,rfl,_,rfl,AR rfl ?_⟩;refine⟨J8,fun g hg=>?_⟩;have sg:=Am hg (.lst []);refine⟨_,rfl,a,_,_,_,rfl,rfl,AW.of (sg.get e),rfl,b,rfl,⟨_,AW.of (sg.get e2)⟩,Lb (K:=K) (a:=b) (xs:=us) (fun i σ H2=>∃v2 v3 v4,σ=[some (.ref a),some (.ref g),v2,v3,v4]/\Ar H H2/\H2 g=some (.lst (((es.take i).flatMap EC).map V.int))) ⟨none,none,none,rfl,sg,Af⟩ (fun i σ H2 _ ⟨_,_,_,_,s2,_⟩=>AW.of (s2.get e2)) ?_ ?_⟩
  ·rintro i y σ H2 hi ⟨v2,v3,v4,rfl,s2,hg2⟩
   obtain⟨t,ht,ry⟩:=Ax.get r hi;rw[List.getElem?_map] at ht;cases z:es[i]? with
   |none=>rw[z] at ht;cases ht
   |some x=>
    rw[z] at ht;cases ht;obtain⟨c,d,rfl,ec,ed⟩:=EH ry;have ox:=o2 x (List.mem_of_getElem? z);obtain⟨n1,n2,_,n4⟩:=E9 ox.1;have tl:((es.take i).flatMap EC).length<=160:=by
     have:=UB (es:=es.take i) fun y hy=>W8 (o2 y (List.mem_of_mem_take hy))
     rw[List.length_take] at this;omega
    refine⟨c,_,rfl,AW.of (s2.get ec),rfl,_,_,rfl,_,_,rfl,_,_,rfl,rfl,?_⟩;refine⟨_,rfl,.inl ⟨rfl,_,AO.of hg2⟩,_,rfl,x.nm,rfl,?_⟩;refine comp_map (fun v=>match v with | .str y=>.int (PySem.Txt.find SG y)|_=>.non) HP (by rw[List.length_map];exact Nat.le_trans (Nat.le_of_eq (BU x.nm)) (by omega)) (fun u H' R hu s' hR=>?_) fun l H7 n7 s7 h7=>?_
    ·obtain⟨k,hk,rfl⟩:=List.mem_map.mp hu;exact⟨_,rfl,_,rfl,(IR (n4 k hk)).1,hR H' (Ar.refl _)⟩
    rw[idx_map] at h7;refine⟨g,l,_,_,rfl,rfl,s7.get hg2,h7,small (by rw[List.length_map,List.length_map,List.length_map,BU];omega),?_⟩;have t7:=A0 (s2.trans s7) hg (.lst (((es.take i).flatMap EC).map V.int++((CA x.nm).map idx).map V.int));refine⟨_,rfl,.inl ⟨rfl,_,AO.of Af⟩,_,rfl,_,rfl,d,_,_,_,rfl,rfl,AW.of (t7.get ed),rfl,Mp,fun p hp=>?_⟩;have t8:=Am hp (.lst [V.int x.kd,V.int x.tg.2.2]);refine⟨g,p,_,_,rfl,rfl,t8.get Af,Af,small (by rw[List.length_append,List.length_map,List.length_map,List.length_map,BU];show _+_+2<=_;omega),?_⟩;refine⟨_,_,_,rfl,A0 (t7.trans t8) hg _,?_⟩;rw[Af,Sg z,List.map_append];unfold EC;rw[List.map_append,List.append_assoc];rfl
  ·rintro σ H2 ⟨v2,v3,v4,rfl,s2,hg2⟩
   rw[lu,List.take_of_length_le (Nat.le_refl _)] at hg2;exact⟨_,rfl,q g H2 s2 hg hg2⟩
def kindB:Bk->Int
 | .piece _=>0
 | .row _ _=>1
 | .folder _=>2
def A8 (b:Bk):Int:=(told b).foldl (fun t n=>(31*t+n+1)%997) (1+kindB b)
theorem HJ {H:Hp}{b:Bk}{v:V}(h:Rep NL H (Ce b) v):∃a xs,v=.ref a/\H a=some (.tup (.int (kindB b)::xs)):=by
 cases b with
 |piece z=>obtain⟨a,rfl,e⟩:=E7 h;exact⟨a,_,rfl,e⟩
 |row lv ts=>obtain⟨a,b,us,rfl,e,_⟩:=Ii h;exact⟨a,_,rfl,e⟩
 |folder es=>obtain⟨a,b,us,rfl,e,_⟩:=CJ h;exact⟨a,_,rfl,e⟩
theorem Hq {x:V}{xs:List V}:Kt (x::xs) 0=some x:=by
 unfold Kt Va;simp
theorem ints_get {ns:List Int}{i:Nat}{y:V}(h:(ns.map V.int)[i]?=some y):∃n,y=.int n/\ns[i]?=some n:=by
 rw[List.getElem?_map] at h;cases z:ns[i]? with
 |none=>rw[z] at h;cases h
 |some n=>rw[z] at h;cases h;exact⟨n,rfl,rfl⟩
theorem SD {f:Int->Int->Int}{z:Int}{ns:List Int}{i:Nat}{n:Int}(h:ns[i]?=some n):(ns.take (i+1)).foldl f z=f ((ns.take i).foldl f z) n:=by
 rw[List.take_add_one,h,List.foldl_append];rfl
def Gv (K:W.Frag):Sp:=fun vs H Q _=>∃v b,vs=[v]/\Rep NL H (Ce b) v/\DH b/\∀H',Ar H H'->Q (.int (A8 b)) H'
theorem Sn (T:Txt K mg Ab Ad Aa Ae XC)(F:Fun K "sum_of" "sum_of" Gk f fd)(Fu:Def P w K mg base 2 "numbers_told" ["block"] (EE K)):FnOk P w K mg base Cf 3 f fd ["block"] (Gv K):=by
 exists Ig
 ·obtain⟨v,b,rfl,_⟩:=h;rfl
 obtain⟨v,b,rfl,hv,ok,q⟩:=h;obtain⟨a,xs,rfl,e⟩:=HJ hv;refine⟨_,(!Ah (@AG _ _ (1) _ _ _ _ Ig.nd rfl (by trivial) (!AB Bw (!Ak) (!Av AJ (pv 0) (!Ak) (fun _ _=>rfl))) (by rfl) (by trivial)) (!Ah (!Ck PassesOwn.never rfl (!Bc (!AN Fu (by trivial) rfl (!Ac (pv 0) (!Aj)))) (@Aq _ _ (2) _ Ig.nd rfl (by trivial) (by trivial)) (!Al (@AG _ _ (1) _ _ _ _ Ig.nd rfl (by trivial) (!AB Bj (!AB Bw (!AB Bw (!AB IW (!Ak) (pv 1)) (pv 2)) (!Ak)) (!AI rfl T.c_SUM_RESTS)) (by rfl) (by trivial))) (by intro _;rfl)) (!Al (!An (pv 1))))),?_⟩;refine⟨_,rfl,a,_,_,_,rfl,rfl,AW.of e,Hq,_,_,rfl,rfl,?_⟩;refine⟨_,rfl,_,b,rfl,hv,ok,fun l H1 s1 n1 h1=>?_⟩;refine⟨l,rfl,⟨_,AO.of h1⟩,Cp (K:=K) (a:=l) (xs:=(told b).map V.int) (fun i σ H2=>∃v2,σ=[some (.ref a),some (.int (((told b).take i).foldl (fun t n=>(31*t+n+1)%997) (1+kindB b))),v2]/\Ar H1 H2) ⟨none,rfl,Ar.refl _⟩ (fun i σ H2 _ ⟨_,_,s2⟩=>AO.of (s2.get h1)) ?_ ?_⟩
 ·rintro i y σ H2 hi ⟨v2,rfl,s2⟩
  obtain⟨n,rfl,hn⟩:=ints_get hi;refine⟨_,rfl,_,_,rfl,rfl,.inl ⟨by decide,by decide⟩,_,rfl,_,_,rfl,rfl,_,_,rfl,rfl,_,_,rfl,rfl,(show(0:Int)<997 by decide),?_⟩;refine⟨some (.int n),?_,s2⟩;rw[SD hn];rfl
 ·rintro σ H2 ⟨v2,rfl,s2⟩
  rw[List.length_map,List.take_length];exact⟨_,rfl,q H2 (s1.trans s2)⟩
theorem RH (ts:List Tg):(wTs (ts.map Fn)).length=8*ts.length:=by
 induction ts with
 |nil=>rfl
 |cons t r ih=>
  rw[List.map_cons];show(wT (Fn t)++wTs (r.map Fn)).length=_;rw[List.length_append,ih,List.length_cons];have:(wT (Fn t)).length=8:=rfl;omega
def Wz:Bk->Nat
 | .piece z=>6+z.length
 | .row _ ts=>8+8*ts.length
 | .folder es=>6+(es.map fun x=>14+x.nm.length).sum
theorem Uh (es:List En):(wTs (es.map KM)).length=(es.map fun x=>14+x.nm.length).sum:=by
 induction es with
 |nil=>rfl
 |cons x r ih=>
  rw[List.map_cons,List.map_cons,List.sum_cons,<-ih];show(wT (KM x)++wTs (r.map KM)).length=_;rw[List.length_append];have:(wT (KM x)).length=14+x.nm.length:=by
   show(2::((3:Int))::((1::(x.nm.length:Int)::(CA x.nm).map idx)++([0,x.kd]++(wT (Fn x.tg)++[])))).length=_;have t8:(wT (Fn x.tg)).length=8:=rfl;simp only[List.length_cons,List.length_append,List.length_map,BU,List.length_nil,t8];omega
  omega
theorem Ry (b:Bk):(wT (Ce b)).length=Wz b:=by
 cases b with
 |piece z=>
  show(2::(2:Int)::([0,0]++((1::(z.length:Int)::(CA z).map idx)++[]))).length=6+z.length;simp only[List.length_cons,List.length_append,List.length_map,BU,List.length_nil];omega
 |row lv ts=>
  show(2::(3:Int)::([0,1]++([0,lv]++((2::((ts.map Fn).length:Int)::wTs (ts.map Fn))++[])))).length=8+8*ts.length;simp only[List.length_cons,List.length_append,List.length_nil,RH];omega
 |folder es=>
  show(2::(2:Int)::([0,2]++((2::((es.map KM).length:Int)::wTs (es.map KM))++[]))).length=6+(es.map fun x=>14+x.nm.length).sum;simp only[List.length_cons,List.length_append,List.length_nil,Uh];omega
theorem size_le {b:Bk}(h:DH b):Wz b<=500:=by
 cases b with
 |piece z=>
  have h':(decide ((1:Int)<=(z.length:Int))&&decide ((z.length:Int)<=8)&&BI SG z)=true:=h;simp only[Bool.and_eq_true,decide_eq_true_eq] at h';show 6+z.length<=500;omega
 |row lv ts=>
  have:=h.2.1;show 8+8*ts.length<=500;omega
 |folder es=>
  have n:=h.1;have s0:∀l:List En,(∀x∈l,R0 x)->(l.map fun x=>14+x.nm.length).sum<=22*l.length:=fun l=>by
   induction l with
   |nil=>intro _;exact Nat.le_refl _
   |cons x r ih=>
    intro hx;rw[List.map_cons,List.sum_cons,List.length_cons];have:=ih fun y hy=>hx y (List.mem_cons_of_mem _ hy)
    have:=(E9 (hx x List.mem_cons_self).1).2.1;omega
  have:=s0 es h.2.1;show 6+_<=500;omega
def Dk (K:W.Frag)(C:Addr):Sp:=fun vs H Q _=>∃p ds bs n lf z,vs=[.ref p,.int z]/\Hu C H p ds bs n lf/\0<bs.length/\∀a,H a=none->Q (.ref a) (upd H a (.tup [.int (z%(bs.length:Int)),.int ((z+1)%(bs.length:Int))]))
theorem KL (T:Txt K mg Ab Ad Aa Ae XC)(F:Fun K "twins" "Boards.twins" B9 f fd)(BR:A2 P w K mg base 1 Ad "many" ["self"] (DR K Ad)):FnOk P w K mg base Cf 2 f fd ["self","number"] (Dk K Ad):=by
 exists KU
 ·obtain⟨p,ds,bs,n,lf,z,rfl,_⟩:=h;rfl
 obtain⟨p,ds,bs,n,lf,z,rfl,hB,b0,q⟩:=h;obtain⟨dx,s0,h1,h2,h3,h4⟩:=id hB;refine⟨_,(!Al (!An (!EF (!Ac (!AB Bj (pv 1) (!DJ (pv 0) T.cl_Boards BR)) (!Ac (!AB Bj (!AB Bw (pv 1) (!Ak)) (!DJ (pv 0) T.cl_Boards BR)) (!Aj)))))),?_⟩;refine⟨_,rfl,_,rfl,p,dx,_,rfl,h1,rfl,p,ds,bs,n,lf,rfl,hB,_,_,rfl,rfl,(by omega),_,rfl,_,_,rfl,rfl,_,rfl,p,dx,_,rfl,h1,rfl,p,ds,bs,n,lf,rfl,hB,_,_,rfl,rfl,(by omega),Mp,fun a ha=>q a ha⟩
def DQ (t:Tr):List Int:=wT t++[mk (wT t)]
def IB (z y:Int)(b:Bk):Tr:=.tup [.int z,.int y,Ce b]
theorem Ve {b:Bk}(h:DH b):DF 7 (Ce b)=true:=by
 cases b with
 |piece z=>
  have h':(decide ((1:Int)<=(z.length:Int))&&decide ((z.length:Int)<=8)&&BI SG z)=true:=h;simp only[Bool.and_eq_true,decide_eq_true_eq] at h';simp only[Ce,DF,List.all_cons,List.all_nil,List.length_cons,List.length_nil,Bool.and_true,Bool.and_eq_true,decide_eq_true_eq,h'.2,and_true];omega
 |row lv ts=>
  obtain⟨l,n,_,o⟩:=h;have d:(ts.map Fn).all (DF 5)=true:=List.all_eq_true.mpr fun t ht=>by
   obtain⟨x,hx,rfl⟩:=List.mem_map.mp ht;exact Lg (o x hx) 3
  simp only[Ce,DF,List.all_cons,List.all_nil,List.length_cons,List.length_nil,List.length_map,Bool.and_true,Bool.and_eq_true,decide_eq_true_eq,d,and_true];omega
 |folder es=>
  obtain⟨n,o,_⟩:=h;have d:(es.map KM).all (DF 5)=true:=List.all_eq_true.mpr fun t ht=>by
   obtain⟨x,hx,rfl⟩:=List.mem_map.mp ht;exact Lh (o x hx) 2
  simp only[Ce,DF,List.all_cons,List.all_nil,List.length_cons,List.length_nil,List.length_map,Bool.and_true,Bool.and_eq_true,decide_eq_true_eq,d,and_true];omega
def NB (z y:Int):Prop:=(0<=z/\z<=999999999)/\0<=y/\y<=999999999
theorem QW {z y:Int}{b:Bk}(n:NB z y)(h:DH b):DF 8 (IB z y b)=true:=by
 have d:=Ve h;obtain⟨⟨a1,a2⟩,a3,a4⟩:=n;show(decide (3<=100)&&((decide (0<=z)&&decide (z<=999999999))&&((decide (0<=y)&&decide (y<=999999999))&&(DF 7 (Ce b)&&true))))=true;simp only[d,Bool.and_true,Bool.and_eq_true,decide_eq_true_eq];omega
theorem Q6 {z y:Int}{b:Bk}(h:DH b):(wT (IB z y b)).length<=600:=by
 have l:=Ry b;have s:=size_le h;show(2::(3:Int)::([0,z]++([0,y]++(wT (Ce b)++[])))).length<=600;simp only[List.length_cons,List.length_append,List.length_nil];omega
mutual
theorem WH:∀(n:Nat) (t:Tr),DF n t=true->∀x∈wT t,0<=x/\x<=2147483646
 |0,_,h=>nomatch h
 |n+1,.non,h=>nomatch h
 |n+1,.bl _,h=>nomatch h
 |n+1,.int i,h=>fun x hx=>by
  have h':(decide (0<=i)&&decide (i<=999999999))=true:=h;simp only[Bool.and_eq_true,decide_eq_true_eq] at h';rcases List.mem_cons.mp hx with rfl|hx
  ·omega
  ·rw[List.mem_singleton.mp hx];omega
 |n+1,.str z,h=>fun x hx=>by
  obtain⟨zl,zs⟩:=K7 h;rcases List.mem_cons.mp hx with rfl|hx
  ·omega
  rcases List.mem_cons.mp hx with rfl|hx
  ·omega
  obtain⟨c,hc,rfl⟩:=List.mem_map.mp hx;have:=IR (zs c hc);omega
 |n+1,.tup ts,h=>fun x hx=>by
  have h':(decide (ts.length<=100)&&ts.all (DF n))=true:=h;rw[Bool.and_eq_true,decide_eq_true_eq] at h';rcases List.mem_cons.mp hx with rfl|hx
  ·omega
  rcases List.mem_cons.mp hx with rfl|hx
  ·omega
  exact Ue n ts h'.2 x hx
 |n+1,.lst _,h=>nomatch h
theorem Ue:∀(n:Nat) (ts:List Tr),ts.all (DF n)=true->∀x∈wTs ts,0<=x/\x<=2147483646
 |_,[],_=>fun x hx=>nomatch hx
 |n,t::ts,h=>fun x hx=>by
  rw[List.all_cons,Bool.and_eq_true] at h;rcases List.mem_append.mp hx with hx|hx
  ·exact WH n t h.1 x hx
  ·exact Ue n ts h.2 x hx
end
theorem Oz {t:Tr}{n:Nat}(h:DF n t=true):sound (DQ t)=true:=N3 (WH n t h)
theorem Qg (t:Tr):(DQ t).dropLast=wT t:=by unfold DQ;rw[List.dropLast_concat]
theorem RX (t:Tr):(DQ t).length=(wT t).length+1:=by unfold DQ;rw[List.length_append];rfl
def HN (K:W.Frag)(C:Addr):Sp:=fun vs H Q _=>∃p ds bs n lf,∃(b:Nat) (z:Int),vs=[.ref p,.int (b:Int),.int z]/\Hu C H p ds bs n lf/\b<bs.length/\((Eg (bs.getD b []) z=none/\Q .non H)\/∃t,Eg (bs.getD b []) z=some (DQ t)/\DF 8 t=true/\(wT t).length<=900/\∀v H',Ar H H'->Rep NL H' t v->Q v H')
theorem OE (T:Txt K mg Ab Ad Aa Ae XC)(F:Fun K "thing_on" "thing_on" Ea f fd)(Gg:A2 P w K mg base 4 Ad "cell" ["self","board","number"] (Fp K Ad))(Jj:Def P w K mg base 3 "unsealed" ["row"] (HC K))(Jn:Def P w K mg base 13 "thing_of" ["words"] (Hm K)):FnOk P w K mg base Cf 14 f fd ["boards","board","number"] (HN K Ad):=by
 exists HD
 ·obtain⟨p,ds,bs,n,lf,b,z,rfl,_⟩:=h;rfl
 obtain⟨p,ds,bs,n,lf,b,z,rfl,hB,b1,q⟩:=h;obtain⟨dx,s0,h1,h2,h3,h4⟩:=id hB;refine⟨_,(!Ah (@AG _ _ (3) _ _ _ _ HD.nd rfl (by trivial) (!A3 (pv 0) T.cl_Boards Gg (by trivial) (!Ac (pv 1) (!Ac (pv 2) (!Aj)))) (by rfl) (by trivial)) (!Ah (!AS (!GB (!Pt (pv 3)) (by first|exact Df _ (by decide) (by decide)|rfl)) (!Al (!An (!Fk))) (!Aw)) (!Ah (@AG _ _ (4) _ _ _ _ HD.nd rfl (by trivial) (!AN Jj (by trivial) rfl (!Ac (pv 3) (!Aj))) (by rfl) (by trivial)) (!Ah (!AS (!GB (!Pt (pv 4)) (by first|exact Df _ (by decide) (by decide)|rfl)) (!Al (!An (!Fk))) (!Aw)) (!Al (!Uo ⟨rfl,rfl⟩ T.x_NoThing rfl (!Rj (!RB (!An (!AN Jn (by trivial) rfl (!Ac (pv 4) (!Aj)))))) (!Aw) (fun e=>(!Al (!An (!Fk)))))))))),?_⟩;refine⟨_,rfl,p,dx,_,rfl,h1,rfl,_,rfl,_,rfl,p,ds,bs,n,lf,b,z,rfl,hB,b1,?_⟩;rcases q with⟨g,q⟩|⟨t,g,it,wl,q⟩
 ·refine⟨fun _=>⟨_,rfl,_,rfl,BS rfl q⟩,fun row e=>?_⟩;rw[g] at e;cases e
 ·refine⟨(fun e=>by rw[g] at e;cases e),fun row e l hl=>?_⟩;rw[g] at e;cases e;have s1:=Am hl (.lst ((DQ t).map V.int));refine⟨_,rfl,_,rfl,AR rfl ?_⟩;refine⟨_,rfl,l,DQ t,rfl,Af,by rw[RX];omega,(fun z=>by rw[Oz it] at z;cases z),fun _ r H2 s2 nr hr2=>?_⟩;rw[Qg] at hr2;refine⟨_,rfl,_,rfl,AR rfl ?_⟩;exact⟨_,rfl,r,t,rfl,hr2,it,fun v H3 s3 rv=>q v H3 ((s1.trans s2).trans s3) rv⟩
def Fz (K:W.Frag)(C:Addr):Sp:=fun vs H Q _=>∃p ds bs n lf,∃(b:Nat) (ta:Addr) (z y k:Int),vs=[.ref p,.int (b:Int),.ref ta]/\Hu C H p ds bs n lf/\b<bs.length/\H ta=some (.tup [.int z,.int y,.int k])/\
 ((Eg (bs.getD b []) z=none/\Q .non H)\/∃bk,Eg (bs.getD b []) z=some (DQ (IB z y bk))/\DH bk/\A8 bk=k/\NB z y/\∀v H',Ar H H'->Rep NL H' (Ce bk) v->Q v H')
theorem OT (T:Txt K mg Ab Ad Aa Ae XC)(F:Fun K "block_on" "block_on" D2 f fd)(Jc:Def P w K mg base 14 "thing_on" ["boards","board","number"] (HN K Ad))(Bp:Def P w K mg base 1 "is_tuple_of" ["thing","many"] (CK K))(IL:Def P w K mg base 6 "is_block" ["thing"] (HM K))(DT:Def P w K mg base 3 "sum_of" ["block"] (Gv K)):FnOk P w K mg base Cf 15 f fd ["boards","board","tag"] (Fz K Ad):=by
 exists KE
 ·obtain⟨p,ds,bs,n,lf,b,ta,z,y,k,rfl,_⟩:=h;rfl
 obtain⟨p,ds,bs,n,lf,b,ta,z,y,k,rfl,hB,b1,ht,q⟩:=h;have hu9:=Fx hr;refine⟨_,(!Ah (@AG _ _ (3) _ _ _ _ KE.nd rfl (by trivial) (!AN Jc (by trivial) rfl (!Ac (pv 0) (!Ac (pv 1) (!Ac (!Av AJ (pv 2) (!Ak) (fun _ _=>rfl)) (!Aj))))) (by rfl) (by trivial)) (!Ah (!AS (@PW.pt _ _ _ (!Hf (!Cd (!BK (!AN Bp (by trivial) rfl (!Ac (pv 3) (!Ac (!Ak) (!Aj)))) (by intro _;rfl))) (!Fc (!AA (WQ hu9) (!JG Ub (pv 3) (!Ld) (!K8 (!Ak))) (!JG Ub (pv 2) (!Ld) (!K8 (!Ak))) (AC _))))) (!Al (!An (!Fk))) (!Aw)) (!Ah (!AS (@PW.pt _ _ _ (!Hf (!Cd (!BK (!AN IL (by trivial) rfl (!Ac (!Av AJ (pv 3) (!Ak) (fun _ _=>rfl)) (!Aj))) (by intro _;rfl))) (!Fc (!AA U5 (!AN DT (by trivial) rfl (!Ac (!Av AJ (pv 3) (!Ak) (fun _ _=>rfl)) (!Aj))) (!Av AJ (pv 2) (!Ak) (fun _ _=>rfl)) (AC _))))) (!Al (!An (!Fk))) (!Aw)) (!Al (!An (!Av AJ (pv 3) (!Ak) (fun _ _=>rfl))))))),?_⟩;refine⟨_,rfl,_,rfl,_,rfl,ta,_,_,_,rfl,rfl,AW.of ht,rfl,p,ds,bs,n,lf,b,z,rfl,hB,b1,?_⟩;rcases q with⟨g,q⟩|⟨bk,g,ok,es,nb,q⟩
 ·refine .inl ⟨g,?_⟩;exact⟨_,rfl,.non,3,rfl,trivial,_,rfl,BS rfl q⟩
 ·refine .inr ⟨IB z y bk,g,QW nb ok,by have:=Q6 (z:=z) (y:=y) ok;omega,fun v H1 s1 rv=>?_⟩;obtain⟨a,us,rfl,e,u1,us,rfl,r1,u2,us,rfl,r2,u3,us,rfl,r3,rfl⟩:=rv;cases(show u1=V.int z from r1);cases(show u2=V.int y from r2);have okv:Ok H1 (.ref a):=.inr ⟨_,e⟩;have ht1:=s1.get ht;refine⟨_,rfl,.ref a,3,rfl,okv,_,rfl,AR (by rw[JI e];rfl) ?_⟩;refine⟨_,rfl,2,rfl,a,_,rfl,AW.of e,(show ¬(HT.DY 3 0 none=0/\HT.DY 3 3 (some 2)=3) by decide),fun p1 hp1=>?_⟩;have s2:=Am hp1 (.tup [V.int z,V.int y]);refine⟨_,rfl,2,rfl,ta,_,rfl,AW.of (s2.get ht1),(show ¬(HT.DY 3 0 none=0/\HT.DY 3 3 (some 2)=3) by decide),fun p2 hp2=>?_⟩;have s3:=Am hp2 (.tup [V.int z,V.int y]);refine⟨.tup [.int z,.int y],NL,NL,(by show 1+max 1 (max 1 0)<=100;decide),⟨p1,_,rfl,s3.get Af,_,_,rfl,rfl,_,_,rfl,rfl,rfl⟩,⟨p2,_,rfl,Af,_,_,rfl,rfl,_,_,rfl,rfl,rfl⟩,_,rfl,AR rfl ?_⟩;have s13:=s2.trans s3;have r3':=Rep.same s13 _ _ r3;have e3:=s13.get e;obtain⟨wok,wb⟩:=Vp ok;refine⟨_,rfl,a,_,_,_,rfl,rfl,AW.of e3,rfl,u3,bk,rfl,r3',wok,fun H4 s4=>⟨_,rfl,AR (by rw[wb];rfl) ?_⟩⟩;refine⟨_,rfl,a,_,_,_,rfl,rfl,AW.of (s4.get e3),rfl,u3,bk,rfl,Rep.same s4 _ _ r3',ok,fun H5 s5=>?_⟩;have s45:=s4.trans s5;refine⟨_,rfl,ta,_,_,_,rfl,rfl,AW.of (s45.get (s13.get ht1)),rfl,rfl,_,rfl,AR (by rw[es];simp) ?_⟩;exact⟨_,rfl,a,_,_,_,rfl,rfl,AW.of (s45.get e3),rfl,q u3 H5 ((s1.trans s13).trans s45) (Rep.same s45 _ _ r3')⟩
def Lies (bs:List Fy)(z y:Int)(bk:Bk):Prop:=∀b,b<bs.length->Eg (bs.getD b []) z=none\/Eg (bs.getD b []) z=some (DQ (IB z y bk))
def hasB (bs:List Fy)(z:Int)(b:Int):Bool:=(Eg (bs.getD b.toNat []) z).isSome
def Jm (bs:List Fy)(z:Int):List Int:=[z%(bs.length:Int),(z+1)%(bs.length:Int)]
theorem NO {bs:List Fy}{z:Int}(h:0<bs.length):∀x∈Jm bs z,0<=x/\x<(bs.length:Int):=fun x hx=>by
 have e:x=z%(bs.length:Int)\/x=(z+1)%(bs.length:Int):=by simpa [Jm] using hx
 rcases e with rfl|rfl
 ·exact⟨Int.emod_nonneg _ (by omega),Int.emod_lt_of_pos _ (by omega)⟩
 ·exact⟨Int.emod_nonneg _ (by omega),Int.emod_lt_of_pos _ (by omega)⟩
theorem XO {H:Hp} {p ta:Addr} {ds:List Addr} {bs:List Fy} {n:Int} {lf:V} {z y:Int} {bk:Bk} {x:Int} {Q:VK} (hB:Hu Ad H p ds bs n lf) (x0:0<=x) (x1:x<(bs.length:Int)) (ht:H ta=some (.tup [.int z,.int y,.int (A8 bk)])) (hl:Lies bs z y bk) (ok:DH bk) (nb:NB z y)
  (q0:hasB bs z x=false->Q .non H) (q1:hasB bs z x=true->∀v H',Ar H H'->Rep NL H' (Ce bk) v->Q v H'):Fz K Ad [.ref p,.int x,.ref ta] H Q E0:=by
 have ex:((x.toNat:Nat):Int)=x:=by omega
 refine⟨p,ds,bs,n,lf,x.toNat,ta,z,y,A8 bk,by rw[ex],hB,by omega,ht,?_⟩;rcases hl x.toNat (by omega) with e|e
 ·exact .inl ⟨e,q0 (by unfold hasB;rw[e];rfl)⟩
 ·exact .inr ⟨bk,e,ok,rfl,nb,q1 (by unfold hasB;rw[e];rfl)⟩
def IV (K:W.Frag)(C:Addr):Sp:=fun vs H Q _=>∃p ds bs n lf,∃(ta:Addr) (z y:Int) (bk:Bk),vs=[.ref p,.ref ta]/\Hu C H p ds bs n lf/\0<bs.length/\H ta=some (.tup [.int z,.int y,.int (A8 bk)])/\Lies bs z y bk/\DH bk/\NB z y/\(Jm bs z).filter (hasB bs z)≠[]/\∀v H',Ar H H'->Rep NL H' (Ce bk) v->Q v H'
theorem QP (T:Txt K mg Ab Ad Aa Ae XC)(F:Fun K "fetched" "fetched" E3 f fd)(Cc:A2 P w K mg base 2 Ad "twins" ["self","number"] (Dk K Ad))(IK:Def P w K mg base 15 "block_on" ["boards","board","tag"] (Fz K Ad)):FnOk P w K mg base Cf 16 f fd ["boards","tag"] (IV K Ad):=by
 exists IT
 ·obtain⟨p,ds,bs,n,lf,ta,z,y,bk,rfl,_⟩:=h;rfl
 obtain⟨p,ds,bs,n,lf,ta,z,y,bk,rfl,hB,b0,ht,hl,ok,nb,q0,q⟩:=h;obtain⟨dx,s0,h1,h2,h3,h4⟩:=id hB;refine⟨_,(!Ah (!Ck PassesOwn.never rfl (!EB (!A3 (pv 0) T.cl_Boards Cc (by trivial) (!Ac (!Av AJ (pv 1) (!Ak) (fun _ _=>rfl)) (!Aj)))) (@Aq _ _ (2) _ IT.nd rfl (by trivial) (by trivial)) (!Ah (@AG _ _ (3) _ _ _ _ IT.nd rfl (by trivial) (!AN IK (by trivial) rfl (!Ac (pv 0) (!Ac (pv 2) (!Ac (pv 1) (!Aj))))) (by rfl) (by trivial)) (!Al (!AS (!GB (!NU (pv 3)) (by first|exact Df _ (by decide) (by decide)|rfl)) (!Al (!An (pv 3))) (!Aw)))) (by intro _;rfl)) (!Al (!C9))),?_⟩;dsimp only[BP];refine⟨_,rfl,p,dx,_,rfl,h1,rfl,_,rfl,ta,_,_,_,rfl,rfl,AW.of ht,rfl,p,ds,bs,n,lf,z,rfl,hB,b0,fun tp htp=>?_⟩;have s1:=Am htp (.tup [V.int (z%(bs.length:Int)),V.int ((z+1)%(bs.length:Int))]);have etp:(upd H tp (.tup [V.int (z%(bs.length:Int)),V.int ((z+1)%(bs.length:Int))])) tp=some (.tup ((Jm bs z).map V.int)):=Af;generalize upd H tp (.tup [V.int (z%(bs.length:Int)),V.int ((z+1)%(bs.length:Int))])=H0 at s1 etp;refine⟨tp,rfl,⟨_,AW.of etp⟩,Lb (K:=K) (a:=tp) (xs:=(Jm bs z).map V.int) (fun i σ H2=>∃v2 v3,σ=[some (.ref p),some (.ref ta),v2,v3]/\Ar H0 H2/\((Jm bs z).take i).filter (hasB bs z)=[]) ⟨none,none,rfl,Ar.refl _,rfl⟩ (fun i σ H2 _ ⟨_,_,_,s2,_⟩=>AW.of (s2.get etp)) ?_ ?_⟩
 ·rintro i x σ H2 hi ⟨v2,v3,rfl,s2,hf⟩
  obtain⟨k,rfl,hk⟩:=ints_get hi;obtain⟨k0,k1⟩:=NO b0 k (List.mem_of_getElem? hk);have u:=s1.trans s2;refine⟨_,rfl,_,rfl,_,rfl,?_⟩;dsimp only[Nm,List.append_nil];refine XO (hB.same u) k0 k1 (u.get ht) hl ok nb (fun e=>?_) (fun e v H3 s3 rv=>?_)
  ·refine⟨_,rfl,_,rfl,AR rfl ?_⟩;refine⟨_,_,rfl,s2,?_⟩;rw[List.take_add_one,hk,List.filter_append,hf];show[k].filter (hasB bs z)=[];rw[List.filter_cons_of_neg (by rw[e];exact Bool.false_ne_true),List.filter_nil]
  ·have nv:v≠.non:=by
    obtain⟨a,xs,rfl,_⟩:=HJ rv;intro z;cases z
   refine⟨_,rfl,_,rfl,BS (by rw[decide_eq_false nv];rfl) ?_⟩;exact⟨_,rfl,q v H3 (u.trans s3) rv⟩
 ·rintro σ H2 ⟨v2,v3,rfl,s2,hf⟩
  rw[List.take_of_length_le (by rw[List.length_map];exact Nat.le_refl _)] at hf;exact absurd hf q0
def wr (bs:List Fy)(z:Int)(row:List Int)(l:List Int):List Fy:=l.foldl (fun bs x=>bs.set x.toNat (Hn (bs.getD x.toNat []) z row)) bs
theorem LC (z:Int)(row:List Int):∀(l:List Int) (bs:List Fy),(wr bs z row l).length=bs.length
 |[],_=>rfl
 |x::l,bs=>by
  show(wr (bs.set _ _) z row l).length=_;rw[LC z row l,List.length_set]
theorem VX (bs:List Fy)(z:Int)(row:List Int)(l:List Int)(x:Int):wr bs z row (l++[x])=(wr bs z row l).set x.toNat (Hn ((wr bs z row l).getD x.toNat []) z row):=by
 unfold wr;rw[List.foldl_append];rfl
theorem Ox {z:Int}{row:List Int}{M:Nat}:∀(l:List Int) {bs:List Fy},(∀c∈bs,c.length<=M)->∀c∈wr bs z row l,c.length<=M+l.length:=fun l=>by
 induction l generalizing M with
 |nil=>intro bs h;exact h
 |cons x l ih=>
  intro bs h c hc;have:∀c∈bs.set x.toNat (Hn (bs.getD x.toNat []) z row),c.length<=M+1:=fun c hc=>by
   rcases List.mem_or_eq_of_mem_set hc with hc|rfl
   ·have:=h c hc;omega
   ·have:=T8 (bs.getD x.toNat []) z row;have:(bs.getD x.toNat []).length<=M:=by
     unfold List.getD;cases e:bs[x.toNat]? with
     |none=>exact Nat.zero_le _
     |some c=>exact h c (List.mem_of_getElem? e)
    omega
  have:=ih this c hc;rw[List.length_cons];omega
def Qt (K:W.Frag)(C:Addr):Sp:=fun vs H Q _=>∃p ds bs n,∃(z y:Int) (bv:V) (bk:Bk),vs=[.ref p,.int z,.int y,bv]/\Hu C H p ds bs n .non/\0<bs.length/\(∀c∈bs,c.length<=90000)/\Rep NL H (Ce bk) bv/\DH bk/\NB z y/\
 ∀H',Hu C H' p ds (wr bs z (DQ (IB z y bk)) (Jm bs z)) (n+2) .non->Kb H H' p ds->Q .non H'
theorem XH (T:Txt K mg Ab Ad Aa Ae XC)(F:Fun K "lay" "lay" MJ f fd)(LB:Def P w K mg base 2 "sealed" ["words"] (Kn K))(Cc:A2 P w K mg base 2 Ad "twins" ["self","number"] (Dk K Ad))(CD:Def P w K mg base 9 "words_of" ["thing"] (FF K))(Fg:A2 P w K mg base 4 Ad "write" ["self","board","number","row"] (EI K Ad)):FnOk P w K mg base Cf 10 f fd ["boards","number","birth","block"] (Qt K Ad):=by
 exists Qz
 ·obtain⟨p,ds,bs,n,z,y,bv,bk,rfl,_⟩:=h;rfl
 obtain⟨p,ds,bs,n,z,y,bv,bk,rfl,hB,b0,bb,hv,ok,nb,q⟩:=h;refine⟨_,(!Ah (@AG _ _ (4) _ _ _ _ Qz.nd rfl (by trivial) (!AN LB (by trivial) rfl (!Ac (!AN CD (by trivial) rfl (!Ac (!EF (!Ac (pv 1) (!Ac (pv 2) (!Ac (pv 3) (!Aj))))) (!Aj))) (!Aj))) (by rfl) (by trivial)) (!Al (!Ck PassesOwn.never rfl (!EB (!A3 (pv 0) T.cl_Boards Cc (by trivial) (!Ac (pv 1) (!Aj)))) (@Aq _ _ (5) _ Qz.nd rfl (by trivial) (by trivial)) (!Al (!Bb (!A3 (pv 0) T.cl_Boards Fg (by trivial) (!Ac (pv 5) (!Ac (pv 1) (!Ac (pv 4) (!Aj))))))) (by intro _;rfl)))),?_⟩;dsimp only[BP];refine⟨_,rfl,_,rfl,_,rfl,UX,fun tr htr=>?_⟩;have s1:=Am htr (.tup [V.int z,V.int y,bv]);have hrec:Rep NL (upd H tr (.tup [V.int z,V.int y,bv])) (IB z y bk) (.ref tr):=⟨tr,_,rfl,Af,_,_,rfl,rfl,_,_,rfl,rfl,_,_,rfl,Rep.same s1 _ _ hv,rfl⟩
 have rl:=Q6 (z:=z) (y:=y) ok;refine⟨.ref tr,IB z y bk,rfl,hrec,QW nb ok,by omega,fun wl H2 s2 nw hw=>?_⟩;refine⟨wl,_,rfl,hw,by omega,fun rw_ H3 s3 nr hrw=>?_⟩;have s03:=(s1.trans s2).trans s3;have hB3:=hB.same s03;obtain⟨dx,sh,h1,h2,h3,h4⟩:=id hB3;refine⟨_,rfl,p,dx,_,rfl,h1,rfl,_,rfl,p,ds,bs,n,.non,z,rfl,hB3,b0,fun tp htp=>?_⟩;have s4:=Am htp (.tup [V.int (z%(bs.length:Int)),V.int ((z+1)%(bs.length:Int))]);have etp:(upd H3 tp (.tup [V.int (z%(bs.length:Int)),V.int ((z+1)%(bs.length:Int))])) tp=some (.tup ((Jm bs z).map V.int)):=Af;have hB4:=hB3.same s4;have hrw4:=s4.get hrw;have s04:=s03.trans s4;generalize upd H3 tp (.tup [V.int (z%(bs.length:Int)),V.int ((z+1)%(bs.length:Int))])=H4 at s4 etp hB4 hrw4 s04;obtain⟨dx4,sh4,g1,_,_,_⟩:=id hB4;have ntp:tp≠p:=AM etp g1 (by intro z;cases z);have ndp:tp∉ds:=hB4.notin etp (by intro kvs z;cases z);have nrp:rw_≠p:=AM hrw4 g1 (by intro z;cases z);have ndr:rw_∉ds:=hB4.notin hrw4 (by intro kvs z;cases z);refine⟨tp,rfl,⟨_,AW.of etp⟩,Lb (K:=K) (a:=tp) (xs:=(Jm bs z).map V.int) (fun i σ H2=>∃v5,σ=[some (.ref p),some (.int z),some (.int y),some bv,some (.ref rw_),v5]/\Hu Ad H2 p ds (wr bs z (DQ (IB z y bk)) ((Jm bs z).take i)) (n+(i:Int)) .non/\Kb H4 H2 p ds) ⟨none,rfl,by rw[List.take_zero,show n+((0:Nat):Int)=n by omega];exact hB4,fun _ _ h _ _=>h⟩ (fun i σ H2 _ ⟨_,_,_,k2⟩=>AW.of (k2 _ _ etp ntp ndp)) ?_ ?_⟩
 ·rintro i x σ H5 hi ⟨v5,rfl,hB5,k5⟩
  obtain⟨k,rfl,hk⟩:=ints_get hi;obtain⟨k0,k1⟩:=NO b0 k (List.mem_of_getElem? hk);have i2:i<2:=(List.getElem?_eq_some_iff.mp hk).1;have ek:((k.toNat:Nat):Int)=k:=by omega
  obtain⟨dx5,sh5,e1,e2,e3,e4⟩:=id hB5;refine⟨_,rfl,p,dx5,_,rfl,e1,rfl,_,rfl,_,rfl,_,rfl,p,ds,_,_,k.toNat,z,rw_,DQ (IB z y bk),by rw[ek];rfl,hB5,by rw[LC];omega,fun c hc=>?_,k5 _ _ hrw4 nrp ndr,fun H6 hB6 k6=>?_⟩
  ·have:=Ox _ bb c hc;have:((Jm bs z).take i).length<=2:=by rw[List.length_take];exact Nat.le_trans (Nat.min_le_right _ _) (Nat.le_refl 2)
   omega
  ·refine⟨_,rfl,?_,k5.trans k6⟩;rw[List.take_add_one,hk];show Hu _ _ _ _ (wr bs z _ ((Jm bs z).take i++[k])) _ _;rw[VX,show n+((i+1:Nat):Int)=n+(i:Int)+1 by omega];exact hB6
 ·rintro σ H5 ⟨v5,rfl,hB5,k5⟩
  rw[List.take_of_length_le (by rw[List.length_map];exact Nat.le_refl _)] at hB5;exact q H5 hB5 ((Ar.kb s04 p ds).trans k5)
theorem Pj (c:Fy)(k:Int)(row:List Int)(z:Int):Eg (Hn c k row) z=if z=k then some row else Eg c z:=by
 unfold Hn
 by_cases h:(c.any fun x=>decide (x.1=k))=true
 ·rw[if_pos h];unfold Eg
  induction c with
  |nil=>cases h
  |cons x c ih=>
   rw[List.map_cons,List.find?_cons,List.find?_cons]
   by_cases e:x.1=k
   ·rw[if_pos e]
    by_cases ez:z=k
    ·rw[if_pos ez,decide_eq_true (show(x.1,row).1=z by rw[ez];exact e)];rfl
    ·rw[if_neg ez,decide_eq_false (show ¬(x.1,row).1=z from fun y=>ez (y.symm.trans e))]
     by_cases h':(c.any fun x=>decide (x.1=k))=true
     ·have:=ih h';rw[if_neg ez] at this;exact this
     ·have same:c.map (fun x=>if x.1=k then(x.1,row) else x)=c:=by
       have:∀x∈c,(if x.1=k then(x.1,row) else x)=x:=fun x hx=>if_neg fun y=>h' (List.any_eq_true.mpr ⟨x,hx,decide_eq_true y⟩)
       calc c.map (fun x=>if x.1=k then(x.1,row) else x)=c.map (fun x=>x):=List.map_congr_left this
        _=c:=List.map_id' c
      rw[same]
   ·rw[if_neg e];have h':(c.any fun x=>decide (x.1=k))=true:=by
     rw[List.any_cons,decide_eq_false e,Bool.false_or] at h;exact h
    by_cases ex:x.1=z
    ·rw[decide_eq_true ex,if_neg (fun y=>e (ex.trans y))]
    ·rw[decide_eq_false ex];exact ih h'
 ·rw[if_neg h];unfold Eg;rw[List.find?_append]
  by_cases ez:z=k
  ·have:c.find? (fun x=>decide (x.1=z))=none:=List.find?_eq_none.mpr fun x hx y=>h (List.any_eq_true.mpr ⟨x,hx,by rw[<-ez];exact y⟩)
   rw[this,if_pos ez,List.find?_cons,decide_eq_true ez.symm];rfl
  ·rw[if_neg ez,List.find?_cons,decide_eq_false (show ¬(k,row).1=z from fun y=>ez y.symm),List.find?_nil];cases c.find? (fun x=>decide (x.1=z))<;>rfl
theorem Ua {bs:List Fy}{i b:Nat}{c:Fy}(hb:b<bs.length):(bs.set i c).getD b []=if i=b then c else bs.getD b []:=by
 unfold List.getD;rw[List.getElem?_set]
 by_cases e:i=b
 ·rw[if_pos e,if_pos e,if_pos (by omega)];rfl
 ·rw[if_neg e,if_neg e]
theorem QL {bs:List Fy}{z:Int}(h:0<bs.length):∀y∈Jm bs z,0<=y:=fun y hy=>(NO h y hy).1
theorem Tz (z:Int)(row:List Int)(x:Int):∀(l:List Int) (bs:List Fy) (b:Nat),b<bs.length->(∀y∈l,0<=y)->Eg ((wr bs z row l).getD b []) x=if x=z/\(b:Int)∈l then some row else Eg (bs.getD b []) x
 |[],bs,b,_,_=>by rw[if_neg (fun h=>nomatch h.2)];rfl
 |y::l,bs,b,hb,hl=>by
  have y0:=hl y List.mem_cons_self;show Eg ((wr (bs.set y.toNat (Hn (bs.getD y.toNat []) z row)) z row l).getD b []) x=_;rw[Tz z row x l _ b (by rw[List.length_set];exact hb) fun u hu=>hl u (List.mem_cons_of_mem _ hu),Ua hb]
  by_cases ex:x=z
  ·by_cases hm:(b:Int)∈l
   ·rw[if_pos ⟨ex,hm⟩,if_pos ⟨ex,List.mem_cons_of_mem _ hm⟩]
   ·rw[if_neg (fun h=>hm h.2)]
    by_cases e:y.toNat=b
    ·rw[if_pos e,Pj,if_pos ex,if_pos ⟨ex,by rw[show(b:Int)=y by omega];exact List.mem_cons_self⟩]
    ·rw[if_neg e,if_neg fun h=>(List.mem_cons.mp h.2).elim (fun z=>e (by omega)) hm]
  ·rw[if_neg (show ¬(x=z/\(b:Int)∈l) from fun h=>ex h.1),if_neg (show ¬(x=z/\(b:Int)∈y::l) from fun h=>ex h.1)]
   by_cases e:y.toNat=b
   ·rw[if_pos e,Pj,if_neg ex,e]
   ·rw[if_neg e]
end
section
variable {P:Program}{w:World}{K:W.Frag}{mg:Str->Option Value}{base:Heap}{f Ab Ad Aa Ae:Addr}{XC:Nat->Addr}{fd:FuncData}
def IU (K:W.Frag):Sp:=fun vs H Q _=>∃v b,vs=[v]/\Rep NL H (Ce b) v/\DH b/\∀H',Ar H H'->Q (.int ((wT (Ce b)).length:Int)) H'
theorem Qx (T:Txt K mg Ab Ad Aa Ae XC)(F:Fun K "size_of" "size_of" EY f fd)(CD:Def P w K mg base 9 "words_of" ["thing"] (FF K)):FnOk P w K mg base Cf 10 f fd ["block"] (IU K):=by
 exists Qj
 ·obtain⟨v,b,rfl,_⟩:=h;rfl
 obtain⟨v,b,rfl,hv,ok,q⟩:=h;refine⟨_,(!Al (!An (!Au AK (by rfl) T.b_len BG (!Ac (!AN CD (by trivial) rfl (!Ac (pv 0) (!Aj))) (!Aj))))),?_⟩
 try dsimp only[BP,Cx.nox,Cx.wish]
 have:=Ry b;have:=size_le ok;refine⟨_,rfl,v,Ce b,rfl,hv,Dm ok,by omega,fun wl H2 s2 nw hw=>⟨wl,_,rfl,.inl (AO.of hw),?_⟩⟩;rw[List.length_map];exact q _ s2
def As:Bk->List Tg
 | .piece _=>[]
 | .row _ ts=>ts
 | .folder es=>es.map (·.tg)
def Nv (H:Hp):V->V
 | .ref a=>match H a with
  |some (.tup [_,_,t])=>t
  |_=>.non
 |_=>.non
theorem LV {H:Hp}{a:Addr}{x y z:V}(h:H a=some (.tup [x,y,z])):Nv H (.ref a)=z:=by
 show(match H a with|some (.tup [_,_,t])=>t|_=>V.non)=z;rw[h]
theorem IZ {H:Hp}:∀{es:List En} {us:List V},Ax NL H (es.map KM) us->Ax NL H ((es.map (·.tg)).map Fn) (us.map (Nv H))
 |[],us,h=>by cases h;exact rfl
 |e::es,us,h=>by
  obtain⟨v,vs,rfl,h1,h2⟩:=h;obtain⟨a,b,rfl,e1,e2⟩:=EH h1;refine⟨_,_,rfl,?_,IZ h2⟩;rw[LV e1];exact LS e2
def Jk (K:W.Frag):Sp:=fun vs H Q _=>∃v b,vs=[v]/\Rep NL H (Ce b) v/\DH b/\∀l us H',Ar H H'->H l=none->H' l=some (.lst us)->Ax NL H' ((As b).map Fn) us->Q (.ref l) H'
theorem P4 (T:Txt K mg Ab Ad Aa Ae XC)(F:Fun K "tags_in" "tags_in" EZ f fd):FnOk P w K mg base Cf 1 f fd ["block"] (Jk K):=by
 exists Pw
 ·obtain⟨v,b,rfl,_⟩:=h;rfl
 obtain⟨v,b,rfl,hv,ok,q⟩:=h;refine⟨_,(!Ah (!AS (!AA Bh (!Av AJ (pv 0) (!Ak) (fun _ _=>rfl)) (!AI rfl T.c_PIECE) (AC _)) (!Al (!An (!BY (!Aj)))) (!Aw)) (!Ah (!AS (!AA Bh (!Av AJ (pv 0) (!Ak) (fun _ _=>rfl)) (!AI rfl T.c_ROW) (AC _)) (!Al (!An (!BL CN (by rfl) T.b_list Io (!Ac (!Av AJ (pv 0) (!Ak) (fun _ _=>rfl)) (!Aj))))) (!Aw)) (!Al (!An (@Bs _ ["name","kind","tag"] _ _ _ _ _ _ _ _ _ _ rfl (!EB (!Av AJ (pv 0) (!Ak) (fun _ _=>rfl))) (by decide +kernel) (fun C s H fp=>⟨(@Cy _ (K) _ _ _ _ (3) (by rfl) rfl (!AD (@Aq _ _ (0) _ (show(["name","kind","tag"]:List Str).Nodup by decide +kernel) rfl (by trivial) (by trivial)) (!AD (@Aq _ _ (1) _ (show(["name","kind","tag"]:List Str).Nodup by decide +kernel) rfl (by trivial) (by trivial)) (!AD (@Aq _ _ (2) _ (show(["name","kind","tag"]:List Str).Nodup by decide +kernel) rfl (by trivial) (by trivial)) (!BO)))) (by rfl) (by rfl)),(!AX),(pv 2)⟩) (by intro _;rfl)))))),?_⟩
 try dsimp only[BP,Cx.nox,Cx.wish]
 cases b with
 |piece z=>
  obtain⟨a,rfl,e⟩:=E7 hv;refine⟨_,rfl,a,_,_,_,rfl,rfl,AW.of e,rfl,rfl,_,rfl,BS rfl ?_⟩;exact⟨J8,fun l hl=>q l [] _ (Am hl _) hl Af rfl⟩
 |row lv ts=>
  obtain⟨a,d,us,rfl,e,e2,r⟩:=Ii hv;refine⟨_,rfl,a,_,_,_,rfl,rfl,AW.of e,rfl,rfl,_,rfl,AR rfl ?_⟩;refine⟨_,rfl,a,_,_,_,rfl,rfl,AW.of e,rfl,rfl,_,rfl,BS rfl ?_⟩;exact⟨_,rfl,a,_,_,_,rfl,rfl,AW.of e,rfl,d,_,rfl,.inr (AW.of e2),fun l hl=>q l us _ (Am hl _) hl Af (Ax.same (Am hl _) _ _ r)⟩
 |folder es=>
  obtain⟨a,d,us,rfl,e,e2,r⟩:=CJ hv;refine⟨_,rfl,a,_,_,_,rfl,rfl,AW.of e,rfl,rfl,_,rfl,AR rfl ?_⟩;refine⟨_,rfl,a,_,_,_,rfl,rfl,AW.of e,rfl,rfl,_,rfl,AR rfl ?_⟩;refine⟨_,rfl,a,_,_,_,rfl,rfl,AW.of e,rfl,d,rfl,⟨_,AW.of e2⟩,?_⟩;have lu:us.length=es.length:=by rw[Ax.len _ _ r,List.length_map]
  have l16:es.length<=16:=ok.1;refine J1 (xs:=us) (Nv H) (DL e2) (by omega) (fun x hx=>?_) (fun b x1 x2 x3 H' R hx hb s' hR=>⟨_,rfl,?_⟩) fun l H' nl s' hl=>q l _ H' s' nl hl (Ax.same s' _ _ (IZ r))
  ·obtain⟨en,_,hr⟩:=DU r hx;obtain⟨b,c,rfl,e3,_⟩:=EH hr;exact⟨b,_,_,_,rfl,e3⟩
  ·have:=hR H' (Ar.refl _);rw[LV hb] at this;exact this
def Dd (t:Addr)(n:Int)(l:Addr)(k e s:Int):List (Str×V):=[("own_tag",.ref t),("own_size",.int n),("named",.ref l),("times_named",.int k),("entries_beneath",.int e),("steps_beneath",.int s)]
def DK (K:W.Frag)(C:Addr):Sp:=fun vs H Q _=>∃(x dx ta:Addr) (v:V) (b:Bk),vs=[.ref x,.ref ta,v]/\H x=some (.ins C dx [])/\Rep NL H (Ce b) v/\DH b/\
 ∀l us H',(∀c o,H c=some o->c≠x->H' c=some o)->H l=none->H' l=some (.lst us)->Ax NL H' ((As b).map Fn) us->H' x=some (.ins C dx (Dd ta ((wT (Ce b)).length:Int) l 0 0 0))->Q .non H'
theorem JJ (T:Txt K mg Ab Ad Aa Ae XC)(F:Fun K "__init__" "TakenCell.__init__" BB f fd)(J9:Def P w K mg base 10 "size_of" ["block"] (IU K))(Kk:Def P w K mg base 1 "tags_in" ["block"] (Jk K)):FnOk P w K mg base Cf 11 f fd ["self","own_tag","block"] (DK K Aa):=by
 exists JA
 ·obtain⟨x,dx,ta,v,b,rfl,_⟩:=h;rfl
 obtain⟨x,dx,ta,v,b,rfl,hx,hv,ok,q⟩:=h;refine⟨_,(!Ah (!Cm (pv 0) (pv 1)) (!Ah (!Cm (pv 0) (!AN J9 (by trivial) rfl (!Ac (pv 2) (!Aj)))) (!Ah (!Cm (pv 0) (!AN Kk (by trivial) rfl (!Ac (pv 2) (!Aj)))) (!Ah (!Cm (pv 0) (!Ak)) (!Ah (!Cm (pv 0) (!Ak)) (!Al (!Cm (pv 0) (!Ak)))))))),?_⟩
 try dsimp only[BP,Cx.nox,Cx.wish]
 have tp:∀(o:HO) c ys,H c=some (.tup ys)->(upd H x o) c=some (.tup ys):=fun o c ys h=>by rw[Ag (AM h hx (by intro z;cases z))];exact h
 refine⟨_,rfl,_,rfl,x,Aa,dx,[],rfl,hx,T.cl_TakenCell,T.n_TakenCell_own_tag,(by show 0<1000;decide),?_⟩;refine⟨_,rfl,v,b,rfl,Cz (tp _) _ _ hv,ok,fun H1 s1=>⟨_,rfl,x,Aa,dx,_,rfl,s1.get Af,T.cl_TakenCell,T.n_TakenCell_own_size,(by show 1<1000;decide),?_⟩⟩;have hx1:∀o,(upd H1 x o) x=some o:=fun o=>Af
 have k1:∀o c u,H c=some u->c≠x->(upd H1 x o) c=some u:=fun o c u h n=>by rw[Ag n];exact s1.get (by rw[Ag n];exact h)
 refine⟨_,rfl,v,b,rfl,Cz (fun c ys h=>k1 _ c _ h (AM h hx (by intro z;cases z))) _ _ hv,ok,fun l us H2 s2 nl hl r=>⟨_,rfl,x,Aa,dx,_,rfl,s2.get (hx1 _),T.cl_TakenCell,T.n_TakenCell_named,(by show 2<1000;decide),?_⟩⟩;have nlx:l≠x:=fun z=>by rw[z,hx1] at nl;cases nl
 refine⟨_,rfl,x,Aa,dx,_,rfl,Af,T.cl_TakenCell,T.n_TakenCell_times_named,(by show 3<1000;decide),?_⟩;refine⟨_,rfl,x,Aa,dx,_,rfl,Af,T.cl_TakenCell,T.n_TakenCell_entries_beneath,(by show 4<1000;decide),?_⟩;refine⟨_,rfl,x,Aa,dx,_,rfl,Af,T.cl_TakenCell,T.n_TakenCell_steps_beneath,(by show 5<1000;decide),?_⟩;rw[FB,FB,FB];have nlH:H l=none:=by
  cases h:H l with
  |none=>rfl
  |some o=>rw[k1 _ l o h nlx] at nl;cases nl
 refine q l us _ (fun c o h n=>by rw[Ag n];exact s2.get (k1 _ c o h n)) nlH (by rw[Ag nlx];exact hl) (AV (fun c ys h=>?_) _ _ r) Af;rw[Ag (fun z=>by have:=s2.get (hx1 (.ins Aa dx (Eu "own_size" (V.int ((wT (Ce b)).length:Int)) (Eu "own_tag" (V.ref ta) []))));rw[z,this] at h;cases h)];exact h
def ID (bo dt dz dd:Addr)(n:Int):List (Str×V):=[("boards",.ref bo),("taken",.ref dt),("by_sums",.ref dz),("draft",.ref dd),("first_maybe_free",.int n)]
def GJ (K:W.Frag)(C:Addr):Sp:=fun vs H Q _=>∃(x dx bo:Addr),vs=[.ref x,.ref bo]/\H x=some (.ins C dx [])/\
 ∀dt dz dd H',(∀c o,H c=some o->c≠x->H' c=some o)->dt≠dz->dt≠dd->dz≠dd->H' dt=some (.dK [])->H' dz=some (.dK [])->H' dd=some (.dK [])->H' x=some (.ins C dx (ID bo dt dz dd 1))->(H dt=none/\H dz=none/\H dd=none)->Q .non H'
theorem NA (T:Txt K mg Ab Ad Aa Ae XC)(F:Fun K "__init__" "Pool.__init__" DB f fd):FnOk P w K mg base Cf 1 f fd ["self","boards"] (GJ K Ae):=by
 exists NN
 ·obtain⟨x,dx,bo,rfl,_⟩:=h;rfl
 obtain⟨x,dx,bo,rfl,hx,q⟩:=h;refine⟨_,(!Ah (!Cm (pv 0) (pv 1)) (!Ah (!Cm (pv 0) (!Fh)) (!Ah (!Cm (pv 0) (!Fh)) (!Ah (!Cm (pv 0) (!Fh)) (!Al (!Cm (pv 0) (!Ak))))))),?_⟩
 try dsimp only[BP,Cx.nox,Cx.wish]
 refine⟨_,rfl,_,rfl,x,Ae,dx,[],rfl,hx,T.cl_Pool,T.n_Pool_boards,(by show 0<1000;decide),?_⟩;refine fun dt hdt=>?_
 have n1:dt≠x:=fun z=>by rw[z,Af] at hdt;cases hdt
 refine⟨_,rfl,x,Ae,dx,_,rfl,(Am hdt _).get Af,T.cl_Pool,T.n_Pool_taken,(by show 1<1000;decide),?_⟩;refine fun dz hdz=>?_
 have n2:dz≠x:=fun z=>by rw[z,Af] at hdz;cases hdz
 have e1:dz≠dt:=fun z=>by rw[z,Ag n1,Af] at hdz;cases hdz
 refine⟨_,rfl,x,Ae,dx,_,rfl,(Am hdz _).get Af,T.cl_Pool,T.n_Pool_by_sums,(by show 2<1000;decide),?_⟩;refine fun dd hdd=>?_
 have n3:dd≠x:=fun z=>by rw[z,Af] at hdd;cases hdd
 have e2:dd≠dz:=fun z=>by rw[z,Ag n2,Af] at hdd;cases hdd
 have e3:dd≠dt:=fun z=>by rw[z,Ag n1,Ag (Ne.symm e1),Ag n1,Af] at hdd;cases hdd
 refine⟨_,rfl,x,Ae,dx,_,rfl,(Am hdd _).get Af,T.cl_Pool,T.n_Pool_draft,(by show 3<1000;decide),?_⟩;refine⟨_,rfl,x,Ae,dx,_,rfl,Af,T.cl_Pool,T.n_Pool_first_maybe_free,(by show 4<1000;decide),?_⟩;refine q dt dz dd _ (fun c o h n=>?_) (Ne.symm e1) (Ne.symm e3) (Ne.symm e2) ?_ ?_ ?_ Af ⟨by rw[Ag n1] at hdt;exact hdt,by rw[Ag n2,Ag e1,Ag n2] at hdz;exact hdz,by rw[Ag n3,Ag e2,Ag n3,Ag e3,Ag n3] at hdd;exact hdd⟩
 ·have a1:c≠dt:=fun z=>by rw[<-z,Ag n,h] at hdt;cases hdt
  have b1:=h;have a2:c≠dz:=fun z=>by rw[<-z,Ag n,Ag a1,Ag n,h] at hdz;cases hdz
  have a3:c≠dd:=fun z=>by rw[<-z,Ag n,Ag a2,Ag n,Ag a1,Ag n,h] at hdd;cases hdd
  rw[Ag n,Ag n,Ag a3,Ag n,Ag a2,Ag n,Ag a1,Ag n];exact h
 ·rw[Ag n1,Ag n1,Ag (Ne.symm e3),Ag n1,Ag (Ne.symm e1),Ag n1,Af]
 ·rw[Ag n2,Ag n2,Ag (Ne.symm e2),Ag n2,Af]
 ·rw[Ag n3,Ag n3,Af]
structure Cl where
 z:Int
 y:Int
 bk:Bk
 v:V
 c:Addr
 dx:Addr
 ta:Addr
 l:Addr
 k:Int
 en:Int
 st:Int
structure Pl where
 dp:Addr
 bo:Addr
 dt:Addr
 dz:Addr
 dd:Addr
 n:Int
def JU (C:Addr)(H:Hp)(e:Cl):Prop:=H e.c=some (.ins C e.dx (Dd e.ta ((wT (Ce e.bk)).length:Int) e.l e.k e.en e.st))/\H e.ta=some (.tup [.int e.z,.int e.y,.int (A8 e.bk)])/\Rep NL H (Ce e.bk) e.v/\DH e.bk
def Ke (cs:List Cl):List (Key×V):=cs.map fun e=>(Sum.inl e.z,.ref e.c)
def Me (cs:List Cl):List (Key×V):=cs.map fun e=>(Sum.inl e.z,e.v)
def Ez (CP CT:Addr)(H:Hp)(p:Addr)(q:Pl)(cs:List Cl):Prop:=H p=some (.ins CP q.dp (ID q.bo q.dt q.dz q.dd q.n))/\H q.dt=some (.dK (Ke cs))/\(∀e∈cs,JU CT H e)/\(cs.map (·.z)).Nodup
theorem GI {κ:Type}[DecidableEq κ]:∀{kvs:List (κ×V)} (_:(kvs.map (·.1)).Nodup) {k:κ} {v:V},(k,v)∈kvs->Bd kvs k=some v
 |[],_,_,_,h=>nomatch h
 |x::kvs,nd,k,v,h=>by
  rw[List.map_cons,List.nodup_cons] at nd;rcases List.mem_cons.mp h with rfl|h
  ·exact HX rfl
  ·rw[HR (fun e=>nd.1 (by rw[e];exact List.mem_map.mpr ⟨_,h,rfl⟩))];exact GI nd.2 h
theorem JW {g:Cl->V}:∀{cs:List Cl},(cs.map (·.z)).Nodup->((cs.map fun e=>((Sum.inl e.z:Key),g e)).map (·.1)).Nodup
 |[],_=>List.nodup_nil
 |e::cs,h=>by
  rw[List.map_cons,List.nodup_cons] at h;rw[List.map_cons,List.map_cons,List.nodup_cons];refine⟨fun q=>h.1 ?_,JW h.2⟩;obtain⟨x,hx,e1⟩:=List.mem_map.mp q;obtain⟨u,hu,rfl⟩:=List.mem_map.mp hx;exact List.mem_map.mpr ⟨u,hu,Sum.inl.inj e1⟩
theorem GP {cs:List Cl}(nd:(cs.map (·.z)).Nodup){e:Cl}(h:e∈cs):Bd (Ke cs) (Sum.inl e.z)=some (.ref e.c):=GI (JW nd) (List.mem_map.mpr ⟨e,h,rfl⟩)
theorem QI {cs:List Cl}(nd:(cs.map (·.z)).Nodup){e:Cl}(h:e∈cs):Bd (Me cs) (Sum.inl e.z)=some e.v:=GI (JW nd) (List.mem_map.mpr ⟨e,h,rfl⟩)
def Ey (K:W.Frag)(CP CT:Addr):Sp:=fun vs H Q _=>∃p q cs e,vs=[.ref p,.int e.z]/\Ez CP CT H p q cs/\e∈cs/\Q (.ref e.ta) H
theorem OS (T:Txt K mg Ab Ad Aa Ae XC)(F:Fun K "tag" "Pool.tag" Ek f fd):FnOk P w K mg base Cf 1 f fd ["self","number"] (Ey K Ae Aa):=by
 exists Of
 ·obtain⟨p,q,cs,e,rfl,_⟩:=h;rfl
 obtain⟨p,q,cs,e,rfl,⟨h1,h2,h4,nd⟩,he,hq⟩:=h;have hu:=BJ hr;refine⟨_,(!Al (!An (!AQ (!BH hu (!AQ (pv 0)) (pv 1) (fun _ _=>rfl))))),?_⟩
 try dsimp only[BP,Cx.nox,Cx.wish]
 have g:Bx H q.dt (.int e.z) (some (.ref e.c)):=by
  have:=Bx.k (k:=Sum.inl e.z) h2;rw[GP nd he] at this;exact this
 exact⟨_,rfl,p,Ae,q.dp,_,_,rfl,h1,T.cl_Pool,T.n_Pool_taken,rfl,_,rfl,q.dt,_,rfl,g,e.c,Aa,e.dx,_,_,rfl,(h4 e he).1,T.cl_TakenCell,T.n_TakenCell_own_tag,rfl,hq⟩
def EG (K:W.Frag)(CP CT:Addr):Sp:=fun vs H Q _=>∃p q cs e,vs=[.ref p,.int e.z]/\Ez CP CT H p q cs/\e∈cs/\Q (.int e.en) H
theorem KN (T:Txt K mg Ab Ad Aa Ae XC)(F:Fun K "entries" "Pool.entries" Cb f fd):FnOk P w K mg base Cf 1 f fd ["self","number"] (EG K Ae Aa):=by
 exists KO
 ·obtain⟨p,q,cs,e,rfl,_⟩:=h;rfl
 obtain⟨p,q,cs,e,rfl,⟨h1,h2,h4,nd⟩,he,hq⟩:=h;have hu:=BJ hr;refine⟨_,(!Al (!An (!AQ (!BH hu (!AQ (pv 0)) (pv 1) (fun _ _=>rfl))))),?_⟩
 try dsimp only[BP,Cx.nox,Cx.wish]
 have g:Bx H q.dt (.int e.z) (some (.ref e.c)):=by
  have:=Bx.k (k:=Sum.inl e.z) h2;rw[GP nd he] at this;exact this
 exact⟨_,rfl,p,Ae,q.dp,_,_,rfl,h1,T.cl_Pool,T.n_Pool_taken,rfl,_,rfl,q.dt,_,rfl,g,e.c,Aa,e.dx,_,_,rfl,(h4 e he).1,T.cl_TakenCell,T.n_TakenCell_entries_beneath,rfl,hq⟩
def GD (K:W.Frag)(CP CT:Addr):Sp:=fun vs H Q _=>∃p q cs e,vs=[.ref p,.int e.z]/\Ez CP CT H p q cs/\e∈cs/\Q (.int e.st) H
theorem NQ (T:Txt K mg Ab Ad Aa Ae XC)(F:Fun K "deep" "Pool.deep" DD f fd):FnOk P w K mg base Cf 1 f fd ["self","number"] (GD K Ae Aa):=by
 exists Nl
 ·obtain⟨p,q,cs,e,rfl,_⟩:=h;rfl
 obtain⟨p,q,cs,e,rfl,⟨h1,h2,h4,nd⟩,he,hq⟩:=h;have hu:=BJ hr;refine⟨_,(!Al (!An (!AQ (!BH hu (!AQ (pv 0)) (pv 1) (fun _ _=>rfl))))),?_⟩
 try dsimp only[BP,Cx.nox,Cx.wish]
 have g:Bx H q.dt (.int e.z) (some (.ref e.c)):=by
  have:=Bx.k (k:=Sum.inl e.z) h2;rw[GP nd he] at this;exact this
 exact⟨_,rfl,p,Ae,q.dp,_,_,rfl,h1,T.cl_Pool,T.n_Pool_taken,rfl,_,rfl,q.dt,_,rfl,g,e.c,Aa,e.dx,_,_,rfl,(h4 e he).1,T.cl_TakenCell,T.n_TakenCell_steps_beneath,rfl,hq⟩
def Dc (K:W.Frag)(CP CT CB:Addr):Sp:=fun vs H Q _=>(∃p q cs e,∃(ta:Addr) (y k:V),vs=[.ref p,.ref ta]/\Ez CP CT H p q cs/\H q.dd=some (.dK (Me cs))/\e∈cs/\H ta=some (.tup [.int e.z,y,k])/\Q e.v H)\/
 ∃p q cs e,∃(ta:Addr) (ds:List Addr) (bs:List Fy) (n:Int) (lf:V),vs=[.ref p,.ref ta]/\Ez CP CT H p q cs/\H q.dd=some (.dK [])/\e∈cs/\H ta=some (.tup [.int e.z,.int e.y,.int (A8 e.bk)])/\Hu CB H q.bo ds bs n lf/\0<bs.length/\Lies bs e.z e.y e.bk/\NB e.z e.y/\(Jm bs e.z).filter (hasB bs e.z)≠[]/\∀v H',Ar H H'->Rep NL H' (Ce e.bk) v->Q v H'
theorem Mf (T:Txt K mg Ab Ad Aa Ae XC)(F:Fun K "block" "Pool.block" CY f fd)(J4:Def P w K mg base 16 "fetched" ["boards","tag"] (IV K Ad)):FnOk P w K mg base Cf 17 f fd ["self","tag"] (Dc K Ae Aa Ad):=by
 exists Mw
 ·rcases h with⟨p,q,cs,e,ta,y,k,rfl,_⟩|⟨p,q,cs,e,ta,ds,bs,n,lf,rfl,_⟩
  ·rfl
  ·rfl
 have hu:=BJ hr;refine⟨_,(!Ah (!AS (!GB (!Ql hu (!Av AJ (pv 1) (!Ak) (fun _ _=>rfl)) (!AQ (pv 0))) (by first|exact Df _ (by decide) (by decide)|rfl)) (!Al (!An (!BH hu (!AQ (pv 0)) (!Av AJ (pv 1) (!Ak) (fun _ _=>rfl)) (fun _ _=>rfl)))) (!Aw)) (!Al (!An (!AN J4 (by trivial) rfl (!Ac (!AQ (pv 0)) (!Ac (pv 1) (!Aj))))))),?_⟩
 try dsimp only[BP,Cx.nox,Cx.wish]
 rcases h with⟨p,q,cs,e,ta,y,k,rfl,⟨h1,h2,h4,nd⟩,h3,he,ht,hq⟩|⟨p,q,cs,e,ta,ds,bs,n,lf,rfl,⟨h1,h2,h4,nd⟩,h3,he,ht,hB,b0,li,nb,ha,hq⟩
 ·have g:Bx H q.dd (.int e.z) (some e.v):=by
   have:=Bx.k (k:=Sum.inl e.z) h3;rw[QI nd he] at this;exact this
  refine⟨_,rfl,ta,_,_,_,rfl,rfl,AW.of ht,rfl,_,rfl,p,Ae,q.dp,_,_,rfl,h1,T.cl_Pool,T.n_Pool_draft,rfl,q.dd,_,rfl,g,?_⟩;refine⟨_,rfl,BS rfl ?_⟩;exact⟨_,rfl,p,Ae,q.dp,_,_,rfl,h1,T.cl_Pool,T.n_Pool_draft,rfl,_,rfl,ta,_,_,_,rfl,rfl,AW.of ht,rfl,q.dd,_,rfl,g,hq⟩
 ·have g:Bx H q.dd (.int e.z) none:=Bx.k (k:=Sum.inl e.z) h3;refine⟨_,rfl,ta,_,_,_,rfl,rfl,AW.of ht,rfl,_,rfl,p,Ae,q.dp,_,_,rfl,h1,T.cl_Pool,T.n_Pool_draft,rfl,q.dd,_,rfl,g,?_⟩;refine⟨_,rfl,AR rfl ?_⟩;exact⟨_,rfl,p,Ae,q.dp,_,_,rfl,h1,T.cl_Pool,T.n_Pool_boards,rfl,_,rfl,q.bo,ds,bs,n,lf,ta,e.z,e.y,e.bk,rfl,hB,b0,ht,li,(h4 e he).2.2.2,nb,ha,hq⟩
def EN (K:W.Frag)(CP CT:Addr):Sp:=fun vs H Q _=>∃p q cs e,∃(ta:Addr) (y k:V),vs=[.ref p,.ref ta]/\Ez CP CT H p q cs/\e∈cs/\H ta=some (.tup [.int e.z,y,k])/\Q .non (upd H e.c (.ins CT e.dx (Dd e.ta ((wT (Ce e.bk)).length:Int) e.l (e.k+1) e.en e.st)))
theorem NR (T:Txt K mg Ab Ad Aa Ae XC)(F:Fun K "hold" "Pool.hold" Ds f fd):FnOk P w K mg base Cf 1 f fd ["self","tag"] (EN K Ae Aa):=by
 exists Jq
 ·obtain⟨p,q,cs,e,ta,y,k,rfl,_⟩:=h;rfl
 obtain⟨p,q,cs,e,ta,y,k,rfl,⟨h1,h2,h4,nd⟩,he,ht,hq⟩:=h;have hu:=BJ hr;refine⟨_,(!Ah (@AG _ _ (2) _ _ _ _ Jq.nd rfl (by trivial) (!BH hu (!AQ (pv 0)) (!Av AJ (pv 1) (!Ak) (fun _ _=>rfl)) (fun _ _=>rfl)) (by rfl) (by trivial)) (!Al (!Gh (pv 2) (!Ak) La))),?_⟩
 try dsimp only[BP,Cx.nox,Cx.wish]
 have g:Bx H q.dt (.int e.z) (some (.ref e.c)):=by
  have:=Bx.k (k:=Sum.inl e.z) h2;rw[GP nd he] at this;exact this
 have hc:=(h4 e he).1;refine⟨_,rfl,p,Ae,q.dp,_,_,rfl,h1,T.cl_Pool,T.n_Pool_taken,rfl,_,rfl,ta,_,_,_,rfl,rfl,AW.of ht,rfl,q.dt,_,rfl,g,?_⟩;exact⟨_,rfl,e.c,Aa,e.dx,_,_,rfl,hc,T.cl_TakenCell,T.n_TakenCell_times_named,rfl,_,_,rfl,rfl,e.dx,_,hc,(by show 6<1000;decide),hq⟩
theorem HB {α:Type}[DecidableEq α]:∀{l m:List α},l.Nodup->(∀x∈l,x∈m)->l.length<=m.length
 |[],_,_,_=>Nat.zero_le _
 |a::l,m,nd,h=>by
  rw[List.nodup_cons] at nd;have ha:=h a List.mem_cons_self;have:=HB (m:=m.erase a) nd.2 fun x hx=>(List.mem_erase_of_ne (fun z=>nd.1 (by rw[<-z];exact hx))).mpr (h x (List.mem_cons_of_mem _ hx))
  rw[List.length_erase_of_mem ha] at this;have:0<m.length:=List.length_pos_of_mem ha;rw[List.length_cons];omega
theorem Vs {n:Nat}{l:List Int}(h:∀i:Int,1<=i->i<=n->i∈l):n<=l.length:=by
 have nd:((List.range n).map fun i:Nat=>(i:Int)+1).Nodup:=List.Pairwise.map _ (fun a b (h:a≠b) e=>h (by omega)) List.nodup_range;have:=HB (m:=l) nd fun x hx=>by
  obtain⟨i,hi,rfl⟩:=List.mem_map.mp hx;have:=List.mem_range.mp hi;exact h _ (by omega) (by omega)
 rw[List.length_map,List.length_range] at this;exact this
def Below (cs:List Cl)(m:Int):Prop:=∀i:Int,1<=i->i<m->∃e∈cs,e.z=i
def C6 (K:W.Frag)(CP CT:Addr):Sp:=fun vs H Q _=>∃p q cs,vs=[.ref p]/\Ez CP CT H p q cs/\Below cs q.n/\1<=q.n/\
 ∀(m:Int) H',1<=m->m<=(cs.length:Int)+1->Below cs m->(∀e∈cs,e.z≠m)->H' p=some (.ins CP q.dp (ID q.bo q.dt q.dz q.dd m))->(∀b,b≠p->H' b=H b)->Q (.int m) H'
theorem Below.le {cs:List Cl}{m:Int}(h:Below cs m)(h1:1<=m):m<=(cs.length:Int)+1:=by
 have:=Vs (n:=(m-1).toNat) (l:=cs.map (·.z)) fun i i1 i2=>by
  obtain⟨e,he,rfl⟩:=h i i1 (by omega);exact List.mem_map.mpr ⟨e,he,rfl⟩
 rw[List.length_map] at this;omega
theorem Iz (T:Txt K mg Ab Ad Aa Ae XC)(F:Fun K "free_number" "Pool.free_number" Bn f fd):FnOk P w K mg base Cf 1 f fd ["self"] (C6 K Ae Aa):=by
 exists IA
 ·obtain⟨p,q,cs,rfl,_⟩:=h;rfl
 obtain⟨p,q,cs,rfl,⟨h1,h2,h4,nd⟩,bl,n1,hq⟩:=h;have hu:=BJ hr;refine⟨_,(!Ah (!L9 PassesOwn.never (!GB (!Ql hu (!AQ (pv 0)) (!AQ (pv 0))) (by first|exact Df _ (by decide) (by decide)|rfl)) (!Al (!Gh (pv 0) (!Ak) La))) (!Al (!An (!AQ (pv 0))))),?_⟩
 try dsimp only[BP,Cx.nox,Cx.wish]
 have nt:q.dt≠p:=AM h2 h1 (by intro z;cases z);refine⟨fun m σ H2=>∃j:Int,m=((cs.length:Int)+1-j).toNat/\1<=j/\Below cs j/\σ=[some (.ref p)]/\H2 p=some (.ins Ae q.dp (ID q.bo q.dt q.dz q.dd j))/\∀b,b≠p->H2 b=H b,⟨_,q.n,rfl,n1,bl,rfl,h1,fun _ _=>rfl⟩,?_⟩
 rintro m σ H2 ⟨j,rfl,j1,bj,rfl,hp,ho⟩
 have hdt:H2 q.dt=some (.dK (Ke cs)):=by rw[ho _ nt];exact h2
 refine⟨_,rfl,p,Ae,q.dp,_,_,rfl,hp,T.cl_Pool,T.n_Pool_first_maybe_free,rfl,_,rfl,p,Ae,q.dp,_,_,rfl,hp,T.cl_Pool,T.n_Pool_taken,rfl,q.dt,_,rfl,Bx.k (k:=Sum.inl j) hdt,_,rfl,C7 (fun c=>?_) (fun c=>?_)⟩
 ·have ex:∃e∈cs,e.z=j:=Classical.byContradiction fun z=>by
   have:Bd (Ke cs) (Sum.inl j)=none:=by
    unfold Bd;rw[Option.map_eq_none_iff,List.find?_eq_none];intro x hx;obtain⟨e,he,rfl⟩:=List.mem_map.mp hx;intro y;exact z ⟨e,he,Sum.inl.inj (of_decide_eq_true y)⟩
   rw[this] at c;cases c
  have bj1:Below cs (j+1):=fun i i1 i2=>by
   by_cases hi:i=j
   ·rw[hi];exact ex
   ·exact bj i i1 (by omega)
  have:=bj1.le (by omega);refine⟨fun σ H'=>σ=[some (.ref p)]/\H' p=some (.ins Ae q.dp (ID q.bo q.dt q.dz q.dd (j+1)))/\∀b,b≠p->H' b=H b,?_,?_⟩
  ·rintro σ' H' ⟨rfl,a1,a2⟩
   exact⟨((cs.length:Int)+1-(j+1)).toNat,by omega,j+1,rfl,by omega,bj1,rfl,a1,a2⟩
  ·refine⟨_,rfl,p,Ae,q.dp,_,_,rfl,hp,T.cl_Pool,T.n_Pool_first_maybe_free,rfl,_,_,rfl,rfl,q.dp,_,hp,(by show 5<1000;decide),rfl,Af,fun b hb=>?_⟩;rw[Ag hb];exact ho b hb
 ·refine⟨_,rfl,p,Ae,q.dp,_,_,rfl,hp,T.cl_Pool,T.n_Pool_first_maybe_free,rfl,hq j H2 j1 (bj.le j1) bj (fun e he z=>c ?_) hp ho⟩;subst z;rw[GP nd he];rfl
theorem LW {J:It} {xs:List V} {te:TE} {Q:VK} {s0:Option V} {σ:St} {H:Hp} (f:V->V) (hJ:Oo J H xs) (hn:xs.length<=1000000) (htg:∀x∈xs,∃a x1 x2 x3,x=.ref a/\H a=some (.tup [x1,x2,x3]))
  (helt:∀a x1 x2 x3 (H':Hp) (R:VK),V.ref a∈xs->H a=some (.tup [x1,x2,x3])->Ar H H'->(∀H'',Ar H' H''->R (f (.ref a)) H'')->te [some x1,some x2,some x3,s0] H' R)
  (hQ:∀l H',H l=none->Ar H H'->H' l=some (.lst (xs.map f))->Q (.ref l) H') :
  FO [none,none,none,some 0] (Pg K 3 (Fj (Ci 0) (Fj (Ci 1) (Fj (Ci 2) QO)))) Pc te (s0::σ) Q J H:=by
 intro l hl;refine⟨fun i m σ' H'=>m=xs.length-i/\i<=xs.length/\(∃y0 y1 y2,σ'=[y0,y1,y2,s0])/\Ar H H'/\H' l=some (.lst ((xs.take i).map f)),⟨xs.length,by simp,Nat.zero_le _,⟨_,_,_,rfl⟩,Am hl _,by rw[Af,List.take_zero,List.map_nil]⟩,?_⟩
 rintro i m σ' H' ⟨rfl,hi,⟨y0,y1,y2,rfl⟩,hs,hl'⟩
 obtain⟨h1,h2,h3⟩:=hJ H' hs i
 by_cases hlt:i<xs.length
 ·refine .inr ⟨h1 hlt,fun x H'' y=>?_⟩;obtain⟨rfl,hx⟩:=h2 x H'' y;have hx:=hx hlt;obtain⟨a,x1,x2,x3,rfl,ha⟩:=htg x (List.mem_of_getElem? hx);refine⟨a,_,rfl,AW.of (hs.get ha),rfl,_,_,rfl,_,_,rfl,_,_,rfl,rfl,?_⟩;refine helt a x1 x2 x3 H'' _ (List.mem_of_getElem? hx) ha hs fun H4 s4=>?_
  refine⟨_,s4.get hl',Ba (by rw[List.length_map,List.length_take];omega),xs.length-(i+1),by omega,rfl,hlt,⟨_,_,_,rfl⟩,A0 (hs.trans s4) hl _,?_⟩;rw[Af,List.take_add_one,hx];simp
 ·have e:i=xs.length:=by omega
  subst e;exact .inl ⟨h3 (Nat.le_refl _),hQ l H' hl hs (by rw[hl',List.take_of_length_le (Nat.le_refl _)])⟩
theorem JU.tup {C:Addr}{H H':Hp}{e:Cl}(hc:H' e.c=H e.c)(ht:∀c ys,H c=some (.tup ys)->H' c=some (.tup ys))(h:JU C H e):JU C H' e:=⟨by rw[hc];exact h.1,ht _ _ h.2.1,Cz ht _ _ h.2.2.1,h.2.2.2⟩
theorem Ez.same {CP CT:Addr}{H H':Hp}{p:Addr}{q:Pl}{cs:List Cl}(s:Ar H H')(h:Ez CP CT H p q cs):Ez CP CT H' p q cs:=
 ⟨s.get h.1,s.get h.2.1,fun e he=>(h.2.2.1 e he).tup ((s.get (h.2.2.1 e he).1).trans (h.2.2.1 e he).1.symm) (fun c ys h=>s.get h),h.2.2.2⟩
def Ol (cs:List Cl)(z:Int):Int:=match cs.find? (fun e=>decide (e.z=z)) with
 |some e=>e.en
 |none=>0
def Pf (cs:List Cl)(z:Int):Int:=match cs.find? (fun e=>decide (e.z=z)) with
 |some e=>e.st
 |none=>0
def Wi (cs:List Cl)(x:En):Int:=1+if x.kd=2 then Ol cs x.tg.1 else 0
def VQ (cs:List Cl)(x:En):Int:=1+if x.kd=2 then Pf cs x.tg.1 else 0
theorem UN {cs:List Cl}(nd:(cs.map (·.z)).Nodup){e:Cl}(h:e∈cs):cs.find? (fun x=>decide (x.z=e.z))=some e:=by
 induction cs with
 |nil=>nomatch h
 |cons x cs ih=>
  rw[List.map_cons,List.nodup_cons] at nd;rcases List.mem_cons.mp h with rfl|h
  ·exact List.find?_cons_of_pos (by simp)
  ·have n:x.z≠e.z:=fun z=>nd.1 (by rw[z];exact List.mem_map.mpr ⟨_,h,rfl⟩)
   rw[List.find?_cons_of_neg (by simpa using n)];exact ih nd.2 h
theorem VV {cs:List Cl}(nd:(cs.map (·.z)).Nodup){e:Cl}(h:e∈cs):Ol cs e.z=e.en:=by unfold Ol;rw[UN nd h]
theorem VB {cs:List Cl}(nd:(cs.map (·.z)).Nodup){e:Cl}(h:e∈cs):Pf cs e.z=e.st:=by unfold Pf;rw[UN nd h]
def SX (H:Hp)(g:Int->Int->Int):V->V
 | .ref a=>match H a with
  |some (.tup [_,.int k,.ref b])=>(match H b with
   |some (.tup (.int z::_))=>.int (g k z)
   |_=>.non)
  |_=>.non
 |_=>.non
theorem QM {H:Hp}{g:Int->Int->Int}{a b:Addr}{x:V}{k z:Int}{xs:List V}(h:H a=some (.tup [x,.int k,.ref b]))(h2:H b=some (.tup (.int z::xs))):SX H g (.ref a)=.int (g k z):=by
 unfold SX;simp only[h,h2]
theorem LK {H:Hp}{g:Int->Int->Int}:∀{es:List En} {us:List V},Ax NL H (es.map KM) us->us.map (SX H g)=(es.map fun x=>g x.kd x.tg.1).map V.int
 |[],us,h=>by cases h;exact rfl
 |e::es,us,h=>by
  obtain⟨v,vs,rfl,h1,h2⟩:=h;obtain⟨a,b,rfl,e1,e2⟩:=EH h1;rw[List.map_cons,QM e1 e2,LK h2];rfl
def Dq (K:W.Frag)(CP CT:Addr):Sp:=fun vs H Q _=>∃p q cs v es,vs=[.ref p,v]/\Ez CP CT H p q cs/\Rep NL H (Ce (.folder es)) v/\es.length<=16/\(∀x∈es,x.kd=2->∃e∈cs,e.z=x.tg.1)/\∀H',Ar H H'->Q (.int (es.map (Wi cs)).sum) H'
theorem Jh (T:Txt K mg Ab Ad Aa Ae XC)(F:Fun K "entries_of" "Pool.entries_of" Bu f fd)(Fq:A2 P w K mg base 1 Ae "entries" ["self","number"] (EG K Ae Aa)):FnOk P w K mg base Cf 2 f fd ["self","folder"] (Dq K Ae Aa):=by
 exists Jf
 ·obtain⟨p,q,cs,v,es,rfl,_⟩:=h;rfl
 obtain⟨p,q,cs,v,es,rfl,pa,hv,l16,kn,hq⟩:=h;have hu:=BJ hr;refine⟨_,(!Al (!An (!Au (O7 rfl) (by rfl) T.b_sum Uu (!Ac (@Er _ ["name","kind","tag","self"] [none,none,none,some 0] _ _ _ _ _ _ _ _ _ _ _ rfl (!EB (!Av AJ (pv 1) (!Ak) (fun _ _=>rfl))) (by rfl) rfl (by repeat (first|exact trivial|refine⟨rfl,?_⟩)) (by repeat (first|exact trivial|refine⟨fun h=>(by first|exact⟨_,rfl⟩|cases h),?_⟩)) (fun C s H fp=>⟨(@Cy _ (K) _ _ _ _ (3) (by rfl) rfl (!AD (@Aq _ _ (0) _ (show(["name","kind","tag","self"]:List Str).Nodup by decide +kernel) rfl (by trivial) (by trivial)) (!AD (@Aq _ _ (1) _ (show(["name","kind","tag","self"]:List Str).Nodup by decide +kernel) rfl (by trivial) (by trivial)) (!AD (@Aq _ _ (2) _ (show(["name","kind","tag","self"]:List Str).Nodup by decide +kernel) rfl (by trivial) (by trivial)) (!BO)))) (by rfl) (by rfl)),(!AX),(!AB Bw (!Ak) (!OQ (!AA Bh (pv 1) (!AI rfl T.c_FOLDER_ENTRY) (AC _)) (!A3 (pv 3) T.cl_Pool Fq (by trivial) (!Ac (!Av (Ep (K:=K) (by rfl)) (pv 2) (!Ak) (fun _ _=>rfl)) (!Aj))) (!Ak)))⟩) (by intro _;rfl)) (!Aj))))),?_⟩
 try dsimp only[BP,Cx.nox,Cx.wish]
 obtain⟨a,b,us,rfl,e1,e2,r⟩:=CJ hv;have lu:us.length=es.length:=by rw[Ax.len _ _ r,List.length_map]
 have nd:=pa.2.2.2;refine⟨_,rfl,a,_,_,_,rfl,rfl,AW.of e1,rfl,b,rfl,⟨_,AW.of e2⟩,?_⟩;refine LW (xs:=us) (SX H fun k z=>1+if k=2 then Ol cs z else 0) (DL e2) (by omega) (fun x hx=>?_) (fun c x1 x2 x3 H' R hx hb s' hR=>?_) fun l H' nl s' hl=>⟨l,es.map (Wi cs),rfl,AO.of (by rw[hl,LK r];rfl),hq H' s'⟩
 ·obtain⟨en,_,hr⟩:=DU r hx;obtain⟨c,d,rfl,e3,_⟩:=EH hr;exact⟨c,_,_,_,rfl,e3⟩
 ·obtain⟨en,hen,hr⟩:=DU r hx;obtain⟨c',d,z,e3,e4⟩:=EH hr;cases z;rw[hb] at e3;cases e3;have hR:=hR H' (Ar.refl _);rw[QM hb e4] at hR;refine⟨_,rfl,rfl,_,rfl,C7 (fun hk=>?_) (fun hk=>?_)⟩
  ·have hk:=of_decide_eq_true hk;have hk:en.kd=2:=V.int.inj hk;obtain⟨e,he,hz⟩:=kn en hen hk;rw[if_pos hk,<-hz,VV nd he] at hR;rw[<-hz] at e4;exact⟨_,rfl,p,q.dp,_,rfl,(pa.same s').1,rfl,_,rfl,d,_,_,_,rfl,rfl,AW.of (s'.get e4),rfl,p,q,cs,e,rfl,pa.same s',he,_,_,rfl,rfl,hR⟩
  ·have hk:¬en.kd=2:=fun z=>hk (decide_eq_true (congrArg V.int z))
   rw[if_neg hk] at hR;exact⟨_,_,rfl,rfl,hR⟩
def Ec (K:W.Frag)(CP CT:Addr):Sp:=fun vs H Q _=>∃p q cs v es,vs=[.ref p,v]/\Ez CP CT H p q cs/\Rep NL H (Ce (.folder es)) v/\es.length<=16/\(∀x∈es,x.kd=2->∃e∈cs,e.z=x.tg.1)/\∀H',Ar H H'->Q (.int (Ka (es.map (VQ cs)))) H'
theorem J3 (T:Txt K mg Ab Ad Aa Ae XC)(F:Fun K "steps_of" "Pool.steps_of" BM f fd)(HW:A2 P w K mg base 1 Ae "deep" ["self","number"] (GD K Ae Aa)):FnOk P w K mg base Cf 2 f fd ["self","folder"] (Ec K Ae Aa):=by
 exists Gy
 ·obtain⟨p,q,cs,v,es,rfl,_⟩:=h;rfl
 obtain⟨p,q,cs,v,es,rfl,pa,hv,l16,kn,hq⟩:=h;have hu:=BJ hr;refine⟨_,(!Ah (@K4 _ ["name","kind","tag","self"] [none,none,none,some 0] (2) _ _ _ _ _ _ _ _ _ _ _ _ _ _ Gy.nd rfl (by trivial) rfl (!EB (!Av AJ (pv 1) (!Ak) (fun _ _=>rfl))) (by rfl) rfl (by repeat (first|exact trivial|refine⟨rfl,?_⟩)) (by repeat (first|exact trivial|refine⟨fun h=>(by first|exact⟨_,rfl⟩|cases h),?_⟩)) (fun C s H fp=>⟨(@Cy _ (K) _ _ _ _ (3) (by rfl) rfl (!AD (@Aq _ _ (0) _ (show(["name","kind","tag","self"]:List Str).Nodup by decide +kernel) rfl (by trivial) (by trivial)) (!AD (@Aq _ _ (1) _ (show(["name","kind","tag","self"]:List Str).Nodup by decide +kernel) rfl (by trivial) (by trivial)) (!AD (@Aq _ _ (2) _ (show(["name","kind","tag","self"]:List Str).Nodup by decide +kernel) rfl (by trivial) (by trivial)) (!BO)))) (by rfl) (by rfl)),(!AX),(!AB Bw (!Ak) (!OQ (!AA Bh (pv 1) (!AI rfl T.c_FOLDER_ENTRY) (AC _)) (!A3 (pv 3) T.cl_Pool HW (by trivial) (!Ac (!Av (Ep (K:=K) (by rfl)) (pv 2) (!Ak) (fun _ _=>rfl)) (!Aj))) (!Ak)))⟩) (by intro _;rfl) (by rfl) (by trivial)) (!Al (!An (!Vv rfl (by rfl) T.b_max (!Ac (pv 2) (!Aj)))))),?_⟩
 try dsimp only[BP,Cx.nox,Cx.wish]
 obtain⟨a,b,us,rfl,e1,e2,r⟩:=CJ hv;have lu:us.length=es.length:=by rw[Ax.len _ _ r,List.length_map]
 have nd:=pa.2.2.2;refine⟨_,rfl,a,_,_,_,rfl,rfl,AW.of e1,rfl,b,rfl,⟨_,AW.of e2⟩,?_⟩;refine LW (xs:=us) (SX H fun k z=>1+if k=2 then Pf cs z else 0) (DL e2) (by omega) (fun x hx=>?_) (fun c x1 x2 x3 H' R hx hb s' hR=>?_) fun l H' nl s' hl=>⟨_,rfl,l,es.map (VQ cs),rfl,AO.of (by rw[hl,LK r];rfl),hq H' s'⟩
 ·obtain⟨en,_,hr⟩:=DU r hx;obtain⟨c,d,rfl,e3,_⟩:=EH hr;exact⟨c,_,_,_,rfl,e3⟩
 ·obtain⟨en,hen,hr⟩:=DU r hx;obtain⟨c',d,z,e3,e4⟩:=EH hr;cases z;rw[hb] at e3;cases e3;have hR:=hR H' (Ar.refl _);rw[QM hb e4] at hR;refine⟨_,rfl,rfl,_,rfl,C7 (fun hk=>?_) (fun hk=>?_)⟩
  ·have hk:=of_decide_eq_true hk;have hk:en.kd=2:=V.int.inj hk;obtain⟨e,he,hz⟩:=kn en hen hk;rw[if_pos hk,<-hz,VB nd he] at hR;rw[<-hz] at e4;exact⟨_,rfl,p,q.dp,_,rfl,(pa.same s').1,rfl,_,rfl,d,_,_,_,rfl,rfl,AW.of (s'.get e4),rfl,p,q,cs,e,rfl,pa.same s',he,_,_,rfl,rfl,hR⟩
  ·have hk:¬en.kd=2:=fun z=>hk (decide_eq_true (congrArg V.int z))
   rw[if_neg hk] at hR;exact⟨_,_,rfl,rfl,hR⟩
theorem map_one {α β:Type}{g:α->β}(hg:∀a b,g a=g b->a=b):∀{l l':List α},l.map g=l'.map g->l=l'
 |[],[],_=>rfl
 |[],_::_,h=>nomatch h
 |_::_,[],h=>nomatch h
 |x::l,y::l',h=>by
  rw[List.map_cons,List.map_cons] at h;injection h with h1 h2
  rw[hg x y h1,map_one hg h2]
theorem Q0 (a b:Tg)(h:Fn a=Fn b):a=b:=by
 obtain⟨a1,a2,a3⟩:=a;obtain⟨b1,b2,b3⟩:=b;injection h with h
 injection h with h1 h
 injection h with h2 h
 injection h with h3 _
 injection h1 with h1
 injection h2 with h2
 injection h3 with h3
 dsimp only at h1 h2 h3;rw[h1,h2,h3]
theorem VZ (a b:En)(h:KM a=KM b):a=b:=by
 obtain⟨a1,a2,a3⟩:=a;obtain⟨b1,b2,b3⟩:=b;injection h with h
 injection h with h1 h
 injection h with h2 h
 injection h with h3 _
 injection h1 with h1
 injection h2 with h2
 have h3:=Q0 _ _ h3;dsimp only at h1 h2 h3;rw[h1,h2,h3]
theorem Q5 {a b:Bk}(h:Ce a=Ce b):a=b:=by
 cases a with
 |piece z=>
  cases b with
  |piece z'=>injection h with h;injection h with _ h;injection h with h _;injection h with h;rw[h]
  |row lv ts=>injection h with h;injection h with h _;injection h with h;cases h
  |folder es=>injection h with h;injection h with h _;injection h with h;cases h
 |row lv ts=>
  cases b with
  |piece z'=>injection h with h;injection h with h _;injection h with h;cases h
  |row lv' ts'=>
   injection h with h;injection h with _ h;injection h with h1 h;injection h with h2 _
   injection h1 with h1
   injection h2 with h2
   rw[h1,map_one Q0 h2]
  |folder es=>injection h with h;injection h with h _;injection h with h;cases h
 |folder es=>
  cases b with
  |piece z'=>injection h with h;injection h with h _;injection h with h;cases h
  |row lv ts=>injection h with h;injection h with h _;injection h with h;cases h
  |folder es'=>injection h with h;injection h with _ h;injection h with h _;injection h with h;rw[map_one VZ h]
theorem AH {α β:Type}{g:α->β}:∀{l:List α},(l.map g).Nodup->∀{x y:α},x∈l->y∈l->g x=g y->x=y
 |[],_,_,_,h,_,_=>nomatch h
 |a::l,nd,x,y,hx,hy,e=>by
  rw[List.map_cons,List.nodup_cons] at nd;rcases List.mem_cons.mp hx with hx|hx
  ·rcases List.mem_cons.mp hy with hy|hy
   ·rw[hx,hy]
   ·exact(nd.1 (by rw[<-hx,e];exact List.mem_map.mpr ⟨_,hy,rfl⟩)).elim
  ·rcases List.mem_cons.mp hy with hy|hy
   ·exact(nd.1 (by rw[<-hy,<-e];exact List.mem_map.mpr ⟨_,hx,rfl⟩)).elim
   ·exact AH nd.2 hx hy e
def bump (zs:List Int)(e:Cl):Cl:={ e with k:=e.k+(zs.count e.z:Int) }
theorem RL (zs ys:List Int)(e:Cl):bump ys (bump zs e)=bump (zs++ys) e:=by
 unfold bump;rw[List.count_append];simp only[Int.natCast_add,Int.add_assoc]
theorem TK (e:Cl):bump [] e=e:=by
 unfold bump;simp
theorem Sq (cs:List Cl):cs.map (bump [])=cs:=by
 rw[show(bump []:Cl->Cl)=id from funext TK];simp
theorem Qf (zs ys:List Int)(cs:List Cl):(cs.map (bump zs)).map (bump ys)=cs.map (bump (zs++ys)):=by
 rw[List.map_map];exact List.map_congr_left fun e _=>RL zs ys e
theorem UT (zs:List Int)(cs:List Cl):Ke (cs.map (bump zs))=Ke cs:=by unfold Ke;rw[List.map_map];rfl
theorem T5 (zs:List Int)(cs:List Cl):Me (cs.map (bump zs))=Me cs:=by unfold Me;rw[List.map_map];rfl
theorem Vx (zs:List Int)(cs:List Cl):(cs.map (bump zs)).map (·.z)=cs.map (·.z):=by rw[List.map_map];rfl
theorem Rp (zs:List Int)(cs:List Cl):(cs.map (bump zs)).map (·.c)=cs.map (·.c):=by rw[List.map_map];rfl
def C5 (cs:List Cl)(s:Int):List Int:=(cs.filter (fun e=>decide (A8 e.bk=s))).map (·.z)
theorem MA (zs:List Int)(s:Int):∀cs:List Cl,C5 (cs.map (bump zs)) s=C5 cs s
 |[]=>rfl
 |e::cs=>by
  have ih:=MA zs s cs;unfold C5 at ih ⊢;rw[List.map_cons,List.filter_cons,List.filter_cons];have:decide (A8 (bump zs e).bk=s)=decide (A8 e.bk=s):=rfl;rw[this];cases decide (A8 e.bk=s)
  ·exact ih
  ·show(bump zs e).z::_=e.z::_;rw[ih];rfl
theorem MF (cs:List Cl)(e:Cl)(s:Int):C5 (cs++[e]) s=C5 cs s++if A8 e.bk=s then[e.z] else[]:=by
 unfold C5;rw[List.filter_append,List.map_append]
 by_cases h:A8 e.bk=s
 ·rw[if_pos h,List.filter_cons_of_pos (by simpa using h)];rfl
 ·rw[if_neg h,List.filter_cons_of_neg (by simpa using h)];rfl
theorem Gq {cs:List Cl}{s z:Int}:z∈C5 cs s↔∃e∈cs,A8 e.bk=s/\e.z=z:=by
 unfold C5;rw[List.mem_map];constructor
 ·rintro⟨e,he,rfl⟩
  rw[List.mem_filter,decide_eq_true_eq] at he;exact⟨e,he.1,he.2,rfl⟩
 ·rintro⟨e,he,hs,rfl⟩
  exact⟨e,List.mem_filter.mpr ⟨he,by simpa using hs⟩,rfl⟩
theorem OU (cs:List Cl)(s:Int):(C5 cs s).length<=cs.length:=by
 unfold C5;rw[List.length_map];exact List.length_filter_le _ _
def Mc (ns:List Int):List (Key×V):=ns.map fun z=>(Sum.inl z,V.bl true)
def T7 (bs:List (Int×Addr)):List (Key×V):=bs.map fun x=>(Sum.inl x.1,V.ref x.2)
theorem Gj {κ:Type}[DecidableEq κ]{kvs:List (κ×V)}{k:κ}(h:∀x∈kvs,x.1≠k):Bd kvs k=none:=by
 unfold Bd;rw[Option.map_eq_none_iff,List.find?_eq_none];intro x hx z;exact h x hx (of_decide_eq_true z)
theorem Vj {κ:Type}[DecidableEq κ]{kvs:List (κ×V)}{k:κ}{v:V}(h:Bd kvs k=some v):(k,v)∈kvs:=by
 unfold Bd at h;rw[Option.map_eq_some_iff] at h;obtain⟨x,hx,rfl⟩:=h;have:=List.mem_of_find?_eq_some hx;have e:x.1=k:=by simpa using List.find?_some hx
 rw[<-e];exact this
theorem Wc (b:Bk):0<=A8 b/\A8 b<997:=by
 have key:∀(l:List Int) (t:Int),0<=t/\t<997->0<=l.foldl (fun t n=>(31*t+n+1)%997) t/\l.foldl (fun t n=>(31*t+n+1)%997) t<997:=by
  intro l
  induction l with
  |nil=>intro t h;exact h
  |cons n l ih=>intro t _;exact ih _ ⟨Int.emod_nonneg _ (by decide),Int.emod_lt_of_pos _ (by decide)⟩
 unfold A8;refine key _ _ ?_;cases b with
 |piece _=>exact⟨by show(0:Int)<=1+0;decide,by show(1:Int)+0<997;decide⟩
 |row _ _=>exact⟨by show(0:Int)<=1+1;decide,by show(1:Int)+1<997;decide⟩
 |folder _=>exact⟨by show(0:Int)<=1+2;decide,by show(1:Int)+2<997;decide⟩
theorem Xb {bs:List (Int×Addr)}(nd:(bs.map (·.1)).Nodup)(h:∀x∈bs,0<=x.1/\x.1<997):bs.length<=997:=by
 have:=HB (m:=(List.range 997).map fun i:Nat=>(i:Int)) nd fun x hx=>by
  obtain⟨y,hy,rfl⟩:=List.mem_map.mp hx;have:=h y hy;exact List.mem_map.mpr ⟨y.1.toNat,List.mem_range.mpr (by omega),by omega⟩
 rw[List.length_map,List.length_map,List.length_range] at this;exact this
structure BsAt (H:Hp) (q:Pl) (cs:List Cl) (bs:List (Int×Addr)):Prop where
 h:H q.dz=some (.dK (T7 bs))
 k:(bs.map (·.1)).Nodup
 a:(bs.map (·.2)).Nodup
 d:∀x∈bs,H x.2=some (.dK (Mc (C5 cs x.1)))/\x.2≠q.dt/\x.2≠q.dz/\x.2≠q.dd
 all:∀e∈cs,∃x∈bs,x.1=A8 e.bk
theorem QS {bs:List (Int×Addr)}(nd:(bs.map (·.1)).Nodup){x:Int×Addr}(h:x∈bs):Bd (T7 bs) (Sum.inl x.1)=some (.ref x.2):=by
 refine GI ?_ (List.mem_map.mpr ⟨x,h,rfl⟩);unfold T7;rw[List.map_map,show((fun y:Key×V=>y.1)∘fun x:Int×Addr=>((Sum.inl x.1:Key),V.ref x.2))=(fun z:Int=>(Sum.inl z:Key))∘(fun x:Int×Addr=>x.1) from rfl,<-List.map_map];exact List.Pairwise.map _ (fun a b n e=>n (Sum.inl.inj e)) nd
theorem UD {bs:List (Int×Addr)}{s:Int}{v:V}(h:Bd (T7 bs) (Sum.inl s)=some v):∃x∈bs,x.1=s/\v=.ref x.2:=by
 obtain⟨x,hx,e⟩:=List.mem_map.mp (Vj h);exact⟨x,hx,Sum.inl.inj (congrArg Prod.fst e),(congrArg Prod.snd e).symm⟩
theorem BsAt.no {H:Hp}{q:Pl}{cs:List Cl}{bs:List (Int×Addr)}(B:BsAt H q cs bs){s:Int}(h:Bd (T7 bs) (Sum.inl s)=none):C5 cs s=[]:=by
 rw[List.eq_nil_iff_forall_not_mem];intro z hz;obtain⟨e,he,rfl,rfl⟩:=Gq.mp hz;obtain⟨x,hx,hs⟩:=B.all e he;rw[<-hs,QS B.k hx] at h;cases h
structure PAt (CP CT:Addr) (H:Hp) (p:Addr) (q:Pl) (cs:List Cl) (bs:List (Int×Addr)):Prop where
 t:Ez CP CT H p q cs
 d:H q.dd=some (.dK (Me cs))
 b:BsAt H q cs bs
 n1:q.dt≠q.dz
 n2:q.dt≠q.dd
 n3:q.dz≠q.dd
 c:(cs.map (·.c)).Nodup
 z:∀e∈cs,1<=e.z
 w:∀x∈bs,0<=x.1/\x.1<997
 f1:1<=q.n
 f2:Below cs q.n
def A7 (p:Addr)(q:Pl)(cs:List Cl)(bs:List (Int×Addr)):List Addr:=p::q.dt::q.dz::q.dd::(bs.map (·.2)++cs.map (·.c))
def MN (L:List Addr)(H H':Hp):Prop:=∀a o,H a=some o->a∉L->H' a=some o
theorem Ar.frm {L:List Addr}{H H':Hp}(s:Ar H H'):MN L H H':=fun _ _ h _=>s.get h
theorem PAt.same {CP CT:Addr}{H H':Hp}{p:Addr}{q:Pl}{cs:List Cl}{bs:List (Int×Addr)}(s:Ar H H')(h:PAt CP CT H p q cs bs):PAt CP CT H' p q cs bs:=
 { h with t:=h.t.same s,d:=s.get h.d,b:={ h.b with h:=s.get h.b.h,d:=fun x hx=>⟨s.get (h.b.d x hx).1,(h.b.d x hx).2⟩ } }
theorem PAt.apart {CP CT:Addr}{H:Hp}{p:Addr}{q:Pl}{cs:List Cl}{bs:List (Int×Addr)}(h:PAt CP CT H p q cs bs){a:Addr}{o:HO}(e:H a=some o)(n1:∀C d fs,o≠.ins C d fs)(n2:∀kvs,o≠.dK kvs):a∉A7 p q cs bs:=by
 have no:∀{b u},H b=some u->u≠o->a≠b:=fun{b u} hb hn z=>hn (by rw[z,hb] at e;exact Option.some.inj e)
 unfold A7;simp only[List.mem_cons,List.mem_append,List.mem_map,not_or];refine⟨no h.t.1 (Ne.symm (n1 _ _ _)),no h.t.2.1 (Ne.symm (n2 _)),no h.b.h (Ne.symm (n2 _)),no h.d (Ne.symm (n2 _)),?_,?_⟩
 ·rintro⟨x,hx,z⟩
  exact no (h.b.d x hx).1 (Ne.symm (n2 _)) z.symm
 ·rintro⟨x,hx,z⟩
  exact no (h.t.2.2.1 x hx).1 (Ne.symm (n1 _ _ _)) z.symm
theorem Ez.hold {CP CT:Addr}{H:Hp}{p:Addr}{q:Pl}{cs:List Cl}(h:Ez CP CT H p q cs)(nc:(cs.map (·.c)).Nodup){e:Cl}(he:e∈cs):Ez CP CT (upd H e.c (.ins CT e.dx (Dd e.ta ((wT (Ce e.bk)).length:Int) e.l (e.k+1) e.en e.st))) p q (cs.map (bump [e.z])):=by
 obtain⟨h1,h2,h4,nd⟩:=h;have hc:=(h4 e he).1;have n1:p≠e.c:=fun z=>by
  rw[z,hc] at h1;have:=Option.some.inj h1;injection this with _ _ this
  injection this with this _
  injection this with this _
  revert this
  decide
 refine⟨by rw[Ag n1];exact h1,by rw[Ag (AM h2 hc (by intro z;cases z)),UT];exact h2,fun x hx=>?_,by rw[Vx];exact nd⟩;obtain⟨y,hy,rfl⟩:=List.mem_map.mp hx;have ht:∀c ys,H c=some (.tup ys)->(upd H e.c (.ins CT e.dx (Dd e.ta ((wT (Ce e.bk)).length:Int) e.l (e.k+1) e.en e.st))) c=some (.tup ys):=fun c ys h=>by rw[Ag (AM h hc (by intro z;cases z))];exact h
 obtain⟨a1,a2,a3,a4⟩:=h4 y hy
 by_cases hz:y.z=e.z
 ·obtain rfl:=AH nd hy he hz;refine⟨?_,ht _ _ a2,Cz ht _ _ a3,a4⟩;show upd H y.c _ y.c=some (.ins CT y.dx (Dd y.ta ((wT (Ce y.bk)).length:Int) y.l (y.k+(([y.z].count y.z:Nat):Int)) y.en y.st));rw[Af,List.count_singleton_self];rfl
 ·have nn:y.c≠e.c:=fun z=>hz (by rw[AH nc hy he z])
  refine⟨?_,ht _ _ a2,Cz ht _ _ a3,a4⟩;show upd H e.c _ y.c=some (.ins CT y.dx (Dd y.ta ((wT (Ce y.bk)).length:Int) y.l (y.k+(([e.z].count y.z:Nat):Int)) y.en y.st));rw[Ag nn,a1,List.count_eq_zero.mpr (by simpa using hz)];simp
def PK (cs:List Cl):Bk->Int×Int
 | .folder es=>((es.map (Wi cs)).sum,Ka (es.map (VQ cs)))
 |_=>(0,0)
def Wl (cs:List Cl):Prop:=∀e∈cs,Qd (e.z,e.y,A8 e.bk)/\(∀t∈As e.bk,∃c∈cs,c.z=t.1)/\(e.en,e.st)=PK cs e.bk
theorem Nk (zs:List Int):∀(cs:List Cl) (z:Int),(cs.map (bump zs)).find? (fun e=>decide (e.z=z))=(cs.find? (fun e=>decide (e.z=z))).map (bump zs)
 |[],_=>rfl
 |e::cs,z=>by
  rw[List.map_cons]
  by_cases h:e.z=z
  ·have h':(bump zs e).z=z:=h;rw[List.find?_cons_of_pos (by simpa using h'),List.find?_cons_of_pos (by simpa using h)];rfl
  ·have h':¬(bump zs e).z=z:=h;rw[List.find?_cons_of_neg (by simpa using h'),List.find?_cons_of_neg (by simpa using h)];exact Nk zs cs z
theorem Si (zs:List Int)(cs:List Cl)(z:Int):Ol (cs.map (bump zs)) z=Ol cs z:=by
 unfold Ol;rw[Nk];cases cs.find? (fun e=>decide (e.z=z))<;>rfl
theorem RQ (zs:List Int)(cs:List Cl)(z:Int):Pf (cs.map (bump zs)) z=Pf cs z:=by
 unfold Pf;rw[Nk];cases cs.find? (fun e=>decide (e.z=z))<;>rfl
theorem ON (zs:List Int)(cs:List Cl)(b:Bk):PK (cs.map (bump zs)) b=PK cs b:=by
 cases b with
 |folder es=>
  have e1:Wi (cs.map (bump zs))=Wi cs:=funext fun x=>by unfold Wi;rw[Si]
  have e2:VQ (cs.map (bump zs))=VQ cs:=funext fun x=>by unfold VQ;rw[RQ]
  show((es.map _).sum,Ka (es.map _))=((es.map _).sum,Ka (es.map _));rw[e1,e2]
 |_=>rfl
theorem Ow {cs ds:List Cl}{z:Int}(h:∃e∈cs,e.z=z):(cs++ds).find? (fun e=>decide (e.z=z))=cs.find? (fun e=>decide (e.z=z)):=by
 rw[List.find?_append];obtain⟨e,he,hz⟩:=h;have:(cs.find? (fun e=>decide (e.z=z))).isSome=true:=List.find?_isSome.mpr ⟨e,he,by simpa using hz⟩;cases hh:cs.find? (fun e=>decide (e.z=z)) with
 |none=>rw[hh] at this;cases this
 |some x=>rfl
theorem QZ {cs ds:List Cl}{b:Bk}(h:∀t∈As b,∃c∈cs,c.z=t.1):PK (cs++ds) b=PK cs b:=by
 cases b with
 |folder es=>
  have e1:es.map (Wi (cs++ds))=es.map (Wi cs):=List.map_congr_left fun x hx=>by unfold Wi Ol;rw[Ow (h x.tg (List.mem_map.mpr ⟨x,hx,rfl⟩))]
  have e2:es.map (VQ (cs++ds))=es.map (VQ cs):=List.map_congr_left fun x hx=>by unfold VQ Pf;rw[Ow (h x.tg (List.mem_map.mpr ⟨x,hx,rfl⟩))]
  show((es.map _).sum,Ka (es.map _))=((es.map _).sum,Ka (es.map _));rw[e1,e2]
 |_=>rfl
theorem Wl.more {cs:List Cl}(h:Wl cs){e:Cl}(ok:Qd (e.z,e.y,A8 e.bk))(hn:∀t∈As e.bk,∃c∈cs,c.z=t.1)(hb:(e.en,e.st)=PK cs e.bk)(zs:List Int):Wl ((cs++[e]).map (bump zs)):=by
 intro x hx;obtain⟨y,hy,rfl⟩:=List.mem_map.mp hx;have up:∀t:Int,(∃c∈cs,c.z=t)->∃c∈(cs++[e]).map (bump zs),c.z=t:=fun t ⟨c,hc,z⟩=>⟨bump zs c,List.mem_map.mpr ⟨c,List.mem_append.mpr (.inl hc),rfl⟩,z⟩
 rcases List.mem_append.mp hy with hy|hy
 ·obtain⟨a1,a2,a3⟩:=h y hy;refine⟨a1,fun t ht=>up _ (a2 t ht),?_⟩;show(y.en,y.st)=PK _ y.bk;rw[ON,QZ a2];exact a3
 ·rw[List.mem_singleton.mp hy];refine⟨ok,fun t ht=>up _ (hn t ht),?_⟩;show(e.en,e.st)=PK _ e.bk;rw[ON,QZ hn];exact hb
def FZ (K:W.Frag)(CP CT:Addr):Sp:=fun vs H Q _=>∃p q cs bs v b,vs=[.ref p,v]/\PAt CP CT H p q cs bs/\cs.length<=60/\Rep NL H (Ce b) v/\DH b/\(∀e∈cs,e.bk=b->∀H',Ar H H'->Q (.ref e.ta) H')/\((∀e∈cs,e.bk≠b)->∀H',Ar H H'->Q .non H')
theorem Mo (T:Txt K mg Ab Ad Aa Ae XC)(F:Fun K "alike" "Pool.alike" CS f fd)(DT:Def P w K mg base 3 "sum_of" ["block"] (Gv K))(CV:A2 P w K mg base 17 Ae "block" ["self","tag"] (Dc K Ae Aa Ad))(BQ:A2 P w K mg base 1 Ae "tag" ["self","number"] (Ey K Ae Aa)):FnOk P w K mg base Cf 18 f fd ["self","block"] (FZ K Ae Aa):=by
 exists Es
 ·obtain⟨p,q,cs,bs,v,b,rfl,_⟩:=h;rfl
 obtain⟨p,q,cs,bs,v,b,rfl,pa,few,hv,ok,hq1,hq2⟩:=h;have hu:=BJ hr;have hu9:=Fx hr;refine⟨_,(!Ah (@AG _ _ (2) _ _ _ _ Es.nd rfl (by trivial) (!BY (!Aj)) (by rfl) (by trivial)) (!Ah (!Ck PassesOwn.never rfl (!Bc (!Au (Hs rfl) (by rfl) T.b_sorted EV (!Ac (!TB hu (!AQ (pv 0)) (!AN DT (by trivial) rfl (!Ac (pv 1) (!Aj))) (!Fh) ⟨rfl,rfl,rfl,rfl⟩) (!Aj)))) (@Aq _ _ (3) _ Es.nd rfl (by trivial) (by trivial)) (!Al (!Uo ⟨rfl,rfl⟩ T.x_Lost rfl (!Rj (!RB (@AG _ _ (4) _ _ _ _ Es.nd rfl (by trivial) (!A3 (pv 0) T.cl_Pool CV (by trivial) (!Ac (!A3 (pv 0) T.cl_Pool BQ (by trivial) (!Ac (pv 3) (!Aj))) (!Aj))) (by rfl) (by trivial)))) (!Al (!AS (!AA (SY hu9) (pv 4) (pv 1) (AC _)) (!Al (!An (!A3 (pv 0) T.cl_Pool BQ (by trivial) (!Ac (pv 3) (!Aj))))) (!Aw))) (fun e=>(!Al (!C9))))) (by intro _;rfl)) (!Ah (!AS (!AA MX (!Au AK (by rfl) T.b_len BG (!Ac (pv 2) (!Aj))) (!Ak) (AC _)) (!Al (!C9)) (!Aw)) (!Al (!An (!Fk)))))),?_⟩
 try dsimp only[BP,Cx.nox,Cx.wish]
 refine⟨J8,fun un hun=>?_⟩;have s1:=Am hun (.lst []);have pa1:=pa.same s1;refine⟨_,rfl,p,Ae,q.dp,_,_,rfl,pa1.t.1,T.cl_Pool,T.n_Pool_by_sums,rfl,q.dz,rfl,.inl ⟨_,.inl pa1.b.h⟩,?_⟩;refine⟨_,rfl,v,b,rfl,Rep.same s1 _ _ hv,ok,fun H2 s2 dn hdn=>?_⟩;have s3:=(s1.trans s2).trans (Am hdn (.dK []));have pa3:=pa.same s3;obtain⟨d,hd,hd2⟩:∃d,(((Bd (T7 bs) (Sum.inl (A8 b))).getD (.ref dn))=.ref d)/\(upd H2 dn (.dK [])) d=some (.dK (Mc (C5 cs (A8 b)))):=by
  cases hc:Bd (T7 bs) (Sum.inl (A8 b)) with
  |none=>exact⟨dn,rfl,by rw[pa.b.no hc];exact Af⟩
  |some u=>
   obtain⟨x,hx,hs,rfl⟩:=UD hc;exact⟨x.2,rfl,by rw[(pa3.b.d x hx).1,hs]⟩
 refine⟨_,Bx.k (k:=Sum.inl (A8 b)) pa3.b.h,d,_,C5 cs (A8 b),?_,hd2,?_,?_,fun ms pl pm so hpl=>?_⟩
 ·rw[hd]
 ·unfold Mc;rw[List.map_map];rfl
 ·have:=OU cs (A8 b);exact .inl (by omega)
 have s4:=s3.trans (Am hpl (.lst (ms.map V.int)));have pa4:=pa.same s4;have hun4:(upd (upd H2 dn (.dK [])) pl (.lst (ms.map V.int))) un=some (.lst []):=(Am hpl _).get ((Am hdn _).get (s2.get Af));have hpl4:(upd (upd H2 dn (.dK [])) pl (.lst (ms.map V.int))) pl=some (.lst (ms.map V.int)):=Af;generalize (upd (upd H2 dn (.dK [])) pl (.lst (ms.map V.int)))=H4 at s4 pa4 hun4 hpl4;refine⟨pl,rfl,⟨_,AO.of hpl4⟩,Cp (K:=K) (a:=pl) (xs:=ms.map V.int) (fun i σ H'=>H'=H4/\(∃v3 v4,σ=[some (.ref p),some v,some (.ref un),v3,v4])/\∀(j:Nat) n,j<i->ms[j]?=some n->∀e∈cs,e.z=n->e.bk≠b) ⟨rfl,⟨_,_,rfl⟩,fun j _ h=>absurd h (Nat.not_lt_zero j)⟩ ?_ ?_ ?_⟩
 ·rintro i σ H' _ ⟨rfl,_⟩
  exact AO.of hpl4
 ·rintro i x σ H' hx ⟨rfl,⟨v3,v4,rfl⟩,hb⟩
  obtain⟨n,rfl,hn⟩:=ints_get hx;obtain⟨e,he,hs,hz⟩:=Gq.mp (pm.mem_iff.mp (List.mem_of_getElem? hn));subst hz;have ce:=pa4.t.2.2.1 e he;refine⟨_,rfl,p,q.dp,_,rfl,pa4.t.1,rfl,_,rfl,p,q.dp,_,rfl,pa4.t.1,rfl,_,rfl,p,q,cs,e,rfl,pa4.t,he,?_⟩;refine .inl ⟨p,q,cs,e,e.ta,_,_,rfl,pa4.t,pa4.d,he,ce.2.1,?_⟩;refine⟨_,rfl,_,rfl,Ce e.bk,Ce b,Dm ce.2.2.2,Dm ok,ce.2.2.1,Rep.same s4 _ _ hv,_,rfl,C7 (fun hk=>?_) (fun hk=>?_)⟩
  ·have hk:decide (wT (Ce e.bk)=wT (Ce b))=true:=hk;have eb:e.bk=b:=Q5 (N7 (Dm ce.2.2.2) (Dm ok) (of_decide_eq_true hk));exact⟨_,rfl,p,q.dp,_,rfl,pa4.t.1,rfl,_,rfl,p,q,cs,e,rfl,pa4.t,he,hq1 e he eb _ s4⟩
  ·have hk:¬decide (wT (Ce e.bk)=wT (Ce b))=true:=hk;refine⟨rfl,⟨_,_,rfl⟩,fun j n hj hm e' he' hz=>?_⟩
   by_cases hji:j<i
   ·exact hb j n hji hm e' he' hz
   ·obtain rfl:j=i:=by omega
    rw[hn] at hm;obtain rfl:=AH pa4.t.2.2.2 he he' ((Option.some.inj hm).trans hz.symm);intro z;exact hk (by rw[z];exact decide_eq_true rfl)
 ·rintro σ H' ⟨rfl,⟨v3,v4,rfl⟩,hb⟩
  refine⟨_,rfl,un,_,rfl,.inl (AO.of hun4),_,_,rfl,rfl,_,rfl,AR rfl ?_⟩;refine hq2 (fun e he z=>?_) _ s4;have:e.z∈ms:=pm.mem_iff.mpr (Gq.mpr ⟨e,he,by rw[z],rfl⟩);obtain⟨j,hj,hje⟩:=List.getElem_of_mem this;exact hb j e.z (by rw[List.length_map];exact hj) (by rw[List.getElem?_eq_getElem hj,hje]) e he rfl z
theorem BsAt.same {H H':Hp}{q:Pl}{cs:List Cl}{bs:List (Int×Addr)}(s:Ar H H')(h:BsAt H q cs bs):BsAt H' q cs bs:={ h with h:=s.get h.h,d:=fun x hx=>⟨s.get (h.d x hx).1,(h.d x hx).2⟩ }
theorem BsAt.ins {H:Hp}{q:Pl}{cs:List Cl}{bs:List (Int×Addr)}{x C d:Addr}{fs:List (Str×V)}{o:HO}(hx:H x=some (.ins C d fs))(h:BsAt H q cs bs):BsAt (upd H x o) q cs bs:=
 { h with h:=by rw[Ag (AM h.h hx (by intro z;cases z))];exact h.h,d:=fun y hy=>⟨by rw[Ag (AM (h.d y hy).1 hx (by intro z;cases z))];exact(h.d y hy).1,(h.d y hy).2⟩ }
theorem BsAt.bump {H:Hp}{q:Pl}{cs:List Cl}{bs:List (Int×Addr)}(zs:List Int)(h:BsAt H q cs bs):BsAt H q (cs.map (bump zs)) bs:=
 { h with d:=fun x hx=>by rw[MA];exact h.d x hx,all:=fun e he=>(List.mem_map.mp he).elim fun y hy=>(by rw[<-hy.2];exact h.all y hy.1) }
theorem Wo {ns:List Int}{z:Int}(h:z∉ns):putK (Mc ns) (Sum.inl z) (.bl true)=Mc (ns++[z]):=by
 rw[Gx _ (Gj fun x hx=>?_)]
 ·unfold Mc;rw[List.map_append];rfl
 ·obtain⟨y,hy,rfl⟩:=List.mem_map.mp hx;intro e;exact h (by rw[<-Sum.inl.inj e];exact hy)
theorem BsAt.snoc {H:Hp}{q:Pl}{cs:List Cl}{bs:List (Int×Addr)}{d:Addr}{e:Cl}(h:BsAt H q cs bs)(hd:(A8 e.bk,d)∈bs)(hz:e.z∉C5 cs (A8 e.bk)):BsAt (upd H d (.dK (putK (Mc (C5 cs (A8 e.bk))) (Sum.inl e.z) (.bl true)))) q (cs++[e]) bs where
 h:=by rw[Ag (Ne.symm (h.d _ hd).2.2.1)];exact h.h
 k:=h.k
 a:=h.a
 d:=fun x hx=>by
  by_cases hs:x.1=A8 e.bk
  ·obtain rfl:x=(A8 e.bk,d):=AH h.k hx hd hs;exact⟨by rw[Af,Wo hz,MF,if_pos rfl],(h.d _ hx).2⟩
  ·have n:x.2≠d:=fun z=>hs (congrArg Prod.fst (AH h.a hx hd z))
   rw[Ag n,MF,if_neg (fun z=>hs z.symm),List.append_nil];exact h.d x hx
 all:=fun x hx=>by
  rcases List.mem_append.mp hx with hx|hx
  ·exact h.all x hx
  ·rw[List.mem_singleton.mp hx];exact⟨_,hd,rfl⟩
theorem BsAt.fresh {H:Hp}{q:Pl}{cs:List Cl}{bs:List (Int×Addr)}{dn:Addr}{s:Int}(h:BsAt H q cs bs)(hv:Bd (T7 bs) (Sum.inl s)=none)(hd:H dn=none)(n1:dn≠q.dt)(n2:dn≠q.dd):BsAt (upd (upd H dn (.dK [])) q.dz (.dK (putK (T7 bs) (Sum.inl s) (.ref dn)))) q cs (bs++[(s,dn)]):=by
 have nz:dn≠q.dz:=fun z=>by rw[z,h.h] at hd;cases hd
 have nb:∀x∈bs,x.2≠dn:=fun x hx z=>by have:=(h.d x hx).1;rw[z,hd] at this;cases this
 refine⟨?_,?_,?_,fun x hx=>?_,fun e he=>?_⟩
 ·rw[Af,Gx _ hv];unfold T7;rw[List.map_append];rfl
 ·rw[List.map_append,List.nodup_append];refine⟨h.k,by simp,fun a ha b hb=>?_⟩;obtain⟨x,hx,rfl⟩:=List.mem_map.mp ha;have:b=s:=by simpa using hb
  rw[this];intro z;rw[<-z,QS h.k hx] at hv;cases hv
 ·rw[List.map_append,List.nodup_append];refine⟨h.a,by simp,fun a ha b hb=>?_⟩;obtain⟨x,hx,rfl⟩:=List.mem_map.mp ha;have:b=dn:=by simpa using hb
  rw[this];exact nb x hx
 ·rcases List.mem_append.mp hx with hx|hx
  ·rw[Ag (h.d x hx).2.2.1,Ag (nb x hx)];exact h.d x hx
  ·rw[List.mem_singleton.mp hx];refine⟨?_,n1,nz,n2⟩;show upd _ _ _ dn=some (.dK (Mc (C5 cs s)));rw[Ag nz,Af,h.no hv];rfl
 ·obtain⟨x,hx,e1⟩:=h.all e he;exact⟨x,List.mem_append.mpr (.inl hx),e1⟩
structure Md (CP CT:Addr) (H H':Hp) (p:Addr) (q:Pl) (cs:List Cl) (own:List Addr) (e:Cl) (us:List V) (dtk:List (Key×V)):Prop where
 f:MN own H H'
 p:H' p=some (.ins CP q.dp (ID q.bo q.dt q.dz q.dd q.n))
 t:H' q.dt=some (.dK dtk)
 d:H' q.dd=some (.dK (Me cs))
 c:∀x∈cs,JU CT H' x
 n:JU CT H' e
 l:H' e.l=some (.lst us)
 u:Ax NL H' ((As e.bk).map Fn) us
theorem Md.put {CP CT:Addr}{H H':Hp}{p:Addr}{q:Pl}{cs:List Cl}{own:List Addr}{e:Cl}{us:List V}{dtk:List (Key×V)}(M:Md CP CT H H' p q cs own e us dtk){x:Addr}{o:HO}(hx:x∈own\/H x=none)(nt:x≠q.dt)(nd:x≠q.dd)(k:∀u,H' x=some u->∃kvs,u=.dK kvs):Md CP CT H (upd H' x o) p q cs own e us dtk:=by
 have no:∀{a u},H' a=some u->(∀kvs,u≠.dK kvs)->a≠x:=fun{a u} h n z=>by
  rw[z] at h;obtain⟨kvs,e⟩:=k _ h;exact n kvs e
 have ht:∀c ys,H' c=some (.tup ys)->(upd H' x o) c=some (.tup ys):=fun c ys h=>by rw[Ag (no h (by intro kvs z;cases z))];exact h
 refine⟨fun a u h n=>?_,?_,?_,?_,fun y hy=>?_,?_,?_,AV ht _ _ M.u⟩
 ·have:a≠x:=fun z=>by
   rcases hx with hx|hx
   ·exact n (by rw[z];exact hx)
   ·rw[z,hx] at h;cases h
  rw[Ag this];exact M.f a u h n
 ·rw[Ag (no M.p (by intro kvs z;cases z))];exact M.p
 ·rw[Ag (Ne.symm nt)];exact M.t
 ·rw[Ag (Ne.symm nd)];exact M.d
 ·exact(M.c y hy).tup (Ag (no (M.c y hy).1 (by intro kvs z;cases z))) ht
 ·exact M.n.tup (Ag (no M.n.1 (by intro kvs z;cases z))) ht
 ·rw[Ag (no M.l (by intro kvs z;cases z))];exact M.l
theorem Md.putT {CP CT:Addr}{H H':Hp}{p:Addr}{q:Pl}{cs:List Cl}{own:List Addr}{e:Cl}{us:List V}{dtk dt2:List (Key×V)}(M:Md CP CT H H' p q cs own e us dtk)(hx:q.dt∈own)(nd:q.dt≠q.dd):Md CP CT H (upd H' q.dt (.dK dt2)) p q cs own e us dt2:=by
 have no:∀{a u},H' a=some u->(∀kvs,u≠.dK kvs)->a≠q.dt:=fun{a u} h n z=>by
  rw[z,M.t] at h;exact n _ (Option.some.inj h).symm
 have ht:∀c ys,H' c=some (.tup ys)->(upd H' q.dt (.dK dt2)) c=some (.tup ys):=fun c ys h=>by rw[Ag (no h (by intro kvs z;cases z))];exact h
 refine⟨fun a u h n=>?_,?_,Af,?_,fun y hy=>?_,?_,?_,AV ht _ _ M.u⟩
 ·rw[Ag (fun z=>n (by rw[z];exact hx))];exact M.f a u h n
 ·rw[Ag (no M.p (by intro kvs z;cases z))];exact M.p
 ·rw[Ag (Ne.symm nd)];exact M.d
 ·exact(M.c y hy).tup (Ag (no (M.c y hy).1 (by intro kvs z;cases z))) ht
 ·exact M.n.tup (Ag (no M.n.1 (by intro kvs z;cases z))) ht
 ·rw[Ag (no M.l (by intro kvs z;cases z))];exact M.l
def Ef (z y:Int)(b:Bk)(v:V)(c dx ta l:Addr)(cs:List Cl):Cl:=⟨z,y,b,v,c,dx,ta,l,0,(PK cs b).1,(PK cs b).2⟩
def G4 (K:W.Frag)(CP CT:Addr):Sp:=fun vs H Q _=>∃p q cs bs v b,∃(ta:Addr) (z y:Int),vs=[.ref p,.ref ta,v]/\PAt CP CT H p q cs bs/\cs.length<=60/\Rep NL H (Ce b) v/\DH b/\H ta=some (.tup [.int z,.int y,.int (A8 b)])/\(∀e∈cs,e.z≠z)/\(∀t∈As b,∃e∈cs,e.z=t.1)/\
 ∀H' c dx l bs',H c=none->H l=none->(∃us,H' l=some (.lst us)/\Ax NL H' ((As b).map Fn) us)->Ez CP CT H' p q ((cs++[Ef z y b v c dx ta l cs]).map (bump ((As b).map (·.1))))->BsAt H' q ((cs++[Ef z y b v c dx ta l cs]).map (bump ((As b).map (·.1)))) bs'->H' q.dd=some (.dK (Me cs))->MN (A7 p q cs bs) H H'->(∀x∈bs',x∈bs\/(x.1=A8 b/\H x.2=none))->Q .non H'
theorem Nz (T:Txt K mg Ab Ad Aa Ae XC)(F:Fun K "take" "Pool.take" Dr f fd)(DZ:NV P w K mg base 11 Aa "TakenCell" ["self","own_tag","block"] (DK K Aa))(DI:A2 P w K mg base 2 Ae "entries_of" ["self","folder"] (Dq K Ae Aa))(EK:A2 P w K mg base 2 Ae "steps_of" ["self","folder"] (Ec K Ae Aa))(DE:A2 P w K mg base 1 Ae "hold" ["self","tag"] (EN K Ae Aa)):FnOk P w K mg base Cf 13 f fd ["self","tag","block"] (G4 K Ae Aa):=by
 exists ES
 ·obtain⟨p,q,cs,bs,v,b,ta,z,y,rfl,_⟩:=h;rfl
 obtain⟨p,q,cs,bs,v,b,ta,z,y,rfl,pa,few,hv,ok,hta,hz,hn,hq⟩:=h;have hu:=BJ hr;refine⟨_,(!Ah (@AG _ _ (3) _ _ _ _ ES.nd rfl (by trivial) (!N6 DZ (by trivial) rfl (!Ac (pv 1) (!Ac (pv 2) (!Aj)))) (by rfl) (by trivial)) (!Ah (!AS (!AA Bh (!Av AJ (pv 2) (!Ak) (fun _ _=>rfl)) (!AI rfl T.c_FOLDER) (AC _)) (!Ah (!Cm (pv 3) (!A3 (pv 0) T.cl_Pool DI (by trivial) (!Ac (pv 2) (!Aj)))) (!Al (!Cm (pv 3) (!A3 (pv 0) T.cl_Pool EK (by trivial) (!Ac (pv 2) (!Aj)))))) (!Aw)) (!Ah (!EO hu (!AQ (pv 0)) (!Av AJ (pv 1) (!Ak) (fun _ _=>rfl)) (pv 3)) (!Ah (@AG _ _ (4) _ _ _ _ ES.nd rfl (by trivial) (!Ug (!AQ (pv 0)) (!Av AJ (pv 1) (!Ak) (fun _ _=>rfl)) (!Fh) ⟨rfl,rfl,rfl,rfl⟩) (by rfl) (by trivial)) (!Ah (!EO hu (pv 4) (!Av AJ (pv 1) (!Ak) (fun _ _=>rfl)) (!Hh)) (!Al (!Ck PassesOwn.never rfl (!Bc (!AQ (pv 3))) (@Aq _ _ (5) _ ES.nd rfl (by trivial) (by trivial)) (!Al (!Bb (!A3 (pv 0) T.cl_Pool DE (by trivial) (!Ac (pv 5) (!Aj))))) (by intro _;rfl)))))))),?_⟩
 try dsimp only[BP,Cx.nox,Cx.wish]
 refine⟨_,rfl,_,rfl,fun c dx hc hdx hcd=>?_⟩;have hH1:∀a o,H a=some o->(upd (upd H dx (.own c)) c (.ins Aa dx [])) a=some o:=fun a o h=>by
  rw[Ag (fun z=>by rw[z,hc] at h;cases h),Ag (fun z=>by rw[z,hdx] at h;cases h)];exact h
 refine⟨c,dx,ta,v,b,rfl,Af,Cz (fun c ys h=>hH1 c _ h) _ _ hv,ok,fun l us H2 f2 nl hl r hc2=>⟨rfl,?_⟩⟩;have s2:Ar H H2:=fun a o h=>f2 a o (hH1 a o h) (fun z=>by rw[z,hc] at h;cases h)
 have nlH:H l=none:=by
  cases h:H l with
  |none=>rfl
  |some o=>rw[hH1 l o h] at nl;cases nl
 dsimp only[Ci];refine Lf (fun σ' H'=>σ'=[some (.ref p),some (.ref ta),some v,some (.ref c),none,none]/\Ar H H'/\H' c=some (.ins Aa dx (Dd ta ((wT (Ce b)).length:Int) l 0 (PK cs b).1 (PK cs b).2))/\H' l=some (.lst us)/\Ax NL H' ((As b).map Fn) us) (fun N hN=>?_) ?_
 ·obtain⟨va,xs,rfl,hva⟩:=HJ hv;refine⟨_,rfl,va,_,_,_,rfl,rfl,AW.of (s2.get hva),Hq,rfl,_,rfl,C7 (fun hk=>?_) (fun hk=>?_)⟩
  ·cases b with
   |folder es=>
    have kn:∀x∈es,x.kd=2->∃e∈cs,e.z=x.tg.1:=fun x hx _=>hn x.tg (List.mem_map.mpr ⟨x,hx,rfl⟩)
    refine⟨_,rfl,p,q.dp,_,rfl,(pa.same s2).t.1,rfl,_,rfl,p,q,cs,_,es,rfl,(pa.same s2).t,Rep.same s2 _ _ hv,ok.1,kn,fun H4 s4=>?_⟩;refine⟨_,rfl,c,Aa,dx,_,rfl,s4.get hc2,T.cl_TakenCell,T.n_TakenCell_entries_beneath,(by show 6<1000;decide),?_⟩;have s5:Ar H (upd H4 c (.ins Aa dx (Dd ta ((wT (Ce (.folder es))).length:Int) l 0 (PK cs (.folder es)).1 0))):=A0 (s2.trans s4) hc _;refine⟨_,rfl,p,q.dp,_,rfl,(pa.same s5).t.1,rfl,_,rfl,p,q,cs,_,es,rfl,(pa.same s5).t,Rep.same s5 _ _ hv,ok.1,kn,fun H6 s6=>?_⟩;refine⟨_,rfl,c,Aa,dx,_,rfl,s6.get Af,T.cl_TakenCell,T.n_TakenCell_steps_beneath,(by show 6<1000;decide),?_⟩;have nlc:l≠c:=AM hl hc2 (by intro z;cases z);have tp:∀a ys,H2 a=some (.tup ys)->(upd H6 c (.ins Aa dx (Dd ta ((wT (Ce (.folder es))).length:Int) l 0 (PK cs (.folder es)).1 (PK cs (.folder es)).2))) a=some (.tup ys):=fun a ys h=>by
     have na:a≠c:=AM h hc2 (by intro z;cases z);rw[Ag na];exact s6.get (by rw[Ag na];exact s4.get h)
    refine hN _ _ ⟨rfl,A0 (s5.trans s6) hc _,Af,?_,AV tp _ _ r⟩;rw[Ag nlc];exact s6.get (by rw[Ag nlc];exact s4.get hl)
   |piece _=>cases hk
   |row _ _=>cases hk
  ·refine hN _ _ ⟨rfl,s2,?_,hl,r⟩;cases b with
   |folder es=>exact absurd rfl hk
   |piece _=>exact hc2
   |row _ _=>exact hc2
 rintro σ' H3 ⟨rfl,s3,hc3,hl3,r3⟩
 have pa3:=pa.same s3;have M3:Md Ae Aa H H3 p q cs (A7 p q cs bs) (Ef z y b v c dx ta l cs) us (Ke cs):=⟨Ar.frm s3,pa3.t.1,pa3.t.2.1,pa3.d,pa3.t.2.2.1,⟨hc3,s3.get hta,Rep.same s3 _ _ hv,ok⟩,hl3,r3⟩
 have fz:∀e∈cs,e.z≠z:=hz;have tkl:(Ke cs).length<100000:=by unfold Ke;rw[List.length_map];omega
 have ht3:=s3.get hta;refine⟨_,rfl,_,rfl,p,Ae,q.dp,_,_,rfl,M3.p,T.cl_Pool,T.n_Pool_taken,rfl,_,rfl,ta,_,_,_,rfl,rfl,AW.of ht3,rfl,q.dt,_,rfl,IY.k (k:=Sum.inl z) M3.t (Ba (by omega)),?_⟩;have etk:putK (Ke cs) (Sum.inl z) (.ref c)=Ke (cs++[Ef z y b v c dx ta l cs]):=by
  rw[Gx _ (Gj fun x hx=>?_)]
  ·unfold Ke;rw[List.map_append];rfl
  ·obtain⟨e,he,rfl⟩:=List.mem_map.mp hx;intro z;exact fz e he (Sum.inl.inj z)
 rw[etk];have ot:q.dt∈A7 p q cs bs:=by unfold A7;simp
 have oz:q.dz∈A7 p q cs bs:=by unfold A7;simp
 have M4:=M3.putT (dt2:=Ke (cs++[Ef z y b v c dx ta l cs])) ot pa.n2;have B4:BsAt (upd H3 q.dt (.dK (Ke (cs++[Ef z y b v c dx ta l cs])))) q cs bs:={ pa3.b with h:=by rw[Ag (Ne.symm pa.n1)];exact pa3.b.h,d:=fun x hx=>⟨by rw[Ag (pa3.b.d x hx).2.1];exact(pa3.b.d x hx).1,(pa3.b.d x hx).2⟩ }
 have hz4:∀a,(upd H3 q.dt (.dK (Ke (cs++[Ef z y b v c dx ta l cs])))) a=none->H a=none:=fun a h=>by
  cases ha:H a with
  |none=>rfl
  |some o=>
   have:=s3.get ha
   by_cases e:a=q.dt
   ·rw[e,Af] at h;cases h
   ·rw[Ag e,this] at h;cases h
 generalize (upd H3 q.dt (.dK (Ke (cs++[Ef z y b v c dx ta l cs]))))=H4 at M4 B4 hz4;have bl:bs.length<=997:=Xb pa.b.k pa.w;dsimp only;refine Lf (fun σ' H'=>∃d bs',σ'=[some (.ref p),some (.ref ta),some v,some (.ref c),some (.ref d),none]/\Md Ae Aa H H' p q cs (A7 p q cs bs) (Ef z y b v c dx ta l cs) us (Ke (cs++[Ef z y b v c dx ta l cs]))/\BsAt H' q cs bs'/\(A8 b,d)∈bs'/\(∀x∈bs',x∈bs\/(x.1=A8 b/\H x.2=none))/\(d∈A7 p q cs bs\/H d=none)) (fun N hN=>?_) ?_
 ·refine⟨_,rfl,p,Ae,q.dp,_,_,rfl,M4.p,T.cl_Pool,T.n_Pool_by_sums,rfl,q.dz,rfl,.inl ⟨_,.inl B4.h⟩,_,rfl,ta,_,_,_,rfl,rfl,AW.of M4.n.2.1,rfl,fun dn hdn=>?_⟩;have ndn:∀{a o},H4 a=some o->dn≠a:=fun{a o} h z=>by rw[z,h] at hdn;cases hdn
  have M5:=M4.put (x:=dn) (o:=.dK []) (.inr (hz4 _ hdn)) (ndn M4.t) (ndn M4.d) (fun u h=>by rw[hdn] at h;cases h);have B5:=B4.same (Am hdn (.dK []));refine⟨_,Sum.inl (A8 b),B5.h,rfl,Ba (by unfold T7;rw[List.length_map];omega),fun u hv=>?_,fun hv=>?_⟩
  ·obtain⟨x,hx,hs,rfl⟩:=UD hv;refine hN _ _ ⟨x.2,bs,rfl,M5,B5,by rw[<-hs];exact hx,(fun _ h=>.inl h),.inl ?_⟩;unfold A7;simp only[List.mem_cons,List.mem_append];exact .inr (.inr (.inr (.inr (.inl (List.mem_map.mpr ⟨x,hx,rfl⟩)))))
  ·refine hN _ _ ⟨dn,bs++[(A8 b,dn)],rfl,M5.put (.inl oz) (Ne.symm pa.n1) pa.n3 (fun u h=>⟨_,by rw[B5.h] at h;exact(Option.some.inj h).symm⟩),B4.fresh hv hdn (ndn M4.t) (ndn M4.d),by simp,(fun x hx=>(List.mem_append.mp hx).imp id fun h=>by rw[List.mem_singleton.mp h];exact⟨rfl,hz4 _ hdn⟩),.inr (hz4 _ hdn)⟩
 rintro σ' H5 ⟨d,bs',rfl,M5,B5,hd5,bfr,od⟩
 have hd6:=B5.d _ hd5;refine⟨_,rfl,_,rfl,ta,_,_,_,rfl,rfl,AW.of M5.n.2.1,rfl,d,_,rfl,IY.k (k:=Sum.inl z) hd6.1 (Ba (by unfold Mc;rw[List.length_map];have:=OU cs (A8 b);show(C5 cs (A8 b)).length<1000000;omega)),?_⟩;have B6:=B5.snoc (e:=Ef z y b v c dx ta l cs) hd5 (fun h=>by
  obtain⟨e,he,_,hz'⟩:=Gq.mp h;exact fz e he hz')
 have M6:=M5.put (x:=d) (o:=.dK (putK (Mc (C5 cs (A8 b))) (Sum.inl z) (.bl true))) od hd6.2.1 hd6.2.2.2 (fun u h=>⟨_,by rw[hd6.1] at h;exact(Option.some.inj h).symm⟩);have e6:(upd H5 d (.dK (putK (Mc (C5 cs (A8 b))) (Sum.inl z) (.bl true))))=(upd H5 d (.dK (putK (Mc (C5 cs (A8 (Ef z y b v c dx ta l cs).bk))) (Sum.inl (Ef z y b v c dx ta l cs).z) (.bl true)))):=rfl;rw[<-e6] at B6;dsimp only;generalize (upd H5 d (.dK (putK (Mc (C5 cs (A8 b))) (Sum.inl z) (.bl true))))=H6 at M6 B6;have nc6:((cs++[Ef z y b v c dx ta l cs]).map (·.c)).Nodup:=by
  rw[List.map_append,List.nodup_append];refine⟨pa.c,by simp,fun a ha b' hb=>?_⟩;obtain⟨x,hx,rfl⟩:=List.mem_map.mp ha;have:b'=c:=List.mem_singleton.mp hb;rw[this];intro zz;have:=(pa.t.2.2.1 x hx).1;rw[zz,hc] at this;cases this
 have P6:Ez Ae Aa H6 p q (cs++[Ef z y b v c dx ta l cs]):=by
  refine⟨M6.p,M6.t,fun e he=>?_,?_⟩
  ·rcases List.mem_append.mp he with he|he
   ·exact M6.c e he
   ·rw[List.mem_singleton.mp he];exact M6.n
  ·rw[List.map_append,List.nodup_append];refine⟨pa.t.2.2.2,by simp,fun a ha b' hb=>?_⟩;obtain⟨x,hx,rfl⟩:=List.mem_map.mp ha;have:b'=z:=List.mem_singleton.mp hb;rw[this];exact fz x hx
 refine⟨_,rfl,c,Aa,dx,_,_,rfl,M6.n.1,T.cl_TakenCell,T.n_TakenCell_named,rfl,l,rfl,⟨_,AO.of M6.l⟩,?_⟩;refine Cp (K:=K) (a:=l) (xs:=us) (fun i σ H'=>(∃v5,σ=[some (.ref p),some (.ref ta),some v,some (.ref c),some (.ref d),v5])/\Ez Ae Aa H' p q ((cs++[Ef z y b v c dx ta l cs]).map (bump (((As b).map (·.1)).take i)))/\BsAt H' q (cs++[Ef z y b v c dx ta l cs]) bs'/\H' q.dd=some (.dK (Me cs))/\H' l=some (.lst us)/\Ax NL H' ((As b).map Fn) us/\MN (A7 p q cs bs) H H') ⟨⟨_,rfl⟩,by rw[List.take_zero,Sq];exact P6,B6,M6.d,M6.l,M6.u,M6.f⟩ ?_ ?_ ?_
 ·rintro i σ H' _ ⟨_,_,_,_,h,_⟩
  exact AO.of h
 ·rintro i x σ H' hx ⟨⟨v5,rfl⟩,P7,B7,d7,l7,u7,f7⟩
  obtain⟨t,ht,rt⟩:=Ax.get u7 hx;rw[List.getElem?_map] at ht;obtain⟨g,hg,rfl⟩:=Option.map_eq_some_iff.mp ht;obtain⟨tx,rfl,htx⟩:=GC rt;obtain⟨e,he,hze⟩:=hn g (List.mem_of_getElem? hg);have he7:bump (((As b).map (·.1)).take i) e∈(cs++[Ef z y b v c dx ta l cs]).map (bump (((As b).map (·.1)).take i)):=List.mem_map.mpr ⟨e,List.mem_append.mpr (.inl he),rfl⟩;have hz7:(bump (((As b).map (·.1)).take i) e).z=g.1:=hze;have H7:=P7.hold (by rw[Rp];exact nc6) he7;have c7:=(P7.2.2.1 _ he7).1;rw[<-hz7] at htx;refine⟨_,rfl,p,q.dp,_,rfl,P7.1,rfl,_,rfl,p,q,_,_,tx,_,_,rfl,P7,he7,htx,?_⟩;have tp:∀a ys,H' a=some (.tup ys)->(upd H' (bump (((As b).map (·.1)).take i) e).c (.ins Aa (bump (((As b).map (·.1)).take i) e).dx (Dd (bump (((As b).map (·.1)).take i) e).ta ((wT (Ce (bump (((As b).map (·.1)).take i) e).bk)).length:Int) (bump (((As b).map (·.1)).take i) e).l ((bump (((As b).map (·.1)).take i) e).k+1) (bump (((As b).map (·.1)).take i) e).en (bump (((As b).map (·.1)).take i) e).st))) a=some (.tup ys):=fun a ys h=>by rw[Ag (AM h c7 (by intro z;cases z))];exact h
  refine⟨⟨_,rfl⟩,?_,B7.ins c7,by rw[Ag (AM d7 c7 (by intro z;cases z))];exact d7,by rw[Ag (AM l7 c7 (by intro z;cases z))];exact l7,AV tp _ _ u7,fun a o h n=>?_⟩
  ·rw[Qf,hz7] at H7;rw[List.take_add_one,List.getElem?_map,hg];exact H7
  ·rw[Ag (fun zz=>n (by rw[zz];unfold A7;simp only[List.mem_cons,List.mem_append];exact .inr (.inr (.inr (.inr (.inr (List.mem_map.mpr ⟨e,he,rfl⟩)))))))];exact f7 a o h n
 ·rintro σ H' ⟨⟨v5,rfl⟩,P7,B7,d7,l7,u7,f7⟩
  have lu:us.length=((As b).map (·.1)).length:=by rw[Ax.len _ _ u7,List.length_map,List.length_map]
  rw[lu,List.take_length] at P7;exact hq H' c dx l bs' hc nlH ⟨us,l7,u7⟩ P7 (B7.bump _) d7 f7 bfr
theorem PAt.lst {CP CT:Addr}{H:Hp}{p:Addr}{q:Pl}{cs:List Cl}{bs:List (Int×Addr)}{l:Addr}{us us':List V}(h:PAt CP CT H p q cs bs)(hl:H l=some (.lst us)):PAt CP CT (upd H l (.lst us')) p q cs bs:=by
 have no:∀{a o},H a=some o->(∀ys,o≠.lst ys)->(upd H l (.lst us')) a=some o:=fun{a o} h1 n=>by rw[Ag (fun z=>by rw[z,hl] at h1;exact n _ (Option.some.inj h1).symm)];exact h1
 have nk:∀{a kvs},H a=some (.dK kvs)->(upd H l (.lst us')) a=some (.dK kvs):=fun{a kvs} h1=>no h1 (by intro ys z;cases z)
 refine⟨⟨no h.t.1 (by intro ys z;cases z),nk h.t.2.1,fun e he=>?_,h.t.2.2.2⟩,nk h.d,{ h.b with h:=nk h.b.h,d:=fun x hx=>⟨nk (h.b.d x hx).1,(h.b.d x hx).2⟩ },h.n1,h.n2,h.n3,h.c,h.z,h.w,h.f1,h.f2⟩;have hc:=(h.t.2.2.1 e he).1;exact(h.t.2.2.1 e he).tup ((no hc (by intro ys z;cases z)).trans hc.symm) fun c ys h1=>no h1 (by intro ys z;cases z)
theorem PAt.setn {CP CT:Addr}{H H':Hp}{p:Addr}{q:Pl}{cs:List Cl}{bs:List (Int×Addr)}{m:Int}(h:PAt CP CT H p q cs bs)(hp:H' p=some (.ins CP q.dp (ID q.bo q.dt q.dz q.dd m)))(ho:∀b,b≠p->H' b=H b)(m1:1<=m)(m2:Below cs m):PAt CP CT H' p { q with n:=m } cs bs:=by
 have no:∀{a o},H a=some o->(∀C d fs,o≠.ins C d fs)->H' a=some o:=fun{a o} h1 n=>by rw[ho a (fun z=>by rw[z,h.t.1] at h1;exact n _ _ _ (Option.some.inj h1).symm)];exact h1
 have nk:∀{a kvs},H a=some (.dK kvs)->H' a=some (.dK kvs):=fun{a kvs} h1=>no h1 (by intro C d fs z;cases z)
 refine⟨⟨hp,nk h.t.2.1,fun e he=>?_,h.t.2.2.2⟩,nk h.d,{ h.b with h:=nk h.b.h,d:=fun x hx=>⟨nk (h.b.d x hx).1,(h.b.d x hx).2⟩ },h.n1,h.n2,h.n3,h.c,h.z,h.w,m1,m2⟩;have hc:=(h.t.2.2.1 e he).1;refine(h.t.2.2.1 e he).tup (ho _ fun z=>?_) fun c ys h1=>no h1 (by intro C d fs z;cases z)
 rw[z,h.t.1] at hc;have:=Option.some.inj hc;injection this with _ _ this
 injection this with this _
 injection this with this _
 revert this
 decide
def HE (K:W.Frag)(CP CT:Addr):Sp:=fun vs H Q _=>∃p q cs bs v b,∃(y:Int),vs=[.ref p,v,.int y]/\PAt CP CT H p q cs bs/\cs.length<=60/\Rep NL H (Ce b) v/\DH b/\(∀t∈As b,∃e∈cs,e.z=t.1)/\
 (∀e∈cs,e.bk=b->∀H',Ar H H'->Q (.ref e.ta) H')/\
 ((∀e∈cs,e.bk≠b)->∀(m:Int) H' c dx l ta bs',1<=m->m<=(cs.length:Int)+1->(∀e∈cs,e.z≠m)->H c=none->H l=none->H ta=none->(∃us,H' l=some (.lst us)/\Ax NL H' ((As b).map Fn) us)->PAt CP CT H' p { q with n:=m } ((cs++[Ef m y b v c dx ta l cs]).map (bump ((As b).map (·.1)))) bs'->MN (A7 p q cs bs) H H'->(∀x∈bs',x∈bs\/H x.2=none)->Q (.ref ta) H')
theorem Od (T:Txt K mg Ab Ad Aa Ae XC)(F:Fun K "put" "Pool.put" Ei f fd)(G7:A2 P w K mg base 18 Ae "alike" ["self","block"] (FZ K Ae Aa))(HQ:A2 P w K mg base 13 Ae "take" ["self","tag","block"] (G4 K Ae Aa))(Do:A2 P w K mg base 1 Ae "free_number" ["self"] (C6 K Ae Aa))(DT:Def P w K mg base 3 "sum_of" ["block"] (Gv K)):FnOk P w K mg base Cf 19 f fd ["self","block","birth"] (HE K Ae Aa):=by
 exists HI
 ·obtain⟨p,q,cs,bs,v,b,y,rfl,_⟩:=h;rfl
 obtain⟨p,q,cs,bs,v,b,y,rfl,pa,few,hv,ok,hn,hq1,hq2⟩:=h;have hu:=BJ hr;refine⟨_,(!Ah (@AG _ _ (3) _ _ _ _ HI.nd rfl (by trivial) (!A3 (pv 0) T.cl_Pool G7 (by trivial) (!Ac (pv 1) (!Aj))) (by rfl) (by trivial)) (!Ah (!AS (!GB (!NU (pv 3)) (by first|exact Df _ (by decide) (by decide)|rfl)) (!Al (!An (pv 3))) (!Aw)) (!Ah (@AG _ _ (4) _ _ _ _ HI.nd rfl (by trivial) (!EF (!Ac (!DJ (pv 0) T.cl_Pool Do) (!Ac (pv 2) (!Ac (!AN DT (by trivial) rfl (!Ac (pv 1) (!Aj))) (!Aj))))) (by rfl) (by trivial)) (!Ah (!Bb (!A3 (pv 0) T.cl_Pool HQ (by trivial) (!Ac (pv 4) (!Ac (pv 1) (!Aj))))) (!Ah (!EO hu (!AQ (pv 0)) (!Av AJ (pv 4) (!Ak) (fun _ _=>rfl)) (pv 1)) (!Al (!An (pv 4)))))))),?_⟩
 try dsimp only[BP,Cx.nox,Cx.wish]
 refine⟨_,rfl,p,q.dp,_,rfl,pa.t.1,rfl,_,rfl,p,q,cs,bs,v,b,rfl,pa,few,hv,ok,fun e he eb H1 s1=>?_,fun hne H1 s1=>?_⟩
 ·exact⟨_,rfl,_,rfl,BS rfl ⟨_,rfl,hq1 e he eb H1 s1⟩⟩
 refine⟨_,rfl,_,rfl,AR rfl ?_⟩;have pa1:=pa.same s1;refine⟨_,rfl,p,q.dp,_,rfl,pa1.t.1,rfl,p,q,cs,rfl,pa1.t,pa.f2,pa.f1,fun m H2 m1 m2 bm fm hp2 ho2=>?_⟩;have pa2:PAt Ae Aa H2 p { q with n:=m } cs bs:=pa1.setn hp2 ho2 m1 bm;have tp2:∀a ys,H1 a=some (.tup ys)->H2 a=some (.tup ys):=fun a ys h=>by rw[ho2 a (AM h pa1.t.1 (by intro z;cases z))];exact h
 have k2:∀a o,H a=some o->∃o',H2 a=some o':=fun a o h=>by
  by_cases e:a=p
  ·exact⟨_,by rw[e];exact hp2⟩
  ·exact⟨o,by rw[ho2 a e];exact s1.get h⟩
 refine⟨_,rfl,_,rfl,v,b,rfl,Cz tp2 _ _ (Rep.same s1 _ _ hv),ok,fun H3 s3=>?_⟩;refine⟨UX,fun ta hta=>?_⟩;have s4:=s3.trans (Am hta (.tup [.int m,.int y,.int (A8 b)]));have pa4:=pa2.same s4;have t4:(upd H3 ta (.tup [.int m,.int y,.int (A8 b)])) ta=some (.tup [.int m,.int y,.int (A8 b)]):=Af;have hv4:=Rep.same s4 _ _ (Cz tp2 _ _ (Rep.same s1 _ _ hv));generalize (upd H3 ta (.tup [.int m,.int y,.int (A8 b)]))=H4 at s4 pa4 t4 hv4;refine⟨_,rfl,p,q.dp,_,rfl,pa4.t.1,rfl,_,rfl,_,rfl,p,_,cs,bs,v,b,ta,_,y,rfl,pa4,few,hv4,ok,t4,fm,hn,fun H5 c dx l bs' hc hl4 ⟨us,l5,u5⟩ P5 B5 d5 f5 bfr=>?_⟩;have t5:=f5 ta _ t4 (pa4.apart t4 (by intro C d fs z;cases z) (by intro kvs z;cases z));refine⟨_,rfl,_,rfl,p,Ae,q.dp,_,_,rfl,P5.1,T.cl_Pool,T.n_Pool_draft,rfl,_,rfl,ta,_,_,_,rfl,rfl,AW.of t5,rfl,q.dd,_,rfl,IY.k (k:=Sum.inl m) d5 (Ba (by unfold Me;rw[List.length_map];omega)),?_⟩;have fr:∀a,H4 a=none->H a=none:=fun a hc=>by
  cases h:H a with
  |none=>rfl
  |some o=>
   obtain⟨o',h'⟩:=k2 a o h;rw[s4.get h'] at hc;cases hc
 have hcH:=fr c hc;have fr3:∀a,H3 a=none->H a=none:=fun a hc=>by
  cases h:H a with
  |none=>rfl
  |some o=>
   obtain⟨o',h'⟩:=k2 a o h;rw[s3.get h'] at hc;cases hc
 have edr:putK (Me cs) (Sum.inl m) v=Me ((cs++[Ef m y b v c dx ta l cs]).map (bump ((As b).map (·.1)))):=by
  rw[T5,Gx _ (Gj fun x hx=>?_)]
  ·unfold Me;rw[List.map_append];rfl
  ·obtain⟨e,he,rfl⟩:=List.mem_map.mp hx;intro zz;exact fm e he (Sum.inl.inj zz)
 rw[edr];have nt0:∀{a u},H5 a=some u->(∀kvs,u≠.dK kvs)->a≠q.dd:=fun{a u} h n zz=>by
  rw[zz,d5] at h;exact n _ (Option.some.inj h).symm
 refine⟨_,rfl,hq2 hne m _ c dx l ta bs' m1 m2 fm hcH (fr l hl4) (fr3 ta hta) ⟨us,by rw[Ag (nt0 l5 (by intro kvs z;cases z))];exact l5,AV (fun a ys h=>by rw[Ag (nt0 h (by intro kvs z;cases z))];exact h) _ _ u5⟩ ?_ (fun a o h n=>?_) fun x hx=>(bfr x hx).imp id fun h=>fr x.2 h.2⟩
 ·have nt:∀{a u},H5 a=some u->(∀kvs,u≠.dK kvs)->a≠q.dd:=fun{a u} h n zz=>by
   rw[zz,d5] at h;exact n _ (Option.some.inj h).symm
  refine⟨⟨?_,?_,fun e he=>?_,P5.2.2.2⟩,Af,{ B5 with h:=?_,d:=fun x hx=>⟨?_,(B5.d x hx).2⟩ },pa.n1,pa.n2,pa.n3,?_,fun e h=>?_,?_,?_,?_⟩
  ·rw[Ag (nt P5.1 (by intro kvs z;cases z))];exact P5.1
  ·rw[Ag pa.n2];exact P5.2.1
  ·exact(P5.2.2.1 e he).tup (Ag (nt (P5.2.2.1 e he).1 (by intro kvs z;cases z))) fun a ys h=>by rw[Ag (nt h (by intro kvs z;cases z))];exact h
  ·rw[Ag pa.n3];exact B5.h
  ·rw[Ag (B5.d x hx).2.2.2];exact(B5.d x hx).1
  ·rw[Rp,List.map_append,List.nodup_append];refine⟨pa.c,by simp,fun a ha b' hb=>?_⟩;obtain⟨x,hx,rfl⟩:=List.mem_map.mp ha;have:b'=c:=List.mem_singleton.mp hb;rw[this];intro zz;have:=(pa.t.2.2.1 x hx).1;rw[zz,hcH] at this;cases this
  ·obtain⟨x,hx,rfl⟩:=List.mem_map.mp h;show 1<=x.z;rcases List.mem_append.mp hx with hx|hx
   ·exact pa.z x hx
   ·rw[List.mem_singleton.mp hx];exact m1
  ·intro x hx;rcases bfr x hx with h|h
   ·exact pa.w x h
   ·rw[h.1];exact Wc b
  ·exact m1
  ·intro i i1 i2;obtain⟨e,he,rfl⟩:=bm i i1 i2;exact⟨bump _ e,List.mem_map.mpr ⟨e,List.mem_append.mpr (.inl he),rfl⟩,rfl⟩
 ·have na:a≠q.dd:=fun zz=>n (by rw[zz];unfold A7;simp)
  have np:a≠p:=fun zz=>n (by rw[zz];unfold A7;simp)
  rw[Ag na];exact f5 a o (s4.get (by rw[ho2 a np];exact s1.get h)) n
end
open M06 M10
section
variable {P:Program}{w:World}{K:W.Frag}{mg:Str->Option Value}{base:Heap}{f Ab Ad Aa Ae:Addr}{XC:Nat->Addr}{fd:FuncData}
def Y8 (neg:Bool):R2:=fun x y H Q=>∃(p:Addr) (xs:List V) (t:Tr) (ts:List Tr),y=.ref p/\H p=some (.lst xs)/\Rep NL H t x/\DF 8 t=true/\Ax NL H ts xs/\(∀u∈ts,DF 8 u=true)/\
 Q (.bl (if neg then !(ts.any fun u=>decide (wT u=wT t)) else ts.any fun u=>decide (wT u=wT t))) H
section
variable {X:Cx}
theorem OY:∀{xs:List V} {its:List Value},AL xs its->∀(i:Nat) u,its[i]?=some u->∃v,xs[i]?=some v/\RelV v u
 |_,_,.nil,i,u,e=>by simp at e
 |v::xs,_,.cons r h,0,u,e=>⟨v,rfl,by simp at e;rw[<-e];exact r⟩
 |v::xs,_,.cons r h,i+1,u,e=>by
  obtain⟨w,a,b⟩:=OY h i u (by simpa using e);exact⟨w,by simpa using a,b⟩
theorem UR {v w:V}{u:Value}(h1:RelV v u)(h2:RelV w u){H:Hp}{t t':Tr}{n:Nat}(ht:DF n t=true)(ht':DF n t'=true)(r1:Rep NL H t v)(r2:Rep NL H t' w):t=t':=by
 have e:v=w:=by
  cases n with
  |zero=>cases ht
  |succ n=>
   cases t with
   |int i=>
    cases(show v=V.int i from r1);obtain⟨k,rfl⟩:=h1;cases t' with
    |int j=>cases(show w=V.int j from r2);obtain⟨k',e⟩:=h2;cases e;rfl
    |str z=>cases(show w=V.str z from r2);obtain⟨k',e⟩:=h2;cases e
    |tup us=>obtain⟨b,ws,rfl,_⟩:=r2;cases h2
    |non=>cases ht'
    |bl _=>cases ht'
    |lst _=>cases ht'
   |str y=>
    cases(show v=V.str y from r1);obtain⟨k,rfl⟩:=h1;cases t' with
    |int j=>cases(show w=V.int j from r2);obtain⟨k',e⟩:=h2;cases e
    |str z=>cases(show w=V.str z from r2);obtain⟨k',e⟩:=h2;cases e;rfl
    |tup us=>obtain⟨b,ws,rfl,_⟩:=r2;cases h2
    |non=>cases ht'
    |bl _=>cases ht'
    |lst _=>cases ht'
   |tup ts=>
    obtain⟨a,vs,rfl,_⟩:=r1;cases h1;cases t' with
    |int j=>cases(show w=V.int j from r2);obtain⟨k',e⟩:=h2;cases e
    |str z=>cases(show w=V.str z from r2);obtain⟨k',e⟩:=h2;cases e
    |tup us=>obtain⟨b,ws,rfl,_⟩:=r2;cases h2;rfl
    |non=>cases ht'
    |bl _=>cases ht'
    |lst _=>cases ht'
   |non=>cases ht
   |bl _=>cases ht
   |lst _=>cases ht
 subst e;exact Nn n t t' v ht ht' r1 r2
theorem VA {pins:List (Addr×Obj)}{σ:St}{H:Hp}{s:Shared}{xs:List V}{t:Tr}{ts:List Tr}{x:V}{v:Value}{its:List Value}(hu:X.A.units+150<cLine)(I:Inv X pins σ H s)(hx:Rep NL H t x)(ht:DF 8 t=true)(r:Ax NL H ts xs)(hts:∀u∈ts,DF 8 u=true)(rx:RelV x v)(rv:AL xs its) :
  ∃e:Value->Bool,(∀y∈its.toArray,SeqAt.EqAt X.A.in1 s y v (e y))/\its.toArray.any e=ts.any fun u=>decide (wT u=wT t):=by
 have gt:∀(i:Nat) u,its[i]?=some u->∃t' v',ts[i]?=some t'/\RelV v' u/\Rep NL H t' v':=fun i u e=>by
  obtain⟨v',a,b⟩:=OY rv i u e;obtain⟨t',c,d⟩:=Ax.get r a;exact⟨t',v',c,b,d⟩
 have li:its.length=ts.length:=rv.length.symm.trans (Ax.len _ _ r);obtain⟨e,hE⟩:∃e:Value->Bool,∀u,e u=true↔∃(i:Nat) (t':Tr),its[i]?=some u/\ts[i]?=some t'/\wT t'=wT t:=⟨fun u=>@decide _ (Classical.propDecidable (∃(i:Nat) (t':Tr),its[i]?=some u/\ts[i]?=some t'/\wT t'=wT t)),fun u=>@decide_eq_true_iff _ (Classical.propDecidable _)⟩
 have ee:∀(i:Nat) u t',its[i]?=some u->ts[i]?=some t'->e u=decide (wT t'=wT t):=fun i u t' e1 e2=>by
  rw[Bool.eq_iff_iff,hE,decide_eq_true_iff];constructor
  ·rintro⟨j,t2,e3,e4,e5⟩
   obtain⟨a1,v1,b1,c1,d1⟩:=gt i u e1;obtain⟨a2,v2,b2,c2,d2⟩:=gt j u e3;rw[e2] at b1;cases b1;rw[e4] at b2;cases b2;rw[UR c1 c2 (hts _ (List.mem_of_getElem? e2)) (hts _ (List.mem_of_getElem? e4)) d1 d2];exact e5
  ·intro h;exact⟨i,t',e1,e2,h⟩
 refine⟨e,fun y hy=>?_,?_⟩
 ·obtain⟨i,hi⟩:=List.getElem?_of_mem (by simpa using hy);obtain⟨t',v',b1,c1,d1⟩:=gt i y hi;rw[ee i y t' hi b1];exact PY I 8 t' t X.A.in1 v' x y v (hts _ (List.mem_of_getElem? b1)) ht (by show X.A.units+1+8<cLine;omega) d1 hx c1 rx
 ·rw[show its.toArray.any e=its.any e by simp,Bool.eq_iff_iff,List.any_eq_true,List.any_eq_true];constructor
  ·rintro⟨u,hu,h⟩
   obtain⟨i,hi⟩:=List.getElem?_of_mem hu;obtain⟨t',v',b1,_⟩:=gt i u hi;rw[ee i u t' hi b1] at h;exact⟨t',List.mem_of_getElem? b1,h⟩
  ·rintro⟨t',ht',h⟩
   obtain⟨i,hi⟩:=List.getElem?_of_mem ht';have l:=(List.getElem?_eq_some_iff.mp hi).1;have e1:its[i]?=some (its[i]'(by omega)):=List.getElem?_eq_getElem _;exact⟨_,List.mem_of_getElem? e1,by rw[ee i _ t' e1 hi];exact h⟩
theorem SH (hu:X.A.units+150<cLine):Il X (compareOp .NotIn) (Y8 true):=by
 intro pins s σ H x y v u Q I rx ry h;obtain⟨p,xs,t,ts,rfl,hp,hx,ht,r,hts,q⟩:=h;cases ry;obtain⟨its,rv,pl,_⟩:=I.list (AO.of (K:=X.K) hp);obtain⟨e,he,ea⟩:=VA hu I hx ht r hts rx rv;refine SeqAt.notIn_listAt e pl.isList he ⟨.bl _,H,I,rfl,?_⟩;rw[ea];exact q
end
def Et (K:W.Frag)(CP CT:Addr):Sp:=fun vs H Q _=>∃p q cs e,vs=[.ref p,.int e.z]/\Ez CP CT H p q cs/\e∈cs/\Q (.int e.k) H
theorem Mx (T:Txt K mg Ab Ad Aa Ae XC)(F:Fun K "count" "Pool.count" CM f fd):FnOk P w K mg base Cf 1 f fd ["self","number"] (Et K Ae Aa):=by
 exists Mg
 ·obtain⟨p,q,cs,e,rfl,_⟩:=h;rfl
 obtain⟨p,q,cs,e,rfl,⟨h1,h2,h4,nd⟩,he,hq⟩:=h;have hu:=BJ hr;refine⟨_,(!Al (!An (!AQ (!BH hu (!AQ (pv 0)) (pv 1) (fun _ _=>rfl))))),?_⟩
 try dsimp only[BP,Cx.nox,Cx.wish]
 have g:Bx H q.dt (.int e.z) (some (.ref e.c)):=by
  have:=Bx.k (k:=Sum.inl e.z) h2;rw[GP nd he] at this;exact this
 exact⟨_,rfl,p,Ae,q.dp,_,_,rfl,h1,T.cl_Pool,T.n_Pool_taken,rfl,_,rfl,q.dt,_,rfl,g,e.c,Aa,e.dx,_,_,rfl,(h4 e he).1,T.cl_TakenCell,T.n_TakenCell_times_named,rfl,hq⟩
def GV (K:W.Frag)(CP CT:Addr):Sp:=fun vs H Q _=>∃p q cs e us,vs=[.ref p,.int e.z]/\Ez CP CT H p q cs/\e∈cs/\H e.l=some (.lst us)/\∀l,H l=none->Q (.ref l) (upd H l (.lst us))
theorem Nh (T:Txt K mg Ab Ad Aa Ae XC)(F:Fun K "tags" "Pool.tags" Dy f fd):FnOk P w K mg base Cf 1 f fd ["self","number"] (GV K Ae Aa):=by
 exists Na
 ·obtain⟨p,q,cs,e,us,rfl,_⟩:=h;rfl
 obtain⟨p,q,cs,e,us,rfl,⟨h1,h2,h4,nd⟩,he,hl,hq⟩:=h;have hu:=BJ hr;have hu9:=Fx hr;refine⟨_,(!Al (!An (!BL CN (by rfl) T.b_list Io (!Ac (!AQ (!BH hu (!AQ (pv 0)) (pv 1) (fun _ _=>rfl))) (!Aj))))),?_⟩
 try dsimp only[BP,Cx.nox,Cx.wish]
 have g:Bx H q.dt (.int e.z) (some (.ref e.c)):=by
  have:=Bx.k (k:=Sum.inl e.z) h2;rw[GP nd he] at this;exact this
 exact⟨_,rfl,p,Ae,q.dp,_,_,rfl,h1,T.cl_Pool,T.n_Pool_taken,rfl,_,rfl,q.dt,_,rfl,g,e.c,Aa,e.dx,_,_,rfl,(h4 e he).1,T.cl_TakenCell,T.n_TakenCell_named,rfl,e.l,_,rfl,.inl (AO.of hl),fun l nl=>hq l nl⟩
def Dh (K:W.Frag)(CP CT:Addr):Sp:=fun vs H Q _=>∃p q cs,vs=[.ref p]/\Ez CP CT H p q cs/\cs.length<=60/\∀(ms:List Int) l,ms.Perm (cs.map (·.z))->ms.Pairwise (·<=·)->H l=none->Q (.ref l) (upd H l (.lst (ms.map V.int)))
theorem KP (T:Txt K mg Ab Ad Aa Ae XC)(F:Fun K "numbers" "Pool.numbers" B0 f fd):FnOk P w K mg base Cf 1 f fd ["self"] (Dh K Ae Aa):=by
 exists K2
 ·obtain⟨p,q,cs,rfl,_⟩:=h;rfl
 obtain⟨p,q,cs,rfl,pa,few,hq⟩:=h;have hu:=BJ hr;refine⟨_,(!Al (!An (!Au (Hs rfl) (by rfl) T.b_sorted EV (!Ac (!AQ (pv 0)) (!Aj))))),?_⟩
 try dsimp only[BP,Cx.nox,Cx.wish]
 exact⟨_,rfl,p,Ae,q.dp,_,_,rfl,pa.1,T.cl_Pool,T.n_Pool_taken,rfl,q.dt,_,cs.map (·.z),rfl,pa.2.1,by unfold Ke;rw[List.map_map,List.map_map];rfl,.inl (by rw[List.length_map];omega),fun ms l pm so nl=>hq ms l pm so nl⟩
def Bf (z:Int)(cs:List Cl):List Cl:=cs.filter fun e=>decide (e.z≠z)
theorem Bg {z:Int}{cs:List Cl}{e:Cl}:e∈Bf z cs↔e∈cs/\e.z≠z:=by
 unfold Bf;rw[List.mem_filter,decide_eq_true_eq]
theorem LJ {g:Cl->V}(z:Int):∀cs:List Cl,C4 (cs.map fun e=>((Sum.inl e.z:Key),g e)) (Sum.inl z)=(Bf z cs).map fun e=>((Sum.inl e.z:Key),g e)
 |[]=>rfl
 |e::cs=>by
  have ih:=LJ (g:=g) z cs;unfold C4 Bf at ih ⊢;rw[List.map_cons]
  by_cases h:e.z=z
  ·rw[List.filter_cons_of_neg (by simp[h]),List.filter_cons_of_neg (by simp[h])];exact ih
  ·rw[List.filter_cons_of_pos (by simp[h]),List.filter_cons_of_pos (by simp[h]),List.map_cons,ih]
theorem Q9 (z:Int):∀ns:List Int,C4 (Mc ns) (Sum.inl z)=Mc (ns.filter fun n=>decide (n≠z))
 |[]=>rfl
 |n::ns=>by
  have ih:=Q9 z ns;unfold C4 Mc at ih ⊢;rw[List.map_cons]
  by_cases h:n=z
  ·rw[List.filter_cons_of_neg (by simp[h]),List.filter_cons_of_neg (by simp[h])];exact ih
  ·rw[List.filter_cons_of_pos (by simp[h]),List.filter_cons_of_pos (by simp[h]),List.map_cons,ih]
theorem Pn (z s:Int)(cs:List Cl):C5 (Bf z cs) s=(C5 cs s).filter fun n=>decide (n≠z):=by
 unfold C5 Bf;rw[List.filter_map,List.filter_filter,List.filter_filter]
 congr 1
 exact List.filter_congr fun e _=>Bool.and_comm _ _
theorem Vo {CP CT:Addr} {H H':Hp} {p:Addr} {q:Pl} {cs:List Cl} {bs:List (Int×Addr)} {e:Cl} {x:Int×Addr} (pa:PAt CP CT H p q cs bs) (he:e∈cs) (hx:x∈bs) (hs:x.1=A8 e.bk) (hp:H' p=some (.ins CP q.dp (ID q.bo q.dt q.dz q.dd (if e.z<q.n then e.z else q.n))))
  (ht:H' q.dt=some (.dK (Ke (Bf e.z cs)))) (hd:H' q.dd=some (.dK (Me (Bf e.z cs)))) (hz:H' x.2=some (.dK (Mc (C5 (Bf e.z cs) x.1)))) (g:∀a,a≠p->a≠q.dt/\a≠q.dd/\a≠x.2->H' a=H a):PAt CP CT H' p { q with n:=if e.z<q.n then e.z else q.n } (Bf e.z cs) bs:=by
 have no:∀{a o},H a=some o->a≠p->(∀kvs,o≠.dK kvs)->H' a=some o:=fun{a o} h n1 n=>(g a n1 ⟨(fun z=>by rw[z,pa.t.2.1] at h;exact n _ (Option.some.inj h).symm),(fun z=>by rw[z,pa.d] at h;exact n _ (Option.some.inj h).symm),fun z=>by rw[z,(pa.b.d x hx).1] at h;exact n _ (Option.some.inj h).symm⟩).trans h
 have nt:∀a ys,H a=some (.tup ys)->H' a=some (.tup ys):=fun a ys h=>no h (AM h pa.t.1 (by intro z;cases z)) (by intro kvs z;cases z)
 have npk:∀{a kvs},H a=some (.dK kvs)->a≠p:=fun{a kvs} h=>AM h pa.t.1 (by intro z;cases z)
 have z1:=pa.z e he;have f1:=pa.f1;refine⟨⟨hp,ht,fun y hy=>?_,pa.t.2.2.2.sublist (List.Sublist.map _ List.filter_sublist)⟩,hd,⟨?_,pa.b.k,pa.b.a,fun y hy=>?_,fun y hy=>pa.b.all y (Bg.mp hy).1⟩,pa.n1,pa.n2,pa.n3,pa.c.sublist (List.Sublist.map _ List.filter_sublist),fun y hy=>pa.z y (Bg.mp hy).1,pa.w,?_,fun i i1 i2=>?_⟩
 ·have hc:=pa.t.2.2.1 y (Bg.mp hy).1;have ncp:y.c≠p:=fun z=>by
   have h1:=hc.1;rw[z,pa.t.1] at h1;have:=Option.some.inj h1;injection this with _ _ this
   injection this with this _
   injection this with this _
   revert this
   decide
  exact hc.tup ((no hc.1 ncp (by intro kvs z;cases z)).trans hc.1.symm) nt
 ·show H' q.dz=_;rw[g q.dz (npk pa.b.h) ⟨Ne.symm pa.n1,pa.n3,Ne.symm (pa.b.d x hx).2.2.1⟩];exact pa.b.h
 ·refine⟨?_,(pa.b.d y hy).2⟩
  by_cases hyx:y=x
  ·subst hyx;exact hz
  ·have n2:y.2≠x.2:=fun z=>hyx (AH pa.b.a hy hx z)
   have n1:y.1≠x.1:=fun z=>hyx (AH pa.b.k hy hx z)
   rw[g y.2 (npk (pa.b.d y hy).1) ⟨(pa.b.d y hy).2.1,(pa.b.d y hy).2.2.2,n2⟩,(pa.b.d y hy).1,Pn]
   congr 2
   refine(congrArg Mc (List.filter_eq_self.mpr fun n hn=>?_)).symm;rw[decide_eq_true_eq];intro z;obtain⟨e',he',hs',hz'⟩:=Gq.mp hn;obtain rfl:=AH pa.t.2.2.2 he' he (hz'.trans z);exact n1 (hs'.symm.trans hs.symm)
 ·show 1<=if e.z<q.n then e.z else q.n
  split<;>omega
 ·have i2:i<if e.z<q.n then e.z else q.n:=i2;obtain⟨y,hy,rfl⟩:=pa.f2 i i1 (by split at i2<;>omega);refine⟨y,Bg.mpr ⟨hy,fun z=>?_⟩,rfl⟩
  split at i2<;>omega
def ER (K:W.Frag)(CP CT:Addr):Sp:=fun vs H Q _=>∃p q cs bs e,vs=[.ref p,.int e.z]/\PAt CP CT H p q cs bs/\e∈cs/\∀(m:Int) H',PAt CP CT H' p { q with n:=m } (Bf e.z cs) bs->(∀a o,H a=some o->a≠p->(∀kvs,o≠.dK kvs)->H' a=some o)->MN (A7 p q cs bs) H H'->Q .non H'
theorem NK (T:Txt K mg Ab Ad Aa Ae XC)(F:Fun K "free" "Pool.free" Dv f fd)(BQ:A2 P w K mg base 1 Ae "tag" ["self","number"] (Ey K Ae Aa)):FnOk P w K mg base Cf 2 f fd ["self","number"] (ER K Ae Aa):=by
 exists NF
 ·obtain⟨p,q,cs,bs,e,rfl,_⟩:=h;rfl
 obtain⟨p,q,cs,bs,e,rfl,pa,he,hq⟩:=h;have hu:=BJ hr;refine⟨_,(!Ah (!Bb (!OM (!BH hu (!AQ (pv 0)) (!Av AJ (!A3 (pv 0) T.cl_Pool BQ (by trivial) (!Ac (pv 1) (!Aj))) (!Ak) (fun _ _=>rfl)) (fun _ _=>rfl)) (pv 1) ⟨rfl,rfl,rfl,rfl⟩)) (!Ah (!Bb (!UQ (!AQ (pv 0)) (pv 1) (!Fk) ⟨rfl,rfl,rfl,rfl⟩)) (!Ah (!Bb (!OM (!AQ (pv 0)) (pv 1) ⟨rfl,rfl,rfl,rfl⟩)) (!Al (!Cm (pv 0) (!Au (R3 rfl) (by rfl) T.b_min Xy (!Ac (!AQ (pv 0)) (!Ac (pv 1) (!Aj))))))))),?_⟩
 try dsimp only[BP,Cx.nox,Cx.wish]
 have ce:=pa.t.2.2.1 e he;obtain⟨x,hx,hs⟩:=pa.b.all e he;have gz:Bx H q.dz (.int (A8 e.bk)) (some (.ref x.2)):=by
  have:=Bx.k (k:=Sum.inl (A8 e.bk)) pa.b.h;rw[<-hs,QS pa.b.k hx,hs] at this;exact this
 refine⟨_,rfl,p,Ae,q.dp,_,_,rfl,pa.t.1,T.cl_Pool,T.n_Pool_by_sums,rfl,_,rfl,p,q.dp,_,rfl,pa.t.1,rfl,_,rfl,p,q,cs,e,rfl,pa.t,he,e.ta,_,_,_,rfl,rfl,AW.of ce.2.1,rfl,q.dz,_,rfl,gz,x.2,rfl,.inl ⟨_,.inl (pa.b.d x hx).1⟩,_,rfl,_,Sum.inl e.z,.bl true,(pa.b.d x hx).1,rfl,?_,?_⟩
 ·refine GI ?_ (List.mem_map.mpr ⟨e.z,Gq.mpr ⟨e,he,hs.symm,rfl⟩,rfl⟩);unfold Mc;rw[List.map_map];refine List.Pairwise.map _ (fun a b (n:a≠b) e=>n (Sum.inl.inj e)) ?_;exact List.Nodup.sublist (List.Sublist.map _ List.filter_sublist) pa.t.2.2.2
 have hdd:(upd H x.2 (.dK (C4 (Mc (C5 cs x.1)) (Sum.inl e.z)))) q.dd=some (.dK (Me cs)):=by rw[Ag (Ne.symm (pa.b.d x hx).2.2.2)];exact pa.d
 have hdt:(upd H x.2 (.dK (C4 (Mc (C5 cs x.1)) (Sum.inl e.z)))) q.dt=some (.dK (Ke cs)):=by rw[Ag (Ne.symm (pa.b.d x hx).2.1)];exact pa.t.2.1
 have nd:∀{a o},H a=some o->(∀kvs,o≠.dK kvs)->a≠x.2:=fun{a o} h n z=>by rw[z,(pa.b.d x hx).1] at h;exact n _ (Option.some.inj h).symm
 have hp:(upd H x.2 (.dK (C4 (Mc (C5 cs x.1)) (Sum.inl e.z)))) p=_:=(Ag (nd pa.t.1 (by intro kvs z;cases z))).trans pa.t.1;refine⟨_,rfl,p,Ae,q.dp,_,_,rfl,hp,T.cl_Pool,T.n_Pool_draft,rfl,q.dd,rfl,.inl ⟨_,.inl hdd⟩,_,rfl,_,Sum.inl e.z,hdd,rfl,?_,?_⟩
 ·intro v hv;dsimp only;generalize e1:upd (upd H x.2 (.dK (C4 (Mc (C5 cs x.1)) (Sum.inl e.z)))) q.dd (.dK (C4 (Me cs) (Sum.inl e.z)))=H2;have npd:p≠q.dd:=AM pa.t.1 pa.d (by intro z;cases z);have npt:p≠q.dt:=AM pa.t.1 pa.t.2.1 (by intro z;cases z);have hp2:H2 p=some (.ins Ae q.dp (ID q.bo q.dt q.dz q.dd q.n)):=by rw[<-e1,Ag npd];exact hp
  have ht2:H2 q.dt=some (.dK (Ke cs)):=by rw[<-e1,Ag pa.n2];exact hdt
  refine⟨_,rfl,p,Ae,q.dp,_,_,rfl,hp2,T.cl_Pool,T.n_Pool_taken,rfl,q.dt,rfl,.inl ⟨_,.inl ht2⟩,_,rfl,_,Sum.inl e.z,_,ht2,rfl,GP pa.t.2.2.2 he,?_⟩;generalize e2:upd H2 q.dt (.dK (C4 (Ke cs) (Sum.inl e.z)))=H3;have hp3:H3 p=some (.ins Ae q.dp (ID q.bo q.dt q.dz q.dd q.n)):=by rw[<-e2,Ag npt];exact hp2
  refine⟨_,rfl,p,Ae,q.dp,_,_,rfl,hp3,T.cl_Pool,T.n_Pool_first_maybe_free,rfl,_,rfl,_,_,rfl,?_⟩;refine⟨_,rfl,p,Ae,q.dp,_,rfl,hp3,T.cl_Pool,T.n_Pool_first_maybe_free,(by show 5<1000;decide),?_⟩;have nx:∀{a o},H a=some o->(∀kvs,o≠.dK kvs)->a≠q.dt/\a≠q.dd/\a≠x.2:=fun{a o} h n=>⟨(fun z=>by rw[z,pa.t.2.1] at h;exact n _ (Option.some.inj h).symm),(fun z=>by rw[z,pa.d] at h;exact n _ (Option.some.inj h).symm),nd h n⟩
  have g:∀{a},a≠p->a≠q.dt/\a≠q.dd/\a≠x.2->∀o,(upd H3 p o) a=H a:=fun{a} n1 n2 o=>by rw[Ag n1,<-e2,Ag n2.1,<-e1,Ag n2.2.1,Ag n2.2.2]
  have npx:p≠x.2:=nd pa.t.1 (by intro kvs z;cases z);refine hq (if e.z<q.n then e.z else q.n) _ (Vo pa he hx hs Af ?_ ?_ ?_ fun a n1 n2=>g n1 n2 _) (fun a o h n1 n2=>(g n1 (nx h n2) _).trans h) fun a o h n=>?_
  ·rw[Ag (Ne.symm npt),<-e2,Af];unfold Ke;rw[LJ]
  ·rw[Ag (Ne.symm npd),<-e2,Ag (Ne.symm pa.n2),<-e1,Af];unfold Me;rw[LJ]
  ·rw[Ag (Ne.symm npx),<-e2,Ag (pa.b.d x hx).2.1,<-e1,Ag (pa.b.d x hx).2.2.2,Af,Q9,Pn]
  ·unfold A7 at n;simp only[List.mem_cons,List.mem_append,not_or] at n;exact(g n.1 ⟨n.2.1,n.2.2.2.1,fun z=>n.2.2.2.2.1 (by rw[z];exact List.mem_map.mpr ⟨x,hx,rfl⟩)⟩ _).trans h
 ·intro hv;rw[QI pa.t.2.2.2 he] at hv;cases hv
def Nf (L:List (Int×List Int))(X:List Int)(z:Int):Prop:=(∀x∈L,z∉x.2)/\z∉X
def LZ (z:Int)(L:List (Int×List Int)):List (Int×List Int):=L.filter fun x=>decide (x.1≠z)
theorem De {z:Int}{L:List (Int×List Int)}{x:Int×List Int}:x∈LZ z L↔x∈L/\x.1≠z:=by
 unfold LZ;rw[List.mem_filter,decide_eq_true_eq]
theorem Nf.sub {L M:List (Int×List Int)}{X Y:List Int}{z:Int}(h:Nf L X z)(hs:∀x∈M,x∈L)(hx:∀x∈Y,x∈X):Nf M Y z:=⟨fun x hx=>h.1 x (hs x hx),fun hz=>h.2 (hx z hz)⟩
inductive Cas (X:List Int) (Z:Int->Prop):List (Int×List Int)->List (Int×List Int)->Prop
 |refl (L:List (Int×List Int)):Cas X Z L L
 |step {L M:List (Int×List Int)} (z:Int) (h:Nf L X z) (hz:¬Z z) (t:Cas X Z (LZ z L) M):Cas X Z L M
theorem Cas.trans {X:List Int}{Z:Int->Prop}{L M N:List (Int×List Int)}(a:Cas X Z L M)(b:Cas X Z M N):Cas X Z L N:=by
 induction a with
 |refl=>exact b
 |step z h hz _ ih=>exact .step z h hz (ih b)
theorem Cas.weak {X Y:List Int}{Z W:Int->Prop}{L M:List (Int×List Int)}(a:Cas X Z L M)(hx:∀x∈Y,x∈X)(hz:∀z,W z->Z z):Cas Y W L M:=by
 induction a with
 |refl=>exact .refl _
 |step z h hn _ ih=>exact .step z (h.sub (fun _ h=>h) hx) (fun w=>hn (hz z w)) ih
theorem Cas.sub {X:List Int}{Z:Int->Prop}{L M:List (Int×List Int)}(a:Cas X Z L M):∀x∈M,x∈L:=by
 induction a with
 |refl=>exact fun _ h=>h
 |step z h hn _ ih=>exact fun x hx=>(De.mp (ih x hx)).1
theorem Cas.keep {X:List Int}{Z:Int->Prop}{L M:List (Int×List Int)}(a:Cas X Z L M){x:Int×List Int}(hx:x∈L)(hz:Z x.1):x∈M:=by
 induction a with
 |refl=>exact hx
 |step z h hn _ ih=>exact ih (De.mpr ⟨hx,fun e=>hn (by rw[<-e];exact hz)⟩)
theorem Cas.conf {X:List Int}{Z:Int->Prop}{L M N:List (Int×List Int)}(a:Cas X Z L M)(hs:∀x∈N,x∈L)(hc:∀x∈N,Nf N X x.1->Z x.1):∀x∈N,x∈M:=by
 induction a with
 |refl=>exact hs
 |step z h hn _ ih=>exact ih fun x hx=>De.mpr ⟨hs x hx,fun e=>hn (by rw[<-e];exact hc x hx (by rw[e];exact h.sub hs fun _ h=>h))⟩
def Lc (cs:List Cl):List (Int×List Int):=cs.map fun e=>(e.z,(As e.bk).map (·.1))
theorem FK (z:Int)(cs:List Cl):Lc (Bf z cs)=LZ z (Lc cs):=by
 unfold Lc Bf LZ;rw[List.filter_map];rfl
theorem C8 {cs:List Cl}{e:Cl}(h:e∈cs):(e.z,(As e.bk).map (·.1))∈Lc cs:=List.mem_map.mpr ⟨e,h,rfl⟩
def D7 (L:List (Int×List Int))(z:Int):Nat:=(L.map fun x=>x.2.count z).sum
theorem Gw (x:Int×List Int)(L:List (Int×List Int))(z:Int):D7 (x::L) z=x.2.count z+D7 L z:=by unfold D7;rw[List.map_cons,List.sum_cons]
theorem Q7 (L M:List (Int×List Int))(z:Int):D7 (L++M) z=D7 L z+D7 M z:=by unfold D7;rw[List.map_append,List.sum_append]
theorem Co {z:Int}:∀{L:List (Int×List Int)},D7 L z=0↔∀x∈L,z∉x.2
 |[]=>⟨(fun _ _ h=>nomatch h),fun _=>rfl⟩
 |x::L=>by
  rw[Gw,Nat.add_eq_zero_iff,List.count_eq_zero,Co];exact⟨fun h y hy=>(List.mem_cons.mp hy).elim (fun e=>by rw[e];exact h.1) (h.2 y),fun h=>⟨h x List.mem_cons_self,fun y hy=>h y (List.mem_cons_of_mem _ hy)⟩⟩
theorem Rx {L:List (Int×List Int)}(nd:(L.map (·.1)).Nodup){x:Int×List Int}(hx:x∈L)(z:Int):D7 L z=x.2.count z+D7 (LZ x.1 L) z:=by
 induction L with
 |nil=>nomatch hx
 |cons y L ih=>
  rw[List.map_cons,List.nodup_cons] at nd;rcases List.mem_cons.mp hx with rfl|hx
  ·have e:LZ x.1 (x::L)=L:=by
    unfold LZ;rw[List.filter_cons_of_neg (by simp)];exact List.filter_eq_self.mpr fun y hy=>by
     have n:y.1≠x.1:=fun z=>nd.1 (List.mem_map.mpr ⟨y,hy,z⟩)
     simpa using n
   rw[e,Gw]
  ·have n:y.1≠x.1:=fun z=>nd.1 (by rw[z];exact List.mem_map.mpr ⟨x,hx,rfl⟩)
   have e:LZ x.1 (y::L)=y::LZ x.1 L:=by
    unfold LZ;rw[List.filter_cons_of_pos (by simpa using n)]
   rw[e,Gw,Gw,ih nd.2 hx];omega
structure Rt (cs:List Cl) (X:List Int):Prop where
 k:∀e∈cs,e.k=(D7 (Lc cs) e.z:Int)+(X.count e.z:Int)
 x:∀z∈X,∃e∈cs,e.z=z
 n:∀e∈cs,∀t∈As e.bk,∃c∈cs,c.z=t.1
def kf (g:Cl->Int)(e:Cl):Cl:={ e with k:=g e }
theorem WM (g:Cl->Int)(cs:List Cl):Ke (cs.map (kf g))=Ke cs:=by unfold Ke;rw[List.map_map];rfl
theorem X0 (g:Cl->Int)(cs:List Cl):Me (cs.map (kf g))=Me cs:=by unfold Me;rw[List.map_map];rfl
theorem X7 (g:Cl->Int)(cs:List Cl):(cs.map (kf g)).map (·.z)=cs.map (·.z):=by rw[List.map_map];rfl
theorem WA (g:Cl->Int)(cs:List Cl):(cs.map (kf g)).map (·.c)=cs.map (·.c):=by rw[List.map_map];rfl
theorem Ku (g:Cl->Int)(cs:List Cl):Lc (cs.map (kf g))=Lc cs:=by unfold Lc;rw[List.map_map];rfl
theorem VS (g:Cl->Int)(s:Int)(cs:List Cl):C5 (cs.map (kf g)) s=C5 cs s:=by
 unfold C5;rw[List.filter_map,List.map_map];rfl
theorem PAt.setK {CP CT:Addr}{H H':Hp}{p:Addr}{q:Pl}{cs:List Cl}{bs:List (Int×Addr)}{g:Cl->Int}(h:PAt CP CT H p q cs bs)(hc:∀e∈cs,H' e.c=some (.ins CT e.dx (Dd e.ta ((wT (Ce e.bk)).length:Int) e.l (g e) e.en e.st)))(ho:∀a,a∉cs.map (·.c)->H' a=H a):PAt CP CT H' p q (cs.map (kf g)) bs:=by
 have nc:∀{a o},H a=some o->(∀C d fs,o≠.ins C d fs)->H' a=some o:=fun{a o} h1 n=>(ho a fun hm=>by
  obtain⟨e,he,rfl⟩:=List.mem_map.mp hm;rw[(h.t.2.2.1 e he).1] at h1;exact n _ _ _ (Option.some.inj h1).symm).trans h1
 have np:p∉cs.map (·.c):=fun hm=>by
  obtain⟨e,he,z⟩:=List.mem_map.mp hm;have h1:=(h.t.2.2.1 e he).1;rw[z,h.t.1] at h1;have:=Option.some.inj h1;injection this with _ _ this
  injection this with this _
  injection this with this _
  revert this
  decide
 have nt:∀a ys,H a=some (.tup ys)->H' a=some (.tup ys):=fun a ys h1=>nc h1 (by intro C d fs z;cases z)
 refine⟨⟨(ho p np).trans h.t.1,by rw[WM];exact nc h.t.2.1 (by intro C d fs z;cases z),fun e he=>?_,by rw[X7];exact h.t.2.2.2⟩,by rw[X0];exact nc h.d (by intro C d fs z;cases z),⟨nc h.b.h (by intro C d fs z;cases z),h.b.k,h.b.a,fun x hx=>⟨by rw[VS];exact nc (h.b.d x hx).1 (by intro C d fs z;cases z),(h.b.d x hx).2⟩,fun e he=>?_⟩,h.n1,h.n2,h.n3,by rw[WA];exact h.c,fun e he=>?_,h.w,h.f1,fun i i1 i2=>?_⟩
 ·obtain⟨y,hy,rfl⟩:=List.mem_map.mp he;obtain⟨a1,a2,a3,a4⟩:=h.t.2.2.1 y hy;exact⟨hc y hy,nt _ _ a2,Cz nt _ _ a3,a4⟩
 ·obtain⟨y,hy,rfl⟩:=List.mem_map.mp he;exact h.b.all y hy
 ·obtain⟨y,hy,rfl⟩:=List.mem_map.mp he;exact h.z y hy
 ·obtain⟨y,hy,rfl⟩:=h.f2 i i1 i2;exact⟨kf g y,List.mem_map.mpr ⟨y,hy,rfl⟩,rfl⟩
theorem Rt.congr {cs:List Cl}{X Y:List Int}(h:Rt cs X)(e:∀z,X.count z=Y.count z):Rt cs Y:=
 ⟨fun c hc=>by rw[<-e];exact h.k c hc,fun z hz=>h.x z (by rw[<-List.count_pos_iff,e,List.count_pos_iff];exact hz),h.n⟩
def minus (e x:Cl):Int:=if x.z=e.z then e.k-1 else x.k
theorem Rt.dec {cs:List Cl}{X:List Int}{e:Cl}(h:Rt cs (e.z::X))(nd:(cs.map (·.z)).Nodup)(he:e∈cs):Rt (cs.map (kf (minus e))) X:=by
 have up:∀z:Int,(∃c∈cs,c.z=z)->∃c∈cs.map (kf (minus e)),c.z=z:=fun z ⟨c,hc,hz⟩=>⟨_,List.mem_map.mpr ⟨c,hc,rfl⟩,hz⟩
 refine⟨fun c hc=>?_,fun z hz=>up z (h.x z (List.mem_cons_of_mem _ hz)),fun c hc t ht=>?_⟩
 ·obtain⟨y,hy,rfl⟩:=List.mem_map.mp hc;rw[Ku];show minus e y=(D7 (Lc cs) y.z:Int)+(X.count y.z:Int);have hk:=h.k y hy;unfold minus
  by_cases hz:y.z=e.z
  ·obtain rfl:=AH nd hy he hz;rw[if_pos rfl,hk,List.count_cons_self];omega
  ·rw[if_neg hz,hk,List.count_cons_of_ne (fun z=>hz z.symm)]
 ·obtain⟨y,hy,rfl⟩:=List.mem_map.mp hc;exact up _ (h.n y hy t ht)
theorem GF {cs:List Cl}(nd:(cs.map (·.z)).Nodup):((Lc cs).map (·.1)).Nodup:=by
 unfold Lc;rw[List.map_map];exact nd
theorem Rt.none {cs:List Cl}{X:List Int}{e:Cl}(h:Rt cs X)(he:e∈cs)(hk:e.k=0):Nf (Lc cs) X e.z:=by
 have:=h.k e he;exact⟨Co.mp (by omega),List.count_eq_zero.mp (by omega)⟩
theorem Rt.out {cs:List Cl}{X:List Int}{e:Cl}(h:Rt cs X)(nd:(cs.map (·.z)).Nodup)(he:e∈cs)(hk:e.k=0):Rt (Bf e.z cs) ((As e.bk).map (·.1)++X):=by
 have nf:=h.none he hk;have ex:∀z:Int,z≠e.z->(∃c∈cs,c.z=z)->∃c∈Bf e.z cs,c.z=z:=fun z n ⟨c,hc,hz⟩=>⟨c,Bg.mpr ⟨hc,by rw[hz];exact n⟩,hz⟩
 refine⟨fun c hc=>?_,fun z hz=>?_,fun c hc t ht=>?_⟩
 ·have hc':=(Bg.mp hc).1;rw[h.k c hc',Rx (GF nd) (C8 he) c.z,FK,List.count_append];simp only[Int.natCast_add];omega
 ·rcases List.mem_append.mp hz with hz|hz
  ·obtain⟨t,ht,rfl⟩:=List.mem_map.mp hz;exact ex _ (fun z=>nf.1 _ (C8 he) (by rw[<-z];exact List.mem_map.mpr ⟨t,ht,rfl⟩)) (h.n e he t ht)
  ·exact ex z (fun e1=>nf.2 (by rw[<-e1];exact hz)) (h.x z hz)
 ·have hc':=(Bg.mp hc).1;exact ex _ (fun z=>nf.1 _ (C8 hc') (by rw[<-z];exact List.mem_map.mpr ⟨t,ht,rfl⟩)) (h.n c hc' t ht)
def Ob (H:Hp)(cs:List Cl):Prop:=∀e∈cs,∃us,H e.l=some (.lst us)/\Ax NL H ((As e.bk).map Fn) us
def Pp (H:Hp)(zs:List Int)(us:List V):Prop:=us.length=zs.length/\∀(i:Nat) z,zs[i]?=some z->∃a r,us[i]?=some (.ref a)/\H a=some (.tup (.int z::r))
theorem MU {b:Bk}(ok:DH b):(As b).length<=16:=by
 cases b with
 |piece z=>exact Nat.zero_le _
 |row lv ts=>
  have:=ok.2.1;show ts.length<=16;omega
 |folder es=>
  show(es.map _).length<=16;rw[List.length_map];exact ok.1
def Po (cs:List Cl):Nat:=(cs.map fun e=>(As e.bk).length).sum
theorem RA {cs:List Cl}(nd:(cs.map (·.z)).Nodup){e:Cl}(he:e∈cs):Po cs=(As e.bk).length+Po (Bf e.z cs):=by
 unfold Po
 induction cs with
 |nil=>nomatch he
 |cons y L ih=>
  rw[List.map_cons,List.nodup_cons] at nd;rcases List.mem_cons.mp he with rfl|hx
  ·have e1:Bf e.z (e::L)=L:=by
    unfold Bf;rw[List.filter_cons_of_neg (by simp)];exact List.filter_eq_self.mpr fun y hy=>by
     have n:y.z≠e.z:=fun z=>nd.1 (List.mem_map.mpr ⟨y,hy,z⟩)
     simpa using n
   rw[e1,List.map_cons,List.sum_cons]
  ·have n:y.z≠e.z:=fun z=>nd.1 (by rw[z];exact List.mem_map.mpr ⟨e,hx,rfl⟩)
   have e1:Bf e.z (y::L)=y::Bf e.z L:=by
    unfold Bf;rw[List.filter_cons_of_pos (by simpa using n)]
   rw[e1,List.map_cons,List.map_cons,List.sum_cons,List.sum_cons,ih nd.2 hx];omega
theorem Xm {cs:List Cl}(h:∀e∈cs,(As e.bk).length<=16):Po cs<=16*cs.length:=by
 unfold Po
 induction cs with
 |nil=>exact Nat.zero_le _
 |cons y L ih=>
  rw[List.map_cons,List.sum_cons,List.length_cons];have:=h y List.mem_cons_self;have:=ih fun e he=>h e (List.mem_cons_of_mem _ he)
  omega
theorem TV (g:Cl->Int)(cs:List Cl):Po (cs.map (kf g))=Po cs:=by unfold Po;rw[List.map_map];rfl
theorem PAt.cp {CP CT:Addr}{H:Hp}{p:Addr}{q:Pl}{cs:List Cl}{bs:List (Int×Addr)}(h:PAt CP CT H p q cs bs){e:Cl}(he:e∈cs):e.c≠p:=fun z=>by
 have h1:=(h.t.2.2.1 e he).1;rw[z,h.t.1] at h1;have:=Option.some.inj h1;injection this with _ _ this
 injection this with this _
 injection this with this _
 revert this
 decide
theorem Pp.app {H:Hp}{zs ys:List Int}{us vs:List V}(h1:Pp H zs us)(h2:Pp H ys vs):Pp H (zs++ys) (us++vs):=by
 refine⟨by rw[List.length_append,List.length_append,h1.1,h2.1],fun i z h=>?_⟩
 by_cases hi:i<zs.length
 ·rw[List.getElem?_append_left hi] at h;rw[List.getElem?_append_left (by rw[h1.1];exact hi)];exact h1.2 i z h
 ·rw[List.getElem?_append_right (by omega)] at h;rw[List.getElem?_append_right (by rw[h1.1];omega),h1.1];exact h2.2 _ z h
theorem Pp.reps {H:Hp}{ts:List Tg}{us:List V}(h:Ax NL H (ts.map Fn) us):Pp H (ts.map (·.1)) us:=by
 refine⟨by rw[Ax.len _ _ h,List.length_map,List.length_map],fun i z hz=>?_⟩;have hi:i<ts.length:=by have:=(List.getElem?_eq_some_iff.mp hz).1;rwa [List.length_map] at this
 have lu:=Ax.len _ _ h;rw[List.length_map] at lu;obtain⟨t,e1,e2⟩:=Ax.get h (List.getElem?_eq_getElem (by omega:i<us.length));rw[List.getElem?_map,List.getElem?_eq_getElem hi] at e1 hz;cases e1;cases hz;obtain⟨a,ea,ha⟩:=GC e2;exact⟨a,_,by rw[List.getElem?_eq_getElem (by omega),ea],ha⟩
theorem Pp.keep {H H':Hp}{zs:List Int}{us:List V}(h:Pp H zs us)(k:∀a ys,H a=some (.tup ys)->H' a=some (.tup ys)):Pp H' zs us:=⟨h.1,fun i z hz=>by
 obtain⟨a,r,h1,h2⟩:=h.2 i z hz;exact⟨a,r,h1,k _ _ h2⟩⟩
def Dj (K:W.Frag)(CP CT:Addr):Sp:=fun vs H Q _=>∃p q cs bs,∃(ta:Addr) (z:Int) (r:List V) (X:List Int),vs=[.ref p,.ref ta]/\PAt CP CT H p q cs bs/\cs.length<=60/\H ta=some (.tup (.int z::r))/\Ob H cs/\Rt cs (z::X)/\
 ∀(m:Int) H' cs',PAt CP CT H' p { q with n:=m } cs' bs->Ob H' cs'->Rt cs' X->Cas X (fun u=>Nf (Lc cs) X u/\u≠z) (Lc cs) (Lc cs')->(∀x∈Lc cs',Nf (Lc cs') X x.1->Nf (Lc cs) X x.1/\x.1≠z)->(∀e∈cs',∃k,{ e with k:=k }∈cs)->MN (A7 p q cs bs) H H'->Q .non H'
theorem KZ (T:Txt K mg Ab Ad Aa Ae XC)(F:Fun K "release" "Pool.release" B3 f fd)(Du:A2 P w K mg base 2 Ae "free" ["self","number"] (ER K Ae Aa)):FnOk P w K mg base Cf 3 f fd ["self","tag"] (Dj K Ae Aa):=by
 exists Dg
 ·obtain⟨p,q,cs,bs,ta,z,r,X,rfl,_⟩:=h;rfl
 obtain⟨p,q,cs,bs,ta,z,r,X,rfl,pa,few,hta,na,rt,hq⟩:=h;have hu:=BJ hr;refine⟨_,(!Ah (@AG _ _ (2) _ _ _ _ Dg.nd rfl (by trivial) (!BY (!Ac (pv 1) (!Aj))) (by rfl) (by trivial)) (!Al (!L9 PassesOwn.never (!AA MX (!Au AK (by rfl) T.b_len BG (!Ac (pv 2) (!Aj))) (!Ak) (AC _)) (!Ah (@AG _ _ (3) _ _ _ _ Dg.nd rfl (by trivial) (!Av AJ (!UV PySem.F.plainAttrs_list PySem.F.slot_list_pop PySem.F.type_list_pop U8 (pv 2)) (!Ak) (fun _ _=>rfl)) (by rfl) (by trivial)) (!Ah (@AG _ _ (4) _ _ _ _ Dg.nd rfl (by trivial) (!BH hu (!AQ (pv 0)) (pv 3) (fun _ _=>rfl)) (by rfl) (by trivial)) (!Ah (!Gh (pv 4) (!Ak) Vr) (!Al (!AS (!AA Bh (!AQ (pv 4)) (!Ak) (AC _)) (!Ah (!Bb (!A3 (pv 0) T.cl_Pool Du (by trivial) (!Ac (pv 3) (!Aj)))) (!Al (!Bb (!Hd PySem.F.plainAttrs_list PySem.F.slot_list_extend PySem.F.type_list_extend Iu (pv 2) (!Ac (!AQ (pv 4)) (!Aj)))))) (!Aw))))))))),?_⟩
 try dsimp only[BP,Cx.nox,Cx.wish]
 have hwl0:∀{wl:Addr},H wl=none->∀e∈cs,e.l≠wl:=fun h e he z=>by
  obtain⟨us,h1,_⟩:=na e he;rw[z,h] at h1;cases h1
 refine⟨_,rfl,VM,fun wl hwl=>?_⟩;have nwl:=hwl0 hwl;have s1:=Am hwl (.lst [.ref ta]);refine⟨fun m σ H2=>∃(cs1:List Cl) (m1:Int) (W:List Int) (us:List V) (v3 v4:Option V),m=Po cs1+W.length/\m<=10000/\σ=[some (.ref p),some (.ref ta),some (.ref wl),v3,v4]/\PAt Ae Aa H2 p { q with n:=m1 } cs1 bs/\Ob H2 cs1/\H2 wl=some (.lst us)/\Pp H2 W us/\Rt cs1 (W++X)/\
  Cas X (fun u=>Nf (Lc cs) X u/\u≠z) (Lc cs) (Lc cs1)/\(∀u∈W,¬(Nf (Lc cs) X u/\u≠z))/\(∀x∈Lc cs1,Nf (Lc cs1) (W++X) x.1->Nf (Lc cs) X x.1/\x.1≠z)/\(∀e∈cs1,∃k,{ e with k:=k }∈cs)/\MN (A7 p q cs bs) H H2,⟨_,cs,q.n,[z],[.ref ta],none,none,rfl,?_,rfl,pa.same s1,?_,Af,⟨rfl,fun i z' h=>?_⟩,rt,.refl _,?_,?_,fun e he=>⟨e.k,he⟩,Ar.frm s1⟩,?_⟩
 ·have:=Xm fun e he=>MU (pa.t.2.2.1 e he).2.2.2
  show Po cs+1<=10000;omega
 ·intro e he;obtain⟨us,h1,h2⟩:=na e he;exact⟨us,s1.get h1,Ax.same s1 _ _ h2⟩
 ·cases i with
  |zero=>cases h;exact⟨ta,r,rfl,s1.get hta⟩
  |succ i=>simp at h
 ·intro u hu;rw[List.mem_singleton.mp hu];exact fun h=>h.2 rfl
 ·intro x hx h;exact⟨h.sub (fun _ h=>h) (fun y hy=>List.mem_cons_of_mem _ hy),fun e=>h.2 (by rw[e];exact List.mem_cons_self)⟩
 rintro m σ H2 ⟨cs1,m1,W,us,v3,v4,rfl,hm,rfl,pa1,na1,hw,wa,rt1,ca,nz,cl,sb,fr⟩
 refine⟨_,rfl,wl,_,rfl,.inl (AO.of hw),_,_,rfl,rfl,_,rfl,C7 (fun c=>?_) (fun c=>?_)⟩
 ·have c:0<us.length:=by have:=of_decide_eq_true c;omega
  refine⟨fun σ' H'=>∃(cs1':List Cl) (m1:Int) (W':List Int) (us:List V) (v3 v4:Option V),Po cs1'+W'.length<Po cs1+W.length/\σ'=[some (.ref p),some (.ref ta),some (.ref wl),v3,v4]/\PAt Ae Aa H' p { q with n:=m1 } cs1' bs/\Ob H' cs1'/\H' wl=some (.lst us)/\Pp H' W' us/\Rt cs1' (W'++X)/\
   Cas X (fun u=>Nf (Lc cs) X u/\u≠z) (Lc cs) (Lc cs1')/\(∀u∈W',¬(Nf (Lc cs) X u/\u≠z))/\(∀x∈Lc cs1',Nf (Lc cs1') (W'++X) x.1->Nf (Lc cs) X x.1/\x.1≠z)/\(∀e∈cs1',∃k,{ e with k:=k }∈cs)/\MN (A7 p q cs bs) H H',fun σ' H' ⟨c1,c2,c3,c4,c5,c6,c7,c8⟩=>⟨_,c7,c1,c2,c3,c4,c5,c6,rfl,by omega,c8⟩,?_⟩
  have wn:W≠[]:=fun z=>by rw[z] at wa;have:=wa.1;rw[List.length_nil] at this;omega
  obtain⟨W',n,rfl⟩:∃W' n,W=W'++[n]:=⟨W.dropLast,W.getLast wn,(List.dropLast_concat_getLast wn).symm⟩
  have lw:=wa.1;rw[List.length_append,List.length_singleton] at lw;obtain⟨a,ra,hla,ha⟩:=wa.2 W'.length n (by simp);have hl2:us[us.length-1]?=some (.ref a):=by rw[show us.length-1=W'.length by omega];exact hla
  have s3:∀b o,H2 b=some o->b≠wl->(upd H2 wl (.lst us.dropLast)) b=some o:=fun b o h n=>by rw[Ag n];exact h
  have t3:∀b ys,H2 b=some (.tup ys)->(upd H2 wl (.lst us.dropLast)) b=some (.tup ys):=fun b ys h=>s3 b _ h (AM h hw (by intro z;cases z))
  have kp:∀(b:Addr) o,H2 b=some o->(∀ys,o≠.lst ys)->(upd H2 wl (.lst us.dropLast)) b=some o:=fun b o h n=>s3 b o h (fun z=>by rw[z,hw] at h;exact n _ (Option.some.inj h).symm)
  have pa3:PAt Ae Aa (upd H2 wl (.lst us.dropLast)) p { q with n:=m1 } cs1 bs:=pa1.lst hw;obtain⟨e,he,hze⟩:=rt1.x n (by simp);subst hze;have ce:=pa3.t.2.2.1 e he;have g:Bx (upd H2 wl (.lst us.dropLast)) q.dt (.int e.z) (some (.ref e.c)):=by
   have:=Bx.k (k:=Sum.inl e.z) pa3.t.2.1;rw[GP pa3.t.2.2.2 he] at this;exact this
  refine⟨_,rfl,.inl ⟨rfl,_,AO.of hw⟩,wl,us,_,rfl,rfl,hw,hl2,a,_,_,_,rfl,rfl,AW.of (t3 a _ ha),Hq,?_⟩;refine⟨_,rfl,p,Ae,q.dp,_,_,rfl,pa3.t.1,T.cl_Pool,T.n_Pool_taken,rfl,_,rfl,q.dt,_,rfl,g,?_⟩;refine⟨_,rfl,e.c,Aa,e.dx,_,_,rfl,ce.1,T.cl_TakenCell,T.n_TakenCell_times_named,rfl,_,_,rfl,rfl,e.dx,_,ce.1,(by show 6<1000;decide),?_⟩;have rt2:Rt (cs1.map (kf (minus e))) (W'++X):=(rt1.congr (Y:=e.z::(W'++X)) fun z=>by simp only[List.count_append,List.count_cons,List.count_nil];omega).dec pa3.t.2.2.2 he;generalize e4:upd (upd H2 wl (.lst us.dropLast)) e.c (.ins Aa e.dx (Dd e.ta ((wT (Ce e.bk)).length:Int) e.l (e.k-1) e.en e.st))=H4;have e4':upd (upd H2 wl (.lst us.dropLast)) e.c (.ins Aa e.dx (Eu "times_named" (V.int (e.k-1)) (Dd e.ta ((wT (Ce e.bk)).length:Int) e.l e.k e.en e.st)))=H4:=e4;rw[e4'];have k4:∀(b:Addr) o,H2 b=some o->b≠wl->(∀C d fs,o≠.ins C d fs)->H4 b=some o:=fun b o h n1 n2=>by
   have h3:=s3 b o h n1;rw[<-e4,Ag (fun z=>by rw[z,ce.1] at h3;exact n2 _ _ _ (Option.some.inj h3).symm)];exact h3
  have t4:∀b ys,H2 b=some (.tup ys)->H4 b=some (.tup ys):=fun b ys h=>k4 b _ h (AM h hw (by intro z;cases z)) (by intro C d fs z;cases z)
  have pa4:PAt Ae Aa H4 p { q with n:=m1 } (cs1.map (kf (minus e))) bs:=by
   refine pa3.setK (fun x hx=>?_) fun a ha=>?_
   ·unfold minus
    by_cases hz:x.z=e.z
    ·obtain rfl:=AH pa3.t.2.2.2 hx he hz;rw[if_pos rfl,<-e4,Af]
    ·rw[if_neg hz,<-e4,Ag (fun z=>hz (by rw[AH pa3.c hx he z]))];exact(pa3.t.2.2.1 x hx).1
   ·rw[<-e4,Ag (fun z=>ha (by rw[z];exact List.mem_map.mpr ⟨e,he,rfl⟩))]
  have nl1:∀x∈cs1,x.l≠wl:=fun x hx=>by
   obtain⟨k,hk⟩:=sb x hx;have:=nwl _ hk;exact this
  have na4:Ob H4 (cs1.map (kf (minus e))):=fun x hx=>by
   obtain⟨y,hy,rfl⟩:=List.mem_map.mp hx;obtain⟨ys,h1,h2⟩:=na1 y hy;exact⟨ys,k4 _ _ h1 (nl1 y hy) (by intro C d fs z;cases z),AV t4 _ _ h2⟩
  have hw4:H4 wl=some (.lst us.dropLast):=by rw[<-e4,Ag (fun z=>by have:=ce.1;rw[<-z,Af] at this;cases this),Af]
  have wa4:Pp H4 W' us.dropLast:=⟨by rw[List.length_dropLast];omega,fun i z' h=>by
   have hi:i<W'.length:=(List.getElem?_eq_some_iff.mp h).1;obtain⟨b,rb,h1,h2⟩:=wa.2 i z' (by rw[List.getElem?_append_left hi];exact h);exact⟨b,rb,by rw[List.getElem?_dropLast,if_pos (by omega)];exact h1,t4 _ _ h2⟩⟩
  have sb4:∀x∈cs1.map (kf (minus e)),∃k,{ x with k:=k }∈cs:=fun x hx=>by
   obtain⟨y,hy,rfl⟩:=List.mem_map.mp hx;exact sb y hy
  have mc:e.c∈A7 p q cs bs:=by
   obtain⟨k,hk⟩:=sb e he;unfold A7;simp only[List.mem_cons,List.mem_append];exact .inr (.inr (.inr (.inr (.inr (List.mem_map.mpr ⟨_,hk,rfl⟩)))))
  have fr4:MN (A7 p q cs bs) H H4:=fun a o h n=>by
   rw[<-e4,Ag (fun z=>n (by rw[z];exact mc)),Ag (fun z=>by rw[z,hwl] at h;cases h)];exact fr a o h n
  have he4:kf (minus e) e∈cs1.map (kf (minus e)):=List.mem_map.mpr ⟨e,he,rfl⟩;have hc4:=(pa4.t.2.2.1 _ he4).1;have ek:minus e e=e.k-1:=by unfold minus;rw[if_pos rfl]
  have hc4':H4 e.c=some (.ins Aa e.dx (Dd e.ta ((wT (Ce e.bk)).length:Int) e.l (e.k-1) e.en e.st)):=by rw[<-ek];exact hc4
  refine⟨_,rfl,e.c,Aa,e.dx,_,_,rfl,hc4',T.cl_TakenCell,T.n_TakenCell_times_named,rfl,rfl,_,rfl,C7 (fun c0=>?_) (fun c0=>?_)⟩
  ·have c0:e.k-1=0:=V.int.inj (of_decide_eq_true c0);have ek0:(kf (minus e) e).k=0:=ek.trans c0;refine⟨_,rfl,p,q.dp,_,rfl,pa4.t.1,rfl,_,rfl,p,_,_,bs,kf (minus e) e,rfl,pa4,he4,fun m5 H5 pa5 kp5 fr5=>?_⟩;obtain⟨zs,hz1,hz2⟩:=na4 _ he4;have kt5:∀a ys,H4 a=some (.tup ys)->H5 a=some (.tup ys):=fun a ys h=>kp5 a _ h (AM h pa4.t.1 (by intro z;cases z)) (by intro kvs z;cases z)
   have kl5:∀a ys,H4 a=some (.lst ys)->H5 a=some (.lst ys):=fun a ys h=>kp5 a _ h (AM h pa4.t.1 (by intro z;cases z)) (by intro kvs z;cases z)
   have l5:H5 e.l=some (.lst zs):=kl5 _ _ hz1;have w5:=kl5 _ _ hw4;have c5:=kp5 _ _ hc4' (pa3.cp he) (by intro kvs z;cases z);have z5:Ax NL H5 ((As e.bk).map Fn) zs:=AV kt5 _ _ hz2;have lz:zs.length=(As e.bk).length:=by rw[Ax.len _ _ z5,List.length_map]
   have mo:=RA pa3.t.2.2.2 he;have lw4:=wa4.1;have hm2:Po cs1+(W'.length+1)<=10000:=by simpa using hm
   refine⟨_,rfl,.inl ⟨rfl,_,AO.of w5⟩,_,rfl,e.c,Aa,e.dx,_,_,rfl,c5,T.cl_TakenCell,T.n_TakenCell_named,rfl,wl,e.l,_,_,rfl,rfl,w5,l5,small (by show us.dropLast.length+zs.length<=1000000;omega),?_⟩;have k6:∀a ys,H5 a=some (.tup ys)->(upd H5 wl (.lst (us.dropLast++zs))) a=some (.tup ys):=fun a ys h=>by rw[Ag (AM h w5 (by intro z;cases z))];exact h
   refine⟨Bf e.z (cs1.map (kf (minus e))),m5,W'++(As e.bk).map (·.1),us.dropLast++zs,_,_,?_,rfl,pa5.lst w5,fun x hx=>?_,Af,(wa4.app (Pp.reps hz2)).keep fun a ys h=>k6 a ys (kt5 a ys h),?_,?_,fun u hu=>?_,fun x hx hn=>?_,fun x hx=>sb4 x (Bg.mp hx).1,fun a o h n=>?_⟩
   ·have:Po (cs1.map (kf (minus e)))=_:=RA (pa4.t.2.2.2) he4;rw[TV] at this;have this:Po cs1=(As e.bk).length+Po (Bf e.z (cs1.map (kf (minus e)))):=this;rw[List.length_append,List.length_append,List.length_map,List.length_singleton];omega
   ·have hx':=(Bg.mp hx).1;obtain⟨ys,h1,h2⟩:=na4 x hx';obtain⟨y,hy,rfl⟩:=List.mem_map.mp hx';refine⟨ys,by rw[Ag (show(kf (minus e) y).l≠wl from nl1 y hy)];exact kl5 _ _ h1,AV (fun a ys h=>k6 a ys (kt5 a ys h)) _ _ h2⟩
   ·exact(rt2.out pa4.t.2.2.2 he4 ek0).congr fun z=>by
     show((As e.bk).map (·.1)++(W'++X)).count z=_;simp only[List.count_append];omega
   ·refine ca.trans (.step e.z ?_ (nz e.z (by simp)) ?_)
    ·have:=rt2.none he4 ek0;rw[Ku] at this;exact this.sub (fun _ h=>h) fun y hy=>List.mem_append.mpr (.inr hy)
    ·rw[FK,Ku];exact .refl _
   ·rcases List.mem_append.mp hu with hu|hu
    ·exact nz u (List.mem_append.mpr (.inl hu))
    ·obtain⟨k,hk⟩:=sb e he;exact fun h=>h.1.1 _ (C8 hk) hu
   ·rw[FK,Ku] at hx hn;have hx':=De.mp hx;refine cl x hx'.1 ⟨fun y hy=>?_,fun hm=>?_⟩
    ·by_cases hy1:y.1=e.z
     ·have:y=(e.z,(As e.bk).map (·.1)):=AH (GF pa3.t.2.2.2) hy (C8 he) hy1;rw[this];exact fun h=>hn.2 (List.mem_append.mpr (.inl (List.mem_append.mpr (.inr h))))
     ·exact hn.1 y (De.mpr ⟨hy,hy1⟩)
    ·rcases List.mem_append.mp hm with hm|hm
     ·rcases List.mem_append.mp hm with hm|hm
      ·exact hn.2 (List.mem_append.mpr (.inl (List.mem_append.mpr (.inl hm))))
      ·exact hx'.2 (List.mem_singleton.mp hm)
     ·exact hn.2 (List.mem_append.mpr (.inr hm))
   ·rw[Ag (fun z=>by rw[z,hwl] at h;cases h)];refine fr5 a o (fr4 a o h n) fun hm=>n ?_
    unfold A7 at hm ⊢;simp only[List.mem_cons,List.mem_append] at hm ⊢;rcases hm with hm|hm|hm|hm|hm|hm
    ·exact .inl hm
    ·exact .inr (.inl hm)
    ·exact .inr (.inr (.inl hm))
    ·exact .inr (.inr (.inr (.inl hm)))
    ·exact .inr (.inr (.inr (.inr (.inl hm))))
    ·refine .inr (.inr (.inr (.inr (.inr ?_))));rw[WA] at hm;obtain⟨x,hx,rfl⟩:=List.mem_map.mp hm;obtain⟨k,hk⟩:=sb x hx;exact List.mem_map.mpr ⟨_,hk,rfl⟩
  ·have c0:e.k-1≠0:=fun z=>c0 (decide_eq_true (by rw[z]))
   refine⟨cs1.map (kf (minus e)),m1,W',us.dropLast,_,_,?_,rfl,pa4,na4,hw4,wa4,rt2,by rw[Ku];exact ca,fun u hu=>nz u (List.mem_append.mpr (.inl hu)),fun x hx hn=>?_,sb4,fr4⟩
   ·rw[TV,List.length_append,List.length_singleton];omega
   ·rw[Ku] at hx hn;refine cl x hx ⟨hn.1,fun hm=>?_⟩;rcases List.mem_append.mp hm with hm|hm
    ·rcases List.mem_append.mp hm with hm|hm
     ·exact hn.2 (List.mem_append.mpr (.inl hm))
     ·have xe:=List.mem_singleton.mp hm;have h1:=rt2.k _ he4;rw[Ku] at h1;have h1:e.k-1=(D7 (Lc cs1) e.z:Int)+((W'++X).count e.z:Int):=ek.symm.trans h1;rw[xe] at hn;have:=Co.mpr hn.1;have:=List.count_eq_zero.mpr hn.2;omega
    ·exact hn.2 (List.mem_append.mpr (.inr hm))
 ·have c:¬0<us.length:=fun z=>c (decide_eq_true (by omega))
  have:W=[]:=List.eq_nil_of_length_eq_zero (by have:=wa.1;omega);subst this;exact hq m1 H2 cs1 pa1 na1 rt1 ca cl sb fr
theorem sub_len {cs cs':List Cl}(nd:(cs'.map (·.z)).Nodup)(h:∀e∈cs',∃k,{ e with k:=k }∈cs):cs'.length<=cs.length:=by
 have:=HB (m:=cs.map (·.z)) nd fun x hx=>by
  obtain⟨e,he,rfl⟩:=List.mem_map.mp hx;obtain⟨k,hk⟩:=h e he;exact List.mem_map.mpr ⟨_,hk,rfl⟩
 rw[List.length_map,List.length_map] at this;exact this
theorem Im {p:Addr}{q:Pl}{m:Int}{cs cs':List Cl}{bs:List (Int×Addr)}(h:∀e∈cs',∃k,{ e with k:=k }∈cs){a:Addr}(hm:a∈A7 p { q with n:=m } cs' bs):a∈A7 p q cs bs:=by
 unfold A7 at hm ⊢;simp only[List.mem_cons,List.mem_append] at hm ⊢;rcases hm with hm|hm|hm|hm|hm|hm
 ·exact .inl hm
 ·exact .inr (.inl hm)
 ·exact .inr (.inr (.inl hm))
 ·exact .inr (.inr (.inr (.inl hm)))
 ·exact .inr (.inr (.inr (.inr (.inl hm))))
 ·refine .inr (.inr (.inr (.inr (.inr ?_))));obtain⟨x,hx,rfl⟩:=List.mem_map.mp hm;obtain⟨k,hk⟩:=h x hx;exact List.mem_map.mpr ⟨_,hk,rfl⟩
theorem R1 {cs cs' cs'':List Cl}(h:∀e∈cs',∃k,{ e with k:=k }∈cs)(h':∀e∈cs'',∃k,{ e with k:=k }∈cs'):∀e∈cs'',∃k,{ e with k:=k }∈cs:=fun e he=>by
 obtain⟨k,hk⟩:=h' e he;have:=h _ hk;exact this
theorem Ob.frm {H H':Hp}{cs:List Cl}{own:List Addr}(h:Ob H cs)(f:MN own H H')(nl:∀a ys,H a=some (.lst ys)->a∉own)(nt:∀a ys,H a=some (.tup ys)->a∉own):Ob H' cs:=fun e he=>by
 obtain⟨us,h1,h2⟩:=h e he;exact⟨us,f _ _ h1 (nl _ _ h1),AV (fun a ys h=>f _ _ h (nt _ _ h)) _ _ h2⟩
def zk (cs:List Cl):V->Bool
 | .int n=>cs.any fun e=>decide (e.z=n)&&decide (e.k=0)
 |_=>false
theorem US {cs:List Cl}(nd:(cs.map (·.z)).Nodup){e:Cl}(he:e∈cs):zk cs (.int e.z)=decide (e.k=0):=by
 rw[Bool.eq_iff_iff,decide_eq_true_eq];show(cs.any fun x=>decide (x.z=e.z)&&decide (x.k=0))=true↔_;rw[List.any_eq_true];constructor
 ·rintro⟨x,hx,h⟩
  rw[Bool.and_eq_true,decide_eq_true_eq,decide_eq_true_eq] at h;rw[<-AH nd hx he h.1];exact h.2
 ·exact fun h=>⟨e,he,by rw[Bool.and_eq_true,decide_eq_true_eq,decide_eq_true_eq];exact⟨rfl,h⟩⟩
theorem J0 (f:V->Bool):∀ms:List Int,(ms.map V.int).filter f=(ms.filter fun n=>f (.int n)).map V.int
 |[]=>rfl
 |n::ms=>by
  rw[List.map_cons];cases h:f (.int n) with
  |true=>rw[List.filter_cons_of_pos h,List.filter_cons_of_pos (p:=fun n=>f (.int n)) h,List.map_cons,J0 f ms]
  |false=>rw[List.filter_cons_of_neg (by rw[h];exact Bool.false_ne_true),List.filter_cons_of_neg (p:=fun n=>f (.int n)) (by rw[h];exact Bool.false_ne_true),J0 f ms]
def Ge (K:W.Frag)(CP CT:Addr):Sp:=fun vs H Q _=>∃p q cs bs,∃(X:List Int),vs=[.ref p]/\PAt CP CT H p q cs bs/\cs.length<=60/\Ob H cs/\Rt cs X/\
 ∀(m:Int) H' cs',PAt CP CT H' p { q with n:=m } cs' bs->Ob H' cs'->Rt cs' X->Cas X (fun _=>False) (Lc cs) (Lc cs')->(∀x∈Lc cs',¬Nf (Lc cs') X x.1)->(∀e∈cs',∃k,{ e with k:=k }∈cs)->MN (A7 p q cs bs) H H'->Q .non H'
theorem Mq (T:Txt K mg Ab Ad Aa Ae XC)(F:Fun K "sweep" "Pool.sweep" C2 f fd)(HY:A2 P w K mg base 1 Ae "tags" ["self","number"] (GV K Ae Aa))(Du:A2 P w K mg base 2 Ae "free" ["self","number"] (ER K Ae Aa))(BZ:A2 P w K mg base 1 Ae "numbers" ["self"] (Dh K Ae Aa))(B8:A2 P w K mg base 3 Ae "release" ["self","tag"] (Dj K Ae Aa))(CO:A2 P w K mg base 1 Ae "count" ["self","number"] (Et K Ae Aa)):FnOk P w K mg base Cf 4 f fd ["self"] (Ge K Ae Aa):=by
 exists Da
 ·obtain⟨p,q,cs,bs,X,rfl,_⟩:=h;rfl
 obtain⟨p,q,cs,bs,X,rfl,pa,few,na,rt,hq⟩:=h;have hu:=BJ hr;refine⟨_,(!Ah (@K4 _ ["number","self"] [none,some 0] (1) _ _ _ _ _ _ _ _ _ _ _ _ _ _ Da.nd rfl (by trivial) rfl (!Bc (!DJ (pv 0) T.cl_Pool BZ)) (by rfl) rfl (by repeat (first|exact trivial|refine⟨rfl,?_⟩)) (by repeat (first|exact trivial|refine⟨fun h=>(by first|exact⟨_,rfl⟩|cases h),?_⟩)) (fun C s H fp=>⟨(@Aq _ _ (0) _ (show(["number","self"]:List Str).Nodup by decide +kernel) rfl (by trivial) (by trivial)),(!Gp (!AA Bh (!A3 (pv 1) T.cl_Pool CO (by trivial) (!Ac (pv 0) (!Aj))) (!Ak) (AC _))),(pv 0)⟩) (by intro _;rfl) (by rfl) (by trivial)) (!Al (!Ck PassesOwn.never rfl (!Bc (pv 1)) (@Aq _ _ (2) _ Da.nd rfl (by trivial) (by trivial)) (!Ah (@AG _ _ (3) _ _ _ _ Da.nd rfl (by trivial) (!A3 (pv 0) T.cl_Pool HY (by trivial) (!Ac (pv 2) (!Aj))) (by rfl) (by trivial)) (!Ah (!Bb (!A3 (pv 0) T.cl_Pool Du (by trivial) (!Ac (pv 2) (!Aj)))) (!Al (!Ck PassesOwn.never rfl (!Bc (pv 3)) (@Aq _ _ (4) _ Da.nd rfl (by trivial) (by trivial)) (!Al (!Bb (!A3 (pv 0) T.cl_Pool B8 (by trivial) (!Ac (pv 4) (!Aj))))) (by intro _;rfl))))) (by intro _;rfl)))),?_⟩
 try dsimp only[BP,Cx.nox,Cx.wish]
 refine⟨_,rfl,p,q.dp,_,rfl,pa.t.1,rfl,p,q,cs,rfl,pa.t,few,fun ms l pm so nl=>?_⟩;have s1:=Am nl (.lst (ms.map V.int));refine⟨l,rfl,⟨_,AO.of Af⟩,?_⟩;refine KC (xs:=ms.map V.int) (zk cs) (fun v=>v) (D5 (AO.of Af)) (by rw[List.length_map,pm.length_eq,List.length_map];omega) (fun x H2 R hx s2 hR=>?_) (fun x H2 R hx hb s2 hR=>?_) fun ul H2 nl2 s2 hl2=>?_
 ·obtain⟨n,hn,rfl⟩:=List.mem_map.mp hx;obtain⟨e,he,rfl⟩:=List.mem_map.mp (pm.mem_iff.mp hn);have pa2:=pa.same (s1.trans s2);refine⟨_,rfl,p,q.dp,_,rfl,pa2.t.1,rfl,_,rfl,p,q,cs,e,rfl,pa2.t,he,rfl,_,rfl,?_⟩;rw[US pa.t.2.2.2 he] at hR;have e0:decide (V.int e.k=V.int 0)=decide (e.k=0):=by rw[Bool.eq_iff_iff,decide_eq_true_eq,decide_eq_true_eq];exact⟨V.int.inj,fun h=>by rw[h]⟩
  rw[e0];exact hR
 ·exact⟨x,rfl,hR H2 (Ar.refl _)⟩
 have s3:=s1.trans s2;rw[J0,List.map_id'' (fun _=>rfl)] at hl2;generalize eU:ms.filter (fun n=>zk cs (.int n))=U at hl2;have inU:∀u,u∈U↔∃e∈cs,e.z=u/\e.k=0:=fun u=>by
  rw[<-eU,List.mem_filter];constructor
  ·rintro⟨h1,h2⟩
   obtain⟨e,he,rfl⟩:=List.mem_map.mp (pm.mem_iff.mp h1);rw[US pa.t.2.2.2 he] at h2;exact⟨e,he,rfl,of_decide_eq_true h2⟩
  ·rintro⟨e,he,rfl,hk⟩
   exact⟨pm.mem_iff.mpr (List.mem_map.mpr ⟨e,he,rfl⟩),by rw[US pa.t.2.2.2 he];exact decide_eq_true hk⟩
 have ndU:U.Nodup:=by rw[<-eU];exact((pm.nodup_iff).mpr pa.t.2.2.2).sublist List.filter_sublist
 have nulH:H ul=none:=by
  cases h:H ul with
  |none=>rfl
  |some o=>rw[s1.get h] at nl2;cases nl2
 refine⟨_,rfl,ul,rfl,⟨_,AO.of hl2⟩,Cp (K:=K) (a:=ul) (xs:=U.map V.int) (fun i σ H'=>∃(cs1:List Cl) (m1:Int) (v2 v3 v4:Option V),σ=[some (.ref p),some (.ref ul),v2,v3,v4]/\PAt Ae Aa H' p { q with n:=m1 } cs1 bs/\Ob H' cs1/\Rt cs1 X/\H' ul=some (.lst (U.map V.int))/\
  Cas X (fun _=>False) (Lc cs) (Lc cs1)/\(∀x∈Lc cs1,Nf (Lc cs1) X x.1->x.1∈U.drop i)/\(∀u∈U.drop i,∃e∈cs1,e.z=u/\Nf (Lc cs1) X u)/\(∀e∈cs1,∃k,{ e with k:=k }∈cs)/\MN (A7 p q cs bs) H H') ⟨cs,q.n,_,_,_,rfl,pa.same s3,fun e he=>?_,rt,hl2,.refl _,fun x hx h=>?_,fun u hu=>?_,fun e he=>⟨e.k,he⟩,Ar.frm s3⟩ ?_ ?_ ?_⟩
 ·obtain⟨us,h1,h2⟩:=na e he;exact⟨us,s3.get h1,Ax.same s3 _ _ h2⟩
 ·rw[List.drop_zero];obtain⟨e,he,rfl⟩:=List.mem_map.mp hx;have hk:=rt.k e he;have h1:D7 (Lc cs) e.z=0:=Co.mpr h.1;have h2:X.count e.z=0:=List.count_eq_zero.mpr h.2;exact(inU _).mpr ⟨e,he,rfl,by omega⟩
 ·rw[List.drop_zero] at hu;obtain⟨e,he,rfl,hk⟩:=(inU u).mp hu;exact⟨e,he,rfl,rt.none he hk⟩
 ·rintro i σ H' _ ⟨_,_,_,_,_,_,_,_,_,h,_⟩
  exact AO.of h
 ·rintro i x σ H' hx ⟨cs1,m1,v2,v3,v4,rfl,pa1,na1,rt1,hul,ca,cl,un,sb,fr⟩
  obtain⟨u,rfl,hu⟩:=ints_get hx;have ui:i<U.length:=(List.getElem?_eq_some_iff.mp hu).1;have dU:U.drop i=u::U.drop (i+1):=by rw[List.drop_eq_getElem_cons ui,(List.getElem?_eq_some_iff.mp hu).2]
  obtain⟨e,he,rfl,nf⟩:=un u (by rw[dU];exact List.mem_cons_self);have hk:e.k=0:=by
   have:=rt1.k e he;have:=Co.mpr nf.1;have:=List.count_eq_zero.mpr nf.2;omega
  obtain⟨zs,hz1,hz2⟩:=na1 e he;refine⟨_,rfl,p,q.dp,_,rfl,pa1.t.1,rfl,_,rfl,p,_,cs1,e,zs,rfl,pa1.t,he,hz1,fun nl hnl=>?_⟩;have s4:=Am hnl (.lst zs);have pa4:=pa1.same s4;refine⟨_,rfl,p,q.dp,_,rfl,pa4.t.1,rfl,_,rfl,p,_,cs1,bs,e,rfl,pa4,he,fun m5 H5 pa5 kp5 fr5=>?_⟩;have kl5:∀a ys,(upd H' nl (.lst zs)) a=some (.lst ys)->H5 a=some (.lst ys):=fun a ys h=>kp5 a _ h (AM h pa4.t.1 (by intro z;cases z)) (by intro kvs z;cases z)
  have kt5:∀a ys,(upd H' nl (.lst zs)) a=some (.tup ys)->H5 a=some (.tup ys):=fun a ys h=>kp5 a _ h (AM h pa4.t.1 (by intro z;cases z)) (by intro kvs z;cases z)
  have rt5:=rt1.out pa1.t.2.2.2 he hk;have fz:∀a,(upd H' nl (.lst zs)) a=none->True:=fun _ _=>trivial
  have nlH:H nl=none\/nl∈A7 p q cs bs:=by
   cases h:H nl with
   |none=>exact .inl rfl
   |some o=>
    by_cases hm:nl∈A7 p q cs bs
    ·exact .inr hm
    ·rw[fr _ _ h hm] at hnl;cases hnl
  have ulH:H ul=none:=nulH;generalize eN:(As e.bk).map (·.1)=N at rt5;have wa5:Pp H5 N zs:=by rw[<-eN];exact(Pp.reps hz2).keep fun a ys h=>kt5 a ys (s4.get h)
  have sb5:∀x∈Bf e.z cs1,∃k,{ x with k:=k }∈cs:=fun x hx=>sb x (Bg.mp hx).1
  have fr5':MN (A7 p q cs bs) H H5:=fun a o h n=>fr5 a o (s4.get (fr a o h n)) fun hm=>n (Im sb hm)
  refine⟨_,rfl,nl,rfl,⟨_,AO.of (kl5 nl zs Af)⟩,Cp (K:=K) (a:=nl) (xs:=zs) (fun j σ H'=>∃(cs3:List Cl) (m3:Int) (v4:Option V),σ=[some (.ref p),some (.ref ul),some (.int e.z),some (.ref nl),v4]/\PAt Ae Aa H' p { q with n:=m3 } cs3 bs/\Ob H' cs3/\Rt cs3 (N.drop j++X)/\H' ul=some (.lst (U.map V.int))/\H' nl=some (.lst zs)/\Pp H' N zs/\
   Cas X (fun _=>False) (Lc cs) (Lc cs3)/\(∀x∈Lc cs3,Nf (Lc cs3) (N.drop j++X) x.1->x.1∈U.drop (i+1))/\(∀u∈U.drop (i+1),∃e∈cs3,e.z=u/\Nf (Lc cs3) (N.drop j++X) u)/\(∀e∈cs3,∃k,{ e with k:=k }∈cs)/\MN (A7 p q cs bs) H H') ⟨Bf e.z cs1,m5,_,rfl,pa5,fun x hx=>?_,by rw[List.drop_zero];exact rt5,kl5 _ _ (s4.get hul),kl5 nl zs Af,wa5,ca.trans (.step e.z nf (fun h=>h) (by rw[FK];exact .refl _)),fun x hx h=>?_,fun u' hu'=>?_,sb5,fr5'⟩ ?_ ?_ ?_⟩
  ·obtain⟨ys,h1,h2⟩:=na1 x (Bg.mp hx).1;exact⟨ys,kl5 _ _ (s4.get h1),AV (fun a ys h=>kt5 a ys (s4.get h)) _ _ h2⟩
  ·rw[FK] at hx h;have hx':=De.mp hx;rw[List.drop_zero] at h;have:=cl x hx'.1 ⟨fun y hy=>?_,fun hm=>h.2 (List.mem_append.mpr (.inr hm))⟩
   ·rw[dU] at this;exact(List.mem_cons.mp this).resolve_left hx'.2
   ·by_cases hy1:y.1=e.z
    ·have:y=(e.z,(As e.bk).map (·.1)):=AH (GF pa1.t.2.2.2) hy (C8 he) hy1;rw[this,eN];exact fun hm=>h.2 (List.mem_append.mpr (.inl hm))
    ·exact h.1 y (De.mpr ⟨hy,hy1⟩)
  ·obtain⟨c,hc,rfl,nc⟩:=un u' (by rw[dU];exact List.mem_cons_of_mem _ hu');have ne:c.z≠e.z:=fun z=>by
    have:=ndU.sublist (List.drop_sublist i U);rw[dU,List.nodup_cons] at this;exact this.1 (by rw[<-z];exact hu')
   refine⟨c,Bg.mpr ⟨hc,ne⟩,rfl,?_⟩;rw[FK,List.drop_zero];refine⟨fun y hy=>nc.1 y (De.mp hy).1,fun hm=>?_⟩;rcases List.mem_append.mp hm with hm|hm
   ·exact nc.1 _ (C8 he) (by rw[eN];exact hm)
   ·exact nc.2 hm
  ·rintro j σ H' _ ⟨_,_,_,_,_,_,_,_,h,_⟩
   exact AO.of h
  ·rintro j x σ H6 hx6 ⟨cs3,m3,v4,rfl,pa6,na6,rt6,hul6,hnl6,wa6,ca6,cl6,un6,sb6,fr6⟩
   have jz:j<zs.length:=(List.getElem?_eq_some_iff.mp hx6).1;have jN:j<N.length:=by have:=wa6.1;omega
   obtain⟨a,r,ha1,ha2⟩:=wa6.2 j N[j] (List.getElem?_eq_getElem jN);rw[hx6] at ha1;cases ha1;have dN:N.drop j=N[j]::N.drop (j+1):=List.drop_eq_getElem_cons jN;rw[dN] at rt6 cl6 un6;have len6:cs3.length<=60:=Nat.le_trans (sub_len pa6.t.2.2.2 sb6) few;refine⟨_,rfl,p,q.dp,_,rfl,pa6.t.1,rfl,_,rfl,p,_,cs3,bs,a,N[j],r,N.drop (j+1)++X,rfl,pa6,len6,ha2,na6,rt6,fun m7 H7 cs7 pa7 na7 rt7 ca7 cl7 sb7 fr7=>?_⟩;have nla:∀{b o},H6 b=some o->(∀C d fs,o≠.ins C d fs)->(∀kvs,o≠.dK kvs)->H7 b=some o:=fun{b o} h n1 n2=>fr7 b o h (pa6.apart h n1 n2)
   have kl7:∀b ys,H6 b=some (.lst ys)->H7 b=some (.lst ys):=fun b ys h=>nla h (by intro C d fs z;cases z) (by intro kvs z;cases z)
   have kt7:∀b ys,H6 b=some (.tup ys)->H7 b=some (.tup ys):=fun b ys h=>nla h (by intro C d fs z;cases z) (by intro kvs z;cases z)
   refine⟨cs7,m7,_,rfl,pa7,na7,rt7,kl7 _ _ hul6,kl7 _ _ hnl6,wa6.keep kt7,ca6.trans (ca7.weak (fun y hy=>List.mem_append.mpr (.inr hy)) (fun _ h=>h.elim)),fun y hy h=>?_,fun u' hu'=>?_,R1 sb6 sb7,fun b o h n=>fr7 b o (fr6 b o h n) fun hm=>n (Im sb6 hm)⟩
   ·obtain⟨h1,h2⟩:=cl7 y hy h;refine cl6 y (ca7.sub y hy) ⟨h1.1,fun hm=>?_⟩;rcases List.mem_cons.mp hm with hm|hm
    ·exact h2 hm
    ·exact h1.2 hm
   ·obtain⟨c,hc,rfl,nc⟩:=un6 u' hu';have kp:=ca7.keep (C8 hc) ⟨nc.sub (fun _ h=>h) (fun y hy=>List.mem_cons_of_mem _ hy),fun z=>nc.2 (by rw[show c.z=N[j] from z];exact List.mem_cons_self)⟩;obtain⟨c',hc',ec⟩:=List.mem_map.mp kp;refine⟨c',hc',congrArg Prod.fst ec,nc.sub ca7.sub (fun y hy=>List.mem_cons_of_mem _ hy)⟩
  ·rintro σ H6 ⟨cs3,m3,v4,rfl,pa6,na6,rt6,hul6,hnl6,wa6,ca6,cl6,un6,sb6,fr6⟩
   have e0:N.drop zs.length=[]:=List.drop_of_length_le (by have:=wa6.1;omega);rw[e0] at rt6 cl6 un6;exact⟨cs3,m3,_,_,_,rfl,pa6,na6,rt6,hul6,ca6,cl6,un6,sb6,fr6⟩
 ·rintro σ H' ⟨cs1,m1,v2,v3,v4,rfl,pa1,na1,rt1,hul,ca,cl,un,sb,fr⟩
  have e0:U.drop (U.map V.int).length=[]:=List.drop_of_length_le (by rw[List.length_map];exact Nat.le_refl _);rw[e0] at cl;exact hq m1 H' cs1 pa1 na1 rt1 ca (fun x hx h=>nomatch cl x hx h) sb fr
theorem PAt.keep {CP CT:Addr}{H H':Hp}{p:Addr}{q:Pl}{cs:List Cl}{bs:List (Int×Addr)}(h:PAt CP CT H p q cs bs)(ko:∀a o,a∈A7 p q cs bs->H a=some o->H' a=some o)(kt:∀c ys,H c=some (.tup ys)->H' c=some (.tup ys)):PAt CP CT H' p q cs bs:=by
 have m1:p∈A7 p q cs bs:=by unfold A7;simp
 have m2:q.dt∈A7 p q cs bs:=by unfold A7;simp
 have m3:q.dz∈A7 p q cs bs:=by unfold A7;simp
 have m4:q.dd∈A7 p q cs bs:=by unfold A7;simp
 have m5:∀x∈bs,x.2∈A7 p q cs bs:=fun x hx=>by
  unfold A7;simp only[List.mem_cons,List.mem_append];exact .inr (.inr (.inr (.inr (.inl (List.mem_map.mpr ⟨x,hx,rfl⟩)))))
 have m6:∀x∈cs,x.c∈A7 p q cs bs:=fun x hx=>by
  unfold A7;simp only[List.mem_cons,List.mem_append];exact .inr (.inr (.inr (.inr (.inr (List.mem_map.mpr ⟨x,hx,rfl⟩)))))
 refine{ h with t:=⟨ko _ _ m1 h.t.1,ko _ _ m2 h.t.2.1,fun e he=>?_,h.t.2.2.2⟩,d:=ko _ _ m4 h.d,b:={ h.b with h:=ko _ _ m3 h.b.h,d:=fun x hx=>⟨ko _ _ (m5 x hx) (h.b.d x hx).1,(h.b.d x hx).2⟩ } };have hc:=(h.t.2.2.1 e he).1;exact(h.t.2.2.1 e he).tup ((ko _ _ (m6 e he) hc).trans hc.symm) kt
def Ze (p:Addr)(q:Pl)(cs:List Cl)(bs:List (Int×Addr))(bo:Addr)(ds:List Addr):Prop:=bo∉A7 p q cs bs/\∀d∈ds,d∉A7 p q cs bs
theorem PAt.kb {CP CT CB:Addr}{H H':Hp}{p:Addr}{q:Pl}{cs:List Cl}{bs:List (Int×Addr)}{bo:Addr}{ds:List Addr}{b0:List Fy}{n:Int}{lf:V}(h:PAt CP CT H p q cs bs)(hB:Hu CB H bo ds b0 n lf)(ap:Ze p q cs bs bo ds)(k:Kb H H' bo ds):PAt CP CT H' p q cs bs:=by
 obtain⟨dx,s0,h1,_⟩:=id hB;exact h.keep (fun a o ha e=>k a o e (fun z=>ap.1 (by rw[<-z];exact ha)) fun z=>ap.2 a z ha) fun c ys e=>k c _ e (AM e h1 (by intro z;cases z)) (hB.notin e (by intro kvs z;cases z))
theorem MR:∀{l m:List Int},l.Perm m->l.Pairwise (·<=·)->m.Pairwise (·<=·)->l=m
 |[],m,p,_,_=>by rw[List.nil_perm.mp p]
 |a::l,[],p,_,_=>by have:=p.length_eq;cases this
 |a::l,b::m,p,h1,h2=>by
  rw[List.pairwise_cons] at h1 h2;have e:a=b:=by
   have ha:=p.mem_iff.mp (List.mem_cons_self (a:=a) (l:=l));have hb:=p.mem_iff.mpr (List.mem_cons_self (a:=b) (l:=m));rcases List.mem_cons.mp ha with ha|ha
   ·exact ha
   rcases List.mem_cons.mp hb with hb|hb
   ·exact hb.symm
   have:=h1.1 b hb;have:=h2.1 a ha;omega
  subst e;rw[MR p.cons_inv h1.2 h2.2]
def Yz (bs:List Fy)(cs:List Cl)(S:List Int):Prop:=∀e∈cs,∀b,b<bs.length->Eg (bs.getD b []) e.z=if e.z∈S/\(b:Int)∈Jm bs e.z then some (DQ (IB e.z e.y e.bk)) else none
def DM (K:W.Frag)(CP CT CB:Addr):Sp:=fun vs H Q _=>∃p q cs bs ds b0 n,vs=[.ref p]/\PAt CP CT H p q cs bs/\cs.length<=60/\Hu CB H q.bo ds b0 n .non/\Ze p q cs bs q.bo ds/\2<=b0.length/\(∀c∈b0,c=[])/\(∀e∈cs,NB e.z e.y)/\
 ∀H' b1 n1,Ez CP CT H' p q cs->H' q.dd=some (.dK [])->Hu CB H' q.bo ds b1 n1 .non->n1=n+2*(cs.length:Int)->b1.length=b0.length->(∀e∈cs,∀b,b<b1.length->Eg (b1.getD b []) e.z=if(b:Int)∈Jm b1 e.z then some (DQ (IB e.z e.y e.bk)) else none)->(∀c ys,H c=some (.tup ys)->H' c=some (.tup ys))->(∀c ys,H c=some (.lst ys)->H' c=some (.lst ys))->Q .non H'
theorem JS (T:Txt K mg Ab Ad Aa Ae XC)(F:Fun K "lay_draft" "Pool.lay_draft" BD f fd)(UI:Def P w K mg base 10 "lay" ["boards","number","birth","block"] (Qt K Ad))(BQ:A2 P w K mg base 1 Ae "tag" ["self","number"] (Ey K Ae Aa)):FnOk P w K mg base Cf 11 f fd ["self"] (DM K Ae Aa Ad):=by
 exists FA
 ·obtain⟨p,q,cs,bs,ds,b0,n,rfl,_⟩:=h;rfl
 obtain⟨p,q,cs,bs,ds,b0,n,rfl,pa,few,hB,ap,b2,be,nbs,hq⟩:=h;have hu:=BJ hr;refine⟨_,(!Ah (!Ck PassesOwn.never rfl (!Bc (!Au (Hs rfl) (by rfl) T.b_sorted EV (!Ac (!AQ (pv 0)) (!Aj)))) (@Aq _ _ (1) _ FA.nd rfl (by trivial) (by trivial)) (!Al (!Bb (!AN UI (by trivial) rfl (!Ac (!AQ (pv 0)) (!Ac (pv 1) (!Ac (!Av AJ (!A3 (pv 0) T.cl_Pool BQ (by trivial) (!Ac (pv 1) (!Aj))) (!Ak) (fun _ _=>rfl)) (!Ac (!BH hu (!AQ (pv 0)) (pv 1) (fun _ _=>rfl)) (!Aj)))))))) (by intro _;rfl)) (!Al (!Bb (!SS (!AQ (pv 0)) ⟨rfl,rfl,rfl,rfl⟩)))),?_⟩
 try dsimp only[BP,Cx.nox,Cx.wish]
 refine⟨_,rfl,p,Ae,q.dp,_,_,rfl,pa.t.1,T.cl_Pool,T.n_Pool_draft,rfl,q.dd,_,cs.map (·.z),rfl,pa.d,by unfold Me;rw[List.map_map,List.map_map];rfl,.inl (by rw[List.length_map];omega),fun ms l pm so nl=>?_⟩;have lm:ms.length=cs.length:=by rw[pm.length_eq,List.length_map]
 have ndm:ms.Nodup:=pm.nodup_iff.mpr pa.t.2.2.2;have s1:=Am nl (.lst (ms.map V.int));have hB1:=hB.same s1;refine⟨l,rfl,⟨_,AO.of Af⟩,?_⟩;have lz:∀i,(b0.getD i [])=[]:=fun i=>by
  unfold List.getD;cases e:b0[i]? with
  |none=>rfl
  |some c=>exact be c (List.mem_of_getElem? e)
 refine Cp (K:=K) (a:=l) (xs:=ms.map V.int) (fun i σ H'=>∃b1 n1 v1,σ=[some (.ref p),v1]/\PAt Ae Aa H' p q cs bs/\Hu Ad H' q.bo ds b1 n1 .non/\b1.length=b0.length/\(∀c∈b1,c.length<=2*i)/\H' l=some (.lst (ms.map V.int))/\Kb H H' q.bo ds/\n1=n+2*(i:Int)/\Yz b1 cs (ms.take i))
  ⟨b0,n,none,rfl,pa.same s1,hB1,rfl,(fun c hc=>by rw[be c hc];exact Nat.zero_le _),Af,Ar.kb s1 _ _,by simp,fun e he b hb=>by rw[lz b,if_neg (fun h=>nomatch h.1)];rfl⟩ ?_ ?_ ?_
 ·rintro i σ H' _ ⟨_,_,_,_,_,_,_,_,h,_⟩
  exact AO.of h
 ·rintro i x σ H' hx ⟨b1,n1,v1,rfl,pa',hB',lb,cb,hl',kb,en,la⟩
  rw[List.getElem?_map] at hx;obtain⟨zz,hz,rfl⟩:=Option.map_eq_some_iff.mp hx;obtain⟨e,he,rfl⟩:=List.mem_map.mp (pm.mem_iff.mp (List.mem_of_getElem? hz));have ce:=pa'.t.2.2.1 e he;have il:i<ms.length:=(List.getElem?_eq_some_iff.mp hz).1;have g:Bx H' q.dd (.int e.z) (some e.v):=by
   have:=Bx.k (k:=Sum.inl e.z) pa'.d;rw[QI pa'.t.2.2.2 he] at this;exact this
  refine⟨_,rfl,p,Ae,q.dp,_,_,rfl,pa'.t.1,T.cl_Pool,T.n_Pool_boards,rfl,_,rfl,_,rfl,p,q.dp,_,rfl,pa'.t.1,rfl,_,rfl,p,q,cs,e,rfl,pa'.t,he,e.ta,_,_,_,rfl,rfl,AW.of ce.2.1,rfl,_,rfl,p,Ae,q.dp,_,_,rfl,pa'.t.1,T.cl_Pool,T.n_Pool_draft,rfl,_,rfl,q.dd,_,rfl,g,q.bo,ds,b1,n1,e.z,e.y,e.v,e.bk,rfl,hB',by omega,fun c hc=>?_,ce.2.2.1,ce.2.2.2,nbs e he,fun H2 hB2 k2=>?_⟩
  ·have:=cb c hc;omega
  have nll:l≠q.bo:=by
   obtain⟨dx,s0,h1,_⟩:=id hB';exact AM hl' h1 (by intro z;cases z)
  refine⟨_,_,_,rfl,pa'.kb hB' ap k2,hB2,by rw[LC];exact lb,fun c hc=>?_,k2 _ _ hl' nll (hB'.notin hl' (by intro kvs z;cases z)),kb.trans k2,by rw[en];omega,fun e' he' b hb=>?_⟩
  ·have:=Ox _ cb c hc;have:(Jm b1 e.z).length=2:=rfl;omega
  ·rw[LC] at hb;have et:Jm (wr b1 e.z (DQ (IB e.z e.y e.bk)) (Jm b1 e.z)) e'.z=Jm b1 e'.z:=by unfold Jm;rw[LC]
   rw[Tz e.z _ e'.z _ b1 b hb fun y hy=>QL (by omega) y hy,et,la e' he' b hb];have mt:∀w:Int,w∈ms.take (i+1)↔w∈ms.take i\/w=e.z:=fun w=>by rw[List.take_add_one,hz,List.mem_append];simp
   by_cases hz':e'.z=e.z
   ·obtain rfl:=AH pa'.t.2.2.2 he' he hz'
    by_cases hb':(b:Int)∈Jm b1 e'.z
    ·rw[if_pos ⟨rfl,hb'⟩,if_pos ⟨(mt _).mpr (.inr rfl),hb'⟩]
    ·rw[if_neg (fun h=>hb' h.2),if_neg (fun h=>hb' h.2),if_neg (fun h=>hb' h.2)]
   ·rw[if_neg (fun h=>hz' h.1)]
    by_cases hb':(b:Int)∈Jm b1 e'.z
    ·by_cases hj1:e'.z∈ms.take i
     ·rw[if_pos ⟨hj1,hb'⟩,if_pos ⟨(mt _).mpr (.inl hj1),hb'⟩]
     ·rw[if_neg (fun h=>hj1 h.1),if_neg (fun h=>((mt _).mp h.1).elim hj1 hz')]
    ·rw[if_neg (fun h=>hb' h.2),if_neg (fun h=>hb' h.2)]
 ·rintro σ H' ⟨b1,n1,v1,rfl,pa',hB',lb,cb,hl',kb,en,la⟩
  rw[List.length_map,List.take_length] at la;rw[List.length_map,lm] at en;have la:∀e∈cs,∀b,b<b1.length->Eg (b1.getD b []) e.z=if(b:Int)∈Jm b1 e.z then some (DQ (IB e.z e.y e.bk)) else none:=fun e he b hb=>by
   rw[la e he b hb];have hm:e.z∈ms:=pm.mem_iff.mpr (List.mem_map.mpr ⟨e,he,rfl⟩)
   by_cases hb':(b:Int)∈Jm b1 e.z
   ·rw[if_pos ⟨hm,hb'⟩,if_pos hb']
   ·rw[if_neg (fun h=>hb' h.2),if_neg hb']
  refine⟨_,rfl,p,Ae,q.dp,_,_,rfl,pa'.t.1,T.cl_Pool,T.n_Pool_draft,rfl,q.dd,_,rfl,pa'.d,?_⟩;have mdd:q.dd∈A7 p q cs bs:=by unfold A7;simp
  have no:∀{a u},H' a=some u->(∀kvs,u≠.dK kvs)->a≠q.dd:=fun{a u} h n zz=>by
   rw[zz,pa'.d] at h;exact n _ (Option.some.inj h).symm
  obtain⟨dx,s0,h1,h2,h3,h4⟩:=id hB';have tp:∀c ys,H' c=some (.tup ys)->(upd H' q.dd (.dK [])) c=some (.tup ys):=fun c ys h=>by rw[Ag (no h (by intro kvs z;cases z))];exact h
  have lp:∀c ys,H' c=some (.lst ys)->(upd H' q.dd (.dK [])) c=some (.lst ys):=fun c ys h=>by rw[Ag (no h (by intro kvs z;cases z))];exact h
  obtain⟨dxb,sb,hb1,_⟩:=id hB;refine hq _ b1 n1 ⟨?_,?_,fun e he=>?_,pa'.t.2.2.2⟩ Af ⟨dx,s0,?_,lp _ _ h2,h3,?_⟩ en lb la (fun c ys h=>tp _ _ ?_) (fun c ys h=>lp _ _ ?_)
  ·rw[Ag (no pa'.t.1 (by intro kvs z;cases z))];exact pa'.t.1
  ·rw[Ag pa'.n2];exact pa'.t.2.1
  ·have hc:=(pa'.t.2.2.1 e he).1;exact(pa'.t.2.2.1 e he).tup (Ag (no hc (by intro kvs z;cases z))) tp
  ·rw[Ag (no h1 (by intro kvs z;cases z))];exact h1
  ·exact h4.same lp fun d hd kvs h=>by rw[Ag (fun z=>ap.2 d hd (by rw[z];exact mdd))];exact h
  ·exact kb c _ h (AM h hb1 (by intro z;cases z)) (hB.notin h (by intro kvs z;cases z))
  ·exact kb c _ h (AM h hb1 (by intro z;cases z)) (hB.notin h (by intro kvs z;cases z))
def DS (K:W.Frag)(C:Addr):Sp:=fun vs H Q _=>∃(p dx:Addr) (fs:List (Str×V)) (n:Int),vs=[.ref p]/\H p=some (.ins C dx fs)/\fs.lookup ("writes":Str)=some (.int n)/\Q (.int n) H
theorem JQ (T:Txt K mg Ab Ad Aa Ae XC)(F:Fun K "written" "Boards.written" BC f fd):FnOk P w K mg base Cf 1 f fd ["self"] (DS K Ad):=by
 exists Jx
 ·obtain⟨p,dx,fs,n,rfl,_⟩:=h;rfl
 obtain⟨p,dx,fs,n,rfl,h1,h2,hq⟩:=h;have hu:=BJ hr;have hu9:=Fx hr;refine⟨_,(!Al (!An (!AQ (pv 0)))),?_⟩
 try dsimp only[BP,Cx.nox,Cx.wish]
 exact⟨_,rfl,p,Ad,dx,_,_,rfl,h1,T.cl_Boards,T.n_Boards_writes,h2,hq⟩
def Hl (K:W.Frag):Sp:=fun vs H Q _=>∃(c m:Int),vs=[.int c,.int m]/\0<=m/\m<=1000/\
 ∀(r:Addr) (H':Hp) (ns:List Int),Ar H H'->H r=none->H' r=some (.lst (ns.map V.int))->ns.length=m.toNat->(∀x∈ns,0<=x/\x<1000000)->Q (.ref r) H'
theorem Pb (T:Txt K mg Ab Ad Aa Ae XC)(F:Fun K "_law_row" "_law_row" Eh f fd):FnOk P w K mg base Cf 1 f fd ["_law_cell","_law_many"] (Hl K):=by
 exists CC
 ·obtain⟨c,m,rfl,_⟩:=h;rfl
 obtain⟨c,m,rfl,hm0,hm1,q⟩:=h;refine⟨_,(!Ah (@AG _ _ (2) _ _ _ _ CC.nd rfl (by trivial) (!BY (!Aj)) (by rfl) (by trivial)) (!Ah (@AG _ _ (3) _ _ _ _ CC.nd rfl (by trivial) (pv 0) (by rfl) (by trivial)) (!Ah (!AS (!AA OH (!Au OF (by rfl) T.b_abs U3 (!Ac (pv 0) (!Aj))) (!AB LI (!Ak) (!Ak)) (AC _)) (!Al (@AG _ _ (3) _ _ _ _ CC.nd rfl (by trivial) (!AB Bw (!AB Bj (pv 0) (!Ak)) (!Ak)) (by rfl) (by trivial))) (!Aw)) (!Ah (!Ck PassesOwn.never rfl (!Ed rfl T.b_range (!Ac (pv 1) (!Aj))) (@Aq _ _ (4) _ CC.nd rfl (by trivial) (by trivial)) (!Al (!AS (!AA OH (!Au OF (by rfl) T.b_abs U3 (!Ac (pv 0) (!Aj))) (!AB LI (!Ak) (!Ak)) (AC _)) (!Ah (@AG _ _ (3) _ _ _ _ CC.nd rfl (by trivial) (!AB Bj (!AB IW (pv 3) (!Ak)) (!Ak)) (by rfl) (by trivial)) (!Al (!Bb (!Hd PySem.F.plainAttrs_list PySem.F.slot_list_append PySem.F.type_list_append EX (pv 2) (!Ac (!AB Bj (!AB JK (!AB Bj (!AB Bw (!AB Bw (!AB IW (pv 3) (pv 3)) (!AB IW (!Ak) (pv 3))) (pv 4)) (!Ak)) (!Ak)) (!AB LI (!Ak) (!Ak))) (!Aj)))))) (!Ah (!Bb (!Hd PySem.F.plainAttrs_list PySem.F.slot_list_append PySem.F.type_list_append EX (pv 2) (!Ac (!AB Bj (pv 3) (!AB LI (!Ak) (!Ak))) (!Aj)))) (!Al (@AG _ _ (3) _ _ _ _ CC.nd rfl (by trivial) (!AB JK (pv 3) (!AB LI (!Ak) (!Ak))) (by rfl) (by trivial)))))) (by intro _;rfl)) (!Al (!An (pv 2))))))),?_⟩;refine⟨J8,fun g hg=>?_⟩;refine⟨_,rfl,?_⟩;have z1:∀(N:St->Hp->Prop),(∀z:Int,N [some (.int c),some (.int m),some (.ref g),some (.int z),none] (upd H g (.lst [])))->V6 (Tx (Wv (UK fun i j=>V.bl (decide (i<j))) (Y3 (fun xs H Q=>∃i,xs=[V.int i]/\Q (V.int (if i<0 then -i else i)) H) (Rg (RM 0) Nm)) (Wv (rI Yr fun i j=>V.int (i^j.toNat)) (tC (V.int 10)) (tC (V.int 18))))) (Vz (Wv (UK fun i j=>V.int (i+j)) (Wv (rI (fun x j=>0<j) fun i j=>V.int (i%j)) (RM 0) (tC (V.int 2147483647))) (tC (V.int 1))) (Ci 3)) Pi { nx:=N,rt:=Q } [some (.int c),some (.int m),some (.ref g),some (.int c),none] (upd H g (.lst [])):=fun N hN=>by
  refine⟨_,rfl,_,rfl,_,_,rfl,rfl,⟨by decide,by decide,by decide⟩,_,_,rfl,rfl,_,rfl,C7 (fun _=>?_) (fun _=>?_)⟩
  ·exact⟨_,rfl,_,_,rfl,rfl,(by show(0:Int)<2147483647;decide),_,_,rfl,rfl,hN _⟩
  ·exact hN _
 refine z1 _ fun z0=>?_
 refine⟨_,rfl,m,rfl,by omega,by omega,Ki (lo:=0) (n:=m.toNat) (fun i σ H2=>∃(ns:List Int) (z:Int) (v:Option V),σ=[some (.int c),some (.int m),some (.ref g),some (.int z),v]/\Ar H H2/\H2 g=some (.lst (ns.map V.int))/\ns.length=i/\∀x∈ns,0<=x/\x<1000000)
  ⟨[],_,none,rfl,Am hg _,Af,rfl,fun _ h=>nomatch h⟩ ?_ ?_⟩
 ·rintro i σ H2 hi ⟨ns,z,v,rfl,s2,hg2,hl,hb⟩
  refine⟨_,rfl,_,rfl,_,_,rfl,rfl,⟨by decide,by decide,by decide⟩,_,_,rfl,rfl,_,rfl,C7 (fun _=>?_) (fun _=>?_)⟩
  ·refine⟨_,rfl,_,_,rfl,rfl,.inr ⟨by decide,by decide⟩,_,_,rfl,rfl,(by show(0:Int)<2147483647;decide),?_⟩;have b0:=Int.emod_nonneg (z*48271) (show(2147483647:Int)≠0 by decide);have b1:=Int.emod_lt_of_pos (z*48271) (show(0:Int)<2147483647 by decide);dsimp only;generalize z*48271%2147483647=y at b0 b1;refine⟨_,rfl,.inl ⟨rfl,_,AO.of hg2⟩,_,rfl,_,rfl,_,_,rfl,rfl,.inl ⟨by omega,by omega⟩,_,rfl,_,_,rfl,rfl,.inl ⟨by decide,by decide⟩,_,_,rfl,rfl,_,rfl,_,_,rfl,rfl,_,_,rfl,rfl,(by show(0:Int)<2147483629;decide),_,_,rfl,rfl,⟨by decide,by decide⟩,_,_,rfl,rfl,⟨by decide,by decide,by decide⟩,_,_,rfl,rfl,(by show(0:Int)<10^(6:Int).toNat;decide),?_⟩;refine⟨g,_,_,rfl,rfl,hg2,Ba (by rw[List.length_map];omega),?_⟩;refine⟨ns++[_],_,_,rfl,A0 s2 hg _,by rw[Af,List.map_append];rfl,by rw[List.length_append,hl];rfl,fun x hx=>?_⟩;rcases List.mem_append.mp hx with hx|hx
   ·exact hb x hx
   ·rw[List.mem_singleton.mp hx];exact⟨Int.emod_nonneg _ (by decide),Int.emod_lt_of_pos _ (by decide)⟩
  ·refine⟨_,rfl,.inl ⟨rfl,_,AO.of hg2⟩,_,rfl,_,_,rfl,rfl,⟨by decide,by decide,by decide⟩,_,_,rfl,rfl,(by show(0:Int)<10^(6:Int).toNat;decide),g,_,_,rfl,rfl,hg2,Ba (by rw[List.length_map];omega),?_⟩;refine⟨_,rfl,_,_,rfl,rfl,⟨by decide,by decide,by decide⟩,_,_,rfl,rfl,⟨by decide,by decide⟩,?_⟩;refine⟨ns++[_],_,_,rfl,A0 s2 hg _,by rw[Af,List.map_append];rfl,by rw[List.length_append,hl];rfl,fun x hx=>?_⟩;rcases List.mem_append.mp hx with hx|hx
   ·exact hb x hx
   ·rw[List.mem_singleton.mp hx];exact⟨Int.emod_nonneg _ (by decide),Int.emod_lt_of_pos _ (by decide)⟩
 ·rintro σ H2 ⟨ns,z,v,rfl,s2,hg2,hl,hb⟩
  exact⟨_,rfl,q g _ ns s2 hg hg2 hl hb⟩
def FN (K:W.Frag):Sp:=fun vs H Q _=>vs=[]/\Q (.str SG) H
theorem Mj (T:Txt K mg Ab Ad Aa Ae XC)(F:Fun K "_law_signs" "_law_signs" CZ f fd):FnOk P w K mg base Cf 1 f fd [] (FN K):=by
 exists My
 ·obtain⟨rfl,_⟩:=h;rfl
 obtain⟨rfl,q⟩:=h;refine⟨_,(!Al (!An (!L8))),?_⟩;have e:PySem.Str.ofString " !\"#$&'()*+,-./0123456789:;<=>?@ABCDEFGHIJKLMNOPQRSTUVWXYZ[\\]^_`abcdefghijklmnopqrstuvwxyz{|}~"=SG:=by decide +kernel
 rw[<-e] at q;exact q
def EM (K:W.Frag):Sp:=fun vs H Q _=>∃v b,vs=[v]/\Rep NL H (Ce b) v/\DH b/\∀l H' us,Ar H H'->H l=none->H' l=some (.lst us)->Ax NL H' ((As b).map Fn) us->Q (.ref l) H'
theorem Nx (T:Txt K mg Ab Ad Aa Ae XC)(F:Fun K "_law_tags" "_law_tags" Dx f fd):FnOk P w K mg base Cf 1 f fd ["_law_block_here"] (EM K):=by
 exists N5
 ·obtain⟨v,b,rfl,_⟩:=h;rfl
 obtain⟨v,b,rfl,hv,ok,q⟩:=h;have hu:=BJ hr;have hu9:=Fx hr;refine⟨_,(!Ah (!AS (!AA Bh (!Av AJ (pv 0) (!Ak) (fun _ _=>rfl)) (!Ak) (AC _)) (!Al (!An (!BY (!Aj)))) (!Aw)) (!Ah (!AS (!AA Bh (!Av AJ (pv 0) (!Ak) (fun _ _=>rfl)) (!Ak) (AC _)) (!Al (!An (!BL CN (by rfl) T.b_list Io (!Ac (!Av AJ (pv 0) (!Ak) (fun _ _=>rfl)) (!Aj))))) (!Aw)) (!Al (!An (@Bs _ ["_law_name","_law_kind","_law_tag"] _ _ _ _ _ _ _ _ _ _ rfl (!EB (!Av AJ (pv 0) (!Ak) (fun _ _=>rfl))) (by decide +kernel) (fun C s H fp=>⟨(@Cy _ (K) _ _ _ _ (3) (by rfl) rfl (!AD (@Aq _ _ (0) _ (show(["_law_name","_law_kind","_law_tag"]:List Str).Nodup by decide +kernel) rfl (by trivial) (by trivial)) (!AD (@Aq _ _ (1) _ (show(["_law_name","_law_kind","_law_tag"]:List Str).Nodup by decide +kernel) rfl (by trivial) (by trivial)) (!AD (@Aq _ _ (2) _ (show(["_law_name","_law_kind","_law_tag"]:List Str).Nodup by decide +kernel) rfl (by trivial) (by trivial)) (!BO)))) (by rfl) (by rfl)),(!AX),(pv 2)⟩) (by intro _;rfl)))))),?_⟩
 try dsimp only[BP,Cx.nox,Cx.wish]
 cases b with
 |piece z=>
  obtain⟨a,rfl,e⟩:=E7 hv;refine⟨_,rfl,a,_,_,_,rfl,rfl,AW.of e,rfl,rfl,_,rfl,BS rfl ?_⟩;exact⟨J8,fun l hl=>q l _ [] (Am hl _) hl Af rfl⟩
 |row lv ts=>
  obtain⟨a,d,us,rfl,e,e2,r⟩:=Ii hv;refine⟨_,rfl,a,_,_,_,rfl,rfl,AW.of e,rfl,rfl,_,rfl,AR rfl ?_⟩;refine⟨_,rfl,a,_,_,_,rfl,rfl,AW.of e,rfl,rfl,_,rfl,BS rfl ?_⟩;exact⟨_,rfl,a,_,_,_,rfl,rfl,AW.of e,rfl,d,_,rfl,.inr (AW.of e2),fun l hl=>q l _ us (Am hl _) hl Af (Ax.same (Am hl _) _ _ r)⟩
 |folder es=>
  obtain⟨a,d,us,rfl,e,e2,r⟩:=CJ hv;refine⟨_,rfl,a,_,_,_,rfl,rfl,AW.of e,rfl,rfl,_,rfl,AR rfl ?_⟩;refine⟨_,rfl,a,_,_,_,rfl,rfl,AW.of e,rfl,rfl,_,rfl,AR rfl ?_⟩;refine⟨_,rfl,a,_,_,_,rfl,rfl,AW.of e,rfl,d,rfl,⟨_,AW.of e2⟩,?_⟩;have lu:us.length=es.length:=by rw[Ax.len _ _ r,List.length_map]
  have l16:es.length<=16:=ok.1;refine J1 (xs:=us) (Nv H) (DL e2) (by omega) (fun x hx=>?_) (fun b x1 x2 x3 H' R hx hb s' hR=>⟨_,rfl,?_⟩) fun l H' nl s' hl=>q l H' _ s' nl hl (Ax.same s' _ _ (IZ r))
  ·obtain⟨en,_,hr⟩:=DU r hx;obtain⟨b,c,rfl,e3,_⟩:=EH hr;exact⟨b,_,_,_,rfl,e3⟩
  ·have:=hR H' (Ar.refl _);rw[LV hb] at this;exact this
theorem PL {z:Str}{i:Int}(h0:0<=i)(h1:i<(CA z).length):∃c,Kt z.cps.toList i=some c/\c∈CA z:=by
 obtain⟨k,rfl⟩:=Int.eq_ofNat_of_zero_le h0;have hk:k<z.cps.toList.length:=by have:((k:Nat):Int)<(CA z).length:=h1;exact_mod_cast this
 refine⟨z.cps.toList[k],?_,List.getElem_mem hk⟩;have hk2:k<z.cps.size:=by simpa using hk
 unfold Kt Va;rw[if_pos h0];simp[hk2]
theorem Tb {c:Nat}{n:Int}(hc:c∈CA (PySem.Str.ofString "ab0z"))(h1:1<=n)(h8:n<=8):IC (.str (PySem.Txt.mul ⟨#[c]⟩ n))=true:=by
 have all:∀c∈CA (PySem.Str.ofString "ab0z"),∀m∈List.range 8,IC (.str (PySem.Txt.mul ⟨#[c]⟩ ((m:Nat)+1:Int)))=true:=by decide +kernel
 have:=all c hc (n-1).toNat (List.mem_range.mpr (by omega));rw[show(((n-1).toNat:Nat):Int)+1=n by omega] at this;exact this
theorem UO {c:Nat}{n:Int}(hc:c∈CA (PySem.Str.ofString "abcb"))(h1:1<=n)(h8:n<=8):DH (.piece (PySem.Txt.mul ⟨#[c]⟩ n)):=by
 have all:∀c∈CA (PySem.Str.ofString "abcb"),∀m∈List.range 8,He 1 8 (.str (PySem.Txt.mul ⟨#[c]⟩ ((m:Nat)+1:Int)))=true:=by decide +kernel
 have:=all c hc (n-1).toNat (List.mem_range.mpr (by omega));rw[show(((n-1).toNat:Nat):Int)+1=n by omega] at this;exact this
def FS (K:W.Frag):Sp:=fun vs H Q _=>∃(rl:Addr) (row:List Int),vs=[.ref rl]/\H rl=some (.lst (row.map V.int))/\row.length=12/\(∀x∈row,0<=x/\x<1000000)/\∀v z H',Ar H H'->Rep NL H' (Ce (.piece z)) v->DH (.piece z)->Q v H'
theorem Mm (T:Txt K mg Ab Ad Aa Ae XC)(F:Fun K "_law_piece" "_law_piece" CW f fd)(G5:Def P w K mg base 1 "_law_signs" [] (FN K)):FnOk P w K mg base Cf 2 f fd ["_law_row_here"] (FS K):=by
 exists Em
 ·obtain⟨rl,row,rfl,_⟩:=h;rfl
 obtain⟨rl,row,rfl,hrl,lr,br,q⟩:=h;have hu:=BJ hr;have hu9:=Fx hr;refine⟨_,(!Ah (!AS (!AA Bh (!AB Bj (!Av A4 (pv 0) (!Ak) (fun _ _=>rfl)) (!Ak)) (!Ak) (AC _)) (!Al (!An (!EF (!Ac (!Ak) (!Ac (!AB Lx (!Av Np (!L8) (!AB Bj (!Av A4 (pv 0) (!Ak) (fun _ _=>rfl)) (!Ak)) (fun _ _=>rfl)) (!AB Bw (!Ak) (!AB Bj (!Av A4 (pv 0) (!Ak) (fun _ _=>rfl)) (!Ak)))) (!Aj)))))) (!Aw)) (!Ah (@AG _ _ (1) _ _ _ _ Em.nd rfl (by trivial) (!L8) (by rfl) (by trivial)) (!Ah (!Ck PassesOwn.never rfl (!Ed rfl T.b_range (!Ac (!AB Bw (!Ak) (!AB Bj (!Av A4 (pv 0) (!Ak) (fun _ _=>rfl)) (!Ak))) (!Aj))) (@Aq _ _ (2) _ Em.nd rfl (by trivial) (by trivial)) (!Al (@AG _ _ (1) _ _ _ _ Em.nd rfl (by trivial) (!AB Pu (pv 1) (!Av Np (!Xv G5) (!AB Bj (!Av A4 (pv 0) (!AB Bw (!Ak) (pv 2)) (fun _ _=>rfl)) (!Ak)) (fun _ _=>rfl))) (by rfl) (by trivial))) (by intro _;rfl)) (!Al (!An (!EF (!Ac (!Ak) (!Ac (pv 1) (!Aj))))))))),?_⟩
 try dsimp only[BP,Cx.nox,Cx.wish]
 have gx:∀k:Int,0<=k->k<12->Kt (row.map V.int) k=some (.int (row.getD k.toNat 0))/\0<=row.getD k.toNat 0:=fun k h0 h1=>by
  have hk:k.toNat<row.length:=by omega
  refine⟨P9 h0 (by omega),?_⟩;rw[List.getD_eq_getElem?_getD,List.getElem?_eq_getElem hk];exact(br _ (List.getElem_mem hk)).1
 have g2:=gx 2 (by decide) (by decide);have g3:=gx 3 (by decide) (by decide);refine⟨_,rfl,rl,_,_,_,rfl,rfl,AO.of hrl,(gx 1 (by decide) (by decide)).1,_,_,rfl,rfl,(by show(0:Int)<2;decide),rfl,_,rfl,C7 (fun _=>?_) (fun _=>?_)⟩
 ·obtain⟨c,hc,mc⟩:=PL (z:=PySem.Str.ofString "abcb") (i:=row.getD (2:Int).toNat 0%4) (Int.emod_nonneg _ (by decide)) (by show _%4<(4:Int);omega);refine⟨_,rfl,rl,_,_,_,rfl,rfl,AO.of hrl,g2.1,_,_,rfl,rfl,(by show(0:Int)<4;decide),_,_,c,rfl,rfl,Ym,hc,?_⟩;refine⟨_,rfl,rl,_,_,_,rfl,rfl,AO.of hrl,g3.1,_,_,rfl,rfl,(by show(0:Int)<8;decide),_,_,rfl,rfl,_,_,rfl,rfl,by omega,by omega,(by show 1<=1000;decide),Mp,fun t ht=>?_⟩;refine q _ (PySem.Txt.mul ⟨#[c]⟩ (1+row.getD (3:Int).toNat 0%8)) _ (Am ht _) ⟨t,_,rfl,Af,_,_,rfl,rfl,_,_,rfl,rfl,rfl⟩ ?_;exact UO mc (by omega) (by omega)
 ·refine⟨_,rfl,rl,_,_,_,rfl,rfl,AO.of hrl,g2.1,_,_,rfl,rfl,(by show(0:Int)<8;decide),_,_,rfl,rfl,_,rfl,by omega,by omega,?_⟩;refine Ki (lo:=0) (fun i σ H'=>∃(z:Str) (v2:Option V),σ=[some (.ref rl),some (.str z),v2]/\Ar H H'/\z.length=i/\∀c∈CA z,c∈CA SG) ⟨_,none,rfl,Ar.refl _,rfl,(fun c hc=>by cases hc)⟩ ?_ ?_
  ·rintro i σ H' hi ⟨z,v2,rfl,s',lz,hz⟩
   have g:=gx (3+(0+(i:Int))) (by omega) (by omega);obtain⟨c,hc,mc⟩:=PL (z:=SG) (i:=row.getD (3+(0+(i:Int))).toNat 0%94) (Int.emod_nonneg _ (by decide)) (by rw[show(CA SG).length=94 by decide +kernel];omega);refine⟨_,rfl,rfl,_,rfl,_,rfl,_,_,rfl,rfl,rl,_,_,_,rfl,rfl,AO.of (s'.get hrl),g.1,_,_,rfl,rfl,(by show(0:Int)<94;decide),_,_,c,rfl,rfl,small (by show SG.length<=1000000;decide +kernel),hc,_,_,rfl,rfl,small (by show z.length+1<=1000000;omega),?_⟩;have lz':(z++(⟨#[c]⟩:Str)).length=z.length+1:=by rw[<-BU,Rw,List.length_append,BU,BU];rfl
   refine⟨z++⟨#[c]⟩,_,rfl,s',by omega,fun u hu=>?_⟩;rw[Rw] at hu;rcases List.mem_append.mp hu with hu|hu
   ·exact hz u hu
   ·have:u=c:=by simpa [CA] using hu
    rw[this];exact mc
  ·rintro σ H' ⟨z,v2,rfl,s',lz,hz⟩
   refine⟨_,rfl,Mp,fun t ht=>?_⟩;refine q _ z _ (s'.trans (Am ht _)) ⟨t,_,rfl,Af,_,_,rfl,rfl,_,_,rfl,rfl,rfl⟩ ?_;show(decide ((1:Int)<=(z.length:Int))&&decide ((z.length:Int)<=8)&&BI SG z)=true;unfold BI;rw[Bool.and_eq_true,Bool.and_eq_true,decide_eq_true_eq,decide_eq_true_eq,List.all_eq_true];exact⟨⟨by omega,by omega⟩,fun c hc=>decide_eq_true (hz c hc)⟩
def Wb (H:Hp)(e:Cl)(v:V):Prop:=∃a,v=.ref a/\H a=some (.tup [e.v,.ref e.ta])
def JT (H:Hp):List Cl->List V->Prop
 |[],us=>us=[]
 |e::cs,us=>∃v vs,us=v::vs/\Wb H e v/\JT H cs vs
theorem FD {H:Hp}:∀{cs:List Cl} {us:List V},JT H cs us->us.length=cs.length
 |[],us,h=>by rw[show us=[] from h];rfl
 |s::so,us,h=>by
  obtain⟨v,vs,rfl,_,h2⟩:=h;rw[List.length_cons,List.length_cons,FD h2]
theorem Ht {H:Hp}:∀{cs:List Cl} {us:List V},JT H cs us->∀{i:Nat} {v:V},us[i]?=some v->∃e,cs[i]?=some e/\Wb H e v
 |[],us,h,i,v,hv=>by rw[show us=[] from h] at hv;cases hv
 |s::so,us,h,i,v,hv=>by
  obtain⟨u,vs,rfl,h1,h2⟩:=h;cases i with
  |zero=>cases hv;exact⟨s,rfl,h1⟩
  |succ i=>exact Ht h2 hv
theorem JT.tup {H H':Hp}(ht:∀c ys,H c=some (.tup ys)->H' c=some (.tup ys)):∀{cs:List Cl} {us:List V},JT H cs us->JT H' cs us
 |[],_,h=>h
 |s::so,us,h=>by
  obtain⟨v,vs,rfl,⟨a,e1,e2⟩,h2⟩:=h;exact⟨v,vs,rfl,⟨a,e1,ht _ _ e2⟩,JT.tup ht h2⟩
theorem JT.bump {H:Hp}(zs:List Int):∀{cs:List Cl} {us:List V},JT H cs us->JT H (cs.map (bump zs)) us
 |[],_,h=>h
 |s::so,us,h=>by
  obtain⟨v,vs,rfl,h1,h2⟩:=h;exact⟨v,vs,rfl,h1,JT.bump zs h2⟩
theorem JT.snoc {H:Hp}{e:Cl}{v:V}(h1:Wb H e v):∀{cs:List Cl} {us:List V},JT H cs us->JT H (cs++[e]) (us++[v])
 |[],us,h=>by rw[show us=[] from h];exact⟨v,[],rfl,h1,rfl⟩
 |x::so,us,h=>by
  obtain⟨u,vs,rfl,h2,h3⟩:=h;exact⟨u,vs++[v],rfl,h2,JT.snoc h1 h3⟩
theorem Fe {cs:List Cl} {us:List V} {sl:Addr} {fr:List (Option Nat)} {tt:TT} {te:TE} {Q:VK} {σ:St} {H:Hp} (pr:JT H cs us) (hsl:H sl=some (.lst us)) (hn:cs.length<=1000) (p:Cl->Bool) (g:Cl->V)
  (htest:∀e∈cs,∀(H':Hp) (R:Bool->Hp->Prop),Ar H H'->R (p e) H'->tt (some e.v::some (.ref e.ta)::stC fr σ) H' R)
  (helt:∀e∈cs,∀(H':Hp) (R:VK),Ar H H'->R (g e) H'->te (some e.v::some (.ref e.ta)::stC fr σ) H' R)
  (hQ:∀l H',H l=none->Ar H H'->H' l=some (.lst ((cs.filter p).map g))->Q (.ref l) H'):FO (none::none::fr) (Pg K 2 (Fj (Ci 0) (Fj (Ci 1) QO))) tt te σ Q (Vc K sl) H:=by
 have lu:=FD pr;intro l hl;refine⟨fun i m σ' H'=>m=us.length-i/\i<=us.length/\(∃y0 y1,σ'=y0::y1::stC fr σ)/\Ar H H'/\H' l=some (.lst (((cs.take i).filter p).map g)),⟨us.length,by simp,Nat.zero_le _,⟨_,_,rfl⟩,Am hl _,by rw[Af];rfl⟩,?_⟩
 rintro i m σ' H' ⟨rfl,hi,⟨y0,y1,rfl⟩,hs,hl'⟩
 obtain⟨h1,h2,h3⟩:=D5 (K:=K) (AO.of hsl) H' hs i
 by_cases hlt:i<us.length
 ·refine .inr ⟨h1 hlt,fun x H'' y=>?_⟩;obtain⟨rfl,hx⟩:=h2 x H'' y;obtain⟨e,he,a,rfl,ha⟩:=Ht pr (hx hlt);have hm:=List.mem_of_getElem? he;have et:(cs.take (i+1)).filter p=(cs.take i).filter p++(if p e=true then[e] else[]):=by
   rw[List.take_add_one,he,List.filter_append];cases q:p e<;>simp[q]
  refine⟨a,_,rfl,AW.of (hs.get ha),rfl,_,_,rfl,_,_,rfl,rfl,?_⟩;refine htest e hm H'' _ hs ?_;refine C7 (fun c=>?_) (fun c=>?_)
  ·refine helt e hm H'' _ hs ?_;refine⟨_,hl',Ba ?_,us.length-(i+1),by omega,rfl,hlt,⟨_,_,rfl⟩,A0 hs hl _,?_⟩
   ·rw[List.length_map];have a:=List.length_filter_le p (cs.take i);rw[List.length_take] at a;omega
   ·rw[Af,et,if_pos c,List.map_append];rfl
  ·exact⟨us.length-(i+1),by omega,rfl,hlt,⟨_,_,rfl⟩,hs,by rw[hl',et,if_neg c,List.append_nil]⟩
 ·have e:i=us.length:=by omega
  subst e;exact .inl ⟨h3 (Nat.le_refl _),hQ l H' hl hs (by rw[hl',lu,List.take_of_length_le (Nat.le_refl _)])⟩
def Ot (H:Hp)(cs:List Cl):Prop:=∀e∈cs,H e.ta=some (.tup [.int e.z,.int e.y,.int (A8 e.bk)])/\Rep NL H (Ce e.bk) e.v/\Qd (e.z,e.y,A8 e.bk)
theorem Ot.tup {H H':Hp}(ht:∀c ys,H c=some (.tup ys)->H' c=some (.tup ys)){cs:List Cl}(h:Ot H cs):Ot H' cs:=fun e he=>⟨ht _ _ (h e he).1,Cz ht _ _ (h e he).2.1,(h e he).2.2⟩
def Wy (H:Hp)(rl sl:Addr)(row:List Int)(cs:List Cl)(us:List V):Prop:=H rl=some (.lst (row.map V.int))/\row.length=12/\(∀x∈row,0<=x/\x<1000000)/\H sl=some (.lst us)/\JT H cs us/\cs.length<=100/\Ot H cs
structure So where
 kd:Int
 e:Cl
structure Rr where
 nm:Str
 so:So
 a:Addr
def Rr.en (r:Rr):En:=⟨r.nm,r.so.kd,(r.so.e.z,r.so.e.y,A8 r.so.e.bk)⟩
def WZ (H:Hp)(r:Rr):Prop:=H r.a=some (.tup [.str r.nm,.int r.so.kd,.ref r.so.e.ta])
def Pr (rs:List Rr):List (Key×V):=rs.map fun r=>(Sum.inr r.nm,.ref r.a)
theorem Xd (rs:List Rr)(n:Rr)(nd:(rs.map (·.nm)).Nodup):∃rs':List Rr,Pr rs'=putK (Pr rs) (Sum.inr n.nm) (.ref n.a)/\(∀r∈rs',r=n\/r∈rs)/\(rs'.map (·.nm)).Nodup/\rs'.length<=rs.length+1:=by
 by_cases h:n.nm∈rs.map (·.nm)
 ·refine⟨rs.map fun r=>if r.nm=n.nm then n else r,?_,fun r hr=>?_,?_,by rw[List.length_map];omega⟩
  ·unfold putK;rw[HU];obtain⟨r0,h0,e0⟩:=List.mem_map.mp h;have hv:Bd (Pr rs) (Sum.inr n.nm)≠none:=fun z=>by
    unfold Bd at z;rw[Option.map_eq_none_iff,List.find?_eq_none] at z;exact z _ (List.mem_map.mpr ⟨r0,h0,rfl⟩) (decide_eq_true (congrArg Sum.inr e0))
   have hv':(Bd (Pr rs) (Sum.inr n.nm)).isSome=true:=by
    cases hh:Bd (Pr rs) (Sum.inr n.nm) with
    |none=>exact absurd hh hv
    |some _=>rfl
   rw[if_pos hv'];unfold Pr;rw[List.map_map,List.map_map];refine List.map_congr_left fun r _=>?_
   show(Sum.inr (if r.nm=n.nm then n else r).nm,V.ref (if r.nm=n.nm then n else r).a)=if(Sum.inr r.nm:Key)=Sum.inr n.nm then _ else _
   by_cases e:r.nm=n.nm
   ·rw[if_pos e,if_pos (congrArg Sum.inr e)];show(Sum.inr n.nm,V.ref n.a)=(Sum.inr r.nm,V.ref n.a);rw[e]
   ·rw[if_neg e,if_neg (fun z=>e (Sum.inr.inj z))]
  ·obtain⟨x,hx,rfl⟩:=List.mem_map.mp hr
   by_cases e:x.nm=n.nm
   ·rw[if_pos e];exact .inl rfl
   ·rw[if_neg e];exact .inr hx
  ·rw[List.map_map];have:((fun r:Rr=>r.nm)∘fun r=>if r.nm=n.nm then n else r)=fun r=>r.nm:=funext fun r=>by
    show(if r.nm=n.nm then n else r).nm=r.nm
    by_cases e:r.nm=n.nm
    ·rw[if_pos e,e]
    ·rw[if_neg e]
   rw[this];exact nd
 ·refine⟨rs++[n],?_,fun r hr=>?_,?_,by simp⟩
  ·rw[Gx _ (Gj fun x hx=>?_)]
   ·unfold Pr;rw[List.map_append];rfl
   ·obtain⟨r,hr,rfl⟩:=List.mem_map.mp hx;intro z;exact h (List.mem_map.mpr ⟨r,hr,Sum.inr.inj z⟩)
  ·rcases List.mem_append.mp hr with hr|hr
   ·exact .inr hr
   ·exact .inl (List.mem_singleton.mp hr)
  ·rw[List.map_append,List.nodup_append];refine⟨nd,by simp,fun a ha b hb=>?_⟩;have:b=n.nm:=List.mem_singleton.mp hb;rw[this];intro z;rw[z] at ha;exact h ha
def fE (rs:List Rr):V->V
 | .str z=>(Bd (Pr rs) (Sum.inr z)).getD .non
 |_=>.non
theorem Qm {rs:List Rr}(nd:(rs.map (·.nm)).Nodup){r:Rr}(h:r∈rs):Bd (Pr rs) (Sum.inr r.nm)=some (.ref r.a):=by
 refine GI ?_ (List.mem_map.mpr ⟨r,h,rfl⟩);unfold Pr;rw[List.map_map,show((fun y:Key×V=>y.1)∘fun r:Rr=>((Sum.inr r.nm:Key),V.ref r.a))=(fun z:Str=>(Sum.inr z:Key))∘(fun r:Rr=>r.nm) from rfl,<-List.map_map];exact List.Pairwise.map _ (fun a b n e=>n (Sum.inr.inj e)) nd
theorem QY {rs:List Rr}(nd:(rs.map (·.nm)).Nodup):∀{ts:List Str},(∀t∈ts,t∈rs.map (·.nm))->∃rs':List Rr,rs'.map (·.nm)=ts/\(∀r∈rs',r∈rs)/\(ts.map V.str).map (fE rs)=rs'.map fun r=>V.ref r.a
 |[],_=>⟨[],rfl,(fun _ h=>nomatch h),rfl⟩
 |t::ts,h=>by
  obtain⟨rs',e1,e2,e3⟩:=QY nd (fun u hu=>h u (List.mem_cons_of_mem _ hu));obtain⟨r,hr,e⟩:=List.mem_map.mp (h t List.mem_cons_self);refine⟨r::rs',by rw[List.map_cons,e1,e],fun x hx=>?_,?_⟩
  ·rcases List.mem_cons.mp hx with rfl|hx
   ·exact hr
   ·exact e2 x hx
  ·rw[List.map_cons,List.map_cons,e3,List.map_cons,<-e];show(Bd (Pr rs) (Sum.inr r.nm)).getD .non::_=_;rw[Qm nd hr];rfl
theorem Rv {H:Hp}{cs:List Cl}(tg:Ot H cs):∀{rs:List Rr},(∀r∈rs,WZ H r/\r.so.e∈cs)->Ax NL H ((rs.map Rr.en).map KM) (rs.map fun r=>V.ref r.a)
 |[],_=>rfl
 |r::rs,h=>⟨_,_,rfl,W0 (x:=r.en) (h r List.mem_cons_self).1 (tg _ (h r List.mem_cons_self).2).1,Rv tg fun x hx=>h x (List.mem_cons_of_mem _ hx)⟩
theorem IX {row:List Int}(lr:row.length=12)(br:∀x∈row,0<=x/\x<1000000)(k:Int)(h0:0<=k)(h1:k<12):∃x,Kt (row.map V.int) k=some (.int x)/\0<=x/\x<1000000:=by
 have hk:k.toNat<row.length:=by omega
 refine⟨_,P9 h0 (by omega),?_⟩;rw[List.getD_eq_getElem?_getD,List.getElem?_eq_getElem hk];exact br _ (List.getElem_mem hk)
theorem JC {α:Type}{xs:List α}(ne:xs≠[]){x:Int}:∃y∈xs,Kt xs (x%(xs.length:Int))=some y:=by
 have hp:0<xs.length:=List.length_pos_iff.mpr ne;have h1:=Int.emod_lt_of_pos x (show(0:Int)<(xs.length:Int) by omega);have h2:=Int.emod_nonneg x (show(xs.length:Int)≠0 by omega);have hk:(x%(xs.length:Int)).toNat<xs.length:=by omega
 refine⟨xs[(x%(xs.length:Int)).toNat],List.getElem_mem hk,?_⟩;have:=JM (List.getElem?_eq_getElem hk);rw[show(((x%(xs.length:Int)).toNat:Nat):Int)=x%(xs.length:Int) by omega] at this;exact this
def Ff (K:W.Frag):Sp:=fun vs H Q _=>∃rl sl row cs us,vs=[.ref rl,.ref sl]/\Wy H rl sl row cs us/\∀v b H',Ar H H'->Rep NL H' (Ce b) v->DH b->(∀t∈As b,∃e∈cs,t=(e.z,e.y,A8 e.bk))->Q v H'
theorem L4 (T:Txt K mg Ab Ad Aa Ae XC)(F:Fun K "_law_folder" "_law_folder" Cw f fd):FnOk P w K mg base Cf 1 f fd ["_law_row_here","_law_some"] (Ff K):=by
 exists CL
 ·obtain⟨rl,sl,row,cs,us,rfl,_⟩:=h;rfl
 obtain⟨rl,sl,row,cs,us,rfl,⟨hrl,lr,br,hsl,pr,few,tg⟩,q⟩:=h;have hu:=BJ hr;have hu9:=Fx hr;refine⟨_,(!Ah (@AG _ _ (2) _ _ _ _ CL.nd rfl (by trivial) (!Fh) (by rfl) (by trivial)) (!Ah (!Ck PassesOwn.never rfl (!Ed rfl T.b_range (!Ac (!AB Bj (!Av A4 (pv 0) (!Ak) (fun _ _=>rfl)) (!Ak)) (!Aj))) (@Aq _ _ (3) _ CL.nd rfl (by trivial) (by trivial)) (!Ah (@K4 _ ["_law_block_here","_law_tag","_law_row_here","_law_k"] [none,none,some 0,some 3] (4) _ _ _ _ _ _ _ _ _ _ _ _ _ _ CL.nd rfl (by trivial) rfl (!Bc (pv 1)) (by rfl) rfl (by repeat (first|exact trivial|refine⟨rfl,?_⟩)) (by repeat (first|exact trivial|refine⟨fun h=>(by first|exact⟨_,rfl⟩|cases h),?_⟩)) (fun C s H fp=>⟨(@Cy _ (K) _ _ _ _ (2) (by rfl) rfl (!AD (@Aq _ _ (0) _ (show(["_law_block_here","_law_tag","_law_row_here","_law_k"]:List Str).Nodup by decide +kernel) rfl (by trivial) (by trivial)) (!AD (@Aq _ _ (1) _ (show(["_law_block_here","_law_tag","_law_row_here","_law_k"]:List Str).Nodup by decide +kernel) rfl (by trivial) (by trivial)) (!BO))) (by rfl) (by rfl)),(!Gp (!AA Bh (!Av (Ep (K:=K) (by rfl)) (pv 0) (!Ak) (fun _ _=>rfl)) (!AB Bw (!Ak) (!AB Bj (!Av (Lu (K:=K) (by rfl)) (pv 2) (!AB Bw (!Ak) (pv 3)) (fun _ _=>rfl)) (!Ak))) (AC _))),(pv 1)⟩) (by intro _;rfl) (by rfl) (by trivial)) (!Al (!AS (!AA (PF hu) (pv 4) (!BY (!Aj)) (AC _)) (!Ah (@AG _ _ (5) _ _ _ _ CL.nd rfl (by trivial) (!AB Lx (!Av Np (!L8) (!AB Bj (!Av A4 (pv 0) (!AB Bw (!Ak) (pv 3)) (fun _ _=>rfl)) (!Ak)) (fun _ _=>rfl)) (!AB Bw (!Ak) (!AB Bj (!AB JK (!Av A4 (pv 0) (!AB Bw (!Ak) (pv 3)) (fun _ _=>rfl)) (!Ak)) (!Ak)))) (by rfl) (by trivial)) (!Al (!EO hu (pv 2) (pv 5) (!EF (!Ac (pv 5) (!Ac (!AB Bw (!Ak) (!AB Bj (!Av A4 (pv 0) (!AB Bw (!Ak) (pv 3)) (fun _ _=>rfl)) (!Ak))) (!Ac (!Av A4 (pv 4) (!AB Bj (!AB JK (!Av A4 (pv 0) (!AB Bw (!Ak) (pv 3)) (fun _ _=>rfl)) (!Ak)) (!Au AK (by rfl) T.b_len BG (!Ac (pv 4) (!Aj)))) (fun _ _=>rfl)) (!Aj)))))))) (!Aw)))) (by intro _;rfl)) (!Al (!An (!EF (!Ac (!Ak) (!Ac (!BL FP (by rfl) T.b_tuple Ft (!Ac (@Er _ ["_law_name","_law_entries"] [none,some 2] _ _ _ _ _ _ _ _ _ _ _ rfl (!Bc (!Au (Qi rfl) (by rfl) T.b_sorted EV (!Ac (pv 2) (!Aj)))) (by rfl) rfl (by repeat (first|exact trivial|refine⟨rfl,?_⟩)) (by repeat (first|exact trivial|refine⟨fun h=>(by first|exact⟨_,rfl⟩|cases h),?_⟩)) (fun C s H fp=>⟨(@Aq _ _ (0) _ (show(["_law_name","_law_entries"]:List Str).Nodup by decide +kernel) rfl (by trivial) (by trivial)),(!AX),(!BH hu (pv 1) (pv 0) (fun _ _=>rfl))⟩) (by intro _;rfl)) (!Aj))) (!Aj)))))))),?_⟩
 try dsimp only[BP,Cx.nox,Cx.wish]
 refine fun de hde=>?_
 have s1:=Am hde (.dK []);obtain⟨x1,a1,x10,x11⟩:=IX lr br 1 (by decide) (by decide);refine⟨_,rfl,rl,_,_,_,rfl,rfl,AO.of (s1.get hrl),a1,_,_,rfl,rfl,(by show(0:Int)<5;decide),_,rfl,by omega,by omega,?_⟩;refine Ki (lo:=0) (fun i σ H'=>∃(rs:List Rr) (v3 v4 v5:Option V),σ=[some (.ref rl),some (.ref sl),some (.ref de),v3,v4,v5]/\Ar H H'/\H' de=some (.dK (Pr rs))/\(rs.map (·.nm)).Nodup/\rs.length<=i/\∀r∈rs,WZ H' r/\IC (.str r.nm)=true/\r.so.e∈cs/\1<=r.so.kd/\r.so.kd<=2) ⟨[],none,none,none,rfl,s1,Af,List.nodup_nil,Nat.le_refl _,fun _ h=>nomatch h⟩ ?_ ?_
 ·rintro i σ H' hi ⟨rs,v3,v4,v5,rfl,s',hd',nd,lrs,hrs⟩
  have i5:(i:Int)<5:=by omega
  obtain⟨x2,a2,x20,x21⟩:=IX lr br (2+(0+(i:Int))) (by omega) (by omega);obtain⟨x7,a7,x70,x71⟩:=IX lr br (7+(0+(i:Int))) (by omega) (by omega);have hrl':=s'.get hrl;have hsl':=s'.get hsl;refine⟨_,rfl,sl,rfl,⟨_,AO.of hsl'⟩,?_⟩;refine Fe (fr:=[some 0,some 3]) (pr.tup fun c ys h=>s'.get h) hsl' (by omega) (fun e=>decide (V.int (kindB e.bk)=V.int (1+x2%2))) (fun e=>.ref e.ta) (fun e he H2 R s2 hR=>?_) (fun e he H2 R s2 hR=>⟨_,rfl,hR⟩) fun l H2 nl s2 hl=>?_
  ·obtain⟨va,xs,ev,hva⟩:=HJ (Rep.same (s'.trans s2) _ _ (tg e he).2.1);rw[ev];exact⟨_,rfl,va,_,_,_,rfl,rfl,AW.of hva,Hq,_,rfl,_,rfl,_,_,rfl,rfl,rl,_,_,_,rfl,rfl,AO.of (s2.get hrl'),a2,_,_,rfl,rfl,(by show(0:Int)<2;decide),_,_,rfl,rfl,rfl,_,rfl,hR⟩
  refine⟨_,rfl,J8,fun l0 hl0=>?_⟩;have s3:=Am hl0 (.lst []);have s13:=(s'.trans s2).trans s3;have hd3:=s3.get (s2.get hd');have hrs3:∀r∈rs,WZ (upd H2 l0 (.lst [])) r/\IC (.str r.nm)=true/\r.so.e∈cs/\1<=r.so.kd/\r.so.kd<=2:=fun r hr=>⟨s3.get (s2.get (hrs r hr).1),(hrs r hr).2⟩
  have hl3:=s3.get hl;refine⟨l,l0,_,rfl,rfl,AO.of hl3,AO.of Af,_,rfl,?_⟩;generalize (upd H2 l0 (.lst []))=H3 at s3 s13 hd3 hrs3 hl3;refine C7 (fun hc=>?_) (fun hc=>?_)
  ·have ne:(cs.filter fun e=>decide (V.int (kindB e.bk)=V.int (1+x2%2))).map (fun e=>V.ref e.ta)≠[]:=fun z=>by
    rw[z] at hc;exact absurd hc (by decide)
   obtain⟨c,hc',mc⟩:=PL (z:=PySem.Str.ofString "ab0z") (i:=x7%4) (Int.emod_nonneg _ (by decide)) (by show x7%4<4;omega);refine⟨_,rfl,_,rfl,_,_,rfl,rfl,rl,_,_,_,rfl,rfl,AO.of (s13.get hrl),a7,_,_,rfl,rfl,(by show(0:Int)<4;decide),_,_,c,rfl,rfl,Ym,hc',?_⟩;refine⟨_,rfl,_,rfl,_,_,rfl,rfl,rl,_,_,_,rfl,rfl,AO.of (s13.get hrl),a7,_,_,rfl,rfl,⟨by decide,by decide⟩,_,_,rfl,rfl,(by show(0:Int)<8;decide),_,_,rfl,rfl,_,_,rfl,rfl,by omega,by omega,(by show 1<=1000;decide),?_⟩;have nb:=Tb mc (n:=1+x7/4%8) (by omega) (by omega);generalize PySem.Txt.mul ⟨#[c]⟩ (1+x7/4%8)=nm at nb;obtain⟨u,hu',hat⟩:=JC ne (x:=x2/2);obtain⟨e,he,rfl⟩:=List.mem_map.mp hu';have hec:=(List.mem_filter.mp he).1;have hp:=List.length_pos_iff.mpr ne;refine⟨_,rfl,_,rfl,_,rfl,_,_,rfl,rfl,rl,_,_,_,rfl,rfl,AO.of (s13.get hrl),a2,_,_,rfl,rfl,(by show(0:Int)<2;decide),_,_,rfl,rfl,?_⟩;refine⟨_,rfl,_,rfl,_,rfl,_,_,rfl,rfl,rl,_,_,_,rfl,rfl,AO.of (s13.get hrl),a2,_,_,rfl,rfl,⟨by decide,by decide⟩,_,rfl,l,_,rfl,.inl (AO.of hl3),_,_,rfl,rfl,(by show(0:Int)<((_:List V).length:Int);omega),l,_,_,_,rfl,rfl,AO.of hl3,hat,UX,fun b hb=>?_⟩;have s4:=Am hb (.tup [.str nm,.int (1+x2%2),.ref e.ta]);refine⟨_,rfl,_,rfl,de,_,rfl,IY.k (k:=Sum.inr nm) (s4.get hd3) (Ba (by unfold Pr;rw[List.length_map];omega)),?_⟩;obtain⟨rs',e1,e2,e3,e4⟩:=Xd rs ⟨nm,⟨1+x2%2,e⟩,b⟩ nd;have tp:∀c ys,H3 c=some (.tup ys)->(upd (upd H3 b (.tup [.str nm,.int (1+x2%2),.ref e.ta])) de (.dK (putK (Pr rs) (Sum.inr nm) (.ref b)))) c=some (.tup ys):=fun c ys h=>by
    rw[Ag (AM h hd3 (by intro z;cases z))];exact s4.get h
   have nbd:b≠de:=fun z=>by rw[z,hd3] at hb;cases hb
   refine⟨rs',_,_,_,rfl,A0 (s13.trans s4) hde _,by rw[Af,<-e1],e3,by omega,fun r hr=>?_⟩;rcases e2 r hr with rfl|hr
   ·refine⟨?_,nb,hec,by show(1:Int)<=1+x2%2;omega,by show 1+x2%2<=(2:Int);omega⟩;show upd _ de _ b=_;rw[Ag nbd,Af]
   ·obtain⟨q1,q2⟩:=hrs3 r hr;exact⟨tp _ _ q1,q2⟩
  ·exact⟨rs,_,_,_,rfl,s13,hd3,nd,by omega,hrs3⟩
 ·rintro σ H' ⟨rs,v3,v4,v5,rfl,s',hd',nd,lrs,hrs⟩
  have l4:rs.length<=5:=by omega
  refine⟨_,rfl,de,_,rs.map (·.nm),rfl,hd',by unfold Pr;rw[List.map_map,List.map_map];rfl,by rw[List.length_map];omega,fun ts pl pm srt hpl=>?_⟩;have s2:=Am hpl (.lst (ts.map V.str));have lts:ts.length=rs.length:=by rw[pm.length_eq,List.length_map]
  refine⟨pl,rfl,⟨_,AO.of Af⟩,?_⟩;refine comp_map (xs:=ts.map V.str) (fE rs) (D5 (AO.of Af)) (by rw[List.length_map];omega) (fun x H2 R hx s3 hR=>?_) fun l H3 nl s3 hl=>?_
  ·obtain⟨t,ht,rfl⟩:=List.mem_map.mp hx;obtain⟨r,hr,rfl⟩:=List.mem_map.mp (pm.mem_iff.mp ht);have g:=Bx.k (k:=Sum.inr r.nm) (s3.get (s2.get hd'));rw[Qm nd hr] at g;have hR:=hR H2 (Ar.refl _);have e:fE rs (V.str r.nm)=.ref r.a:=by show(Bd (Pr rs) (Sum.inr r.nm)).getD .non=_;rw[Qm nd hr];rfl
   rw[e] at hR;exact⟨_,rfl,_,rfl,de,_,rfl,g,hR⟩
  obtain⟨rs',e1,e2,e3⟩:=QY nd (ts:=ts) (fun t ht=>pm.mem_iff.mp ht);rw[e3] at hl;have s5:=(s'.trans s2).trans s3;have lr':rs'.length=rs.length:=by rw[<-List.length_map (f:=(·.nm)),e1,lts]
  refine⟨l,_,rfl,.inl ⟨AO.of hl,fun l5 hl5=>⟨Mp,fun l6 hl6=>?_⟩⟩⟩;have s7:=Am hl5 (.tup (rs'.map fun r=>V.ref r.a));have s8:=Am hl6 (.tup [.int 2,.ref l5]);have s9:=(s5.trans s7).trans s8;have r9:=Rv (tg.tup fun c ys h=>s9.get h) (rs:=rs') (fun r hr=>⟨((s2.trans s3).trans (s7.trans s8)).get (hrs r (e2 r hr)).1,(hrs r (e2 r hr)).2.2.1⟩);refine q (.ref l6) (.folder (rs'.map Rr.en)) _ s9 ⟨l6,_,rfl,Af,_,_,rfl,rfl,_,_,rfl,⟨l5,_,rfl,s8.get Af,r9⟩,rfl⟩ ⟨by rw[List.length_map];omega,fun e he=>?_,?_,?_⟩ fun t ht=>?_
  ·obtain⟨r,hr,rfl⟩:=List.mem_map.mp he;obtain⟨_,q2,q3,q4⟩:=hrs r (e2 r hr);exact⟨q2,q4,(tg _ q3).2.2⟩
  ·rw[List.map_map];show PyProof.Rows.sortedS (rs'.map fun r=>r.nm)=true;rw[e1];exact srt
  ·rw[List.map_map];show(rs'.map fun r=>r.nm).Nodup;rw[e1];exact pm.nodup_iff.mpr nd
  ·obtain⟨en,hen,rfl⟩:=List.mem_map.mp ht;obtain⟨r,hr,rfl⟩:=List.mem_map.mp hen;exact⟨r.so.e,(hrs r (e2 r hr)).2.2.1,rfl⟩
def Pq (e:Cl):Tg:=(e.z,e.y,A8 e.bk)
theorem JE {H:Hp}{cs:List Cl}(tg:Ot H cs):∀{es:List Cl},(∀e∈es,e∈cs)->Ax NL H ((es.map Pq).map Fn) (es.map fun e=>V.ref e.ta)
 |[],_=>rfl
 |e::es,h=>⟨_,_,rfl,LS (t:=Pq e) (tg _ (h e List.mem_cons_self)).1,JE tg fun x hx=>h x (List.mem_cons_of_mem _ hx)⟩
theorem T4 {cs:List Cl}:∀{ys:List V},(∀y∈ys,∃e∈cs,y=V.ref e.ta)->∃es:List Cl,ys=es.map (fun e=>V.ref e.ta)/\∀e∈es,e∈cs
 |[],_=>⟨[],rfl,fun _ h=>nomatch h⟩
 |y::ys,h=>by
  obtain⟨es,e1,e2⟩:=T4 fun x hx=>h x (List.mem_cons_of_mem _ hx)
  obtain⟨e,he,rfl⟩:=h y List.mem_cons_self;refine⟨e::es,by rw[e1];rfl,fun x hx=>?_⟩;rcases List.mem_cons.mp hx with rfl|hx
  ·exact he
  ·exact e2 x hx
def Zl (lv:Int)(e:Cl):Bool:=match e.bk with
 | .row l _=>decide (V.int l=V.int (lv-1))
 |_=>false
def UP (row:List Int)(ls:List V):V->V
 | .int k=>(Kt ls (row.getD (2+k).toNat 0%(ls.length:Int))).getD .non
 |_=>.non
def Gd (K:W.Frag):Sp:=fun vs H Q _=>∃rl sl row cs us,vs=[.ref rl,.ref sl]/\Wy H rl sl row cs us/\∀v b H',Ar H H'->Rep NL H' (Ce b) v->DH b->(∀t∈As b,∃e∈cs,t=(e.z,e.y,A8 e.bk))->Q v H'
theorem Ms (T:Txt K mg Ab Ad Aa Ae XC)(F:Fun K "_law_block" "_law_block" C3 f fd)(GH:Def P w K mg base 2 "_law_piece" ["_law_row_here"] (FS K))(FY:Def P w K mg base 1 "_law_folder" ["_law_row_here","_law_some"] (Ff K)):FnOk P w K mg base Cf 3 f fd ["_law_row_here","_law_some"] (Gd K):=by
 exists Eo
 ·obtain⟨rl,sl,row,cs,us,rfl,_⟩:=h;rfl
 obtain⟨rl,sl,row,cs,us,rfl,rs,q⟩:=h;have hu:=BJ hr;have hu9:=Fx hr;refine⟨_,(!Ah (!AS (!AA OH (!AB Bj (!Av A4 (pv 0) (!Ak) (fun _ _=>rfl)) (!Ak)) (!Ak) (AC _)) (!Al (!An (!AN GH (by trivial) rfl (!Ac (pv 0) (!Aj))))) (!Aw)) (!Ah (!AS (!AA Bh (!AB Bj (!Av A4 (pv 0) (!Ak) (fun _ _=>rfl)) (!Ak)) (!Ak) (AC _)) (!Al (!An (!AN FY (by trivial) rfl (!Ac (pv 0) (!Ac (pv 1) (!Aj)))))) (!Aw)) (!Ah (@AG _ _ (2) _ _ _ _ Eo.nd rfl (by trivial) (!AB Bw (!Ak) (!AB IW (!AB Bj (!AB JK (!Av A4 (pv 0) (!Ak) (fun _ _=>rfl)) (!Ak)) (!Ak)) (!BL RO (by rfl) T.b_int Th (!Ac (!CU Bh (!AB Bj (!Av A4 (pv 0) (!Ak) (fun _ _=>rfl)) (!Ak)) (!Ak) (AC _)) (!Aj))))) (by rfl) (by trivial)) (!Ah (@AG _ _ (3) _ _ _ _ Eo.nd rfl (by trivial) (@Bs _ ["_law_block_here","_law_tag"] _ _ _ _ _ _ _ _ _ _ rfl (!Bc (pv 1)) (by decide +kernel) (fun C s H fp=>⟨(@Cy _ (K) _ _ _ _ (2) (by rfl) rfl (!AD (@Aq _ _ (0) _ (show(["_law_block_here","_law_tag"]:List Str).Nodup by decide +kernel) rfl (by trivial) (by trivial)) (!AD (@Aq _ _ (1) _ (show(["_law_block_here","_law_tag"]:List Str).Nodup by decide +kernel) rfl (by trivial) (by trivial)) (!BO))) (by rfl) (by rfl)),(!Gp (!AA Bh (!Av (Ep (K:=K) (by rfl)) (pv 0) (!Ak) (fun _ _=>rfl)) (!Ak) (AC _))),(pv 1)⟩) (by intro _;rfl)) (by rfl) (by trivial)) (!Ah (!AS (!AA MX (pv 2) (!Ak) (AC _)) (!Al (@AG _ _ (3) _ _ _ _ Eo.nd rfl (by trivial) (@Er _ ["_law_block_here","_law_tag","_law_level"] [none,none,some 2] _ _ _ _ _ _ _ _ _ _ _ rfl (!Bc (pv 1)) (by rfl) rfl (by repeat (first|exact trivial|refine⟨rfl,?_⟩)) (by repeat (first|exact trivial|refine⟨fun h=>(by first|exact⟨_,rfl⟩|cases h),?_⟩)) (fun C s H fp=>⟨(@Cy _ (K) _ _ _ _ (2) (by rfl) rfl (!AD (@Aq _ _ (0) _ (show(["_law_block_here","_law_tag","_law_level"]:List Str).Nodup by decide +kernel) rfl (by trivial) (by trivial)) (!AD (@Aq _ _ (1) _ (show(["_law_block_here","_law_tag","_law_level"]:List Str).Nodup by decide +kernel) rfl (by trivial) (by trivial)) (!BO))) (by rfl) (by rfl)),(!Gp (@PW.pt _ _ _ (!PN (!AA Bh (!Av (Ep (K:=K) (by rfl)) (pv 0) (!Ak) (fun _ _=>rfl)) (!Ak) (AC _)) (!Nw (!AA Bh (!Av (Ep (K:=K) (by rfl)) (pv 0) (!Ak) (fun _ _=>rfl)) (!AB HS (pv 2) (!Ak)) (AC _)))))),(pv 1)⟩) (by intro _;rfl)) (by rfl) (by trivial))) (!Aw)) (!Ah (!AS (!AA (Us hu) (pv 3) (!BY (!Aj)) (AC _)) (!Al (!An (!EF (!Ac (!Ak) (!Ac (!Ak) (!Ac (!EF (!Aj)) (!Aj))))))) (!Aw)) (!Al (!An (!EF (!Ac (!Ak) (!Ac (pv 2) (!Ac (!BL FP (by rfl) T.b_tuple Ft (!Ac (@Er _ ["_law_k","_law_rows","_law_row_here"] [none,some 3,some 0] _ _ _ _ _ _ _ _ _ _ _ rfl (!Ed rfl T.b_range (!Ac (!AB Bw (!Ak) (!AB Bj (!Av A4 (pv 0) (!Ak) (fun _ _=>rfl)) (!Ak))) (!Aj))) (by rfl) rfl (by repeat (first|exact trivial|refine⟨rfl,?_⟩)) (by repeat (first|exact trivial|refine⟨fun h=>(by first|exact⟨_,rfl⟩|cases h),?_⟩)) (fun C s H fp=>⟨(@Aq _ _ (0) _ (show(["_law_k","_law_rows","_law_row_here"]:List Str).Nodup by decide +kernel) rfl (by trivial) (by trivial)),(!AX),(!Av (Lu (K:=K) (by rfl)) (pv 1) (!AB Bj (!Av (Lu (K:=K) (by rfl)) (pv 2) (!AB Bw (!Ak) (pv 0)) (fun _ _=>rfl)) (!Au (Ml (K:=K) (by rfl)) (by rfl) T.b_len BG (!Ac (pv 1) (!Aj)))) (fun _ _=>rfl))⟩) (by intro _;rfl)) (!Aj))) (!Aj))))))))))))),?_⟩
 try dsimp only[BP,Cx.nox,Cx.wish]
 obtain⟨hrl,lr,br,hsl,pr,few,tg⟩:=id rs;obtain⟨x0,a0,x00,x01⟩:=IX lr br 0 (by decide) (by decide);refine⟨_,rfl,rl,_,_,_,rfl,rfl,AO.of hrl,a0,_,_,rfl,rfl,(by show(0:Int)<6;decide),_,_,rfl,rfl,_,rfl,C7 (fun _=>?_) (fun _=>?_)⟩
 ·exact⟨_,rfl,rl,row,rfl,hrl,lr,br,fun v z H' s' hv ok=>q v (.piece z) H' s' hv ok fun _ h=>nomatch h⟩
 refine⟨_,rfl,rl,_,_,_,rfl,rfl,AO.of hrl,a0,_,_,rfl,rfl,(by show(0:Int)<6;decide),rfl,_,rfl,C7 (fun _=>?_) (fun _=>?_)⟩
 ·exact⟨_,rfl,_,rfl,rl,sl,row,cs,us,rfl,rs,q⟩
 refine⟨_,rfl,rl,_,_,_,rfl,rfl,AO.of hrl,a0,_,_,rfl,rfl,⟨by decide,by decide⟩,_,_,rfl,rfl,(by show(0:Int)<3;decide),_,rfl,rl,_,_,_,rfl,rfl,AO.of hrl,a0,_,_,rfl,rfl,(by show(0:Int)<6;decide),rfl,.inr ⟨_,rfl,_,_,rfl,rfl,.inl ⟨by omega,by omega⟩,_,_,rfl,rfl,?_⟩⟩;obtain⟨lv,elv,lv1,lv3⟩:∃lv:Int,1+x0/6%3*(if decide (V.int (x0%6)=V.int 4)=true then 1 else 0)=lv/\1<=lv/\lv<=3:=⟨_,rfl,by split<;>omega,by split<;>omega⟩
 dsimp only[Ci];rw[elv];refine⟨_,rfl,sl,rfl,⟨_,AO.of hsl⟩,?_⟩;refine Fe (fr:=[]) pr hsl (by omega) (fun e=>decide (V.int (kindB e.bk)=V.int 0)) (fun e=>.ref e.ta) (fun e he H2 R s2 hR=>?_) (fun e he H2 R s2 hR=>⟨_,rfl,hR⟩) fun l H2 nl s2 hl=>?_
 ·obtain⟨va,xs,ev,hva⟩:=HJ (Rep.same s2 _ _ (tg e he).2.1);rw[ev];exact⟨_,rfl,va,_,_,_,rfl,rfl,AW.of hva,Hq,rfl,_,rfl,hR⟩
 dsimp only[Ci];refine Lf (fun σ' H'=>∃(l:Addr) (cs':List Cl),σ'=[some (.ref rl),some (.ref sl),some (.int lv),some (.ref l)]/\Ar H H'/\H' l=some (.lst (cs'.map fun e=>V.ref e.ta))/\(∀e∈cs',e∈cs)) (fun N hN=>?_) ?_
 ·refine⟨_,rfl,_,_,rfl,rfl,_,rfl,C7 (fun _=>?_) (fun _=>?_)⟩
  ·refine⟨_,rfl,sl,rfl,⟨_,AO.of (s2.get hsl)⟩,?_⟩;refine Fe (fr:=[some 2]) (pr.tup fun c ys h=>s2.get h) (s2.get hsl) (by omega) (Zl lv) (fun e=>.ref e.ta) (fun e he H3 R s3 hR=>?_) (fun e he H3 R s3 hR=>⟨_,rfl,hR⟩) fun l3 H3 nl3 s3 hl3=>?_
   ·have rp:=Rep.same (s2.trans s3) _ _ (tg e he).2.1;unfold Zl at hR;cases hb:e.bk with
    |piece z=>
     rw[hb] at rp hR;obtain⟨va,ev,hva⟩:=E7 rp;rw[ev];exact⟨_,rfl,va,_,_,_,rfl,rfl,AW.of hva,rfl,rfl,_,rfl,AR rfl hR⟩
    |row l ts=>
     rw[hb] at rp hR;obtain⟨va,d,us,ev,hva,_⟩:=Ii rp;rw[ev];exact⟨_,rfl,va,_,_,_,rfl,rfl,AW.of hva,rfl,rfl,_,rfl,BS rfl ⟨_,rfl,va,_,_,_,rfl,rfl,AW.of hva,rfl,_,rfl,_,_,rfl,rfl,rfl,_,rfl,hR⟩⟩
    |folder es=>
     rw[hb] at rp hR;obtain⟨va,d,us,ev,hva,_⟩:=CJ rp;rw[ev];exact⟨_,rfl,va,_,_,_,rfl,rfl,AW.of hva,rfl,rfl,_,rfl,AR rfl hR⟩
   exact hN _ _ ⟨l3,_,rfl,s2.trans s3,hl3,fun e he=>(List.mem_filter.mp he).1⟩
  ·exact hN _ _ ⟨l,_,rfl,s2,hl,fun e he=>(List.mem_filter.mp he).1⟩
 rintro σ' H3 ⟨l3,cs',rfl,s3,hl3,sub⟩
 refine⟨_,rfl,J8,fun l0 hl0=>?_⟩;have s4:=s3.trans (Am hl0 (.lst []));have hl4:=(Am hl0 (.lst [])).get hl3;refine⟨l3,l0,_,rfl,rfl,AO.of hl4,AO.of Af,_,rfl,?_⟩;generalize (upd H3 l0 (.lst []))=H4 at s4 hl4;refine C7 (fun hc=>?_) (fun hc=>?_)
 ·refine⟨J8,fun t1 ht1=>⟨UX,fun t2 ht2=>?_⟩⟩;have s5:=Am ht1 (.tup []);have s6:=Am ht2 (.tup [.int 1,.int 1,.ref t1]);exact q (.ref t2) (.row 1 []) _ ((s4.trans s5).trans s6) ⟨t2,_,rfl,Af,_,_,rfl,rfl,_,_,rfl,rfl,_,_,rfl,⟨t1,_,rfl,s6.get Af,rfl⟩,rfl⟩ ⟨⟨by decide,by decide⟩,by show 0<=8;decide,fun h=>by omega,fun _ h=>nomatch h⟩ fun _ h=>nomatch h
 have ne:cs'.map (fun e=>V.ref e.ta)≠[]:=fun z=>hc (by rw[z];rfl)
 have hp:=List.length_pos_iff.mpr ne;obtain⟨x1,a1,x10,x11⟩:=IX lr br 1 (by decide) (by decide);refine⟨_,rfl,_,rfl,rl,_,_,_,rfl,rfl,AO.of (s4.get hrl),a1,_,_,rfl,rfl,(by show(0:Int)<8;decide),_,_,rfl,rfl,_,rfl,by omega,by omega,?_⟩;have lx:((List.range (1+x1%8).toNat).map fun(i:Nat)=>V.int (0+(i:Int))).length<=8:=by rw[List.length_map,List.length_range];omega
 refine comp_map (xs:=(List.range (1+x1%8).toNat).map fun(i:Nat)=>V.int (0+(i:Int))) (UP row (cs'.map fun e=>V.ref e.ta)) Qo (by omega) (fun x H5 R hx s5 hR=>?_) fun l5 H5 nl5 s5 hl5=>?_
 ·obtain⟨k,hk,rfl⟩:=List.mem_map.mp hx;have hk8:k<(1+x1%8).toNat:=List.mem_range.mp hk;have ak:=P9 (ns:=row) (i:=2+(0+(k:Int))) (by omega) (by omega);obtain⟨u,hu',hat⟩:=JC ne (x:=row.getD (2+(0+(k:Int))).toNat 0);have hR:=hR H5 (Ar.refl _);have e:UP row (cs'.map fun e=>V.ref e.ta) (V.int (0+(k:Int)))=u:=by
   show(Kt _ _).getD V.non=u;rw[hat];rfl
  rw[e] at hR;exact⟨_,rfl,_,rfl,_,rfl,_,_,rfl,rfl,rl,_,_,_,rfl,rfl,AO.of (s5.get (s4.get hrl)),ak,_,rfl,l3,_,rfl,.inl (AO.of (s5.get hl4)),_,_,rfl,rfl,(by show(0:Int)<((_:List V).length:Int);omega),l3,_,_,_,rfl,rfl,AO.of (s5.get hl4),hat,hR⟩
 obtain⟨es,ees,hes⟩:=T4 (cs:=cs') (ys:=((List.range (1+x1%8).toNat).map fun(i:Nat)=>V.int (0+(i:Int))).map (UP row (cs'.map fun e=>V.ref e.ta))) fun y hy=>by
  obtain⟨x,hx,rfl⟩:=List.mem_map.mp hy;obtain⟨k,hk,rfl⟩:=List.mem_map.mp hx;obtain⟨u,hu',hat⟩:=JC ne (x:=row.getD (2+(0+(k:Int))).toNat 0);obtain⟨e,he,rfl⟩:=List.mem_map.mp hu';refine⟨e,he,?_⟩;show(Kt _ _).getD V.non=_;rw[hat];rfl
 have les:es.length=(1+x1%8).toNat:=by
  have:=congrArg List.length ees;rw[List.length_map,List.length_map,List.length_map,List.length_range] at this;exact this.symm
 rw[ees] at hl5;refine⟨l5,_,rfl,.inl ⟨AO.of hl5,fun l6 hl6=>⟨UX,fun l7 hl7=>?_⟩⟩⟩;have s6:=Am hl6 (.tup (es.map fun e=>V.ref e.ta));have s7:=Am hl7 (.tup [.int 1,.int lv,.ref l6]);have s8:=((s4.trans s5).trans s6).trans s7;have r8:=JE (tg.tup fun c ys h=>s8.get h) (es:=es) fun e he=>sub e (hes e he)
 refine q (.ref l7) (.row lv (es.map Pq)) _ s8 ⟨l7,_,rfl,Af,_,_,rfl,rfl,_,_,rfl,rfl,_,_,rfl,⟨l6,_,rfl,s7.get Af,r8⟩,rfl⟩ ⟨⟨lv1,by omega⟩,by rw[List.length_map];omega,fun _ z=>?_,fun t ht=>?_⟩ fun t ht=>?_
 ·have:=congrArg List.length z;rw[List.length_map] at this;simp only[List.length_nil] at this;omega
 ·obtain⟨e,he,rfl⟩:=List.mem_map.mp ht;exact(tg e (sub e (hes e he))).2.2
 ·obtain⟨e,he,rfl⟩:=List.mem_map.mp ht;exact⟨e,sub e (hes e he),rfl⟩
theorem Kc (cs:List Cl):cs.filter (fun _=>true)=cs:=List.filter_eq_self.mpr fun _ _=>rfl
theorem made {C:Addr}{H1 H2:Hp}{x dx:Addr}(nx:H1 x=none)(ndx:H1 dx=none)(k:∀b o,(upd (upd H1 dx (.own x)) x (.ins C dx [])) b=some o->b≠x->H2 b=some o):Ar H1 H2:=fun b o e=>by
 have n1:b≠x:=AF e nx;have n2:b≠dx:=AF e ndx;exact k b o (by rw[Ag n1,Ag n2];exact e) n1
end
open M06 M10
section
variable {P:Program}{w:World}{K:W.Frag}{mg:Str->Option Value}{base:Heap}{f Ab Ad Aa Ae:Addr}{XC:Nat->Addr}{fd:FuncData}
def Hi (e:Cl):List Key:=[Sum.inl e.z,Sum.inl e.y,Sum.inl (A8 e.bk)]
def cK (ps:List Cl)(c:Int->Int):List (List Key×V):=ps.map fun e=>(Hi e,V.int (c e.z))
structure SoAt (H:Hp) (sl:Addr) (us:List V) (ps:List Cl):Prop where
 l:H sl=some (.lst us)
 pr:JT H ps us
 tg:Ot H ps
 nd:(ps.map (·.z)).Nodup
 kn:∀e∈ps,∀t∈As e.bk,∃c∈ps,t=Pq c
 ok:∀e∈ps,DH e.bk
 few:ps.length<=60
def SN (H:Hp)(hl:Addr)(hs ps:List Cl):Prop:=H hl=some (.lst (hs.map fun e=>V.ref e.ta))/\hs.length<=60/\∀e∈hs,e∈ps
theorem SoAt.same {H H':Hp}{sl:Addr}{us:List V}{ps:List Cl}(s:Ar H H')(h:SoAt H sl us ps):SoAt H' sl us ps:={ h with l:=s.get h.l,pr:=h.pr.tup fun c ys e=>s.get e,tg:=h.tg.tup fun c ys e=>s.get e }
theorem NM {ps:List Cl}(nd:(ps.map (·.z)).Nodup):((ps.map Hi)).Nodup:=by
 have:(ps.map Hi).map (fun l=>l.headD (Sum.inl 0))=(ps.map (·.z)).map fun z=>(Sum.inl z:Key):=by rw[List.map_map,List.map_map];rfl
 have h2:((ps.map Hi).map (fun l:List Key=>l.headD (Sum.inl 0))).Nodup:=by
  rw[this];exact List.Pairwise.map _ (fun a b (n:a≠b) e=>n (Sum.inl.inj e)) nd
 exact List.Pairwise.imp (fun n e=>n (by rw[e])) (List.pairwise_map.mp h2)
theorem IM {ps:List Cl}{c:Int->Int}(nd:(ps.map (·.z)).Nodup){e:Cl}(he:e∈ps):Bd (cK ps c) (Hi e)=some (.int (c e.z)):=by
 refine GI ?_ (List.mem_map.mpr ⟨e,he,rfl⟩);unfold cK;rw[List.map_map];exact NM nd
theorem V1 {κ:Type}[DecidableEq κ]{g:Cl->κ}{f:Cl->V}{w:V}{e:Cl}:∀{ps:List Cl},(ps.map g).Nodup->e∈ps->putK (ps.map fun x=>(g x,f x)) (g e) w=ps.map fun x=>(g x,if g x=g e then w else f x):=fun{ps} nd he=>by
 have hv:Bd (ps.map fun x=>(g x,f x)) (g e)=some (f e):=GI (by rw[List.map_map];exact nd) (List.mem_map.mpr ⟨e,he,rfl⟩);unfold putK;rw[HU,hv,if_pos (show(some (f e)).isSome=true from rfl),List.map_map];refine List.map_congr_left fun x _=>?_
 show(if g x=g e then _ else _)=_
 by_cases h:g x=g e
 ·rw[if_pos h,if_pos h]
 ·rw[if_neg h,if_neg h]
theorem QK {ps:List Cl}{c:Int->Int}{w:Int}(nd:(ps.map (·.z)).Nodup){e:Cl}(he:e∈ps):putK (cK ps c) (Hi e) (.int w)=cK ps fun z=>if z=e.z then w else c z:=by
 unfold cK;rw[V1 (NM nd) he];refine List.map_congr_left fun x hx=>?_
 by_cases h:x.z=e.z
 ·obtain rfl:=AH nd hx he h;rw[if_pos rfl];show _=(Hi x,V.int (if x.z=x.z then w else c x.z));rw[if_pos rfl]
 ·show _=(Hi x,V.int (if x.z=e.z then w else c x.z));rw[if_neg (fun z=>h (by have:=congrArg (fun l:List Key=>l.headD (Sum.inl 0)) z;exact Sum.inl.inj this)),if_neg h]
def CG (K:W.Frag):Sp:=fun vs H Q _=>∃sl us ps hl hs,vs=[.ref sl,.ref hl]/\SoAt H sl us ps/\SN H hl hs ps/\
 ∀d H',Ar H H'->H d=none->H' d=some (.dT (cK ps fun z=>(D7 (Lc ps) z:Int)+((hs.map (·.z)).count z:Int)))->Q (.ref d) H'
theorem Lj (T:Txt K mg Ab Ad Aa Ae XC)(F:Fun K "_law_counts" "_law_counts" Cq f fd)(DA:Def P w K mg base 1 "_law_tags" ["_law_block_here"] (EM K)):FnOk P w K mg base Cf 2 f fd ["_law_some","_law_held"] (CG K):=by
 exists Bt
 ·obtain⟨sl,us,ps,hl,hs,rfl,_⟩:=h;rfl
 obtain⟨sl,us,ps,hl,hs,rfl,so,he,hq⟩:=h;have hu:=BJ hr;refine⟨_,(!Ah (@AG _ _ (2) _ _ _ _ Bt.nd rfl (by trivial) (!TQ) (by rfl) (by trivial)) (!Ah (!Ck PassesOwn.never rfl (!Bc (pv 0)) (!NW rfl (!AD (@Aq _ _ (3) _ Bt.nd rfl (by trivial) (by trivial)) (!AD (@Aq _ _ (4) _ Bt.nd rfl (by trivial) (by trivial)) (!BO)))) (!Al (!EO hu (pv 2) (pv 4) (!Ak))) (by intro _;rfl)) (!Ah (!Ck PassesOwn.never rfl (!Bc (pv 0)) (!NW rfl (!AD (@Aq _ _ (3) _ Bt.nd rfl (by trivial) (by trivial)) (!AD (@Aq _ _ (4) _ Bt.nd rfl (by trivial) (by trivial)) (!BO)))) (!Al (!Ck PassesOwn.never rfl (!Bc (!AN DA (by trivial) rfl (!Ac (pv 3) (!Aj)))) (@Aq _ _ (5) _ Bt.nd rfl (by trivial) (by trivial)) (!Al (!EO hu (pv 2) (pv 5) (!AB Bw (!BH hu (pv 2) (pv 5) (fun _ _=>rfl)) (!Ak)))) (by intro _;rfl))) (by intro _;rfl)) (!Ah (!Ck PassesOwn.never rfl (!Bc (pv 1)) (@Aq _ _ (4) _ Bt.nd rfl (by trivial) (by trivial)) (!Al (!EO hu (pv 2) (pv 4) (!AB Bw (!BH hu (pv 2) (pv 4) (fun _ _=>rfl)) (!Ak)))) (by intro _;rfl)) (!Al (!An (pv 2))))))),?_⟩
 try dsimp only[BP,Cx.nox,Cx.wish]
 refine fun d hd=>?_
 have s1:=Am hd (.dT []);have nd:∀{a o},H a=some o->a≠d:=fun{a o} h z=>by rw[z,hd] at h;cases h
 have tp:∀{H':Hp},Ar H H'->∀kvs,Ar H (upd H' d (.dT kvs)):=fun s kvs=>A0 s hd _
 refine⟨_,rfl,sl,rfl,⟨_,AO.of (s1.get so.l)⟩,?_⟩;have lu:us.length=ps.length:=FD so.pr;refine Cp (K:=K) (a:=sl) (xs:=us) (fun i σ H'=>∃v3 v4 v5,σ=[some (.ref sl),some (.ref hl),some (.ref d),v3,v4,v5]/\Ar H H'/\H' d=some (.dT (cK (ps.take i) fun _=>0))) ⟨_,_,_,rfl,s1,Af⟩ ?_ ?_ ?_
 ·rintro i σ H' _ ⟨_,_,_,_,s',_⟩
  exact AO.of (s'.get so.l)
 ·rintro i x σ H' hx ⟨v3,v4,v5,rfl,s',hd'⟩
  obtain⟨e,he',ya,rfl,hya⟩:=Ht so.pr hx;have hm:=List.mem_of_getElem? he';have t':=s'.get (so.tg e hm).1;have no:Bd (cK (ps.take i) fun _=>0) (Hi e)=none:=Gj fun x hx z=>by
   obtain⟨c,hc,rfl⟩:=List.mem_map.mp hx;have e1:c.z=e.z:=by have:=congrArg (fun l:List Key=>l.headD (Sum.inl 0)) z;exact Sum.inl.inj this
   obtain⟨j,hj⟩:=List.getElem?_of_mem hc;rw[List.getElem?_take] at hj
   split at hj
   ·next lt=>
    have h1:(ps.map (·.z))[j]?=some e.z:=by rw[List.getElem?_map,hj];exact congrArg some e1
    have h2:(ps.map (·.z))[i]?=some e.z:=by rw[List.getElem?_map,he'];rfl
    have:=(List.getElem?_inj (List.getElem?_eq_some_iff.mp h1).1 so.nd).mp (h1.trans h2.symm);omega
   ·cases hj
  refine⟨ya,_,rfl,AW.of (s'.get hya),rfl,_,_,rfl,_,_,rfl,rfl,?_⟩;refine⟨_,rfl,_,rfl,d,_,rfl,IY.t (k:=Hi e) hd' t' (Ba (by unfold cK;rw[List.length_map,List.length_take];have:=so.few;omega)),_,_,_,rfl,tp s' _,?_⟩;rw[Af,Gx _ no,List.take_add_one,he'];unfold cK;rw[List.map_append];rfl
 ·rintro σ H' ⟨v3,v4,v5,rfl,s',hd'⟩
  rw[lu,List.take_length] at hd';refine⟨_,rfl,sl,rfl,⟨_,AO.of (s'.get so.l)⟩,?_⟩;refine Cp (K:=K) (a:=sl) (xs:=us) (fun i σ H'=>∃v3 v4 v5,σ=[some (.ref sl),some (.ref hl),some (.ref d),v3,v4,v5]/\Ar H H'/\H' d=some (.dT (cK ps fun z=>(D7 (Lc (ps.take i)) z:Int)))) ⟨_,_,_,rfl,s',hd'⟩ ?_ ?_ ?_
  ·rintro i σ H' _ ⟨_,_,_,_,s',_⟩
   exact AO.of (s'.get so.l)
  ·rintro i x σ H2 hx ⟨v3,v4,v5,rfl,s2,hd2⟩
   obtain⟨e,he',ya,rfl,hya⟩:=Ht so.pr hx;have hm:=List.mem_of_getElem? he';refine⟨ya,_,rfl,AW.of (s2.get hya),rfl,_,_,rfl,_,_,rfl,rfl,?_⟩;refine⟨_,rfl,e.v,e.bk,rfl,Rep.same s2 _ _ (so.tg e hm).2.1,so.ok e hm,fun tl H3 tus s3 ntl htl rtl=>?_⟩;have ntd:tl≠d:=fun z=>by rw[z,hd2] at ntl;cases ntl
   have lt3:tus.length=(As e.bk).length:=by rw[Ax.len _ _ rtl,List.length_map]
   refine⟨tl,rfl,⟨_,AO.of htl⟩,?_⟩;refine Cp (K:=K) (a:=tl) (xs:=tus) (fun j σ H'=>∃v5,σ=[some (.ref sl),some (.ref hl),some (.ref d),some e.v,some (.ref e.ta),v5]/\Ar H H'/\H' tl=some (.lst tus)/\Ax NL H' ((As e.bk).map Fn) tus/\H' d=some (.dT (cK ps fun z=>(D7 (Lc (ps.take i)) z:Int)+((((As e.bk).map (·.1)).take j).count z:Int)))) ⟨_,rfl,s2.trans s3,htl,rtl,by rw[s3.get hd2];simp⟩ ?_ ?_ ?_
   ·rintro j σ H' _ ⟨_,_,_,h,_⟩
    exact AO.of h
   ·rintro j y σ H4 hy ⟨v5,rfl,s4,htl4,rtl4,hd4⟩
    obtain⟨t,ht,rt⟩:=Ax.get rtl4 hy;rw[List.getElem?_map] at ht;obtain⟨g,hg,rfl⟩:=Option.map_eq_some_iff.mp ht;obtain⟨ta,rfl,hta⟩:=GC rt;obtain⟨c,hc,rfl⟩:=so.kn e hm g (List.mem_of_getElem? hg);have gd:Bx H4 d (.ref ta) (some (.int ((D7 (Lc (ps.take i)) c.z:Int)+((((As e.bk).map (·.1)).take j).count c.z:Int)))):=by
     have:=Bx.t (k:=Hi c) hd4 hta;rw[IM so.nd hc] at this;exact this
    refine⟨_,rfl,_,rfl,d,_,rfl,gd,_,_,rfl,rfl,_,rfl,_,rfl,d,_,rfl,IY.t (k:=Hi c) hd4 hta (Ba (by unfold cK;rw[List.length_map];have:=so.few;omega)),_,rfl,tp s4 _,by rw[Ag ntd];exact htl4,AV (fun a ys h=>by rw[Ag (AM h hd4 (by intro z;cases z))];exact h) _ _ rtl4,?_⟩;rw[Af,QK so.nd hc]
    congr 3
    funext z
    rw[List.take_add_one,List.getElem?_map,hg];show _=(D7 (Lc (ps.take i)) z:Int)+((((As e.bk).map (·.1)).take j++[c.z]).count z:Int);rw[List.count_append,List.count_singleton]
    by_cases hz:z=c.z
    ·rw[if_pos hz,hz];simp only[beq_self_eq_true,if_true];omega
    ·rw[if_neg hz,if_neg (by simpa using fun h:c.z=z=>hz h.symm)];simp
   ·rintro σ H4 ⟨v5,rfl,s4,htl4,rtl4,hd4⟩
    refine⟨_,_,_,rfl,s4,?_⟩;rw[hd4]
    congr 3
    funext z
    have e1:((As e.bk).map (·.1)).take tus.length=(As e.bk).map (·.1):=List.take_of_length_le (by rw[List.length_map];omega);have e2:Lc (ps.take (i+1))=Lc (ps.take i)++[(e.z,(As e.bk).map (·.1))]:=by rw[List.take_add_one,he'];unfold Lc;rw[List.map_append];rfl
    rw[e1,e2,Q7,Gw];have:D7 [] z=0:=rfl;simp only[this,Nat.add_zero,Int.natCast_add]
  ·rintro σ H2 ⟨v3,v4,v5,rfl,s2,hd2⟩
   rw[lu,List.take_length] at hd2;obtain⟨hh1,hh2,hh3⟩:=he;refine⟨_,rfl,hl,rfl,⟨_,AO.of (s2.get hh1)⟩,?_⟩;refine Cp (K:=K) (a:=hl) (xs:=hs.map fun e=>V.ref e.ta) (fun i σ H'=>∃v3 v4 v5,σ=[some (.ref sl),some (.ref hl),some (.ref d),v3,v4,v5]/\Ar H H'/\H' d=some (.dT (cK ps fun z=>(D7 (Lc ps) z:Int)+(((hs.map (·.z)).take i).count z:Int)))) ⟨_,_,_,rfl,s2,by rw[hd2];simp⟩ ?_ ?_ ?_
   ·rintro i σ H' _ ⟨_,_,_,_,s',_⟩
    exact AO.of (s'.get hh1)
   ·rintro i x σ H4 hx ⟨v3,v4,v5,rfl,s4,hd4⟩
    rw[List.getElem?_map] at hx;obtain⟨c,hc',rfl⟩:=Option.map_eq_some_iff.mp hx;have hc:=hh3 c (List.mem_of_getElem? hc');have hta:=s4.get (so.tg c hc).1;have gd:Bx H4 d (.ref c.ta) (some (.int ((D7 (Lc ps) c.z:Int)+(((hs.map (·.z)).take i).count c.z:Int)))):=by
     have:=Bx.t (k:=Hi c) hd4 hta;rw[IM so.nd hc] at this;exact this
    refine⟨_,rfl,_,rfl,d,_,rfl,gd,_,_,rfl,rfl,_,rfl,_,rfl,d,_,rfl,IY.t (k:=Hi c) hd4 hta (Ba (by unfold cK;rw[List.length_map];have:=so.few;omega)),_,_,_,rfl,tp s4 _,?_⟩;rw[Af,QK so.nd hc]
    congr 3
    funext z
    rw[List.take_add_one,List.getElem?_map,hc'];show _=(D7 (Lc ps) z:Int)+(((hs.map (·.z)).take i++[c.z]).count z:Int);rw[List.count_append,List.count_singleton]
    by_cases hz:z=c.z
    ·rw[if_pos hz,hz];simp only[beq_self_eq_true,if_true];omega
    ·rw[if_neg hz,if_neg (by simpa using fun h:c.z=z=>hz h.symm)];simp
   ·rintro σ H4 ⟨v3,v4,v5,rfl,s4,hd4⟩
    rw[List.length_map,List.take_of_length_le (by rw[List.length_map];exact Nat.le_refl _)] at hd4;exact⟨_,rfl,hq d H4 s4 hd hd4⟩
theorem Ul {cs:List Cl} {us:List V} {sl:Addr} {Q:VK} {σ:St} {H:Hp} (pr:JT H cs us) (hsl:H sl=some (.lst us)) (hn:cs.length<=1000)
  (hQ:∀l H' (ts:List Addr),H l=none->Ar H H'->H' l=some (.lst (ts.map V.ref))->ts.length=cs.length->(∀(i:Nat) t e,ts[i]?=some t->cs[i]?=some e->H' t=some (.tup [.ref e.ta,e.v]))->Q (.ref l) H') :
  FO [none,none] (Pg K 2 (Fj (Ci 0) (Fj (Ci 1) QO))) Pc (YA (Rg (RM 1) (Rg (RM 0) Nm))) σ Q (Vc K sl) H:=by
 have lu:=FD pr;intro l hl;refine⟨fun i m σ' H'=>m=us.length-i/\i<=us.length/\(∃y0 y1,σ'=[y0,y1])/\Ar H H'/\∃ts:List Addr,H' l=some (.lst (ts.map V.ref))/\ts.length=i/\∀(j:Nat) t e,ts[j]?=some t->cs[j]?=some e->H' t=some (.tup [.ref e.ta,e.v]),⟨us.length,by simp,Nat.zero_le _,⟨_,_,rfl⟩,Am hl _,[],Af,rfl,fun j t e h=>by simp at h⟩,?_⟩
 rintro i m σ' H' ⟨rfl,hi,⟨y0,y1,rfl⟩,hs,ts,hl',lt,ht⟩
 obtain⟨h1,h2,h3⟩:=D5 (K:=K) (AO.of hsl) H' hs i
 by_cases hlt:i<us.length
 ·refine .inr ⟨h1 hlt,fun x H'' y=>?_⟩;obtain⟨rfl,hx⟩:=h2 x H'' y;obtain⟨e,he,a,rfl,ha⟩:=Ht pr (hx hlt);refine⟨a,_,rfl,AW.of (hs.get ha),rfl,_,_,rfl,_,_,rfl,rfl,?_⟩;refine⟨_,rfl,_,rfl,Mp,fun t nt=>?_⟩;have s4:=Am nt (.tup [.ref e.ta,e.v]);have hl4:=s4.get hl';have ntl:∀b ys,(upd H'' t (.tup [.ref e.ta,e.v])) b=some (.tup ys)->b≠l:=fun b ys h=>AM h hl4 (by intro z;cases z)
  refine⟨_,hl4,Ba (by rw[List.length_map];omega),us.length-(i+1),by omega,rfl,hlt,⟨_,_,rfl⟩,A0 (hs.trans s4) hl _,ts++[t],?_,by rw[List.length_append,lt];rfl,fun j t' e' g1 g2=>?_⟩
  ·rw[Af,List.map_append];rfl
  ·by_cases hj:j<ts.length
   ·rw[List.getElem?_append_left hj] at g1;have:=s4.get (ht j t' e' g1 g2);rw[Ag (ntl _ _ this)];exact this
   ·rw[List.getElem?_append_right (by omega)] at g1;have hj':j-ts.length<1:=(List.getElem?_eq_some_iff.mp g1).1;have:j=i:=by omega
    subst this;rw[he] at g2;cases g2;rw[lt,Nat.sub_self] at g1;cases g1;have:(upd H'' t (.tup [.ref e.ta,e.v])) t=some (.tup [.ref e.ta,e.v]):=Af;rw[Ag (ntl _ _ this)];exact this
 ·have e:i=us.length:=by omega
  subst e;exact .inl ⟨h3 (Nat.le_refl _),hQ l H' ts hl hs hl' (by omega) ht⟩
def bK (rs:List Cl):List (List Key×V):=rs.map fun e=>(Hi e,e.v)
theorem S2 {ps:List Cl}(nd:(ps.map (·.z)).Nodup){e:Cl}(he:e∈ps):Bd (bK ps) (Hi e)=some e.v:=by
 refine GI ?_ (List.mem_map.mpr ⟨e,he,rfl⟩);unfold bK;rw[List.map_map];exact NM nd
theorem Yg {c e:Cl}(h:Hi c=Hi e):c.z=e.z:=by have:=congrArg (fun l:List Key=>l.headD (Sum.inl 0)) h;exact Sum.inl.inj this
theorem V5 {ps:List Cl}{e:Cl}(he:∀c∈ps,c.z≠e.z):Bd (bK ps) (Hi e)=none:=Gj fun x hx z=>by
 obtain⟨c,hc,rfl⟩:=List.mem_map.mp hx;exact he c hc (Yg z)
theorem Vu {cs:List Cl}{e:Cl}(h:e∈cs):(Bf e.z cs).length<cs.length:=by
 unfold Bf;rw[List.length_filter_lt_length_iff_exists];exact⟨e,h,by simp⟩
theorem Wk {ps rs:List Cl}(nd:(ps.map (·.z)).Nodup)(hs:∀e∈rs,e∈ps){e:Cl}(he:e∈ps):C4 (bK rs) (Hi e)=bK (Bf e.z rs):=by
 unfold bK C4 Bf;rw[List.filter_map]
 congr 1
 refine List.filter_congr fun c hc=>?_
 show decide (Hi c≠Hi e)=decide (c.z≠e.z);rw[Bool.eq_iff_iff,decide_eq_true_eq,decide_eq_true_eq];exact⟨fun h z=>h (by rw[AH nd (hs c hc) he z]),fun h z=>h (Yg z)⟩
def RC (H:Hp)(zs:List Int):V->Bool
 | .ref a=>match H a with
  |some (.tup [_,.ref t])=>(match H t with
   |some (.tup [.int z,_,_])=>decide (z∈zs)
   |_=>false)
  |_=>false
 |_=>false
theorem OJ {H:Hp}{zs:List Int}{e:Cl}{v:V}(h:Wb H e v)(ht:H e.ta=some (.tup [.int e.z,.int e.y,.int (A8 e.bk)])):RC H zs v=decide (e.z∈zs):=by
 obtain⟨a,rfl,ha⟩:=h;unfold RC;simp only[ha,ht]
theorem Lp {H:Hp}{zs:List Int}:∀{ps:List Cl} {us:List V},JT H ps us->(∀e∈ps,H e.ta=some (.tup [.int e.z,.int e.y,.int (A8 e.bk)]))->JT H (ps.filter fun e=>decide (e.z∈zs)) (us.filter (RC H zs))
 |[],us,h,_=>by cases h;exact rfl
 |e::ps,us,h,ht=>by
  obtain⟨v,vs,rfl,h1,h2⟩:=h;have ih:=Lp (zs:=zs) h2 fun c hc=>ht c (List.mem_cons_of_mem _ hc)
  have er:=OJ (zs:=zs) h1 (ht e List.mem_cons_self)
  by_cases hz:e.z∈zs
  ·rw[List.filter_cons_of_pos (by simpa using hz),List.filter_cons_of_pos (by rw[er];simpa using hz)];exact⟨v,_,rfl,h1,ih⟩
  ·rw[List.filter_cons_of_neg (by simpa using hz),List.filter_cons_of_neg (by rw[er];simpa using hz)];exact ih
def Gz (K:W.Frag):Sp:=fun vs H Q _=>∃sl us ps hl hs gl gus,∃gs:List Cl,vs=[.ref sl,.ref hl,.ref gl]/\SoAt H sl us ps/\SN H hl hs ps/\H gl=some (.lst gus)/\Ax NL H ((gs.map Pq).map Fn) gus/\(gs.map (·.z)).Nodup/\(∀e∈gs,e∈ps/\Nf (Lc ps) (hs.map (·.z)) e.z)/\
 ∀l us' ps' rs H',Ar H H'->H l=none->H' l=some (.lst us')->JT H' ps' us'->ps'.Sublist ps->(∀e,e∈ps'↔e∈rs)->Cas (hs.map (·.z)) (fun u=>Nf (Lc ps) (hs.map (·.z)) u/\u∉gs.map (·.z)) (Lc ps) (Lc rs)->(∀x∈Lc rs,Nf (Lc rs) (hs.map (·.z)) x.1->Nf (Lc ps) (hs.map (·.z)) x.1/\x.1∉gs.map (·.z))->Q (.ref l) H'
theorem N0 (T:Txt K mg Ab Ad Aa Ae XC)(F:Fun K "_law_left" "_law_left" Dz f fd)(Be:Def P w K mg base 2 "_law_counts" ["_law_some","_law_held"] (CG K))(DA:Def P w K mg base 1 "_law_tags" ["_law_block_here"] (EM K)):FnOk P w K mg base Cf 3 f fd ["_law_some","_law_held","_law_gone"] (Gz K):=by
 exists DG
 ·obtain⟨sl,us,ps,hl,hs,gl,gus,gs,rfl,_⟩:=h;rfl
 obtain⟨sl,us,ps,hl,hs,gl,gus,gs,rfl,so,he,hgl,hgr,ndg,hg,hq⟩:=h;have hu:=BJ hr;have hu9:=Fx hr;refine⟨_,(!Ah (@AG _ _ (3) _ _ _ _ DG.nd rfl (by trivial) (!AN Be (by trivial) rfl (!Ac (pv 0) (!Ac (pv 1) (!Aj)))) (by rfl) (by trivial)) (!Ah (@AG _ _ (4) _ _ _ _ DG.nd rfl (by trivial) (!BL (PH (K:=K) (by rfl) hu9 rfl) (by rfl) T.b_dict Vt (!Ac (@Bs _ ["_law_block_here","_law_tag"] _ _ _ _ _ _ _ _ _ _ rfl (!Bc (pv 0)) (by decide +kernel) (fun C s H fp=>⟨(@Cy _ (K) _ _ _ _ (2) (by rfl) rfl (!AD (@Aq _ _ (0) _ (show(["_law_block_here","_law_tag"]:List Str).Nodup by decide +kernel) rfl (by trivial) (by trivial)) (!AD (@Aq _ _ (1) _ (show(["_law_block_here","_law_tag"]:List Str).Nodup by decide +kernel) rfl (by trivial) (by trivial)) (!BO))) (by rfl) (by rfl)),(!AX),(!EF (!Ac (pv 1) (!Ac (pv 0) (!Aj))))⟩) (by intro _;rfl)) (!Aj))) (by rfl) (by trivial)) (!Ah (@AG _ _ (5) _ _ _ _ DG.nd rfl (by trivial) (!BL CN (by rfl) T.b_list Io (!Ac (pv 2) (!Aj))) (by rfl) (by trivial)) (!Ah (!L9 PassesOwn.never (!AA (PF hu) (pv 5) (!BY (!Aj)) (AC _)) (!Al (!Ck PassesOwn.never rfl (!Bc (!AN DA (by trivial) rfl (!Ac (U2 hu (pv 4) (!UV PySem.F.plainAttrs_list PySem.F.slot_list_pop PySem.F.type_list_pop U8 (pv 5)) ⟨rfl,rfl,rfl,rfl⟩) (!Aj)))) (@Aq _ _ (6) _ DG.nd rfl (by trivial) (by trivial)) (!Ah (!EO hu (pv 3) (pv 6) (!AB HS (!BH hu (pv 3) (pv 6) (fun _ _=>rfl)) (!Ak))) (!Al (!AS (!AA Bh (!BH hu (pv 3) (pv 6) (fun _ _=>rfl)) (!Ak) (AC _)) (!Al (!Bb (!Hd PySem.F.plainAttrs_list PySem.F.slot_list_append PySem.F.type_list_append EX (pv 5) (!Ac (pv 6) (!Aj))))) (!Aw)))) (by intro _;rfl)))) (!Al (!An (@Er _ ["_law_row_here","_law_blocks"] [none,some 4] _ _ _ _ _ _ _ _ _ _ _ rfl (!Bc (pv 0)) (by rfl) rfl (by repeat (first|exact trivial|refine⟨rfl,?_⟩)) (by repeat (first|exact trivial|refine⟨fun h=>(by first|exact⟨_,rfl⟩|cases h),?_⟩)) (fun C s H fp=>⟨(@Aq _ _ (0) _ (show(["_law_row_here","_law_blocks"]:List Str).Nodup by decide +kernel) rfl (by trivial) (by trivial)),(!Gp (!GB (!Ql hu (!Av (Ep (K:=K) (by rfl)) (pv 0) (!Ak) (fun _ _=>rfl)) (pv 1)) (by first|exact Df _ (by decide) (by decide)|rfl))),(pv 0)⟩) (by intro _;rfl)))))))),?_⟩
 try dsimp only[BP,Cx.nox,Cx.wish]
 refine⟨_,rfl,_,rfl,sl,us,ps,hl,hs,rfl,so,he,fun d H1 s1 hd hd1=>?_⟩;have few:=so.few;generalize eX:hs.map (·.z)=X at hd1 hg hq;generalize eZ:(fun u:Int=>Nf (Lc ps) X u/\u∉gs.map (·.z))=Zp at hq;have so1:=so.same s1;refine⟨_,rfl,sl,rfl,⟨_,AO.of so1.l⟩,?_⟩;refine Ul so1.pr so1.l (by omega) fun pl H2 ts nl2 s2 hpl lts hts=>?_
 have so2:=so1.same s2;refine⟨pl,ts,bK ps,rfl,AO.of hpl,by unfold bK;rw[List.length_map];exact lts,by unfold bK;rw[List.length_map];omega,by unfold bK;rw[List.map_map];exact NM so.nd,fun i t k v h1 h2=>?_,fun bd hbd=>?_⟩
 ·unfold bK at h2;rw[List.getElem?_map] at h2;obtain⟨e,he',e2⟩:=Option.map_eq_some_iff.mp h2;cases e2;exact⟨e.ta,hts i t e h1 he',(so2.tg e (List.mem_of_getElem? he')).1⟩
 have s3:=(s1.trans s2).trans (Am hbd (.dT (bK ps)));have hbdH:H bd=none:=by
  cases h:H bd with
  |none=>rfl
  |some o=>rw[(s1.trans s2).get h] at hbd;cases hbd
 have hd3:(upd H2 bd (.dT (bK ps))) d=some _:=(Am hbd _).get (s2.get hd1);have ndb:d≠bd:=fun z=>by rw[<-z,s2.get hd1] at hbd;cases hbd
 have hb3:(upd H2 bd (.dT (bK ps))) bd=some (.dT (bK ps)):=Af;generalize (upd H2 bd (.dT (bK ps)))=H3 at s3 hd3 hb3;refine⟨_,rfl,gl,gus,rfl,.inl (AO.of (s3.get hgl)),fun wl hwl=>?_⟩;have hwlH:H wl=none:=by
  cases h:H wl with
  |none=>rfl
  |some o=>rw[s3.get h] at hwl;cases hwl
 have s4:=Am hwl (.lst gus);have s34:=s3.trans s4;have hd4:=s4.get hd3;have hb4:=s4.get hb3;have hw4:(upd H3 wl (.lst gus)) wl=some (.lst gus):=Af;generalize (upd H3 wl (.lst gus))=H4 at s34 hd4 hb4 hw4;refine⟨fun m σ H'=>∃(rs W:List Cl) (wus:List V) (v6:Option V),m=rs.length/\σ=[some (.ref sl),some (.ref hl),some (.ref gl),some (.ref d),some (.ref bd),some (.ref wl),v6]/\Ar H H'/\H' d=some (.dT (cK ps fun z=>(D7 (Lc rs) z:Int)+(X.count z:Int)))/\H' bd=some (.dT (bK rs))/\H' wl=some (.lst wus)/\Ax NL H' ((W.map Pq).map Fn) wus/\
  (∀e∈rs,e∈ps)/\(rs.map (·.z)).Nodup/\(W.map (·.z)).Nodup/\(∀e∈W,e∈rs/\Nf (Lc rs) X e.z/\¬Zp e.z)/\(∀e∈rs,Nf (Lc rs) X e.z->e∈W\/Zp e.z)/\Cas X Zp (Lc ps) (Lc rs)/\(∀e∈rs,∀t∈As e.bk,∃c∈rs,t=Pq c),⟨_,ps,gs,gus,none,rfl,rfl,s34,hd4,hb4,hw4,Ax.same s34 _ _ hgr,(fun _ h=>h),so.nd,ndg,fun e he'=>⟨(hg e he').1,(hg e he').2,?_⟩,fun e he' hn=>?_,.refl _,so.kn⟩,?_⟩
 ·rw[<-eZ];exact fun h=>h.2 (List.mem_map.mpr ⟨e,he',rfl⟩)
 ·by_cases hm:e.z∈gs.map (·.z)
  ·obtain⟨c,hc,hz⟩:=List.mem_map.mp hm;rw[<-AH so.nd (hg c hc).1 he' hz];exact .inl hc
  ·rw[<-eZ];exact .inr ⟨hn,hm⟩
 rintro m σ H5 ⟨rs,W,wus,v6,rfl,rfl,s5,hd5,hb5,hw5,hwr,hrs,ndr,ndw,hW,hcl,hca,knr⟩
 have lw:wus.length=W.length:=by rw[Ax.len _ _ hwr,List.length_map,List.length_map]
 refine⟨_,rfl,J8,fun el hel=>⟨wl,el,_,rfl,rfl,AO.of ((Am hel _).get hw5),AO.of Af,_,rfl,C7 (fun c=>?_) (fun c=>?_)⟩⟩
 ·have c:wus≠[]:=by simpa using c
  have wn:W≠[]:=fun z=>by
   rw[z] at lw;exact c (List.eq_nil_of_length_eq_zero (by simpa using lw))
  obtain⟨W',e,rfl⟩:∃W' e,W=W'++[e]:=⟨W.dropLast,W.getLast wn,(List.dropLast_concat_getLast wn).symm⟩
  have s6:=Am hel (.lst []);have hd6:=s6.get hd5;have hb6:=s6.get hb5;have hw6:=s6.get hw5;have hwr6:=Ax.same s6 _ _ hwr;have s56:=s5.trans s6;generalize (upd H5 el (.lst []))=H6 at s6 hd6 hb6 hw6 hwr6 s56;obtain⟨heR,heN,heZ⟩:=hW e (by simp);have heP:=hrs e heR;have lw':wus.length=W'.length+1:=by rw[lw];simp
  obtain⟨wus',y,rfl⟩:∃wus' y,wus=wus'++[y]:=⟨wus.dropLast,wus.getLast c,(List.dropLast_concat_getLast c).symm⟩
  have lw2:wus'.length=W'.length:=by simpa using lw'
  rw[List.map_append,List.map_append] at hwr6;have hwl6:Ax NL H6 ((W'.map Pq).map Fn) wus'/\Rep NL H6 (Fn (Pq e)) y:=by
   refine⟨Rk (by rw[List.length_map,List.length_map];exact lw2) fun i t v h1 h2=>?_,?_⟩
   ·have hi:i<wus'.length:=(List.getElem?_eq_some_iff.mp h2).1;obtain⟨t',a1,a2⟩:=Ax.get hwr6 (i:=i) (v:=v) (by rw[List.getElem?_append_left hi];exact h2);rw[List.getElem?_append_left (by rw[List.length_map,List.length_map];omega),h1] at a1;cases a1;exact a2
   ·obtain⟨t',a1,a2⟩:=Ax.get hwr6 (i:=wus'.length) (v:=y) (by simp);rw[List.getElem?_append_right (by rw[List.length_map,List.length_map];omega)] at a1;simp only[List.length_map,lw2,Nat.sub_self,List.map_cons,List.map_nil,List.getElem?_cons_zero,Option.some.injEq] at a1;rw[a1];exact a2
  obtain⟨a,rfl,ha⟩:=GC hwl6.2;have nbw:bd≠wl:=AM hb6 hw6 (by intro z;cases z);have ndw2:d≠wl:=AM hd6 hw6 (by intro z;cases z);have hb7:(upd H6 wl (.lst wus')) bd=some (.dT (bK rs)):=by rw[Ag nbw];exact hb6
  have ha7:(upd H6 wl (.lst wus')) a=some (.tup ((Hi e).map kV)):=by rw[Ag (AM ha hw6 (by intro z;cases z))];exact ha
  have edl:(wus'++[V.ref a]).dropLast=wus':=by simp
  refine⟨fun σ' H'=>∃(rs' W:List Cl) (wus:List V) (v6:Option V),rs'.length<rs.length/\σ'=[some (.ref sl),some (.ref hl),some (.ref gl),some (.ref d),some (.ref bd),some (.ref wl),v6]/\Ar H H'/\H' d=some (.dT (cK ps fun z=>(D7 (Lc rs') z:Int)+(X.count z:Int)))/\H' bd=some (.dT (bK rs'))/\H' wl=some (.lst wus)/\Ax NL H' ((W.map Pq).map Fn) wus/\
   (∀e∈rs',e∈ps)/\(rs'.map (·.z)).Nodup/\(W.map (·.z)).Nodup/\(∀e∈W,e∈rs'/\Nf (Lc rs') X e.z/\¬Zp e.z)/\(∀e∈rs',Nf (Lc rs') X e.z->e∈W\/Zp e.z)/\Cas X Zp (Lc ps) (Lc rs')/\(∀e∈rs',∀t∈As e.bk,∃c∈rs',t=Pq c),fun σ' H' ⟨a1,a2,a3,a4,a5,a6⟩=>⟨_,a5,a1,a2,a3,a4,rfl,a6⟩,?_⟩
  refine⟨_,rfl,bd,rfl,.inr ⟨_,.inl hb6⟩,_,rfl,.inl ⟨rfl,_,AO.of hw6⟩,wl,_,_,rfl,rfl,hw6,by simp,bK rs,Hi e,e.v,a,by rw[edl];exact hb7,rfl,by rw[edl];exact ha7,S2 ndr heR,?_⟩;rw[edl,Wk so.nd hrs heP];have s7:Ar H (upd (upd H6 wl (.lst wus')) bd (.dT (bK (Bf e.z rs)))):=A0 (A0 s56 hwlH _) hbdH _;have hd7:(upd (upd H6 wl (.lst wus')) bd (.dT (bK (Bf e.z rs)))) d=_:=(Ag ndb).trans ((Ag ndw2).trans hd6);have hb7':(upd (upd H6 wl (.lst wus')) bd (.dT (bK (Bf e.z rs)))) bd=some (.dT (bK (Bf e.z rs))):=Af;have hw7:(upd (upd H6 wl (.lst wus')) bd (.dT (bK (Bf e.z rs)))) wl=some (.lst wus'):=(Ag (Ne.symm nbw)).trans Af;have kt7:∀b ys,H6 b=some (.tup ys)->(upd (upd H6 wl (.lst wus')) bd (.dT (bK (Bf e.z rs)))) b=some (.tup ys):=fun b ys h=>by
   rw[Ag (AM h hb6 (by intro z;cases z)),Ag (AM h hw6 (by intro z;cases z))];exact h
  have hwr7:=AV kt7 _ _ hwl6.1;generalize (upd (upd H6 wl (.lst wus')) bd (.dT (bK (Bf e.z rs))))=H7 at s7 hd7 hb7' hw7 hwr7;refine⟨e.v,e.bk,rfl,Rep.same s7 _ _ (so.tg e heP).2.1,so.ok e heP,fun tl H8 tus s8 ntl htl rtl=>?_⟩;have nN:∀c∈rs,Nf (Lc rs) X c.z->∀e'∈rs,c.z∉(As e'.bk).map (·.1):=fun c _ h e' he'=>h.1 _ (C8 he')
  have kn':∀e'∈rs,∀t∈As e'.bk,∃c∈Bf e.z rs,t=Pq c:=fun e' he' t ht=>by
   obtain⟨c,hc,rfl⟩:=knr e' he' t ht;exact⟨c,Bg.mpr ⟨hc,fun z=>heN.1 _ (C8 he') (by rw[<-z];exact List.mem_map.mpr ⟨_,ht,rfl⟩)⟩,rfl⟩
  have nsub:∀z,Nf (Lc rs) X z->Nf (Lc (Bf e.z rs)) X z:=fun z h=>h.sub (fun x hx=>by rw[FK] at hx;exact(De.mp hx).1) fun _ h=>h
  have nback:∀z,Nf (Lc (Bf e.z rs)) X z->z∉(As e.bk).map (·.1)->Nf (Lc rs) X z:=fun z h hn=>⟨fun x hx=>by
   by_cases hx1:x.1=e.z
   ·have:x=(e.z,(As e.bk).map (·.1)):=AH (GF ndr) hx (C8 heR) hx1;rw[this];exact hn
   ·exact h.1 x (by rw[FK];exact De.mpr ⟨hx,hx1⟩),h.2⟩
  have ltus:tus.length=(As e.bk).length:=by rw[Ax.len _ _ rtl,List.length_map]
  have ntd:tl≠d:=fun z=>by rw[z,hd7] at ntl;cases ntl
  have ntb:tl≠bd:=fun z=>by rw[z,hb7'] at ntl;cases ntl
  have ntw:tl≠wl:=fun z=>by rw[z,hw7] at ntl;cases ntl
  refine⟨tl,rfl,⟨_,AO.of htl⟩,?_⟩;refine Cp (K:=K) (a:=tl) (xs:=tus) (fun j σ H'=>∃(A:List Cl) (wus:List V) (v6:Option V),σ=[some (.ref sl),some (.ref hl),some (.ref gl),some (.ref d),some (.ref bd),some (.ref wl),v6]/\Ar H H'/\H' tl=some (.lst tus)/\Ax NL H' ((As e.bk).map Fn) tus/\
   H' d=some (.dT (cK ps fun z=>(D7 (Lc (Bf e.z rs)) z:Int)+(X.count z:Int)+((((As e.bk).map (·.1)).drop j).count z:Int)))/\H' bd=some (.dT (bK (Bf e.z rs)))/\H' wl=some (.lst wus)/\Ax NL H' (((W'++A).map Pq).map Fn) wus/\(A.map (·.z)).Nodup/\
   (∀c∈A,c∈Bf e.z rs/\Nf (Lc (Bf e.z rs)) X c.z/\c.z∈(As e.bk).map (·.1)/\c.z∉((As e.bk).map (·.1)).drop j)/\(∀c∈Bf e.z rs,Nf (Lc (Bf e.z rs)) X c.z->c.z∉((As e.bk).map (·.1)).drop j->c∈W'++A\/Zp c.z)/\A.length<=j) ⟨[],wus',_,rfl,s7.trans s8,htl,rtl,?_,s8.get hb7',s8.get hw7,by rw[List.append_nil];exact Ax.same s8 _ _ hwr7,List.nodup_nil,(fun _ h=>nomatch h),fun c hc hn hd=>?_,Nat.le_refl _⟩ ?_ ?_ ?_
  ·rw[s8.get hd7]
   congr 3
   funext z
   rw[List.drop_zero,Rx (GF ndr) (C8 heR) z,FK];simp only[Int.natCast_add];omega
  ·rw[List.drop_zero] at hd;have hc':=Bg.mp hc;rcases hcl c hc'.1 (nback _ hn hd) with h|h
   ·rcases List.mem_append.mp h with h|h
    ·exact .inl (by rw[List.append_nil];exact h)
    ·exact absurd (by rw[List.mem_singleton.mp h]) hc'.2
   ·exact .inr h
  ·rintro j σ H' _ ⟨_,_,_,_,_,h,_⟩
   exact AO.of h
  ·rintro j y σ H9 hy ⟨A1,wus1,v6,rfl,s9,htl9,rtl9,hd9,hb9,hw9,hwr9,ndA,hA,hcl9,lA⟩
   obtain⟨t,ht,rt⟩:=Ax.get rtl9 hy;rw[List.getElem?_map] at ht;obtain⟨g,hg',rfl⟩:=Option.map_eq_some_iff.mp ht;obtain⟨ta,rfl,hta⟩:=GC rt;obtain⟨c,hc,rfl⟩:=kn' e heR g (List.mem_of_getElem? hg');have hcP:=hrs c (Bg.mp hc).1;have hta:H9 ta=some (.tup ((Hi c).map kV)):=hta;have gj:((As e.bk).map (·.1))[j]?=some c.z:=by rw[List.getElem?_map,hg'];rfl
   have jN:j<((As e.bk).map (·.1)).length:=(List.getElem?_eq_some_iff.mp gj).1;have dN:((As e.bk).map (·.1)).drop j=c.z::((As e.bk).map (·.1)).drop (j+1):=by rw[List.drop_eq_getElem_cons jN,(List.getElem?_eq_some_iff.mp gj).2]
   have cN:c.z∈(As e.bk).map (·.1):=List.mem_of_getElem? gj;have gd:=Bx.t (k:=Hi c) hd9 hta;rw[IM so.nd hcP] at gd;refine⟨_,rfl,_,rfl,d,_,rfl,gd,_,_,rfl,rfl,_,rfl,_,rfl,d,_,rfl,IY.t (k:=Hi c) hd9 hta (Ba (by unfold cK;rw[List.length_map];omega)),?_⟩;have hd10:(upd H9 d (.dT (putK (cK ps fun z=>(D7 (Lc (Bf e.z rs)) z:Int)+(X.count z:Int)+((((As e.bk).map (·.1)).drop j).count z:Int)) (Hi c) (V.int ((D7 (Lc (Bf e.z rs)) c.z:Int)+(X.count c.z:Int)+((((As e.bk).map (·.1)).drop j).count c.z:Int)-1))))) d=some (.dT (cK ps fun z=>(D7 (Lc (Bf e.z rs)) z:Int)+(X.count z:Int)+((((As e.bk).map (·.1)).drop (j+1)).count z:Int))):=by
    rw[Af,QK so.nd hcP]
    congr 3
    funext z
    rw[dN]
    by_cases hz:z=c.z
    ·rw[if_pos hz,hz,List.count_cons_self];omega
    ·rw[if_neg hz,List.count_cons_of_ne (fun h=>hz h.symm)]
   have nod:∀{b o},H9 b=some o->(∀kvs,o≠.dT kvs)->b≠d:=fun{b o} h n z=>by rw[z,hd9] at h;exact n _ (Option.some.inj h).symm
   have k10:∀{b o},H9 b=some o->b≠d->(upd H9 d (.dT (putK (cK ps fun z=>(D7 (Lc (Bf e.z rs)) z:Int)+(X.count z:Int)+((((As e.bk).map (·.1)).drop j).count z:Int)) (Hi c) (V.int ((D7 (Lc (Bf e.z rs)) c.z:Int)+(X.count c.z:Int)+((((As e.bk).map (·.1)).drop j).count c.z:Int)-1))))) b=some o:=fun{b o} h n=>by rw[Ag n];exact h
   have s10:Ar H (upd H9 d (.dT (putK (cK ps fun z=>(D7 (Lc (Bf e.z rs)) z:Int)+(X.count z:Int)+((((As e.bk).map (·.1)).drop j).count z:Int)) (Hi c) (V.int ((D7 (Lc (Bf e.z rs)) c.z:Int)+(X.count c.z:Int)+((((As e.bk).map (·.1)).drop j).count c.z:Int)-1))))):=A0 s9 hd _;generalize (upd H9 d (.dT (putK (cK ps fun z=>(D7 (Lc (Bf e.z rs)) z:Int)+(X.count z:Int)+((((As e.bk).map (·.1)).drop j).count z:Int)) (Hi c) (V.int ((D7 (Lc (Bf e.z rs)) c.z:Int)+(X.count c.z:Int)+((((As e.bk).map (·.1)).drop j).count c.z:Int)-1)))))=H10 at hd10 k10 s10;have kt10:∀b ys,H9 b=some (.tup ys)->H10 b=some (.tup ys):=fun b ys h=>k10 h (nod h (by intro kvs z;cases z))
   have hta10:=kt10 _ _ hta;have htl10:=k10 htl9 ntd;have rtl10:=AV kt10 _ _ rtl9;have hb10:=k10 hb9 (Ne.symm ndb);have hw10:=k10 hw9 (nod hw9 (by intro kvs z;cases z));have hwr10:=AV kt10 _ _ hwr9;have gd2:=Bx.t (k:=Hi c) hd10 hta10;rw[IM so.nd hcP] at gd2;have dsub:∀z,z∉((As e.bk).map (·.1)).drop j->z∉((As e.bk).map (·.1)).drop (j+1):=fun z h hm=>h (by rw[dN];exact List.mem_cons_of_mem _ hm)
   have lw9:wus1.length=W'.length+A1.length:=by rw[Ax.len _ _ hwr9,List.length_map,List.length_map,List.length_append]
   have lW:W'.length+1<=60:=by
    have:=HB (m:=ps.map (·.z)) ndw fun x hx=>by
     obtain⟨c1,h1,rfl⟩:=List.mem_map.mp hx;exact List.mem_map.mpr ⟨c1,hrs c1 (hW c1 h1).1,rfl⟩
    rw[List.length_map,List.length_map,List.length_append,List.length_singleton] at this;omega
   have lT:=MU (so.ok e heP);rw[List.length_map] at jN;refine⟨_,rfl,_,rfl,d,_,rfl,gd2,rfl,_,rfl,C7 (fun c0=>?_) (fun c0=>?_)⟩
   ·have c0:(D7 (Lc (Bf e.z rs)) c.z:Int)+(X.count c.z:Int)+((((As e.bk).map (·.1)).drop (j+1)).count c.z:Int)=0:=V.int.inj (of_decide_eq_true c0);have z1:D7 (Lc (Bf e.z rs)) c.z=0:=by omega
    have z2:X.count c.z=0:=by omega
    have z3:(((As e.bk).map (·.1)).drop (j+1)).count c.z=0:=by omega
    have nfc:Nf (Lc (Bf e.z rs)) X c.z:=⟨Co.mp z1,List.count_eq_zero.mp z2⟩
    refine⟨_,rfl,.inl ⟨rfl,_,AO.of hw10⟩,_,rfl,wl,wus1,_,rfl,rfl,hw10,Ba (by omega),A1++[c],wus1++[.ref ta],_,rfl,A0 s10 hwlH _,by rw[Ag ntw];exact htl10,AV (fun b ys h=>by rw[Ag (AM h hw10 (by intro z;cases z))];exact h) _ _ rtl10,by rw[Ag ndw2];exact hd10,by rw[Ag nbw];exact hb10,Af,?_,?_,fun c1 h1=>?_,fun c1 h1 h2 h3=>?_,by rw[List.length_append,List.length_singleton];omega⟩
    ·have:=Ax.append (AV (fun b ys h=>by rw[Ag (AM h hw10 (by intro z;cases z))];exact h) _ _ hwr10) (Ax.one (F:=NL) (H:=upd H10 wl (.lst (wus1++[.ref ta]))) (t:=Fn (Pq c)) (v:=.ref ta) (LS (t:=Pq c) (by rw[Ag (AM hta10 hw10 (by intro z;cases z))];exact hta10)));rw[<-List.append_assoc,List.map_append,List.map_append];exact this
    ·rw[List.map_append,List.nodup_append];refine⟨ndA,by simp,fun x hx y hy z=>?_⟩;obtain⟨c1,h1,rfl⟩:=List.mem_map.mp hx;have:y=c.z:=by simpa using hy
     exact(hA c1 h1).2.2.2 (by rw[z,this,dN];exact List.mem_cons_self)
    ·rcases List.mem_append.mp h1 with h1|h1
     ·obtain⟨a1,a2,a3,a4⟩:=hA c1 h1;exact⟨a1,a2,a3,dsub _ a4⟩
     ·rw[List.mem_singleton.mp h1];exact⟨hc,nfc,cN,List.count_eq_zero.mp z3⟩
    ·by_cases hz:c1.z=c.z
     ·obtain rfl:=AH so.nd (hrs c1 (Bg.mp h1).1) hcP hz;exact .inl (by simp)
     ·rcases hcl9 c1 h1 h2 (by rw[dN];exact fun hm=>(List.mem_cons.mp hm).elim hz h3) with h|h
      ·exact .inl (by rw[<-List.append_assoc];exact List.mem_append.mpr (.inl h))
      ·exact .inr h
   ·have c0:¬(D7 (Lc (Bf e.z rs)) c.z:Int)+(X.count c.z:Int)+((((As e.bk).map (·.1)).drop (j+1)).count c.z:Int)=0:=fun z=>c0 (decide_eq_true (by rw[z]))
    refine⟨A1,wus1,_,rfl,s10,htl10,rtl10,hd10,hb10,hw10,hwr10,ndA,fun c1 h1=>?_,fun c1 h1 h2 h3=>?_,by omega⟩
    ·obtain⟨a1,a2,a3,a4⟩:=hA c1 h1;exact⟨a1,a2,a3,dsub _ a4⟩
    ·by_cases hz:c1.z=c.z
     ·rw[hz] at h2 h3;have z1:=Co.mpr h2.1;have z2:=List.count_eq_zero.mpr h2.2;have z3:=List.count_eq_zero.mpr h3;exact absurd (by omega) c0
     ·exact hcl9 c1 h1 h2 (by rw[dN];exact fun hm=>(List.mem_cons.mp hm).elim hz h3)
  ·rintro σ H9 ⟨A1,wus1,v6,rfl,s9,htl9,rtl9,hd9,hb9,hw9,hwr9,ndA,hA,hcl9,lA⟩
   have e0:((As e.bk).map (·.1)).drop tus.length=[]:=List.drop_of_length_le (by rw[List.length_map];omega);rw[e0] at hd9 hA hcl9;refine⟨Bf e.z rs,W'++A1,wus1,_,Vu heR,rfl,s9,by rw[hd9];simp,hb9,hw9,hwr9,fun c hc=>hrs c (Bg.mp hc).1,ndr.sublist (List.Sublist.map _ List.filter_sublist),?_,fun c hc=>?_,fun c hc hn=>hcl9 c hc hn (fun h=>nomatch h),hca.trans (.step e.z heN heZ (by rw[FK];exact .refl _)),fun c hc t ht=>kn' c (Bg.mp hc).1 t ht⟩
   ·rw[List.map_append] at ndw ⊢;rw[List.nodup_append] at ndw ⊢;refine⟨ndw.1,ndA,fun x hx y hy z=>?_⟩;obtain⟨c1,h1,rfl⟩:=List.mem_map.mp hx;obtain⟨c2,h2,rfl⟩:=List.mem_map.mp hy;have:=(hW c1 (List.mem_append.mpr (.inl h1))).2.1;exact this.1 _ (C8 heR) (by rw[z];exact(hA c2 h2).2.2.1)
   ·rcases List.mem_append.mp hc with hc|hc
    ·obtain⟨h1,h2,h3⟩:=hW c (List.mem_append.mpr (.inl hc));refine⟨Bg.mpr ⟨h1,fun z=>?_⟩,nsub _ h2,h3⟩;rw[List.map_append,List.nodup_append] at ndw;exact ndw.2.2 c.z (List.mem_map.mpr ⟨c,hc,rfl⟩) e.z (by simp) z
    ·obtain⟨h1,h2,h3,_⟩:=hA c hc;refine⟨h1,h2,fun hz=>?_⟩;rw[<-eZ] at hz;exact hz.1.1 _ (C8 heP) h3
 ·have c:wus=[]:=by simpa using c
  have wn:W=[]:=List.eq_nil_of_length_eq_zero (by rw[<-lw,c];rfl);subst wn;have s6:=s5.trans (Am hel (.lst []));have hb6:=(Am hel (.lst [])).get hb5;generalize (upd H5 el (.lst []))=H6 at s6 hb6;have so6:=so.same s6;have ev:∀e∈ps,(Bd (bK rs) (Hi e)).isSome=decide (e.z∈rs.map (·.z)):=fun e he'=>by
   by_cases hm:e.z∈rs.map (·.z)
   ·obtain⟨c1,h1,hz⟩:=List.mem_map.mp hm;have e1:=AH so.nd (hrs c1 h1) he' hz;rw[decide_eq_true hm,S2 ndr (by rw[<-e1];exact h1)];rfl
   ·rw[decide_eq_false hm,V5 fun c1 h1 z=>hm (List.mem_map.mpr ⟨c1,h1,z⟩)];rfl
  refine⟨_,rfl,sl,rfl,⟨_,AO.of so6.l⟩,?_⟩;refine KC (xs:=us) (RC H6 (rs.map (·.z))) (fun v=>v) (D5 (AO.of so6.l)) (by rw[FD so.pr];omega) (fun x H7 R hx s7 hR=>?_) (fun x H7 R hx hb s7 hR=>⟨_,rfl,hR H7 (Ar.refl _)⟩) fun l H7 nl s7 hl7=>?_
  ·obtain⟨i,hi⟩:=List.getElem?_of_mem hx;obtain⟨e,he',pe⟩:=Ht so6.pr hi;have hm:=List.mem_of_getElem? he';have er:=OJ (zs:=rs.map (·.z)) pe (so6.tg e hm).1;obtain⟨ya,rfl,hya⟩:=pe;have gd:=Bx.t (k:=Hi e) (s7.get hb6) (s7.get (so6.tg e hm).1);refine⟨_,rfl,ya,_,_,_,rfl,rfl,AW.of (s7.get hya),rfl,_,rfl,bd,_,rfl,gd,?_⟩;rw[ev e hm,<-er];exact⟨_,rfl,hR⟩
  ·rw[List.map_id'' (fun _=>rfl)] at hl7;have nlH:H l=none:=by
    cases h:H l with
    |none=>rfl
    |some o=>rw[s6.get h] at nl;cases nl
   refine hq l _ (ps.filter fun e=>decide (e.z∈rs.map (·.z))) rs H7 (s6.trans s7) nlH hl7 ((Lp so6.pr fun e he'=>(so6.tg e he').1).tup fun b ys h=>s7.get h) List.filter_sublist (fun e=>?_) hca fun x hx hn=>?_
   ·rw[List.mem_filter,decide_eq_true_eq];constructor
    ·rintro⟨h1,h2⟩
     obtain⟨c1,h3,hz⟩:=List.mem_map.mp h2;rw[<-AH so.nd (hrs c1 h3) h1 hz];exact h3
    ·exact fun h=>⟨hrs e h,List.mem_map.mpr ⟨e,h,rfl⟩⟩
   ·obtain⟨e,he',rfl⟩:=List.mem_map.mp hx;have:=(hcl e he' hn).resolve_left (fun h=>nomatch h);rw[<-eZ] at this;exact this
def RS (CP CT CB:Addr)(H:Hp)(p:Addr)(q:Pl)(cs:List Cl):Prop:=(Ez CP CT H p q cs/\H q.dd=some (.dK (Me cs)))\/
 (Ez CP CT H p q cs/\H q.dd=some (.dK [])/\(∃ds b1 n1,Hu CB H q.bo ds b1 n1 .non/\2<=b1.length/\(∀e∈cs,∀b,b<b1.length->Eg (b1.getD b []) e.z=if(b:Int)∈Jm b1 e.z then some (DQ (IB e.z e.y e.bk)) else none))/\∀e∈cs,NB e.z e.y)
theorem RS.same {CP CT CB:Addr}{H H':Hp}{p:Addr}{q:Pl}{cs:List Cl}(s:Ar H H')(h:RS CP CT CB H p q cs):RS CP CT CB H' p q cs:=by
 rcases h with⟨h1,h2⟩|⟨h1,h2,⟨ds,b1,n1,h3,h4⟩,h5⟩
 ·exact .inl ⟨h1.same s,s.get h2⟩
 ·exact .inr ⟨h1.same s,s.get h2,⟨ds,b1,n1,h3.same s,h4⟩,h5⟩
theorem RS.at0 {CP CT CB:Addr}{H:Hp}{p:Addr}{q:Pl}{cs:List Cl}(h:RS CP CT CB H p q cs):Ez CP CT H p q cs:=by
 rcases h with⟨h1,_⟩|⟨h1,_⟩
 ·exact h1
 ·exact h1
theorem Sj {b1:List Fy}{cs:List Cl}(b2:2<=b1.length)(la:∀e∈cs,∀b,b<b1.length->Eg (b1.getD b []) e.z=if(b:Int)∈Jm b1 e.z then some (DQ (IB e.z e.y e.bk)) else none){e:Cl}(he:e∈cs):Lies b1 e.z e.y e.bk/\(Jm b1 e.z).filter (hasB b1 e.z)≠[]:=by
 have h:=la e he;refine⟨fun b hb=>?_,fun z=>?_⟩
 ·rw[h b hb]
  by_cases c:(b:Int)∈Jm b1 e.z
  ·rw[if_pos c];exact .inr rfl
  ·rw[if_neg c];exact .inl rfl
 ·have m:e.z%(b1.length:Int)∈Jm b1 e.z:=List.mem_cons_self;have r:=NO (bs:=b1) (z:=e.z) (by omega) _ m;have mf:e.z%(b1.length:Int)∈(Jm b1 e.z).filter (hasB b1 e.z):=by
   refine List.mem_filter.mpr ⟨m,?_⟩;unfold hasB;rw[h _ (by omega),if_pos (by rw[show(((e.z%(b1.length:Int)).toNat:Nat):Int)=e.z%(b1.length:Int) by omega];exact m)];rfl
  rw[z] at mf;cases mf
theorem QQ {CP CT CB:Addr}{H:Hp}{p ta:Addr}{q:Pl}{cs:List Cl}{e:Cl}{Q:VK}{E:XK}(rs:RS CP CT CB H p q cs)(he:e∈cs)(hta:H ta=some (.tup [.int e.z,.int e.y,.int (A8 e.bk)]))(k:∀v H',Ar H H'->Rep NL H' (Ce e.bk) v->Q v H'):Dc K CP CT CB [.ref p,.ref ta] H Q E:=by
 rcases rs with⟨h1,h2⟩|⟨h1,h2,⟨ds,b1,n1,h3,h4,h5⟩,h6⟩
 ·exact .inl ⟨p,q,cs,e,ta,_,_,rfl,h1,h2,he,hta,k _ H (Ar.refl _) (h1.2.2.1 e he).2.2.1⟩
 ·obtain⟨l1,l2⟩:=Sj h4 h5 he;exact .inr ⟨p,q,cs,e,ta,ds,b1,n1,.non,rfl,h1,h2,he,hta,h3,by omega,l1,h6 e he,l2,k⟩
structure Mt (ps cs:List Cl):Prop where
 a:∀e∈ps,∃k,{ e with k:=k }∈cs
 b:∀e∈cs,∃k,{ e with k:=k }∈ps
theorem Q4 {α:Type}{l m:List α}(d1:l.Nodup)(d2:m.Nodup)(h:∀a,a∈l↔a∈m):l.Perm m:=(List.perm_ext_iff_of_nodup d1 d2).mpr h
theorem Mt.z {ps cs:List Cl}(h:Mt ps cs)(nd:(ps.map (·.z)).Nodup)(nc:(cs.map (·.z)).Nodup):(ps.map (·.z)).Perm (cs.map (·.z)):=Q4 nd nc fun z=>by
 rw[List.mem_map,List.mem_map];constructor
 ·rintro⟨e,he,rfl⟩
  obtain⟨k,hk⟩:=h.a e he;exact⟨_,hk,rfl⟩
 ·rintro⟨e,he,rfl⟩
  obtain⟨k,hk⟩:=h.b e he;exact⟨_,hk,rfl⟩
theorem Mt.l {ps cs:List Cl}(h:Mt ps cs)(x:Int×List Int):x∈Lc ps↔x∈Lc cs:=by
 unfold Lc;rw[List.mem_map,List.mem_map];constructor
 ·rintro⟨e,he,rfl⟩
  obtain⟨k,hk⟩:=h.a e he;exact⟨_,hk,rfl⟩
 ·rintro⟨e,he,rfl⟩
  obtain⟨k,hk⟩:=h.b e he;exact⟨_,hk,rfl⟩
theorem MC {α β:Type}{l:List (α×β)}(h:(l.map (·.1)).Nodup):l.Nodup:=List.Pairwise.imp (fun n e=>n (by rw[e])) (List.pairwise_map.mp h)
theorem Uv {L M:List (Int×List Int)}(h:L.Perm M)(z:Int):D7 L z=D7 M z:=by
 unfold D7;exact(h.map _).sum_nat
theorem Mt.n {ps cs:List Cl}(h:Mt ps cs)(nd:(ps.map (·.z)).Nodup)(nc:(cs.map (·.z)).Nodup)(z:Int):D7 (Lc ps) z=D7 (Lc cs) z:=Uv (Q4 (MC (GF nd)) (MC (GF nc)) h.l) z
theorem Yt {σ:St}{H:Hp}{Q:List V->Hp->Prop}(h:Q [] H):Nm σ H Q:=h
theorem Ss {cs:List Cl} {us:List V} {sl:Addr} {fr:List (Option Nat)} {te:TE} {Q:VK} {σ:St} {H:Hp} (pr:JT H cs us) (hsl:H sl=some (.lst us)) (hn:cs.length<=1000) (g:Cl->V)
  (helt:∀e∈cs,∀(H':Hp) (R:VK),Ar H H'->(∀H'',Ar H' H''->R (g e) H'')->te (some e.v::some (.ref e.ta)::stC fr σ) H' R)
  (hQ:∀l H',H l=none->Ar H H'->H' l=some (.lst (cs.map g))->Q (.ref l) H'):FO (none::none::fr) (Pg K 2 (Fj (Ci 0) (Fj (Ci 1) QO))) Pc te σ Q (Vc K sl) H:=by
 have lu:=FD pr;intro l hl;refine⟨fun i m σ' H'=>m=us.length-i/\i<=us.length/\(∃y0 y1,σ'=y0::y1::stC fr σ)/\Ar H H'/\H' l=some (.lst ((cs.take i).map g)),⟨us.length,by simp,Nat.zero_le _,⟨_,_,rfl⟩,Am hl _,by rw[Af];rfl⟩,?_⟩
 rintro i m σ' H' ⟨rfl,hi,⟨y0,y1,rfl⟩,hs,hl'⟩
 obtain⟨h1,h2,h3⟩:=D5 (K:=K) (AO.of hsl) H' hs i
 by_cases hlt:i<us.length
 ·refine .inr ⟨h1 hlt,fun x H'' y=>?_⟩;obtain⟨rfl,hx⟩:=h2 x H'' y;obtain⟨e,he,a,rfl,ha⟩:=Ht pr (hx hlt);have hm:=List.mem_of_getElem? he;refine⟨a,_,rfl,AW.of (hs.get ha),rfl,_,_,rfl,_,_,rfl,rfl,?_⟩;refine helt e hm H'' _ hs fun H4 s4=>?_
  refine⟨_,s4.get hl',Ba ?_,us.length-(i+1),by omega,rfl,hlt,⟨_,_,rfl⟩,A0 (hs.trans s4) hl _,?_⟩
  ·rw[List.length_map,List.length_take];omega
  ·rw[Af,List.take_add_one,he,List.map_append];rfl
 ·have e:i=us.length:=by omega
  subst e;exact .inl ⟨h3 (Nat.le_refl _),hQ l H' hl hs (by rw[hl',lu,List.take_of_length_le (Nat.le_refl _)])⟩
def FH (K:W.Frag)(CP CT CB:Addr):Sp:=fun vs H Q _=>∃p q cs sl us ps hl hs,vs=[.ref p,.ref sl,.ref hl]/\RS CP CT CB H p q cs/\cs.length<=60/\SoAt H sl us ps/\SN H hl hs ps/\Rt cs (hs.map (·.z))/\Mt ps cs/\∀H',Ar H H'->Q (.bl true) H'
theorem Mv (T:Txt K mg Ab Ad Aa Ae XC)(F:Fun K "_law_right" "_law_right" CQ f fd)(Be:Def P w K mg base 2 "_law_counts" ["_law_some","_law_held"] (CG K))(BZ:A2 P w K mg base 1 Ae "numbers" ["self"] (Dh K Ae Aa))(CO:A2 P w K mg base 1 Ae "count" ["self","number"] (Et K Ae Aa))(CV:A2 P w K mg base 17 Ae "block" ["self","tag"] (Dc K Ae Aa Ad)):FnOk P w K mg base Cf 18 f fd ["_law_pool","_law_some","_law_held"] (FH K Ae Aa Ad):=by
 exists IG
 ·obtain⟨p,q,cs,sl,us,ps,hl,hs,rfl,_⟩:=h;rfl
 obtain⟨p,q,cs,sl,us,ps,hl,hs,rfl,rs,few,so,he,rt,mt,hq⟩:=h;have hu:=BJ hr;have hu9:=Fx hr;refine⟨_,(!Ah (!AS (!AA (WO hu) (!DJ (pv 0) T.cl_Pool BZ) (!Au (PV (K:=K) (by rfl)) (by rfl) T.b_sorted EV (!Ac (@Bs _ ["_law_block_here","_law_tag"] _ _ _ _ _ _ _ _ _ _ rfl (!Bc (pv 1)) (by decide +kernel) (fun C s H fp=>⟨(@Cy _ (K) _ _ _ _ (2) (by rfl) rfl (!AD (@Aq _ _ (0) _ (show(["_law_block_here","_law_tag"]:List Str).Nodup by decide +kernel) rfl (by trivial) (by trivial)) (!AD (@Aq _ _ (1) _ (show(["_law_block_here","_law_tag"]:List Str).Nodup by decide +kernel) rfl (by trivial) (by trivial)) (!BO))) (by rfl) (by rfl)),(!AX),(!Av (Ep (K:=K) (by rfl)) (pv 1) (!Ak) (fun _ _=>rfl))⟩) (by intro _;rfl)) (!Aj))) (AC _)) (!Al (!An (!Hh))) (!Aw)) (!Ah (@AG _ _ (3) _ _ _ _ IG.nd rfl (by trivial) (!AN Be (by trivial) rfl (!Ac (pv 1) (!Ac (pv 2) (!Aj)))) (by rfl) (by trivial)) (!Al (!An (!Au (Gu rfl) (by rfl) T.b_all JY (!Ac (@Er _ ["_law_block_here","_law_tag","_law_counts_here","_law_pool"] [none,none,some 3,some 0] _ _ _ _ _ _ _ _ _ _ _ rfl (!Bc (pv 1)) (by rfl) rfl (by repeat (first|exact trivial|refine⟨rfl,?_⟩)) (by repeat (first|exact trivial|refine⟨fun h=>(by first|exact⟨_,rfl⟩|cases h),?_⟩)) (fun C s H fp=>⟨(@Cy _ (K) _ _ _ _ (2) (by rfl) rfl (!AD (@Aq _ _ (0) _ (show(["_law_block_here","_law_tag","_law_counts_here","_law_pool"]:List Str).Nodup by decide +kernel) rfl (by trivial) (by trivial)) (!AD (@Aq _ _ (1) _ (show(["_law_block_here","_law_tag","_law_counts_here","_law_pool"]:List Str).Nodup by decide +kernel) rfl (by trivial) (by trivial)) (!BO))) (by rfl) (by rfl)),(!AX),(!ED (!CU Bh (!A3 (pv 3) T.cl_Pool CO (by trivial) (!Ac (!Av (Ep (K:=K) (by rfl)) (pv 1) (!Ak) (fun _ _=>rfl)) (!Aj))) (!BH hu (pv 2) (pv 1) (fun _ _=>rfl)) (AC _)) (!FL (!CU (SY hu9) (!A3 (pv 3) T.cl_Pool CV (by trivial) (!Ac (pv 1) (!Aj))) (pv 0) (AC _))))⟩) (by intro _;rfl)) (!Aj))))))),?_⟩
 try dsimp only[BP,Cx.nox,Cx.wish]
 have p0:=rs.at0;refine⟨_,rfl,p,q.dp,_,rfl,p0.1,rfl,p,q,cs,rfl,p0,few,fun ms5 l5 pm5 so5 nl5=>?_⟩;have s5:=Am nl5 (.lst (ms5.map V.int));have hl5:(upd H l5 (.lst (ms5.map V.int))) l5=some (.lst (ms5.map V.int)):=Af;generalize (upd H l5 (.lst (ms5.map V.int)))=H5 at s5 hl5;have so5':=so.same s5;have lp:=so.few;refine⟨_,rfl,sl,rfl,⟨_,AO.of so5'.l⟩,?_⟩;refine Fe (fr:=[]) so5'.pr so5'.l (by omega) (fun _=>true) (fun e=>.int e.z) (fun e he H' R s' hR=>hR) (fun e he H' R s' hR=>⟨_,rfl,e.ta,_,_,_,rfl,rfl,AW.of (s'.get (so5'.tg e he).1),rfl,hR⟩) fun l7 H7 nl7 s7 hl7=>?_
 rw[Kc,show ps.map (fun e=>V.int e.z)=(ps.map (·.z)).map V.int by rw[List.map_map];rfl] at hl7;refine⟨l7,ps.map (·.z),rfl,AO.of hl7,by rw[List.length_map];omega,fun ms8 l8 pm8 so8 nl8=>?_⟩;have em8:ms5=ms8:=MR (pm5.trans ((mt.z so.nd p0.2.2.2).symm.trans pm8.symm)) so5 so8;subst em8;have s8:=Am nl8 (.lst (ms5.map V.int));refine⟨l5,l8,_,_,rfl,rfl,AO.of (s8.get (s7.get hl5)),AO.of Af,Ju _,Ju _,_,rfl,AR (by rw[if_pos rfl,decide_eq_true rfl];rfl) ?_⟩;have s58:=(s5.trans s7).trans s8;generalize (upd H7 l8 (.lst (ms5.map V.int)))=H8 at s58;refine⟨_,rfl,_,rfl,sl,us,ps,hl,hs,rfl,so.same s58,⟨s58.get he.1,he.2⟩,fun d H9 s9 hd hd9=>?_⟩;have s89:=s58.trans s9;have so9:=so.same s89;have rs9:=rs.same s89;refine⟨_,rfl,sl,rfl,⟨_,AO.of so9.l⟩,?_⟩;refine Ss (fr:=[some 3,some 0]) so9.pr so9.l (by omega) (fun _=>.bl true) (fun e hem H' R s' hR=>?_) fun l10 H10 nl10 s10 hl10=>⟨l10,ps.map fun _=>true,rfl,AO.of (by rw[hl10,List.map_map];rfl),?_⟩
 ·obtain⟨k,hk⟩:=mt.a e hem;have rs':=rs9.same s';have t':=s'.get (so9.tg e hem).1;have gd:=Bx.t (k:=Hi e) (s'.get hd9) t';rw[IM so.nd hem] at gd;have ek:=rt.k _ hk;have ek:k=(D7 (Lc cs) e.z:Int)+((hs.map (·.z)).count e.z:Int):=ek;rw[<-mt.n so.nd p0.2.2.2] at ek;refine⟨_,rfl,p,q.dp,_,rfl,rs'.at0.1,rfl,_,rfl,e.ta,_,_,_,rfl,rfl,AW.of t',rfl,p,q,cs,{ e with k:=k },rfl,rs'.at0,hk,_,rfl,_,rfl,d,_,rfl,gd,rfl,_,rfl,BS (by rw[ek];exact decide_eq_true rfl) ?_⟩;refine⟨_,rfl,p,q.dp,_,rfl,rs'.at0.1,rfl,_,rfl,?_⟩;refine Yt (QQ (e:={ e with k:=k }) rs' hk t' fun v H11 s11 rv=>?_);have okb:=so.ok e hem;refine⟨_,rfl,Ce e.bk,Ce e.bk,Dm okb,Dm okb,rv,Rep.same (s'.trans s11) _ _ (so9.tg e hem).2.1,?_⟩;rw[decide_eq_true rfl];exact hR H11 s11
 ·have e:(ps.map fun _=>true).all id=true:=by simp
  rw[e];exact hq H10 (s89.trans s10)
end
open M06 M10
section
variable {P:Program}{w:World}{K:W.Frag}{mg:Str->Option Value}{base:Heap}{f Ab Ad Aa Ae:Addr}{XC:Nat->Addr}{fd:FuncData}
theorem Rl:∀(l:List Int) (t:Int),0<=t->t<=996->0<=l.foldl (fun t n=>(31*t+n+1)%997) t/\l.foldl (fun t n=>(31*t+n+1)%997) t<=996
 |[],t,h0,h1=>⟨h0,h1⟩
 |x::l,t,_,_=>Rl l ((31*t+x+1)%997) (by omega) (by omega)
theorem sum_in (b:Bk):0<=A8 b/\A8 b<=996:=by
 have k:0<=kindB b/\kindB b<=2:=by cases b<;>simp[kindB]
 exact Rl _ _ (by omega) (by omega)
theorem both {X:List Int}{Z1 Z2:Int->Prop}{cs cs' ps rs:List Cl}(mt:Mt ps cs)(c1:Cas X Z1 (Lc cs) (Lc cs'))(h1:∀x∈Lc cs',Nf (Lc cs') X x.1->Z2 x.1)(c2:Cas X Z2 (Lc ps) (Lc rs))(h2:∀x∈Lc rs,Nf (Lc rs) X x.1->Z1 x.1)(x:Int×List Int):x∈Lc rs↔x∈Lc cs':=
 ⟨c1.conf (fun x hx=>(mt.l x).mp (c2.sub x hx)) h2 x,c2.conf (fun x hx=>(mt.l x).mpr (c1.sub x hx)) h1 x⟩
theorem Nf.eqv {L M:List (Int×List Int)}{X:List Int}(h:∀x,x∈L↔x∈M){z:Int}(a:Nf L X z):Nf M X z:=⟨fun x hx=>a.1 x ((h x).mpr hx),a.2⟩
theorem Mt.left {ps cs cs' ps' rs:List Cl}(mt:Mt ps cs)(nd:(ps.map (·.z)).Nodup)(nc:(cs.map (·.z)).Nodup)(sb:∀e∈cs',∃k,{ e with k:=k }∈cs)(sl:∀e∈ps',e∈ps)(pr:∀e,e∈ps'↔e∈rs)(b:∀x,x∈Lc rs↔x∈Lc cs'):Mt ps' cs':=by
 refine⟨fun e he=>?_,fun c hc=>?_⟩
 ·obtain⟨c,hc,ec⟩:=List.mem_map.mp ((b _).mp (C8 ((pr e).mp he)));obtain⟨k,hk⟩:=sb c hc;obtain⟨k2,hk2⟩:=mt.a e (sl e he);have h:=AH nc hk hk2 (congrArg Prod.fst ec);have h2:c={ e with k:=c.k }:=congrArg (fun x:Cl=>{ x with k:=c.k }) h;exact⟨c.k,by rw[<-h2];exact hc⟩
 ·obtain⟨k,hk⟩:=sb c hc;obtain⟨k2,hk2⟩:=mt.b _ hk;obtain⟨e,he,ee⟩:=List.mem_map.mp ((b _).mpr (C8 hc));have he':=(pr e).mpr he;have h:=AH nd (sl e he') hk2 (congrArg Prod.fst ee);exact⟨k2,by rw[h] at he';exact he'⟩
theorem SoAt.tup {H H':Hp}{sl:Addr}{us:List V}{ps:List Cl}(h:SoAt H sl us ps)(ht:∀c ys,H c=some (.tup ys)->H' c=some (.tup ys))(hl:H' sl=some (.lst us)):SoAt H' sl us ps:={ h with l:=hl,pr:=h.pr.tup ht,tg:=h.tg.tup ht }
theorem SoAt.left {H:Hp}{sl l:Addr}{us us':List V}{ps ps' cs':List Cl}{X:List Int}(so:SoAt H sl us ps)(hl:H l=some (.lst us'))(pr:JT H ps' us')(sb:ps'.Sublist ps)(mt:Mt ps' cs')(rt:Rt cs' X):SoAt H l us' ps':=by
 refine⟨hl,pr,fun e he=>so.tg e (sb.subset he),(sb.map _).nodup so.nd,fun e he t ht=>?_,fun e he=>so.ok e (sb.subset he),Nat.le_trans sb.length_le so.few⟩;obtain⟨c,hc,rfl⟩:=so.kn e (sb.subset he) t ht;obtain⟨k,hk⟩:=mt.a e he;obtain⟨c',hc',ez⟩:=rt.n _ hk _ ht;obtain⟨k',hk'⟩:=mt.b c' hc';have h:=AH so.nd (sb.subset hk') hc ez;exact⟨c,by rw[<-h];exact hk',rfl⟩
theorem OR {α β γ:Type}{f:α->β}{g:α->γ}:∀{l:List α},(l.map g).Nodup->(∀a∈l,∀b∈l,f a=f b->g a=g b)->(l.map f).Nodup
 |[],_,_=>List.nodup_nil
 |a::l,nd,h=>by
  rw[List.map_cons,List.nodup_cons] at nd ⊢;refine⟨fun hm=>nd.1 ?_,OR nd.2 fun x hx y hy=>h x (List.mem_cons_of_mem _ hx) y (List.mem_cons_of_mem _ hy)⟩;obtain⟨b,hb,e⟩:=List.mem_map.mp hm;exact List.mem_map.mpr ⟨b,hb,h b (List.mem_cons_of_mem _ hb) a List.mem_cons_self e⟩
structure Iw (CB CP CT:Addr) (H:Hp) (x xb dxb sh cl:Addr) (ms:List Int) (ds:List Addr) (q:Pl) (cs:List Cl) (bs:List (Int×Addr)) (sl:Addr) (us:List V) (ps:List Cl) (hl:Addr) (hs:List Cl):Prop where
 pa:PAt CP CT H x q cs bs
 na:Ob H cs
 rt:Rt cs (hs.map (·.z))
 so:SoAt H sl us ps
 he:SN H hl hs ps
 mt:Mt ps cs
 nb:(cs.map (·.bk)).Nodup
 m:H cl=some (.lst (ms.map V.int))
 b:H xb=some (.ins CB dxb (KH sh 0 .non))
 hsh:H sh=some (.lst (ds.map V.ref))
 hds:∀d∈ds,H d=some (.dK [])
 ap:Ze x q cs bs xb ds
 ls:∀e∈cs,e.l≠sl/\e.l≠hl
 ne:cl≠sl/\cl≠hl/\sl≠hl/\sh≠sl/\sh≠hl
 eb:q.bo=xb
section
variable {CB CP CT:Addr}{H H' H2 H3:Hp}{x xb dxb sh cl:Addr}{ms:List Int}{ds:List Addr}{q:Pl}{cs cs':List Cl}{bs:List (Int×Addr)}{sl:Addr}{us:List V}{ps ps':List Cl}{hl:Addr}{hs hs':List Cl}
theorem Ob.same {H H':Hp}{cs:List Cl}(s:Ar H H')(h:Ob H cs):Ob H' cs:=fun e he=>(h e he).elim fun us hu=>⟨us,s.get hu.1,Ax.same s _ _ hu.2⟩
theorem Iw.same (s:Ar H H')(h:Iw CB CP CT H x xb dxb sh cl ms ds q cs bs sl us ps hl hs):Iw CB CP CT H' x xb dxb sh cl ms ds q cs bs sl us ps hl hs:=
 { h with pa:=h.pa.same s,na:=h.na.same s,so:=h.so.same s,he:=⟨s.get h.he.1,h.he.2⟩,m:=s.get h.m,b:=s.get h.b,hsh:=s.get h.hsh,hds:=fun d hd=>s.get (h.hds d hd) }
structure Kq (H H':Hp) (xb:Addr) (ds:List Addr) (hl:Addr):Prop where
 t:∀c ys,H c=some (.tup ys)->H' c=some (.tup ys)
 l:∀c ys,H c=some (.lst ys)->c≠hl->H' c=some (.lst ys)
 b:∀o,H xb=some o->H' xb=some o
 d:∀d∈ds,∀o,H d=some o->H' d=some o
theorem Iw.kq (I:Iw CB CP CT H x xb dxb sh cl ms ds q cs bs sl us ps hl hs)(f:MN (A7 x q cs bs) H H'):Kq H H' xb ds hl:=
 ⟨fun c ys h=>f c _ h (I.pa.apart h (by intro C d fs z;cases z) (by intro kvs z;cases z)),fun c ys h _=>f c _ h (I.pa.apart h (by intro C d fs z;cases z) (by intro kvs z;cases z)),fun o h=>f _ o h I.ap.1,fun d hd o h=>f d o h (I.ap.2 d hd)⟩
theorem Iw.after {m:Int} {sl':Addr} {us':List V} (I:Iw CB CP CT H x xb dxb sh cl ms ds q cs bs sl us ps hl hs) (k:Kq H H2 xb ds hl) (pa2:PAt CP CT H2 x { q with n:=m } cs' bs) (na2:Ob H2 cs') (rt2:Rt cs' (hs'.map (·.z))) (sb:∀e∈cs',∃k,{ e with k:=k }∈cs)
  (he2:H2 hl=some (.lst (hs'.map fun e=>V.ref e.ta))) (hh:∀e∈hs',e∈ps) (hlen:hs'.length<=60) (mt':Mt ps' cs') (sub:ps'.Sublist ps) (s:Ar H2 H3) (hsl:H3 sl'=some (.lst us')) (pr:JT H3 ps' us') (new:sl'=sl\/H2 sl'=none):Iw CB CP CT H3 x xb dxb sh cl ms ds { q with n:=m } cs' bs sl' us' ps' hl hs':=by
 have so3:SoAt H3 sl us ps:=(I.so.tup k.t (k.l _ _ I.so.l I.ne.2.2.1)).same s;have e2:∀{a ys},H a=some (.lst ys)->a≠hl->H2 a=some (.lst ys):=fun{a ys} h n=>k.l _ _ h n
 have nw:∀{a ys},H a=some (.lst ys)->a≠hl->a≠sl->a≠sl':=fun{a ys} h n1 n2 z=>by
  rcases new with e|e
  ·exact n2 (z.trans e)
  ·have:=e2 h n1;rw[z,e] at this;cases this
 have nl:∀e∈cs',e.l≠sl'/\e.l≠hl:=fun e he=>by
  obtain⟨k',hk'⟩:=sb e he;have n:=I.ls _ hk';obtain⟨us1,h1,_⟩:=I.na _ hk';exact⟨nw h1 n.2 n.1,n.2⟩
 refine⟨pa2.same s,na2.same s,rt2,so3.left hsl pr sub mt' rt2,⟨s.get he2,hlen,fun e he=>?_⟩,mt',?_,s.get (e2 I.m I.ne.2.1),s.get (k.b _ I.b),s.get (e2 I.hsh I.ne.2.2.2.2),fun d hd=>s.get (k.d d hd _ (I.hds d hd)),⟨fun h=>I.ap.1 (Im sb h),fun d hd h=>I.ap.2 d hd (Im sb h)⟩,nl,⟨nw I.m I.ne.2.1 I.ne.1,I.ne.2.1,?_,nw I.hsh I.ne.2.2.2.2 I.ne.2.2.2.1,I.ne.2.2.2.2⟩,I.eb⟩
 ·obtain⟨c,hc,ez⟩:=rt2.x e.z (List.mem_map.mpr ⟨e,he,rfl⟩);obtain⟨k',hk'⟩:=mt'.b c hc;have h:=AH I.so.nd (sub.subset hk') (hh e he) ez;rw[<-h];exact hk'
 ·refine OR pa2.t.2.2.2 fun a ha b hb e=>?_
  obtain⟨k1,h1⟩:=sb a ha;obtain⟨k2,h2⟩:=sb b hb;have h:=AH I.nb h1 h2 e;have h3:=congrArg (fun c:Cl=>c.z) h;exact h3
 ·rcases new with e|e
  ·rw[e];exact I.ne.2.2.1
  ·intro z;rw[z,he2] at e;cases e
end
section
variable {CB CP CT:Addr}{H H' H2 H3:Hp}{x xb dxb sh cl:Addr}{ms:List Int}{ds:List Addr}{q:Pl}{cs cs':List Cl}{bs:List (Int×Addr)}{sl:Addr}{us:List V}{ps ps':List Cl}{hl:Addr}{hs hs':List Cl}
theorem QX (zs:List Int)(cs:List Cl):Lc (cs.map (bump zs))=Lc cs:=Ku (fun e=>e.k+(zs.count e.z:Int)) cs
theorem Rt.hold {X:List Int}{e:Cl}(h:Rt cs X)(he:e∈cs):Rt (cs.map (bump [e.z])) (X++[e.z]):=by
 refine⟨fun c hc=>?_,fun z hz=>?_,fun c hc t ht=>?_⟩
 ·obtain⟨d,hd,rfl⟩:=List.mem_map.mp hc;rw[QX];show d.k+(([e.z].count d.z:Nat):Int)=(D7 (Lc cs) d.z:Int)+(((X++[e.z]).count d.z:Nat):Int);rw[h.k d hd,List.count_append];omega
 ·rcases List.mem_append.mp hz with hz|hz
  ·obtain⟨d,hd,rfl⟩:=h.x z hz;exact⟨_,List.mem_map.mpr ⟨d,hd,rfl⟩,rfl⟩
  ·rw[List.mem_singleton.mp hz];exact⟨_,List.mem_map.mpr ⟨e,he,rfl⟩,rfl⟩
 ·obtain⟨d,hd,rfl⟩:=List.mem_map.mp hc;obtain⟨c,hc,ez⟩:=h.n d hd t ht;exact⟨_,List.mem_map.mpr ⟨c,hc,rfl⟩,ez⟩
theorem PAt.hold (h:PAt CP CT H x q cs bs){e:Cl}(he:e∈cs):PAt CP CT (upd H e.c (.ins CT e.dx (Dd e.ta ((wT (Ce e.bk)).length:Int) e.l (e.k+1) e.en e.st))) x q (cs.map (bump [e.z])) bs:=by
 refine h.setK (g:=fun d=>d.k+(([e.z].count d.z:Nat):Int)) (fun d hd=>?_) (fun a ha=>Ag fun z=>ha (List.mem_map.mpr ⟨e,he,z.symm⟩))
 by_cases hz:d.z=e.z
 ·obtain rfl:=AH h.t.2.2.2 hd he hz;rw[Af,List.count_singleton_self];rfl
 ·rw[Ag (fun z=>hz (by rw[AH h.c hd he z])),(h.t.2.2.1 d hd).1,List.count_eq_zero.mpr (by simpa using hz)];simp
theorem Kq.upd {zs ws:List V}(k:Kq H H2 xb ds hl)(hh:H2 hl=some (.lst zs))(hb:H xb=some (.ins CB dxb (KH sh 0 .non)))(hd:∀d∈ds,H d=some (.dK [])):Kq H (upd H2 hl (.lst ws)) xb ds hl:=by
 have no:∀{a o},H2 a=some o->(∀ys,o≠.lst ys)->(L2.upd H2 hl (.lst ws)) a=some o:=fun{a o} h1 n=>by rw[Ag (fun z=>by rw[z,hh] at h1;exact n _ (Option.some.inj h1).symm)];exact h1
 refine⟨fun c ys h=>no (k.t _ _ h) (by intro ys z;cases z),fun c ys h n=>by rw[Ag n];exact k.l _ _ h n,fun o h=>?_,fun d h o g=>?_⟩
 ·have e:=h.symm.trans hb;exact no (k.b _ h) (by rw[Option.some.inj e];intro ys z;cases z)
 ·have e:=g.symm.trans (hd d h);exact no (k.d _ h _ g) (by rw[Option.some.inj e];intro ys z;cases z)
theorem Iw.hl1 (I:Iw CB CP CT H x xb dxb sh cl ms ds q cs bs sl us ps hl hs)(f:MN (A7 x q cs bs) H H'):H' hl=some (.lst (hs.map fun e=>V.ref e.ta)):=f _ _ I.he.1 (I.pa.apart I.he.1 (by intro C d fs z;cases z) (by intro kvs z;cases z))
theorem WJ {e:Cl}(h:e∈cs):e.c∈A7 x q cs bs:=by
 unfold A7;simp only[List.mem_cons,List.mem_append];exact .inr (.inr (.inr (.inr (.inr (List.mem_map.mpr ⟨e,h,rfl⟩)))))
theorem Iw.hold {e:Cl}{k:Int}(I:Iw CB CP CT H x xb dxb sh cl ms ds q cs bs sl us ps hl hs)(h0:e∈ps)(hk:{ e with k:=k }∈cs)(few:hs.length<60):Iw CB CP CT (upd (upd H e.c (.ins CT e.dx (Dd e.ta ((wT (Ce e.bk)).length:Int) e.l (k+1) e.en e.st))) hl (.lst ((hs.map fun e=>V.ref e.ta)++[.ref e.ta]))) x xb dxb sh cl ms ds q (cs.map (bump [e.z])) bs sl us ps hl (hs++[e]):=by
 have pa1:=I.pa.hold hk;have f:MN (A7 x q cs bs) H (upd H e.c (.ins CT e.dx (Dd e.ta ((wT (Ce e.bk)).length:Int) e.l (k+1) e.en e.st))):=fun a o h n=>by
  rw[Ag (fun z=>n (by rw[z];exact WJ (e:={ e with k:=k }) hk))];exact h
 have rt1:=I.rt.hold hk;have pa1:PAt CP CT (upd H e.c (.ins CT e.dx (Dd e.ta ((wT (Ce e.bk)).length:Int) e.l (k+1) e.en e.st))) x q (cs.map (bump [e.z])) bs:=pa1;generalize (upd H e.c (.ins CT e.dx (Dd e.ta ((wT (Ce e.bk)).length:Int) e.l (k+1) e.en e.st)))=H1 at pa1 f;have hh:=I.hl1 f;have kq:=(I.kq f).upd (ws:=(hs.map fun e=>V.ref e.ta)++[.ref e.ta]) hh I.b I.hds;have sb:∀c∈cs.map (bump [e.z]),∃k,{ c with k:=k }∈cs:=fun c hc=>by
  obtain⟨d,hd,rfl⟩:=List.mem_map.mp hc;exact⟨d.k,hd⟩
 refine⟨pa1.lst hh,fun c hc=>?_,by rw[List.map_append];exact rt1,I.so.tup kq.t (kq.l _ _ I.so.l I.ne.2.2.1),⟨by rw[Af,List.map_append];rfl,by rw[List.length_append];show hs.length+1<=60;omega,fun c hc=>?_⟩,⟨fun c hc=>?_,fun c hc=>?_⟩,?_,kq.l _ _ I.m I.ne.2.1,kq.b _ I.b,kq.l _ _ I.hsh I.ne.2.2.2.2,fun d hd=>kq.d d hd _ (I.hds d hd),⟨fun h=>I.ap.1 (Im (m:=q.n) sb h),fun d hd h=>I.ap.2 d hd (Im (m:=q.n) sb h)⟩,fun c hc=>?_,I.ne,I.eb⟩
 ·obtain⟨d,hd,rfl⟩:=List.mem_map.mp hc;obtain⟨us1,h1,h2⟩:=I.na d hd;exact⟨us1,kq.l _ _ h1 (I.ls d hd).2,AV kq.t _ _ h2⟩
 ·rcases List.mem_append.mp hc with hc|hc
  ·exact I.he.2.2 c hc
  ·rw[List.mem_singleton.mp hc];exact h0
 ·obtain⟨k',hk'⟩:=I.mt.a c hc;exact⟨_,List.mem_map.mpr ⟨_,hk',rfl⟩⟩
 ·obtain⟨d,hd,rfl⟩:=List.mem_map.mp hc;exact I.mt.b d hd
 ·rw[List.map_map];exact I.nb
 ·obtain⟨d,hd,rfl⟩:=List.mem_map.mp hc;exact I.ls d hd
theorem Rt.put {X:List Int}{N:Cl}(h:Rt cs X)(hm:∀e∈cs,e.z≠N.z)(hk:N.k=0)(hn:∀t∈As N.bk,∃e∈cs,e.z=t.1):Rt ((cs++[N]).map (bump ((As N.bk).map (·.1)))) X:=by
 have eL:Lc (cs++[N])=Lc cs++[(N.z,(As N.bk).map (·.1))]:=by unfold Lc;rw[List.map_append];rfl
 refine⟨fun c hc=>?_,fun z hz=>?_,fun c hc t ht=>?_⟩
 ·obtain⟨d,hd,rfl⟩:=List.mem_map.mp hc;rw[QX,eL,Q7,Gw];show d.k+((((As N.bk).map (·.1)).count d.z:Nat):Int)=((D7 (Lc cs) d.z+(((As N.bk).map (·.1)).count d.z+D7 [] d.z):Nat):Int)+((X.count d.z:Nat):Int);rw[show D7 [] d.z=0 from rfl];rcases List.mem_append.mp hd with hd|hd
  ·rw[h.k d hd];omega
  ·have z1:D7 (Lc cs) N.z=0:=Co.mpr fun y hy hz=>by
    obtain⟨e,he,rfl⟩:=List.mem_map.mp hy;obtain⟨t,ht,ez⟩:=List.mem_map.mp hz;obtain⟨c,hc,ec⟩:=h.n e he t ht;exact hm c hc (ec.trans ez)
   have z2:X.count N.z=0:=List.count_eq_zero.mpr fun hx=>by
    obtain⟨e,he,ez⟩:=h.x _ hx;exact hm e he ez
   rw[List.mem_singleton.mp hd,hk,z1,z2];omega
 ·obtain⟨d,hd,rfl⟩:=h.x z hz;exact⟨_,List.mem_map.mpr ⟨d,List.mem_append.mpr (.inl hd),rfl⟩,rfl⟩
 ·obtain⟨d,hd,rfl⟩:=List.mem_map.mp hc;have up:(∃c∈cs,c.z=t.1)->∃c∈(cs++[N]).map (bump ((As N.bk).map (·.1))),c.z=t.1:=fun⟨c0,h0,z0⟩=>⟨_,List.mem_map.mpr ⟨c0,List.mem_append.mpr (.inl h0),rfl⟩,z0⟩
  rcases List.mem_append.mp hd with hd|hd
  ·exact up (h.n d hd t ht)
  ·rw[List.mem_singleton.mp hd] at ht;exact up (hn t ht)
theorem Q8 {m:Int}{zs:List Int}{N:Cl}{bs':List (Int×Addr)}(hc:H N.c=none)(hb:∀x∈bs',x∈bs\/H x.2=none){a:Addr}{o:HO}(ho:H a=some o)(hm:a∈A7 x { q with n:=m } ((cs++[N]).map (bump zs)) bs'):a∈A7 x q cs bs:=by
 unfold A7 at hm ⊢;simp only[List.mem_cons,List.mem_append] at hm ⊢;rcases hm with hm|hm|hm|hm|hm|hm
 ·exact .inl hm
 ·exact .inr (.inl hm)
 ·exact .inr (.inr (.inl hm))
 ·exact .inr (.inr (.inr (.inl hm)))
 ·obtain⟨y,hy,rfl⟩:=List.mem_map.mp hm;rcases hb y hy with h|h
  ·exact .inr (.inr (.inr (.inr (.inl (List.mem_map.mpr ⟨y,h,rfl⟩)))))
  ·rw[ho] at h;cases h
 ·refine .inr (.inr (.inr (.inr (.inr ?_))));obtain⟨y,hy,rfl⟩:=List.mem_map.mp hm;obtain⟨d,hd,rfl⟩:=List.mem_map.mp hy;rcases List.mem_append.mp hd with h|h
  ·exact List.mem_map.mpr ⟨d,h,rfl⟩
  ·have e:=List.mem_singleton.mp h;have ho:H d.c=some o:=ho;rw[e,hc] at ho;cases ho
theorem Iw.put {m y:Int} {b:Bk} {bv:V} {c dxc ta l t:Addr} {bs':List (Int×Addr)} (I:Iw CB CP CT H x xb dxb sh cl ms ds q cs bs sl us ps hl hs) (few:cs.length<60) (hne:∀e∈cs,e.bk≠b) (m1:1<=m) (m2:m<=(cs.length:Int)+1) (hm:∀e∈cs,e.z≠m) (hc:H c=none) (hlN:H l=none) (hlR:∃us,H' l=some (.lst us)/\Ax NL H' ((As b).map Fn) us)
  (pa':PAt CP CT H' x { q with n:=m } ((cs++[Ef m y b bv c dxc ta l cs]).map (bump ((As b).map (·.1)))) bs') (f:MN (A7 x q cs bs) H H') (hb:∀x∈bs',x∈bs\/H x.2=none) (okb:DH b) (y0:0<=y) (y1:y<=999999999) (hn:∀t∈As b,∃e∈ps,t=Pq e) (s:Ar H' H2) (ht:H2 t=some (.tup [bv,.ref ta])) :
  Iw CB CP CT (upd H2 sl (.lst (us++[.ref t]))) x xb dxb sh cl ms ds { q with n:=m } ((cs++[Ef m y b bv c dxc ta l cs]).map (bump ((As b).map (·.1)))) bs' sl (us++[.ref t]) (ps++[bump ((As b).map (·.1)) (Ef m y b bv c dxc ta l cs)]) hl hs:=by
 have kt0:∀a ys,H a=some (.tup ys)->H' a=some (.tup ys):=(I.kq f).t;have kl0:∀a ys,H a=some (.lst ys)->H' a=some (.lst ys):=fun a ys h=>f a _ h (I.pa.apart h (by intro C d fs z;cases z) (by intro kvs z;cases z))
 have hsl2:=s.get (kl0 _ _ I.so.l);have no:∀{a o},H2 a=some o->(∀ys,o≠.lst ys)->(upd H2 sl (.lst (us++[.ref t]))) a=some o:=fun{a o} h1 n=>by rw[Ag (fun z=>by rw[z,hsl2] at h1;exact n _ (Option.some.inj h1).symm)];exact h1
 have kt2:∀a ys,H2 a=some (.tup ys)->(upd H2 sl (.lst (us++[.ref t]))) a=some (.tup ys):=fun a ys h=>no h (by intro ys z;cases z)
 have kt:∀a ys,H a=some (.tup ys)->(upd H2 sl (.lst (us++[.ref t]))) a=some (.tup ys):=fun a ys h=>kt2 _ _ (s.get (kt0 _ _ h))
 have kl:∀{a ys},H a=some (.lst ys)->a≠sl->(upd H2 sl (.lst (us++[.ref t]))) a=some (.lst ys):=fun{a ys} h n=>by rw[Ag n];exact s.get (kl0 _ _ h)
 have mN:bump ((As b).map (·.1)) (Ef m y b bv c dxc ta l cs)∈(cs++[Ef m y b bv c dxc ta l cs]).map (bump ((As b).map (·.1))):=List.mem_map.mpr ⟨_,List.mem_append.mpr (.inr (List.mem_singleton.mpr rfl)),rfl⟩;have cN:=pa'.t.2.2.1 _ mN;have hn':∀t∈As b,∃e∈cs,e.z=t.1:=fun t ht=>by
  obtain⟨e,he,rfl⟩:=hn t ht;obtain⟨k,hk⟩:=I.mt.a e he;exact⟨_,hk,rfl⟩
 have lp:=(I.mt.z I.so.nd I.pa.t.2.2.2).length_eq;rw[List.length_map,List.length_map] at lp;have sb:=sum_in b;refine⟨(pa'.same s).lst hsl2,fun e he=>?_,I.rt.put (N:=Ef m y b bv c dxc ta l cs) hm rfl hn',⟨Af,JT.snoc ⟨t,rfl,kt2 _ _ ht⟩ (I.so.pr.tup kt),fun e he=>?_,?_,fun e he u hu=>?_,fun e he=>?_,?_⟩,⟨kl I.he.1 (Ne.symm I.ne.2.2.1),I.he.2.1,fun e he=>List.mem_append.mpr (.inl (I.he.2.2 e he))⟩,⟨fun e he=>?_,fun e he=>?_⟩,?_,kl I.m I.ne.1,no (s.get ((I.kq f).b _ I.b)) (by intro ys z;cases z),kl I.hsh I.ne.2.2.2.1,fun d hd=>no (s.get ((I.kq f).d d hd _ (I.hds d hd))) (by intro ys z;cases z),⟨fun h=>I.ap.1 (Q8 (H:=H) hc hb I.b h),fun d hd h=>I.ap.2 d hd (Q8 (H:=H) hc hb (I.hds d hd) h)⟩,fun e he=>?_,I.ne,I.eb⟩
 ·obtain⟨d,hd,rfl⟩:=List.mem_map.mp he;rcases List.mem_append.mp hd with h|h
  ·obtain⟨us1,h1,h2⟩:=I.na d h;exact⟨us1,kl h1 (I.ls d h).1,AV kt _ _ h2⟩
  ·rw[List.mem_singleton.mp h];obtain⟨us1,h1,h2⟩:=hlR;have nl:l≠sl:=fun z=>by rw[z,I.so.l] at hlN;cases hlN
   exact⟨us1,by show(upd H2 sl _) l=_;rw[Ag nl];exact s.get h1,AV (fun a ys h=>kt2 _ _ (s.get h)) _ _ h2⟩
 ·rcases List.mem_append.mp he with h|h
  ·exact(I.so.tg.tup kt) e h
  ·rw[List.mem_singleton.mp h];exact⟨kt2 _ _ (s.get cN.2.1),Cz (fun a ys h=>kt2 _ _ (s.get h)) _ _ cN.2.2.1,⟨m1,by show m<=999999;omega⟩,⟨y0,y1⟩,sb.1,sb.2⟩
 ·rw[List.map_append,List.nodup_append];refine⟨I.so.nd,by simp,fun u hu v hv=>?_⟩;obtain⟨e,he,rfl⟩:=List.mem_map.mp hu;have ev:v=m:=List.mem_singleton.mp hv;obtain⟨k,hk⟩:=I.mt.a e he;rw[ev];have h9:=hm _ hk;exact h9
 ·rcases List.mem_append.mp he with h|h
  ·obtain⟨c0,h0,e0⟩:=I.so.kn e h u hu;exact⟨c0,List.mem_append.mpr (.inl h0),e0⟩
  ·rw[List.mem_singleton.mp h] at hu;obtain⟨c0,h0,e0⟩:=hn u hu;exact⟨c0,List.mem_append.mpr (.inl h0),e0⟩
 ·rcases List.mem_append.mp he with h|h
  ·exact I.so.ok e h
  ·rw[List.mem_singleton.mp h];exact okb
 ·rw[List.length_append];show ps.length+1<=60;omega
 ·rcases List.mem_append.mp he with h|h
  ·obtain⟨k,hk⟩:=I.mt.a e h;exact⟨_,List.mem_map.mpr ⟨_,List.mem_append.mpr (.inl hk),rfl⟩⟩
  ·rw[List.mem_singleton.mp h];exact⟨_,mN⟩
 ·obtain⟨d,hd,rfl⟩:=List.mem_map.mp he;rcases List.mem_append.mp hd with h|h
  ·obtain⟨k,hk⟩:=I.mt.b d h;exact⟨k,List.mem_append.mpr (.inl hk)⟩
  ·rw[List.mem_singleton.mp h];exact⟨_,List.mem_append.mpr (.inr (List.mem_singleton.mpr rfl))⟩
 ·rw[List.map_map];show((cs++[Ef m y b bv c dxc ta l cs]).map fun e=>e.bk).Nodup;rw[List.map_append,List.nodup_append];refine⟨I.nb,by simp,fun u hu' w hw=>?_⟩;obtain⟨e0,h0,rfl⟩:=List.mem_map.mp hu';have:w=b:=List.mem_singleton.mp hw;rw[this];exact hne e0 h0
 ·obtain⟨d,hd,rfl⟩:=List.mem_map.mp he;rcases List.mem_append.mp hd with h|h
  ·exact I.ls d h
  ·rw[List.mem_singleton.mp h];exact⟨fun z=>(by rw[show l=sl from z,I.so.l] at hlN;cases hlN),fun z=>(by rw[show l=hl from z,I.he.1] at hlN;cases hlN)⟩
theorem L7 {H:Hp}{cs:List Cl}(tg:Ot H cs):∀{es:List Cl},(∀e∈es,e∈cs)->Ax NL H (es.map fun e=>Ce e.bk) (es.map fun e=>e.v)
 |[],_=>rfl
 |e::es,h=>⟨_,_,rfl,(tg _ (h e List.mem_cons_self)).2.1,L7 tg fun x hx=>h x (List.mem_cons_of_mem _ hx)⟩
theorem Yx {t u:TT}{σ:St}{H:Hp}{Q:Bool->Hp->Prop}(M:Bool->Prop)(h:∀R:Bool->Hp->Prop,(∀c H',Ar H H'->M c->R c H')->YD t u σ H R)(q:∀c H',Ar H H'->M c->Q c H'):YD t u σ H Q:=h Q q
theorem Xo {t u:TT}{σ:St}{H:Hp}{Q:Bool->Hp->Prop}(M:Bool->Prop)(h:∀R:Bool->Hp->Prop,(∀c H',Ar H H'->M c->R c H')->WY t u σ H R)(q:∀c H',Ar H H'->M c->Q c H'):WY t u σ H Q:=h Q q
end
theorem T6:∀(hs:List Cl) (k:Nat),(hs.map fun e=>V.ref e.ta).eraseIdx k=(hs.eraseIdx k).map fun e=>V.ref e.ta
 |[],_=>rfl
 |_::_,0=>rfl
 |a::hs,k+1=>by
  rw[List.map_cons,List.eraseIdx_cons_succ,List.eraseIdx_cons_succ,List.map_cons,T6 hs k]
theorem Ut {e:Cl}:∀{hs:List Cl} {k:Nat},hs[k]?=some e->∀z:Int,(hs.map (·.z)).count z=(e.z::(hs.eraseIdx k).map (·.z)).count z
 |[],k,h,z=>by simp at h
 |a::hs,0,h,z=>by
  simp at h;subst h;rfl
 |a::hs,k+1,h,z=>by
  have ih:=Ut (hs:=hs) (k:=k) (by simpa using h) z;rw[List.eraseIdx_cons_succ,List.map_cons,List.map_cons];simp only[List.count_cons] at ih ⊢;omega
theorem Xc {α:Type}{xs:List α}(ne:xs≠[]){x:Int}:∃(k:Nat) (y:α),seqIndex? (x%(xs.length:Int)) xs.length=some k/\xs[k]?=some y/\0<=x%(xs.length:Int)/\x%(xs.length:Int)<(xs.length:Int):=by
 obtain⟨y,_,hy⟩:=JC ne (x:=x);obtain⟨j,h1,h2,_⟩:=K9 hy;have hp:0<xs.length:=List.length_pos_iff.mpr ne;exact⟨j,y,h1,h2,Int.emod_nonneg x (by omega),Int.emod_lt_of_pos x (by omega)⟩
theorem TH {ps:List Cl}{b:Bk}(ok:∀e∈ps,DH e.bk)(okb:DH b):((ps.map fun e=>Ce e.bk).any fun u=>decide (wT u=wT (Ce b)))=true↔∃e∈ps,e.bk=b:=by
 rw[List.any_eq_true];constructor
 ·rintro⟨u,hu,h⟩
  obtain⟨e,he,rfl⟩:=List.mem_map.mp hu;exact⟨e,he,Q5 (N7 (Dm (ok e he)) (Dm okb) (of_decide_eq_true h))⟩
 ·rintro⟨e,he,rfl⟩
  exact⟨_,List.mem_map.mpr ⟨e,he,rfl⟩,decide_eq_true rfl⟩
theorem JT.ne {H:Hp}{ps:List Cl}{us:List V}(h:JT H ps us)(n:us≠[]):ps≠[]:=fun z=>n (by rw[z] at h;exact h)
theorem WS {H:Hp}{ds:List Addr}{bs:List Fy}(r:Sl H ds bs)(n:∀c∈bs,c=[]):∀d∈ds,H d=some (.dK []):=by
 intro d hd
 induction r with
 |nil=>cases hd
 |cons h t ih=>
  rcases List.mem_cons.mp hd with rfl|hd
  ·obtain⟨kvs,h1,h2,_⟩:=h;rw[n _ List.mem_cons_self] at h2;cases h2;exact h1
  ·exact ih (fun c hc=>n c (List.mem_cons_of_mem _ hc)) hd
theorem WE {H:Hp}:∀{ds:List Addr} {bs:List Fy},ds.length=bs.length->(∀c∈bs,c=[])->(∀d∈ds,H d=some (.dK []))->Sl H ds bs
 |[],[],_,_,_=>.nil
 |d::ds,b::bs,hl,hb,hd=>by
  have e:=hb b List.mem_cons_self;subst e;exact .cons ⟨[],hd d List.mem_cons_self,.nil,List.nodup_nil⟩ (WE (by simpa using hl) (fun c hc=>hb c (List.mem_cons_of_mem _ hc)) fun d hd'=>hd d (List.mem_cons_of_mem _ hd'))
end
open M06 M10
section
variable {P:Program}{w:World}{K:W.Frag}{mg:Str->Option Value}{base:Heap}{f Ab Ad Aa Ae:Addr}{XC:Nat->Addr}{fd:FuncData}
def Nq (K:W.Frag):Sp:=fun vs H Q _=>∃(a:Addr) (ns:List Int),vs=[.ref a]/\AO K H a (ns.map V.int)/\ns.length<=63/\∀H',Q (.bl true) H'
theorem XU (T:Txt K mg Ab Ad Aa Ae XC)(F:Fun K "law" "law" Jz f fd)(FV:NV P w K mg base 3 Ad "Boards" ["self","many"] (Fm K Ad))(HL:NV P w K mg base 1 Ae "Pool" ["self","boards"] (GJ K Ae))(Ej:A2 P w K mg base 11 Ae "lay_draft" ["self"] (DM K Ae Aa Ad))(Jg:Def P w K mg base 1 "_law_row" ["_law_cell","_law_many"] (Hl K))(ET:Def P w K mg base 18 "_law_right" ["_law_pool","_law_some","_law_held"] (FH K Ae Aa Ad))(G1:Def P w K mg base 3 "_law_block" ["_law_row_here","_law_some"] (Gd K))(Jd:A2 P w K mg base 19 Ae "put" ["self","block","birth"] (HE K Ae Aa))(D6:A2 P w K mg base 1 Ad "written" ["self"] (DS K Ad))(DE:A2 P w K mg base 1 Ae "hold" ["self","tag"] (EN K Ae Aa))(B8:A2 P w K mg base 3 Ae "release" ["self","tag"] (Dj K Ae Aa))(GA:A2 P w K mg base 4 Ae "sweep" ["self"] (Ge K Ae Aa))(Be:Def P w K mg base 2 "_law_counts" ["_law_some","_law_held"] (CG K))(FC:Def P w K mg base 3 "_law_left" ["_law_some","_law_held","_law_gone"] (Gz K)):FnOk P w K mg base Cf 20 f fd ["_law_script"] (Nq K):=by
 exists Dl
 ·obtain⟨a,ns,rfl,_⟩:=h;rfl
 obtain⟨a,ns,rfl,hS,hlen,hq⟩:=h;have hu:=BJ hr;have hu9:=Fx hr;refine⟨_,(!Ah (@AG _ _ (1) _ _ _ _ Dl.nd rfl (by trivial) (!N6 FV (by trivial) rfl (!Ac (!Ak) (!Aj))) (by rfl) (by trivial)) (!Ah (@AG _ _ (2) _ _ _ _ Dl.nd rfl (by trivial) (!N6 HL (by trivial) rfl (!Ac (pv 1) (!Aj))) (by rfl) (by trivial)) (!Ah (@AG _ _ (3) _ _ _ _ Dl.nd rfl (by trivial) (!BY (!Aj)) (by rfl) (by trivial)) (!Ah (@AG _ _ (4) _ _ _ _ Dl.nd rfl (by trivial) (!BY (!Aj)) (by rfl) (by trivial)) (!Ah (!Ck PassesOwn.never rfl (!Bc (!JG Rn (pv 0) (!Ld) (!K8 (!Ak)))) (@Aq _ _ (5) _ Dl.nd rfl (by trivial) (by trivial)) (!Ah (@AG _ _ (6) _ _ _ _ Dl.nd rfl (by trivial) (!AN Jg (by trivial) rfl (!Ac (pv 5) (!Ac (!Ak) (!Aj)))) (by rfl) (by trivial)) (!Ah (@AG _ _ (7) _ _ _ _ Dl.nd rfl (by trivial) (!AB Bj (!Av A4 (pv 6) (!Ak) (fun _ _=>rfl)) (!Ak)) (by rfl) (by trivial)) (!Ah (!AS (@PW.pt _ _ _ (!Hf (!AA OH (pv 7) (!Ak) (AC _)) (!Fc (!AA (Us hu) (pv 3) (!BY (!Aj)) (AC _))))) (!Ah (@AG _ _ (8) _ _ _ _ Dl.nd rfl (by trivial) (!AN G1 (by trivial) rfl (!Ac (pv 6) (!Ac (pv 3) (!Aj)))) (by rfl) (by trivial)) (!Ah (@AG _ _ (9) _ _ _ _ Dl.nd rfl (by trivial) (!A3 (pv 2) T.cl_Pool Jd (by trivial) (!Ac (pv 8) (!Ac (!Av A4 (pv 6) (!Ak) (fun _ _=>rfl)) (!Aj)))) (by rfl) (by trivial)) (!Al (!AS (!AA (SH hu9) (pv 8) (@Bs _ ["_law_other","_law_elder"] _ _ _ _ _ _ _ _ _ _ rfl (!Bc (pv 3)) (by decide +kernel) (fun C s H fp=>⟨(@Cy _ (K) _ _ _ _ (2) (by rfl) rfl (!AD (@Aq _ _ (0) _ (show(["_law_other","_law_elder"]:List Str).Nodup by decide +kernel) rfl (by trivial) (by trivial)) (!AD (@Aq _ _ (1) _ (show(["_law_other","_law_elder"]:List Str).Nodup by decide +kernel) rfl (by trivial) (by trivial)) (!BO))) (by rfl) (by rfl)),(!AX),(pv 0)⟩) (by intro _;rfl))) (!Al (!Bb (!Hd PySem.F.plainAttrs_list PySem.F.slot_list_append PySem.F.type_list_append EX (pv 3) (!Ac (!EF (!Ac (pv 8) (!Ac (pv 9) (!Aj)))) (!Aj))))) (!Aw))))) (!Al (!AS (!AA OH (pv 7) (!Ak) (AC _)) (!Ah (@AG _ _ (9) _ _ _ _ Dl.nd rfl (by trivial) (!Av AJ (!Av A4 (pv 3) (!AB Bj (!Av A4 (pv 6) (!Ak) (fun _ _=>rfl)) (!Au AK (by rfl) T.b_len BG (!Ac (pv 3) (!Aj)))) (fun _ _=>rfl)) (!Ak) (fun _ _=>rfl)) (by rfl) (by trivial)) (!Ah (!Bb (!A3 (pv 2) T.cl_Pool DE (by trivial) (!Ac (pv 9) (!Aj)))) (!Al (!Bb (!Hd PySem.F.plainAttrs_list PySem.F.slot_list_append PySem.F.type_list_append EX (pv 4) (!Ac (pv 9) (!Aj))))))) (!Al (!AS (@PW.pt _ _ _ (!PN (!AA Bh (pv 7) (!Ak) (AC _)) (!Nw (!AA (PF hu) (pv 4) (!BY (!Aj)) (AC _))))) (!Ah (@AG _ _ (9) _ _ _ _ Dl.nd rfl (by trivial) (!Hd PySem.F.plainAttrs_list PySem.F.slot_list_pop PySem.F.type_list_pop Uq (pv 4) (!Ac (!AB Bj (!Av A4 (pv 6) (!Ak) (fun _ _=>rfl)) (!Au AK (by rfl) T.b_len BG (!Ac (pv 4) (!Aj)))) (!Aj))) (by rfl) (by trivial)) (!Ah (!Bb (!A3 (pv 2) T.cl_Pool B8 (by trivial) (!Ac (pv 9) (!Aj)))) (!Al (!AS (!AA Bh (!BH hu (!AN Be (by trivial) rfl (!Ac (pv 3) (!Ac (pv 4) (!Aj)))) (pv 9) (fun _ _=>rfl)) (!Ak) (AC _)) (!Al (@AG _ _ (3) _ _ _ _ Dl.nd rfl (by trivial) (!AN FC (by trivial) rfl (!Ac (pv 3) (!Ac (pv 4) (!Ac (!BY (!Ac (pv 9) (!Aj))) (!Aj))))) (by rfl) (by trivial))) (!Aw))))) (!Ah (!Bb (!DJ (pv 2) T.cl_Pool GA)) (!Ah (@AG _ _ (10) _ _ _ _ Dl.nd rfl (by trivial) (!AN Be (by trivial) rfl (!Ac (pv 3) (!Ac (pv 4) (!Aj)))) (by rfl) (by trivial)) (!Al (@AG _ _ (3) _ _ _ _ Dl.nd rfl (by trivial) (!AN FC (by trivial) rfl (!Ac (pv 3) (!Ac (pv 4) (!Ac (@Er _ ["_law_block_here","_law_tag","_law_counts_here"] [none,none,some 10] _ _ _ _ _ _ _ _ _ _ _ rfl (!Bc (pv 3)) (by rfl) rfl (by repeat (first|exact trivial|refine⟨rfl,?_⟩)) (by repeat (first|exact trivial|refine⟨fun h=>(by first|exact⟨_,rfl⟩|cases h),?_⟩)) (fun C s H fp=>⟨(@Cy _ (K) _ _ _ _ (2) (by rfl) rfl (!AD (@Aq _ _ (0) _ (show(["_law_block_here","_law_tag","_law_counts_here"]:List Str).Nodup by decide +kernel) rfl (by trivial) (by trivial)) (!AD (@Aq _ _ (1) _ (show(["_law_block_here","_law_tag","_law_counts_here"]:List Str).Nodup by decide +kernel) rfl (by trivial) (by trivial)) (!BO))) (by rfl) (by rfl)),(!Gp (!AA Bh (!BH hu (pv 2) (pv 1) (fun _ _=>rfl)) (!Ak) (AC _))),(pv 1)⟩) (by intro _;rfl)) (!Aj))))) (by rfl) (by trivial)))))))))) (!Al (!AS (!Cd (!BK (!AN ET (by trivial) rfl (!Ac (pv 2) (!Ac (pv 3) (!Ac (pv 4) (!Aj))))) (by intro _;rfl))) (!Al (!An (!Hh))) (!Aw)))))) (by intro _;rfl)) (!Ah (!Bb (!DJ (pv 2) T.cl_Pool Ej)) (!Al (!An (!ED (!CU Bh (!DJ (pv 1) T.cl_Boards D6) (!AB IW (!Ak) (!Au AK (by rfl) T.b_len BG (!Ac (pv 3) (!Aj)))) (AC _)) (!FL (!AN ET (by trivial) rfl (!Ac (pv 2) (!Ac (pv 3) (!Ac (pv 4) (!Aj))))))))))))))),?_⟩
 try dsimp only[BP,Cx.nox,Cx.wish]
 intro xb dxb nxb ndxb _;refine⟨xb,dxb,2,rfl,by decide,by decide,Af,fun H1 ds B1 n1 k1=>⟨rfl,?_⟩⟩;have s1:=made nxb ndxb k1;obtain⟨dxb',sh,hxb1,hsh1,ndd,bR⟩:=B1;have lds:ds.length=2:=Paired.length bR;have hd1:=WS bR (by intro c hc;exact List.eq_of_mem_replicate hc);refine⟨_,rfl,?_⟩;intro x dx nx ndx _;refine⟨x,dx,xb,rfl,Af,fun dt dz dd H2 k2 e1 e2 e3 hdt hdz hdd hx hnw=>⟨rfl,?_⟩⟩;have s2:=made nx ndx k2;have hS2:=s2.seq (s1.seq hS);have hxb2:=s2.get hxb1;have hsh2:=s2.get hsh1;have hd2:∀d∈ds,H2 d=some (.dK []):=fun d hd=>s2.get (hd1 d hd)
 have pa2:PAt Ae Aa H2 x ⟨dx,xb,dt,dz,dd,1⟩ [] []:=⟨⟨hx,hdt,(fun _ h=>nomatch h),List.nodup_nil⟩,hdd,⟨hdz,List.nodup_nil,List.nodup_nil,(fun _ h=>nomatch h),(fun _ h=>nomatch h)⟩,e1,e2,e3,List.nodup_nil,(fun e h=>nomatch h),(fun e h=>nomatch h),Int.le_refl _,(fun i h1 h2=>absurd h2 (by show ¬i<1;omega))⟩
 have old:∀{c o},H1 c=some o->c∉A7 x ⟨dx,xb,dt,dz,dd,1⟩ [] []:=fun{c o} h=>by
  have hN:∀{d},(upd (upd H1 dx (.own x)) x (.ins Ae dx [])) d=none->c≠d:=fun{d} hd z=>by
   have n1:c≠x:=AF h nx;have n2:c≠dx:=AF h ndx;rw[<-z,Ag n1,Ag n2,h] at hd;cases hd
  unfold A7;simp only[List.mem_cons,List.mem_append,List.map_nil,List.not_mem_nil,or_false,not_or];exact⟨AF h nx,hN hnw.1,hN hnw.2.1,hN hnw.2.2⟩
 refine⟨J8,fun sl hsl=>?_⟩;refine⟨J8,fun hl hhl=>?_⟩;have s4:=(Am hsl (.lst [])).trans (Am hhl (.lst []));have hS4:=s4.seq hS2;have hsl4:(upd (upd H2 sl (.lst [])) hl (.lst [])) sl=some (.lst []):=(Am hhl _).get Af;have hhl4:(upd (upd H2 sl (.lst [])) hl (.lst [])) hl=some (.lst []):=Af;have nsh:sl≠hl:=fun z=>by rw[<-z,Af] at hhl;cases hhl
 have n1:sh≠sl:=AF hsh2 hsl;have n2:sh≠hl:=AF ((Am hsl _).get hsh2) hhl;generalize (upd (upd H2 sl (.lst [])) hl (.lst []))=H4 at s4 hS4 hsl4 hhl4;refine⟨_,rfl,40,rfl,a,_,rfl,hS4,fun cl hcl=>?_⟩;obtain⟨ms,ems,lms⟩:∃ms:List Int,Kj (ns.map V.int) none (some 40)=ms.map V.int/\ms.length<=40:=by
  refine⟨ns.take 40,?_,?_⟩
  ·rw[XQ (by decide),<-List.map_take];rfl
  ·rw[List.length_take];omega
 rw[ems];have ncl1:cl≠sl:=fun z=>by rw[z,hsl4] at hcl;cases hcl
 have ncl2:cl≠hl:=fun z=>by rw[z,hhl4] at hcl;cases hcl
 have s6:=s4.trans (Am hcl (.lst (ms.map V.int)));have I0:Iw Ad Ae Aa (upd H4 cl (.lst (ms.map V.int))) x xb dxb' sh cl ms ds ⟨dx,xb,dt,dz,dd,1⟩ [] [] sl [] [] hl []:=⟨pa2.same s6,(fun _ h=>nomatch h),⟨(fun _ h=>nomatch h),(fun _ h=>nomatch h),(fun _ h=>nomatch h)⟩,⟨(Am hcl _).get hsl4,rfl,(fun _ h=>nomatch h),List.nodup_nil,(fun _ h=>nomatch h),(fun _ h=>nomatch h),Nat.zero_le _⟩,⟨(Am hcl _).get hhl4,Nat.zero_le _,(fun _ h=>nomatch h)⟩,⟨(fun _ h=>nomatch h),(fun _ h=>nomatch h)⟩,List.nodup_nil,Af,s6.get hxb2,s6.get hsh2,fun d hd=>s6.get (hd2 d hd),⟨old hxb1,fun d hd=>old (hd1 d hd)⟩,(fun _ h=>nomatch h),⟨ncl1,ncl2,nsh,n1,n2⟩,rfl⟩
 generalize (upd H4 cl (.lst (ms.map V.int)))=H6 at I0;refine⟨cl,rfl,⟨_,AO.of I0.m⟩,?_⟩;refine Cp (K:=K) (a:=cl) (xs:=ms.map V.int) (fun i σ H'=>∃q cs bs sl us ps hs,∃(v5 v6 v7 v8 v9 v10:Option V),σ=[some (.ref a),some (.ref xb),some (.ref x),some (.ref sl),some (.ref hl),v5,v6,v7,v8,v9,v10]/\Iw Ad Ae Aa H' x xb dxb' sh cl ms ds q cs bs sl us ps hl hs/\cs.length<=i/\hs.length<=i) ⟨_,[],[],sl,[],[],[],none,none,none,none,none,none,rfl,I0,Nat.le_refl _,Nat.le_refl _⟩ ?_ ?_ ?_
 ·rintro i σ H' _ ⟨q',cs,bs,sl,us,ps,hs,v5,v6,v7,v8,v9,v10,_,I,_⟩
  exact AO.of I.m
 ·rintro i y σ H' hy ⟨q',cs,bs,sl,us,ps,hs,v5,v6,v7,v8,v9,v10,rfl,I,lcs,lhs⟩
  obtain⟨n,rfl,hn⟩:=ints_get hy;have hi:i<ms.length:=(List.getElem?_eq_some_iff.mp hn).1;have lp:=(I.mt.z I.so.nd I.pa.t.2.2.2).length_eq;rw[List.length_map,List.length_map] at lp;refine⟨_,rfl,n,12,rfl,by decide,by decide,fun r H1 row s1' nr hr lr br=>?_⟩;have I1:=I.same s1';obtain⟨x11,a11,x110,x111⟩:=IX lr br 11 (by decide) (by decide);obtain⟨x10,a10,x100,x101⟩:=IX lr br 10 (by decide) (by decide);refine⟨_,rfl,r,_,_,_,rfl,rfl,AO.of hr,a11,_,_,rfl,rfl,(by show(0:Int)<8;decide),?_⟩;dsimp only[Ci];generalize x11%8=way;refine Lf (fun σ' H'=>∃q cs bs sl us ps hs,∃(v5 v6 v7 v8 v9 v10:Option V),σ'=[some (.ref a),some (.ref xb),some (.ref x),some (.ref sl),some (.ref hl),v5,v6,v7,v8,v9,v10]/\Iw Ad Ae Aa H' x xb dxb' sh cl ms ds q cs bs sl us ps hl hs/\cs.length<=i+1/\hs.length<=i+1) (fun N hN=>?_) ?_
  ·dsimp only[Pi,V6];refine Yx (fun c=>c=false->us≠[]) (fun R hR=>?_) (fun c H2 s2' hM=>?_)
   ·refine⟨_,rfl,_,_,rfl,rfl,_,rfl,C7 (fun h=>hR true _ (Ar.refl _) (fun z=>nomatch z)) (fun h=>?_)⟩;refine⟨_,rfl,J8,fun l0 hl0=>⟨sl,l0,_,rfl,rfl,AO.of ((Am hl0 _).get I1.so.l),AO.of Af,_,rfl,hR _ _ (Am hl0 _) fun z=>?_⟩⟩;exact of_decide_eq_false z
   have I2:=I1.same s2';have hr2:=s2'.get hr;have few2:=I2.so.few;refine C7 (fun hc=>?_) (fun hc=>?_)
   ·refine⟨_,rfl,_,rfl,r,sl,row,ps,us,rfl,⟨hr2,lr,br,I2.so.l,I2.so.pr,by omega,I2.so.tg⟩,fun bv b H3 s3' hbv okb hnb=>?_⟩;have I3:=I2.same s3';have hr3:=s3'.get hr2;have hn3:∀t∈As b,∃e∈cs,e.z=t.1:=fun t ht=>by
     obtain⟨e,he,rfl⟩:=hnb t ht;obtain⟨k,hk⟩:=I.mt.a e he;exact⟨_,hk,rfl⟩
    refine⟨_,rfl,x,q'.dp,_,rfl,I3.pa.t.1,rfl,_,rfl,_,rfl,r,_,_,_,rfl,rfl,AO.of hr3,a10,x,q',cs,bs,bv,b,x10,rfl,I3.pa,by omega,hbv,okb,hn3,fun e he eb H4 s4'=>?_,fun hne m H4 c dxc l ta bs' m1 m2 hm hcN hlN _ hlR pa' f' hb'=>?_⟩
    ·have I4:=I3.same s4';refine⟨_,rfl,_,rfl,sl,rfl,⟨_,AO.of I4.so.l⟩,?_⟩;refine Fe (fr:=[]) I4.so.pr I4.so.l (by omega) (fun _=>true) (fun e=>e.v) (fun e he H' R s' hR=>hR) (fun e he H' R s' hR=>⟨_,rfl,hR⟩) fun l7 H7 nl7 s7' hl7=>?_
     rw[Kc] at hl7;have I7:=I4.same s7';refine⟨l7,_,Ce b,_,rfl,hl7,Rep.same (s4'.trans s7') _ _ hbv,Dm okb,L7 I7.so.tg fun _ h=>h,fun u hu=>?_,_,rfl,AR ?_ ?_⟩
     ·obtain⟨c,hc,rfl⟩:=List.mem_map.mp hu;exact Dm (I.so.ok c hc)
     ·rw[if_pos rfl,(TH I.so.ok okb).mpr ?_]
      ·rfl
      ·obtain⟨k,hk⟩:=I.mt.b e he;exact⟨_,hk,eb⟩
     ·exact hN _ _ ⟨_,_,_,_,_,_,_,_,_,_,_,_,_,rfl,I7,by omega,by omega⟩
    ·have kq:=I3.kq f';have kl:∀{a ys},H3 a=some (.lst ys)->H4 a=some (.lst ys):=fun{a ys} h=>f' a _ h (I3.pa.apart h (by intro C d fs z;cases z) (by intro kvs z;cases z))
     have so4:SoAt H4 sl us ps:=I3.so.tup kq.t (kl I3.so.l);refine⟨_,rfl,_,rfl,sl,rfl,⟨_,AO.of so4.l⟩,?_⟩;refine Fe (fr:=[]) so4.pr so4.l (by omega) (fun _=>true) (fun e=>e.v) (fun e he H' R s' hR=>hR) (fun e he H' R s' hR=>⟨_,rfl,hR⟩) fun l7 H7 nl7 s7' hl7=>?_
     rw[Kc] at hl7;have so7:=so4.same s7';refine⟨l7,_,Ce b,_,rfl,hl7,Rep.same s7' _ _ (Cz kq.t _ _ hbv),Dm okb,L7 so7.tg fun _ h=>h,fun u hu=>?_,_,rfl,BS ?_ ?_⟩
     ·obtain⟨c,hc,rfl⟩:=List.mem_map.mp hu;exact Dm (I.so.ok c hc)
     ·rw[if_pos rfl];cases hA:((ps.map fun e=>Ce e.bk).any fun u=>decide (wT u=wT (Ce b))) with
      |false=>rfl
      |true=>
       obtain⟨e,he,eb⟩:=(TH I.so.ok okb).mp hA;obtain⟨k,hk⟩:=I.mt.a e he;have hz:=hne _ hk;exact absurd eb hz
     ·refine⟨_,rfl,.inl ⟨rfl,_,AO.of so7.l⟩,_,rfl,_,rfl,Mp,fun t8 ht8=>?_⟩;have s8':=Am ht8 (.tup [bv,.ref ta]);have lus:=FD I.so.pr;refine⟨sl,us,_,rfl,rfl,s8'.get so7.l,Ba (by omega),?_⟩;have I9:=I3.put (by omega) hne m1 m2 hm hcN hlN hlR pa' f' hb' okb x100 (by omega) hnb (s7'.trans s8') (t:=t8) Af;exact hN _ _ ⟨_,_,_,_,_,_,_,_,_,_,_,_,_,rfl,I9,by rw[List.length_map,List.length_append];show cs.length+1<=i+1;omega,by omega⟩
   ·have us0:us≠[]:=hM (by cases c with
     |false=>rfl
     |true=>exact absurd rfl hc)
    have ps0:=I.so.pr.ne us0;refine⟨_,rfl,_,_,rfl,rfl,_,rfl,C7 (fun h6=>?_) (fun h6=>?_)⟩
    ·obtain⟨yv,hyv,hat⟩:=JC us0 (x:=x10);obtain⟨j,hj⟩:=List.getElem?_of_mem hyv;obtain⟨e,he',ya,rfl,hya⟩:=Ht I2.so.pr hj;have he:=List.mem_of_getElem? he';obtain⟨k,hk⟩:=I.mt.a e he;have hta:=(I2.so.tg e he).1;refine⟨_,rfl,_,rfl,r,_,_,_,rfl,rfl,AO.of hr2,a10,_,rfl,sl,_,rfl,.inl (AO.of I2.so.l),_,_,rfl,rfl,?_,sl,_,_,_,rfl,rfl,AO.of I2.so.l,hat,ya,_,_,_,rfl,rfl,AW.of hya,rfl,?_⟩
     ·have:=List.length_pos_iff.mpr us0;show(0:Int)<(us.length:Int);omega
     refine⟨_,rfl,x,q'.dp,_,rfl,I2.pa.t.1,rfl,_,rfl,x,q',cs,{ e with k:=k },e.ta,_,_,rfl,I2.pa.t,hk,hta,?_⟩;have f9:MN (A7 x q' cs bs) H2 (upd H2 e.c (.ins Aa e.dx (Dd e.ta ((wT (Ce e.bk)).length:Int) e.l (k+1) e.en e.st))):=fun a o h n=>by
      rw[Ag (fun z=>n (by rw[z];exact WJ (e:={ e with k:=k }) hk))];exact h
     have hh9:=I2.hl1 f9;refine⟨_,rfl,.inl ⟨rfl,_,AO.of hh9⟩,_,rfl,hl,_,_,rfl,rfl,hh9,Ba (by rw[List.length_map];omega),?_⟩;exact hN _ _ ⟨_,_,_,_,_,_,_,_,_,_,_,_,_,rfl,I2.hold (e:=e) (k:=k) he hk (by omega),by rw[List.length_map];omega,by rw[List.length_append];show hs.length+1<=i+1;omega⟩
    ·refine Xo (fun c=>c=true->hs≠[]) (fun R hR=>?_) (fun c3 H3 s3' hM3=>?_)
     ·refine⟨_,rfl,rfl,_,rfl,C7 (fun h=>?_) (fun h=>hR false _ (Ar.refl _) (fun z=>nomatch z))⟩;refine⟨_,rfl,J8,fun l0 hl0=>⟨hl,l0,_,rfl,rfl,AO.of ((Am hl0 _).get I2.he.1),AO.of Af,_,rfl,hR _ _ (Am hl0 _) fun z=>?_⟩⟩;intro e0;rw[e0] at z;exact nomatch z
     have I3:=I2.same s3';have hr3:=s3'.get hr2;refine C7 (fun hc3=>?_) (fun hc3=>?_)
     ·have hs0:=hM3 hc3;obtain⟨k,yv,hk,hyk,p0,p1⟩:=Xc (xs:=hs.map fun e=>V.ref e.ta) (fun z=>hs0 (List.map_eq_nil_iff.mp z)) (x:=x10);obtain⟨e,hek,rfl⟩:∃e,hs[k]?=some e/\yv=V.ref e.ta:=by
       rw[List.getElem?_map] at hyk;cases hh:hs[k]? with
       |none=>rw[hh] at hyk;cases hyk
       |some e=>rw[hh] at hyk;exact⟨e,rfl,(Option.some.inj hyk).symm⟩
      have he:=I.he.2.2 e (List.mem_of_getElem? hek);have lhm:(hs.map fun e=>V.ref e.ta).length=hs.length:=List.length_map ..;have hpos:=List.length_pos_iff.mpr hs0;refine⟨_,rfl,.inl ⟨rfl,_,AO.of I3.he.1⟩,_,rfl,r,_,_,_,rfl,rfl,AO.of hr3,a10,_,rfl,hl,_,rfl,.inl (AO.of I3.he.1),_,_,rfl,rfl,?_,hl,_,_,k,_,rfl,rfl,I3.he.1,?_,?_,hk,hyk,?_⟩
      ·show(0:Int)<((hs.map fun e=>V.ref e.ta).length:Int);omega
      ·omega
      ·omega
      rw[T6];have kq4:Kq H3 (upd H3 hl (.lst ((hs.eraseIdx k).map fun e=>V.ref e.ta))) xb ds hl:=Kq.upd ⟨fun _ _ h=>h,fun _ _ h _=>h,fun _ h=>h,fun _ _ _ h=>h⟩ I3.he.1 I3.b I3.hds;have pa4:=I3.pa.lst (us':=(hs.eraseIdx k).map fun e=>V.ref e.ta) I3.he.1;have hh4:(upd H3 hl (.lst ((hs.eraseIdx k).map fun e=>V.ref e.ta))) hl=some (.lst ((hs.eraseIdx k).map fun e=>V.ref e.ta)):=Af;generalize (upd H3 hl (.lst ((hs.eraseIdx k).map fun e=>V.ref e.ta)))=H4 at kq4 pa4 hh4;have na4:Ob H4 cs:=fun c hc=>by
       obtain⟨us1,h1,h2⟩:=I3.na c hc;exact⟨us1,kq4.l _ _ h1 (I3.ls c hc).2,AV kq4.t _ _ h2⟩
      have rt4:Rt cs (e.z::(hs.eraseIdx k).map (·.z)):=I.rt.congr (Ut hek);have lh':(hs.eraseIdx k).length<=hs.length:=List.length_eraseIdx_le ..;generalize ehs:hs.eraseIdx k=hs' at rt4 hh4 lh';have hsub:∀c∈hs',c∈ps:=fun c hc=>I.he.2.2 c (by rw[<-ehs] at hc;exact List.mem_of_mem_eraseIdx hc)
      refine⟨_,rfl,x,q'.dp,_,rfl,pa4.t.1,rfl,_,rfl,x,q',cs,bs,e.ta,e.z,_,hs'.map (·.z),rfl,pa4,by omega,kq4.t _ _ (I3.so.tg e he).1,na4,rt4,fun m H5 cs' pa5 na5 rt5 c5 cl5 sb5 f5=>?_⟩;have kq5:Kq H3 H5 xb ds hl:=⟨fun c ys h=>f5 c _ (kq4.t _ _ h) (pa4.apart (kq4.t _ _ h) (by intro C d fs z;cases z) (by intro kvs z;cases z)),fun c ys h n=>f5 c _ (kq4.l _ _ h n) (pa4.apart (kq4.l _ _ h n) (by intro C d fs z;cases z) (by intro kvs z;cases z)),fun o h=>f5 _ o (kq4.b _ h) I3.ap.1,fun d hd o h=>f5 d o (kq4.d d hd _ h) (I3.ap.2 d hd)⟩
      have hh5:H5 hl=some (.lst (hs'.map fun e=>V.ref e.ta)):=f5 _ _ hh4 (pa4.apart hh4 (by intro C d fs z;cases z) (by intro kvs z;cases z));have so5:SoAt H5 sl us ps:=I3.so.tup kq5.t (kq5.l _ _ I3.so.l I3.ne.2.2.1);have he5:SN H5 hl hs' ps:=⟨hh5,by omega,hsub⟩
      have lc5:=sub_len pa5.t.2.2.2 sb5;refine⟨_,rfl,_,rfl,sl,us,ps,hl,hs',rfl,so5,he5,fun d H6 s6' hd hd6=>?_⟩;have so6:=so5.same s6';have gd:=Bx.t (k:=Hi e) hd6 (so6.tg e he).1;rw[IM I.so.nd he] at gd;refine⟨_,rfl,d,_,rfl,gd,rfl,_,rfl,C7 (fun hz=>?_) (fun hz=>?_)⟩
      ·have hz:=of_decide_eq_true hz;have hz:(D7 (Lc ps) e.z:Int)+((hs'.map (·.z)).count e.z:Int)=0:=by injection hz
       have nf:Nf (Lc ps) (hs'.map (·.z)) e.z:=⟨Co.mp (by omega),List.count_eq_zero.mp (by omega)⟩
       refine⟨_,rfl,_,rfl,_,rfl,VM,fun g hg=>?_⟩;have s7':=s6'.trans (Am hg (.lst [.ref e.ta]));have so7:=so5.same s7';refine⟨sl,us,ps,hl,hs',g,[.ref e.ta],[e],rfl,so7,⟨s7'.get hh5,he5.2⟩,Af,JE so7.tg (es:=[e]) (fun c hc=>by rw[List.mem_singleton.mp hc];exact he),by simp,fun c hc=>by rw[List.mem_singleton.mp hc];exact⟨he,nf⟩,fun l us' ps' rs H8 s8' nl8 hl8 pr8 sub8 pr8' c8 cl8=>?_⟩;have bb:=both I.mt c5 (fun y hy hn=>⟨(cl5 y hy hn).1.eqv fun v=>(I.mt.l v).symm,by have:=(cl5 y hy hn).2;simpa using this⟩) c8 (fun y hy hn=>⟨(cl8 y hy hn).1.eqv fun v=>I.mt.l v,by have:=(cl8 y hy hn).2;simpa using this⟩);have I9:=I3.after kq5 pa5 na5 rt5 sb5 hh5 hsub he5.2.1 (I.mt.left I.so.nd I.pa.t.2.2.2 sb5 (fun c hc=>sub8.subset hc) pr8' bb) sub8 (s7'.trans s8') hl8 pr8 (.inr (by
        cases h5:H5 l with
        |none=>rfl
        |some o=>rw[s7'.get h5] at nl8;cases nl8))
       exact hN _ _ ⟨_,_,_,_,_,_,_,_,_,_,_,_,_,rfl,I9,by omega,by omega⟩
      ·have hz:¬(D7 (Lc ps) e.z:Int)+((hs'.map (·.z)).count e.z:Int)=0:=fun z=>hz (by rw[z];exact decide_eq_true rfl)
       have bb:=both (rs:=ps) (Z2:=fun u=>Nf (Lc ps) (hs'.map (·.z)) u/\u≠e.z) I.mt c5 (fun y hy hn=>⟨(cl5 y hy hn).1.eqv fun v=>(I.mt.l v).symm,(cl5 y hy hn).2⟩) (.refl _) (fun y hy hn=>⟨hn.eqv fun v=>I.mt.l v,fun ez=>hz (by
        rw[ez] at hn;rw[Co.mpr hn.1,List.count_eq_zero.mpr hn.2];rfl)⟩)
       have I9:=I3.after kq5 pa5 na5 rt5 sb5 hh5 hsub he5.2.1 (I.mt.left I.so.nd I.pa.t.2.2.2 sb5 (fun c hc=>hc) (fun _=>Iff.rfl) bb) (List.Sublist.refl _) s6' so6.l so6.pr (.inl rfl);exact hN _ _ ⟨_,_,_,_,_,_,_,_,_,_,_,_,_,rfl,I9,by omega,by omega⟩
     ·refine⟨_,rfl,x,q'.dp,_,rfl,I3.pa.t.1,rfl,x,q',cs,bs,hs.map (·.z),rfl,I3.pa,by omega,I3.na,I3.rt,fun m H5 cs' pa5 na5 rt5 c5 cl5 sb5 f5=>?_⟩;have kq5:=I3.kq f5;have hh5:=I3.hl1 f5;have so5:SoAt H5 sl us ps:=I3.so.tup kq5.t (kq5.l _ _ I3.so.l I3.ne.2.2.1);have he5:SN H5 hl hs ps:=⟨hh5,I.he.2⟩
      have lc5:=sub_len pa5.t.2.2.2 sb5;refine⟨_,rfl,_,rfl,sl,us,ps,hl,hs,rfl,so5,he5,fun d H6 s6' hd hd6=>?_⟩;have so6:=so5.same s6';refine⟨_,rfl,_,rfl,_,rfl,sl,rfl,⟨_,AO.of so6.l⟩,?_⟩;refine Fe (fr:=[some 10]) so6.pr so6.l (by omega) (fun e=>decide (V.int ((D7 (Lc ps) e.z:Int)+((hs.map (·.z)).count e.z:Int))=V.int 0)) (fun e=>.ref e.ta) (fun e he H' R s' hR=>?_) (fun e he H' R s' hR=>⟨_,rfl,hR⟩) fun g H7 ng s7' hg7=>?_
      ·have gd:=Bx.t (k:=Hi e) (s'.get hd6) (s'.get (so6.tg e he).1);rw[IM I.so.nd he] at gd;exact⟨_,rfl,_,rfl,d,_,rfl,gd,rfl,_,rfl,hR⟩
      have s57:=s6'.trans s7';have so7:=so5.same s57;have hz:∀{e:Cl},decide (V.int ((D7 (Lc ps) e.z:Int)+((hs.map (·.z)).count e.z:Int))=V.int 0)=true↔Nf (Lc ps) (hs.map (·.z)) e.z:=fun{e}=>by
       rw[decide_eq_true_eq];constructor
       ·intro h;have h:(D7 (Lc ps) e.z:Int)+((hs.map (·.z)).count e.z:Int)=0:=by injection h
        exact⟨Co.mp (by omega),List.count_eq_zero.mp (by omega)⟩
       ·intro h;rw[Co.mpr h.1,List.count_eq_zero.mpr h.2];rfl
      generalize egs:ps.filter (fun e=>decide (V.int ((D7 (Lc ps) e.z:Int)+((hs.map (·.z)).count e.z:Int))=V.int 0))=gs at hg7;have gsm:∀c,c∈gs↔c∈ps/\Nf (Lc ps) (hs.map (·.z)) c.z:=fun c=>by rw[<-egs,List.mem_filter,hz]
      have gsn:(gs.map (·.z)).Nodup:=by rw[<-egs];exact((List.filter_sublist).map _).nodup I.so.nd
      refine⟨sl,us,ps,hl,hs,g,_,gs,rfl,so7,⟨s57.get hh5,he5.2⟩,hg7,JE so7.tg (fun c hc=>((gsm c).mp hc).1),gsn,fun c hc=>(gsm c).mp hc,fun l us' ps' rs H8 s8' nl8 hl8 pr8 sub8 pr8' c8 cl8=>?_⟩;have bb:=both I.mt c5 (fun y hy hn=>absurd hn (cl5 y hy)) c8 (fun y hy hn=>by
       obtain⟨h1,h2⟩:=cl8 y hy hn;obtain⟨c,hc,rfl⟩:=List.mem_map.mp (c8.sub y hy);exact h2 (List.mem_map.mpr ⟨c,(gsm c).mpr ⟨hc,h1⟩,rfl⟩))
      have I9:=I3.after kq5 pa5 na5 rt5 sb5 hh5 I.he.2.2 I.he.2.1 (I.mt.left I.so.nd I.pa.t.2.2.2 sb5 (fun c hc=>sub8.subset hc) pr8' bb) sub8 (s57.trans s8') hl8 pr8 (.inr (by
       cases h5:H5 l with
       |none=>rfl
       |some o=>rw[s57.get h5] at nl8;cases nl8))
      exact hN _ _ ⟨_,_,_,_,_,_,_,_,_,_,_,_,_,rfl,I9,by omega,by omega⟩
  ·rintro σ' H4 ⟨q4,cs4,bs4,sl4,us4,ps4,hs4,v5',v6',v7',v8',v9',v10',rfl,I4,lc4,lh4⟩
   refine⟨_,rfl,_,rfl,_,rfl,x,q4,cs4,sl4,us4,ps4,hl,hs4,rfl,.inl ⟨I4.pa.t,I4.pa.d⟩,by omega,I4.so,I4.he,I4.rt,I4.mt,fun H5 s5'=>⟨_,rfl,AR rfl ?_⟩⟩;exact⟨_,_,_,_,_,_,_,_,_,_,_,_,_,rfl,I4.same s5',lc4,lh4⟩
 ·rintro σ H' ⟨q',cs,bs,sl,us,ps,hs,v5,v6,v7,v8,v9,v10,rfl,I,lcs,lhs⟩
  have lp:=(I.mt.z I.so.nd I.pa.t.2.2.2).length_eq;rw[List.length_map,List.length_map] at lp;have lus:=FD I.so.pr;have lc:cs.length<=40:=by rw[List.length_map] at lcs;omega
  have nbk:∀e∈cs,NB e.z e.y:=fun e he=>by
   obtain⟨k,hk⟩:=I.mt.b e he;obtain⟨_,_,t1,t2,_⟩:=I.so.tg _ hk;exact⟨⟨by have:=t1.1;exact Int.le_trans (by decide) this,by have:=t1.2;exact Int.le_trans this (by decide)⟩,t2⟩
  refine⟨_,rfl,x,q'.dp,_,rfl,I.pa.t.1,rfl,x,q',cs,bs,ds,[[],[]],0,rfl,I.pa,by omega,by rw[I.eb];exact⟨dxb',sh,I.b,I.hsh,ndd,WE lds (by intro c hc;simpa using hc) I.hds⟩,by rw[I.eb];exact I.ap,by decide,(by intro c hc;simpa using hc),nbk,fun H7 b1 n1 p7 d7 B7 en l7 la7 kt7 kl7=>?_⟩;have so7:=I.so.tup kt7 (kl7 _ _ I.so.l);have B7':=B7;rw[I.eb] at B7;obtain⟨dx7,s7,hxb7,_⟩:=B7;refine⟨_,rfl,xb,dx7,_,rfl,hxb7,rfl,xb,dx7,_,n1,rfl,hxb7,rfl,_,rfl,sl,_,rfl,.inl (AO.of so7.l),_,_,rfl,rfl,.inl ⟨by decide,by decide⟩,rfl,_,rfl,BS ?_ ?_⟩
  ·refine decide_eq_true ?_;rw[en,lus,lp]
   congr 1
   omega
  ·exact⟨_,rfl,_,rfl,_,rfl,x,q',cs,sl,us,ps,hl,hs,rfl,.inr ⟨p7,d7,⟨ds,b1,n1,B7',by rw[l7];decide,la7⟩,nbk⟩,by omega,so7,⟨kl7 _ _ I.he.1,I.he.2⟩,I.rt,I.mt,fun H8 s8=>hq H8⟩
end
theorem all_mk {l:W.OpenLaw} {w:World} {K:W.Frag} {h:Heap} {mg:Str->Option Value} {fa:Addr} (X:K.In h) (G:h.Ns mainGlobals mg) (hfa:mg "law"=some (.ref fa))
  {f0:Addr} {od0 an0:Option Addr} {sl0:Array (Option Value)} {oc0 kV0 dc0 pm0 cd0 ct0:Value}
  {f1:Addr} {od1 an1:Option Addr} {sl1:Array (Option Value)} {oc1 kV1 dc1 pm1 cd1 ct1:Value}
  {f2:Addr} {od2 an2:Option Addr} {sl2:Array (Option Value)} {oc2 kV2 dc2 pm2 cd2 ct2:Value}
  {f3:Addr} {od3 an3:Option Addr} {sl3:Array (Option Value)} {oc3 kV3 dc3 pm3 cd3 ct3:Value}
  {f4:Addr} {od4 an4:Option Addr} {sl4:Array (Option Value)} {oc4 kV4 dc4 pm4 cd4 ct4:Value}
  {f5:Addr} {od5 an5:Option Addr} {sl5:Array (Option Value)} {oc5 kV5 dc5 pm5 cd5 ct5:Value}
  {f6:Addr} {od6 an6:Option Addr} {sl6:Array (Option Value)} {oc6 kV6 dc6 pm6 cd6 ct6:Value}
  {f7:Addr} {od7 an7:Option Addr} {sl7:Array (Option Value)} {oc7 kV7 dc7 pm7 cd7 ct7:Value}
  {f8:Addr} {od8 an8:Option Addr} {sl8:Array (Option Value)} {oc8 kV8 dc8 pm8 cd8 ct8:Value}
  {f9:Addr} {od9 an9:Option Addr} {sl9:Array (Option Value)} {oc9 kV9 dc9 pm9 cd9 ct9:Value}
  {f10:Addr} {od10 an10:Option Addr} {sl10:Array (Option Value)} {oc10 kV10 dc10 pm10 cd10 ct10:Value}
  {f11:Addr} {od11 an11:Option Addr} {sl11:Array (Option Value)} {oc11 kV11 dc11 pm11 cd11 ct11:Value}
  {f12:Addr} {od12 an12:Option Addr} {sl12:Array (Option Value)} {oc12 kV12 dc12 pm12 cd12 ct12:Value}
  {f13:Addr} {od13 an13:Option Addr} {sl13:Array (Option Value)} {oc13 kV13 dc13 pm13 cd13 ct13:Value}
  {f14:Addr} {od14 an14:Option Addr} {sl14:Array (Option Value)} {oc14 kV14 dc14 pm14 cd14 ct14:Value}
  {f15:Addr} {od15 an15:Option Addr} {sl15:Array (Option Value)} {oc15 kV15 dc15 pm15 cd15 ct15:Value}
  {f16:Addr} {od16 an16:Option Addr} {sl16:Array (Option Value)} {oc16 kV16 dc16 pm16 cd16 ct16:Value}
  {f17:Addr} {od17 an17:Option Addr} {sl17:Array (Option Value)} {oc17 kV17 dc17 pm17 cd17 ct17:Value}
  {f18:Addr} {od18 an18:Option Addr} {sl18:Array (Option Value)} {oc18 kV18 dc18 pm18 cd18 ct18:Value}
  {f19:Addr} {od19 an19:Option Addr} {sl19:Array (Option Value)} {oc19 kV19 dc19 pm19 cd19 ct19:Value}
  {f20:Addr} {od20 an20:Option Addr} {sl20:Array (Option Value)} {oc20 kV20 dc20 pm20 cd20 ct20:Value}
  {f21:Addr} {od21 an21:Option Addr} {sl21:Array (Option Value)} {oc21 kV21 dc21 pm21 cd21 ct21:Value}
  {f22:Addr} {od22 an22:Option Addr} {sl22:Array (Option Value)} {oc22 kV22 dc22 pm22 cd22 ct22:Value}
  {f23:Addr} {od23 an23:Option Addr} {sl23:Array (Option Value)} {oc23 kV23 dc23 pm23 cd23 ct23:Value}
  {f24:Addr} {od24 an24:Option Addr} {sl24:Array (Option Value)} {oc24 kV24 dc24 pm24 cd24 ct24:Value}
  {f25:Addr} {od25 an25:Option Addr} {sl25:Array (Option Value)} {oc25 kV25 dc25 pm25 cd25 ct25:Value}
  {f26:Addr} {od26 an26:Option Addr} {sl26:Array (Option Value)} {oc26 kV26 dc26 pm26 cd26 ct26:Value}
  {f27:Addr} {od27 an27:Option Addr} {sl27:Array (Option Value)} {oc27 kV27 dc27 pm27 cd27 ct27:Value}
  {f28:Addr} {od28 an28:Option Addr} {sl28:Array (Option Value)} {oc28 kV28 dc28 pm28 cd28 ct28:Value}
  {f29:Addr} {od29 an29:Option Addr} {sl29:Array (Option Value)} {oc29 kV29 dc29 pm29 cd29 ct29:Value}
  {f30:Addr} {od30 an30:Option Addr} {sl30:Array (Option Value)} {oc30 kV30 dc30 pm30 cd30 ct30:Value}
  {f31:Addr} {od31 an31:Option Addr} {sl31:Array (Option Value)} {oc31 kV31 dc31 pm31 cd31 ct31:Value}
  {f32:Addr} {od32 an32:Option Addr} {sl32:Array (Option Value)} {oc32 kV32 dc32 pm32 cd32 ct32:Value}
  {f33:Addr} {od33 an33:Option Addr} {sl33:Array (Option Value)} {oc33 kV33 dc33 pm33 cd33 ct33:Value}
  {f34:Addr} {od34 an34:Option Addr} {sl34:Array (Option Value)} {oc34 kV34 dc34 pm34 cd34 ct34:Value}
  {f35:Addr} {od35 an35:Option Addr} {sl35:Array (Option Value)} {oc35 kV35 dc35 pm35 cd35 ct35:Value}
  {f36:Addr} {od36 an36:Option Addr} {sl36:Array (Option Value)} {oc36 kV36 dc36 pm36 cd36 ct36:Value}
  {f37:Addr} {od37 an37:Option Addr} {sl37:Array (Option Value)} {oc37 kV37 dc37 pm37 cd37 ct37:Value}
  {f38:Addr} {od38 an38:Option Addr} {sl38:Array (Option Value)} {oc38 kV38 dc38 pm38 cd38 ct38:Value}
  {f39:Addr} {od39 an39:Option Addr} {sl39:Array (Option Value)} {oc39 kV39 dc39 pm39 cd39 ct39:Value}
  {f40:Addr} {od40 an40:Option Addr} {sl40:Array (Option Value)} {oc40 kV40 dc40 pm40 cd40 ct40:Value}
  {f41:Addr} {od41 an41:Option Addr} {sl41:Array (Option Value)} {oc41 kV41 dc41 pm41 cd41 ct41:Value}
  {f42:Addr} {od42 an42:Option Addr} {sl42:Array (Option Value)} {oc42 kV42 dc42 pm42 cd42 ct42:Value}
  {f43:Addr} {od43 an43:Option Addr} {sl43:Array (Option Value)} {oc43 kV43 dc43 pm43 cd43 ct43:Value}
  {f44:Addr} {od44 an44:Option Addr} {sl44:Array (Option Value)} {oc44 kV44 dc44 pm44 cd44 ct44:Value}
  {f45:Addr} {od45 an45:Option Addr} {sl45:Array (Option Value)} {oc45 kV45 dc45 pm45 cd45 ct45:Value}
  {f46:Addr} {od46 an46:Option Addr} {sl46:Array (Option Value)} {oc46 kV46 dc46 pm46 cd46 ct46:Value}
  {f47:Addr} {od47 an47:Option Addr} {sl47:Array (Option Value)} {oc47 kV47 dc47 pm47 cd47 ct47:Value}
  {f48:Addr} {od48 an48:Option Addr} {sl48:Array (Option Value)} {oc48 kV48 dc48 pm48 cd48 ct48:Value}
  {f49:Addr} {od49 an49:Option Addr} {sl49:Array (Option Value)} {oc49 kV49 dc49 pm49 cd49 ct49:Value}
  {f50:Addr} {od50 an50:Option Addr} {sl50:Array (Option Value)} {oc50 kV50 dc50 pm50 cd50 ct50:Value}
  {f51:Addr} {od51 an51:Option Addr} {sl51:Array (Option Value)} {oc51 kV51 dc51 pm51 cd51 ct51:Value}
  {f52:Addr} {od52 an52:Option Addr} {sl52:Array (Option Value)} {oc52 kV52 dc52 pm52 cd52 ct52:Value}
  {f53:Addr} {od53 an53:Option Addr} {sl53:Array (Option Value)} {oc53 kV53 dc53 pm53 cd53 ct53:Value}
  {f54:Addr} {od54 an54:Option Addr} {sl54:Array (Option Value)} {oc54 kV54 dc54 pm54 cd54 ct54:Value}
  {f55:Addr} {od55 an55:Option Addr} {sl55:Array (Option Value)} {oc55 kV55 dc55 pm55 cd55 ct55:Value}
  {f56:Addr} {od56 an56:Option Addr} {sl56:Array (Option Value)} {oc56 kV56 dc56 pm56 cd56 ct56:Value}
  {f57:Addr} {od57 an57:Option Addr} {sl57:Array (Option Value)} {oc57 kV57 dc57 pm57 cd57 ct57:Value}
  {f58:Addr} {od58 an58:Option Addr} {sl58:Array (Option Value)} {oc58 kV58 dc58 pm58 cd58 ct58:Value}
  {f59:Addr} {od59 an59:Option Addr} {sl59:Array (Option Value)} {oc59 kV59 dc59 pm59 cd59 ct59:Value}
  {f60:Addr} {od60 an60:Option Addr} {sl60:Array (Option Value)} {oc60 kV60 dc60 pm60 cd60 ct60:Value}
  {f61:Addr} {od61 an61:Option Addr} {sl61:Array (Option Value)} {oc61 kV61 dc61 pm61 cd61 ct61:Value}
  {f62:Addr} {od62 an62:Option Addr} {sl62:Array (Option Value)} {oc62 kV62 dc62 pm62 cd62 ct62:Value}
  {f63:Addr} {od63 an63:Option Addr} {sl63:Array (Option Value)} {oc63 kV63 dc63 pm63 cd63 ct63:Value}
  {f64:Addr} {od64 an64:Option Addr} {sl64:Array (Option Value)} {oc64 kV64 dc64 pm64 cd64 ct64:Value}
  {f65:Addr} {od65 an65:Option Addr} {sl65:Array (Option Value)} {oc65 kV65 dc65 pm65 cd65 ct65:Value}
  {f66:Addr} {od66 an66:Option Addr} {sl66:Array (Option Value)} {oc66 kV66 dc66 pm66 cd66 ct66:Value}
  {Ab:Addr}
  {Ad:Addr}
  {Aa:Addr}
  {Ae:Addr}
  {TN:Addr}
  {M9:Addr}
  {t_SIGNS:Tok}
  {t_MOST_NUMBER:Tok}
  {t_MOST_SIGNS:Tok}
  {t_MOST_PARTS:Tok}
  {t_MOST_DEEP:Tok}
  {t_NUMBER_WORD:Tok}
  {t_TEXT_WORD:Tok}
  {t_TUPLE_WORD:Tok}
  {t_PIECE:Tok}
  {t_ROW:Tok}
  {t_FOLDER:Tok}
  {t_FILE_ENTRY:Tok}
  {t_FOLDER_ENTRY:Tok}
  {t_NAME_SIGNS:Tok}
  {t_MOST_NAME_SIGNS:Tok}
  {t_MOST_CELL:Tok}
  {t_MOST_BIRTH:Tok}
  {t_SUM_RESTS:Tok}
  {t_MOST_PIECE_SIGNS:Tok}
  {t_MOST_LEVEL:Tok}
  {t_MOST_TAGS:Tok}
  {t_MOST_ENTRIES:Tok}
  {t_MARK_RESTS:Tok}
  {t_LEAST_BOARDS:Tok}
  {t_MOST_BOARDS:Tok}
  (a0:W.nsIn K mainGlobals "is_whole"=some (some (.ref f0))) (l0:K.lookup f0=some ⟨oc0,od0,.func (W.fnOf "is_whole" "is_whole" (Ap D1) (Ao D1) (Ai D1) .none kV0 dc0 pm0 an0 cd0 ct0),sl0⟩) (c0:W.codeIn K cd0 "is_whole"=true) (k0:W.keepIn K (.ref f0)=true)
  (a1:W.nsIn K mainGlobals "is_between"=some (some (.ref f1))) (l1:K.lookup f1=some ⟨oc1,od1,.func (W.fnOf "is_between" "is_between" (Ap C1) (Ao C1) (Ai C1) .none kV1 dc1 pm1 an1 cd1 ct1),sl1⟩) (c1:W.codeIn K cd1 "is_between"=true) (k1:W.keepIn K (.ref f1)=true)
  (a2:W.nsIn K mainGlobals "is_tuple_of"=some (some (.ref f2))) (l2:K.lookup f2=some ⟨oc2,od2,.func (W.fnOf "is_tuple_of" "is_tuple_of" (Ap Cu) (Ao Cu) (Ai Cu) .none kV2 dc2 pm2 an2 cd2 ct2),sl2⟩) (c2:W.codeIn K cd2 "is_tuple_of"=true) (k2:W.keepIn K (.ref f2)=true)
  (a3:W.nsIn K mainGlobals "number_of"=some (some (.ref f3))) (l3:K.lookup f3=some ⟨oc3,od3,.func (W.fnOf "number_of" "number_of" (Ap DC) (Ao DC) (Ai DC) .none kV3 dc3 pm3 an3 cd3 ct3),sl3⟩) (c3:W.codeIn K cd3 "number_of"=true) (k3:W.keepIn K (.ref f3)=true)
  (a4:W.nsIn K mainGlobals "sign_of"=some (some (.ref f4))) (l4:K.lookup f4=some ⟨oc4,od4,.func (W.fnOf "sign_of" "sign_of" (Ap E5) (Ao E5) (Ai E5) .none kV4 dc4 pm4 an4 cd4 ct4),sl4⟩) (c4:W.codeIn K cd4 "sign_of"=true) (k4:W.keepIn K (.ref f4)=true)
  (a5:W.nsIn K mainGlobals "is_text"=some (some (.ref f5))) (l5:K.lookup f5=some ⟨oc5,od5,.func (W.fnOf "is_text" "is_text" (Ap EU) (Ao EU) (Ai EU) .none kV5 dc5 pm5 an5 cd5 ct5),sl5⟩) (c5:W.codeIn K cd5 "is_text"=true) (k5:W.keepIn K (.ref f5)=true)
  (a6:W.nsIn K mainGlobals "words_of"=some (some (.ref f6))) (l6:K.lookup f6=some ⟨oc6,od6,.func (W.fnOf "words_of" "words_of" (Ap CH) (Ao CH) (Ai CH) .none kV6 dc6 pm6 an6 cd6 ct6),sl6⟩) (c6:W.codeIn K cd6 "words_of"=true) (k6:W.keepIn K (.ref f6)=true)
  (a7:W.nsIn K mainGlobals "thing_of"=some (some (.ref f7))) (l7:K.lookup f7=some ⟨oc7,od7,.func (W.fnOf "thing_of" "thing_of" (Ap D4) (Ao D4) (Ai D4) .none kV7 dc7 pm7 an7 cd7 ct7),sl7⟩) (c7:W.codeIn K cd7 "thing_of"=true) (k7:W.keepIn K (.ref f7)=true)
  (a8:W.findIn K (.ref Ab) "__init__"=some (some (.ref f8))) (i8:W.isFn K (.ref f8)=true) (l8:K.lookup f8=some ⟨oc8,od8,.func (W.fnOf "__init__" "WordReader.__init__" (Ap Bv) (Ao Bv) (Ai Bv) .none kV8 dc8 pm8 an8 cd8 ct8),sl8⟩) (c8:W.codeIn K cd8 "WordReader.__init__"=true) (k8:W.keepIn K (.ref f8)=true)
  (a9:W.findIn K (.ref Ab) "is_through"=some (some (.ref f9))) (i9:W.isFn K (.ref f9)=true) (l9:K.lookup f9=some ⟨oc9,od9,.func (W.fnOf "is_through" "WordReader.is_through" (Ap AY) (Ao AY) (Ai AY) .none kV9 dc9 pm9 an9 cd9 ct9),sl9⟩) (c9:W.codeIn K cd9 "WordReader.is_through"=true) (k9:W.keepIn K (.ref f9)=true)
  (a10:W.findIn K (.ref Ab) "word_to"=some (some (.ref f10))) (i10:W.isFn K (.ref f10)=true) (l10:K.lookup f10=some ⟨oc10,od10,.func (W.fnOf "word_to" "WordReader.word_to" (Ap A9) (Ao A9) (Ai A9) .none kV10 dc10 pm10 an10 cd10 ct10),sl10⟩) (c10:W.codeIn K cd10 "WordReader.word_to"=true) (k10:W.keepIn K (.ref f10)=true)
  (a11:W.nsIn K mainGlobals "read_thing"=some (some (.ref f11))) (l11:K.lookup f11=some ⟨oc11,od11,.func (W.fnOf "read_thing" "read_thing" (Ap BN) (Ao BN) (Ai BN) .none kV11 dc11 pm11 an11 cd11 ct11),sl11⟩) (c11:W.codeIn K cd11 "read_thing"=true) (k11:W.keepIn K (.ref f11)=true)
  (a12:W.nsIn K mainGlobals "read_text"=some (some (.ref f12))) (l12:K.lookup f12=some ⟨oc12,od12,.func (W.fnOf "read_text" "read_text" (Ap Dt) (Ao Dt) (Ai Dt) .none kV12 dc12 pm12 an12 cd12 ct12),sl12⟩) (c12:W.codeIn K cd12 "read_text"=true) (k12:W.keepIn K (.ref f12)=true)
  (a13:W.nsIn K mainGlobals "is_name"=some (some (.ref f13))) (l13:K.lookup f13=some ⟨oc13,od13,.func (W.fnOf "is_name" "is_name" (Ap E4) (Ao E4) (Ai E4) .none kV13 dc13 pm13 an13 cd13 ct13),sl13⟩) (c13:W.codeIn K cd13 "is_name"=true) (k13:W.keepIn K (.ref f13)=true)
  (a14:W.nsIn K mainGlobals "is_tag"=some (some (.ref f14))) (l14:K.lookup f14=some ⟨oc14,od14,.func (W.fnOf "is_tag" "is_tag" (Ap Gr) (Ao Gr) (Ai Gr) .none kV14 dc14 pm14 an14 cd14 ct14),sl14⟩) (c14:W.codeIn K cd14 "is_tag"=true) (k14:W.keepIn K (.ref f14)=true)
  (a15:W.nsIn K mainGlobals "is_block"=some (some (.ref f15))) (l15:K.lookup f15=some ⟨oc15,od15,.func (W.fnOf "is_block" "is_block" (Ap Eb) (Ao Eb) (Ai Eb) .none kV15 dc15 pm15 an15 cd15 ct15),sl15⟩) (c15:W.codeIn K cd15 "is_block"=true) (k15:W.keepIn K (.ref f15)=true)
  (a16:W.nsIn K mainGlobals "are_row_tags"=some (some (.ref f16))) (l16:K.lookup f16=some ⟨oc16,od16,.func (W.fnOf "are_row_tags" "are_row_tags" (Ap BX) (Ao BX) (Ai BX) .none kV16 dc16 pm16 an16 cd16 ct16),sl16⟩) (c16:W.codeIn K cd16 "are_row_tags"=true) (k16:W.keepIn K (.ref f16)=true)
  (a17:W.nsIn K mainGlobals "are_entries"=some (some (.ref f17))) (l17:K.lookup f17=some ⟨oc17,od17,.func (W.fnOf "are_entries" "are_entries" (Ap Cv) (Ao Cv) (Ai Cv) .none kV17 dc17 pm17 an17 cd17 ct17),sl17⟩) (c17:W.codeIn K cd17 "are_entries"=true) (k17:W.keepIn K (.ref f17)=true)
  (a18:W.nsIn K mainGlobals "is_entry"=some (some (.ref f18))) (l18:K.lookup f18=some ⟨oc18,od18,.func (W.fnOf "is_entry" "is_entry" (Ap D3) (Ao D3) (Ai D3) .none kV18 dc18 pm18 an18 cd18 ct18),sl18⟩) (c18:W.codeIn K cd18 "is_entry"=true) (k18:W.keepIn K (.ref f18)=true)
  (a19:W.nsIn K mainGlobals "sum_of"=some (some (.ref f19))) (l19:K.lookup f19=some ⟨oc19,od19,.func (W.fnOf "sum_of" "sum_of" (Ap Gk) (Ao Gk) (Ai Gk) .none kV19 dc19 pm19 an19 cd19 ct19),sl19⟩) (c19:W.codeIn K cd19 "sum_of"=true) (k19:W.keepIn K (.ref f19)=true)
  (a20:W.nsIn K mainGlobals "numbers_told"=some (some (.ref f20))) (l20:K.lookup f20=some ⟨oc20,od20,.func (W.fnOf "numbers_told" "numbers_told" (Ap BW) (Ao BW) (Ai BW) .none kV20 dc20 pm20 an20 cd20 ct20),sl20⟩) (c20:W.codeIn K cd20 "numbers_told"=true) (k20:W.keepIn K (.ref f20)=true)
  (a21:W.nsIn K mainGlobals "size_of"=some (some (.ref f21))) (l21:K.lookup f21=some ⟨oc21,od21,.func (W.fnOf "size_of" "size_of" (Ap EY) (Ao EY) (Ai EY) .none kV21 dc21 pm21 an21 cd21 ct21),sl21⟩) (c21:W.codeIn K cd21 "size_of"=true) (k21:W.keepIn K (.ref f21)=true)
  (a22:W.nsIn K mainGlobals "tags_in"=some (some (.ref f22))) (l22:K.lookup f22=some ⟨oc22,od22,.func (W.fnOf "tags_in" "tags_in" (Ap EZ) (Ao EZ) (Ai EZ) .none kV22 dc22 pm22 an22 cd22 ct22),sl22⟩) (c22:W.codeIn K cd22 "tags_in"=true) (k22:W.keepIn K (.ref f22)=true)
  (a23:W.nsIn K mainGlobals "mark_of"=some (some (.ref f23))) (l23:K.lookup f23=some ⟨oc23,od23,.func (W.fnOf "mark_of" "mark_of" (Ap E6) (Ao E6) (Ai E6) .none kV23 dc23 pm23 an23 cd23 ct23),sl23⟩) (c23:W.codeIn K cd23 "mark_of"=true) (k23:W.keepIn K (.ref f23)=true)
  (a24:W.nsIn K mainGlobals "sealed"=some (some (.ref f24))) (l24:K.lookup f24=some ⟨oc24,od24,.func (W.fnOf "sealed" "sealed" (Ap Gi) (Ao Gi) (Ai Gi) .none kV24 dc24 pm24 an24 cd24 ct24),sl24⟩) (c24:W.codeIn K cd24 "sealed"=true) (k24:W.keepIn K (.ref f24)=true)
  (a25:W.nsIn K mainGlobals "unsealed"=some (some (.ref f25))) (l25:K.lookup f25=some ⟨oc25,od25,.func (W.fnOf "unsealed" "unsealed" (Ap D8) (Ao D8) (Ai D8) .none kV25 dc25 pm25 an25 cd25 ct25),sl25⟩) (c25:W.codeIn K cd25 "unsealed"=true) (k25:W.keepIn K (.ref f25)=true)
  (a26:W.nsIn K mainGlobals "lay"=some (some (.ref f26))) (l26:K.lookup f26=some ⟨oc26,od26,.func (W.fnOf "lay" "lay" (Ap MJ) (Ao MJ) (Ai MJ) .none kV26 dc26 pm26 an26 cd26 ct26),sl26⟩) (c26:W.codeIn K cd26 "lay"=true) (k26:W.keepIn K (.ref f26)=true)
  (a27:W.nsIn K mainGlobals "fetched"=some (some (.ref f27))) (l27:K.lookup f27=some ⟨oc27,od27,.func (W.fnOf "fetched" "fetched" (Ap E3) (Ao E3) (Ai E3) .none kV27 dc27 pm27 an27 cd27 ct27),sl27⟩) (c27:W.codeIn K cd27 "fetched"=true) (k27:W.keepIn K (.ref f27)=true)
  (a28:W.nsIn K mainGlobals "block_on"=some (some (.ref f28))) (l28:K.lookup f28=some ⟨oc28,od28,.func (W.fnOf "block_on" "block_on" (Ap D2) (Ao D2) (Ai D2) .none kV28 dc28 pm28 an28 cd28 ct28),sl28⟩) (c28:W.codeIn K cd28 "block_on"=true) (k28:W.keepIn K (.ref f28)=true)
  (a29:W.nsIn K mainGlobals "thing_on"=some (some (.ref f29))) (l29:K.lookup f29=some ⟨oc29,od29,.func (W.fnOf "thing_on" "thing_on" (Ap Ea) (Ao Ea) (Ai Ea) .none kV29 dc29 pm29 an29 cd29 ct29),sl29⟩) (c29:W.codeIn K cd29 "thing_on"=true) (k29:W.keepIn K (.ref f29)=true)
  (a30:W.findIn K (.ref Aa) "__init__"=some (some (.ref f30))) (i30:W.isFn K (.ref f30)=true) (l30:K.lookup f30=some ⟨oc30,od30,.func (W.fnOf "__init__" "TakenCell.__init__" (Ap BB) (Ao BB) (Ai BB) .none kV30 dc30 pm30 an30 cd30 ct30),sl30⟩) (c30:W.codeIn K cd30 "TakenCell.__init__"=true) (k30:W.keepIn K (.ref f30)=true)
  (a31:W.findIn K (.ref Ae) "__init__"=some (some (.ref f31))) (i31:W.isFn K (.ref f31)=true) (l31:K.lookup f31=some ⟨oc31,od31,.func (W.fnOf "__init__" "Pool.__init__" (Ap DB) (Ao DB) (Ai DB) .none kV31 dc31 pm31 an31 cd31 ct31),sl31⟩) (c31:W.codeIn K cd31 "Pool.__init__"=true) (k31:W.keepIn K (.ref f31)=true)
  (a32:W.findIn K (.ref Ae) "put"=some (some (.ref f32))) (i32:W.isFn K (.ref f32)=true) (l32:K.lookup f32=some ⟨oc32,od32,.func (W.fnOf "put" "Pool.put" (Ap Ei) (Ao Ei) (Ai Ei) .none kV32 dc32 pm32 an32 cd32 ct32),sl32⟩) (c32:W.codeIn K cd32 "Pool.put"=true) (k32:W.keepIn K (.ref f32)=true)
  (a33:W.findIn K (.ref Ae) "alike"=some (some (.ref f33))) (i33:W.isFn K (.ref f33)=true) (l33:K.lookup f33=some ⟨oc33,od33,.func (W.fnOf "alike" "Pool.alike" (Ap CS) (Ao CS) (Ai CS) .none kV33 dc33 pm33 an33 cd33 ct33),sl33⟩) (c33:W.codeIn K cd33 "Pool.alike"=true) (k33:W.keepIn K (.ref f33)=true)
  (a34:W.findIn K (.ref Ae) "free_number"=some (some (.ref f34))) (i34:W.isFn K (.ref f34)=true) (l34:K.lookup f34=some ⟨oc34,od34,.func (W.fnOf "free_number" "Pool.free_number" (Ap Bn) (Ao Bn) (Ai Bn) .none kV34 dc34 pm34 an34 cd34 ct34),sl34⟩) (c34:W.codeIn K cd34 "Pool.free_number"=true) (k34:W.keepIn K (.ref f34)=true)
  (a35:W.findIn K (.ref Ae) "take"=some (some (.ref f35))) (i35:W.isFn K (.ref f35)=true) (l35:K.lookup f35=some ⟨oc35,od35,.func (W.fnOf "take" "Pool.take" (Ap Dr) (Ao Dr) (Ai Dr) .none kV35 dc35 pm35 an35 cd35 ct35),sl35⟩) (c35:W.codeIn K cd35 "Pool.take"=true) (k35:W.keepIn K (.ref f35)=true)
  (a36:W.findIn K (.ref Ae) "entries_of"=some (some (.ref f36))) (i36:W.isFn K (.ref f36)=true) (l36:K.lookup f36=some ⟨oc36,od36,.func (W.fnOf "entries_of" "Pool.entries_of" (Ap Bu) (Ao Bu) (Ai Bu) .none kV36 dc36 pm36 an36 cd36 ct36),sl36⟩) (c36:W.codeIn K cd36 "Pool.entries_of"=true) (k36:W.keepIn K (.ref f36)=true)
  (a37:W.findIn K (.ref Ae) "steps_of"=some (some (.ref f37))) (i37:W.isFn K (.ref f37)=true) (l37:K.lookup f37=some ⟨oc37,od37,.func (W.fnOf "steps_of" "Pool.steps_of" (Ap BM) (Ao BM) (Ai BM) .none kV37 dc37 pm37 an37 cd37 ct37),sl37⟩) (c37:W.codeIn K cd37 "Pool.steps_of"=true) (k37:W.keepIn K (.ref f37)=true)
  (a38:W.findIn K (.ref Ae) "block"=some (some (.ref f38))) (i38:W.isFn K (.ref f38)=true) (l38:K.lookup f38=some ⟨oc38,od38,.func (W.fnOf "block" "Pool.block" (Ap CY) (Ao CY) (Ai CY) .none kV38 dc38 pm38 an38 cd38 ct38),sl38⟩) (c38:W.codeIn K cd38 "Pool.block"=true) (k38:W.keepIn K (.ref f38)=true)
  (a39:W.findIn K (.ref Ae) "hold"=some (some (.ref f39))) (i39:W.isFn K (.ref f39)=true) (l39:K.lookup f39=some ⟨oc39,od39,.func (W.fnOf "hold" "Pool.hold" (Ap Ds) (Ao Ds) (Ai Ds) .none kV39 dc39 pm39 an39 cd39 ct39),sl39⟩) (c39:W.codeIn K cd39 "Pool.hold"=true) (k39:W.keepIn K (.ref f39)=true)
  (a40:W.findIn K (.ref Ae) "release"=some (some (.ref f40))) (i40:W.isFn K (.ref f40)=true) (l40:K.lookup f40=some ⟨oc40,od40,.func (W.fnOf "release" "Pool.release" (Ap B3) (Ao B3) (Ai B3) .none kV40 dc40 pm40 an40 cd40 ct40),sl40⟩) (c40:W.codeIn K cd40 "Pool.release"=true) (k40:W.keepIn K (.ref f40)=true)
  (a41:W.findIn K (.ref Ae) "sweep"=some (some (.ref f41))) (i41:W.isFn K (.ref f41)=true) (l41:K.lookup f41=some ⟨oc41,od41,.func (W.fnOf "sweep" "Pool.sweep" (Ap C2) (Ao C2) (Ai C2) .none kV41 dc41 pm41 an41 cd41 ct41),sl41⟩) (c41:W.codeIn K cd41 "Pool.sweep"=true) (k41:W.keepIn K (.ref f41)=true)
  (a42:W.findIn K (.ref Ae) "free"=some (some (.ref f42))) (i42:W.isFn K (.ref f42)=true) (l42:K.lookup f42=some ⟨oc42,od42,.func (W.fnOf "free" "Pool.free" (Ap Dv) (Ao Dv) (Ai Dv) .none kV42 dc42 pm42 an42 cd42 ct42),sl42⟩) (c42:W.codeIn K cd42 "Pool.free"=true) (k42:W.keepIn K (.ref f42)=true)
  (a43:W.findIn K (.ref Ae) "lay_draft"=some (some (.ref f43))) (i43:W.isFn K (.ref f43)=true) (l43:K.lookup f43=some ⟨oc43,od43,.func (W.fnOf "lay_draft" "Pool.lay_draft" (Ap BD) (Ao BD) (Ai BD) .none kV43 dc43 pm43 an43 cd43 ct43),sl43⟩) (c43:W.codeIn K cd43 "Pool.lay_draft"=true) (k43:W.keepIn K (.ref f43)=true)
  (a44:W.findIn K (.ref Ae) "numbers"=some (some (.ref f44))) (i44:W.isFn K (.ref f44)=true) (l44:K.lookup f44=some ⟨oc44,od44,.func (W.fnOf "numbers" "Pool.numbers" (Ap B0) (Ao B0) (Ai B0) .none kV44 dc44 pm44 an44 cd44 ct44),sl44⟩) (c44:W.codeIn K cd44 "Pool.numbers"=true) (k44:W.keepIn K (.ref f44)=true)
  (a45:W.findIn K (.ref Ae) "tag"=some (some (.ref f45))) (i45:W.isFn K (.ref f45)=true) (l45:K.lookup f45=some ⟨oc45,od45,.func (W.fnOf "tag" "Pool.tag" (Ap Ek) (Ao Ek) (Ai Ek) .none kV45 dc45 pm45 an45 cd45 ct45),sl45⟩) (c45:W.codeIn K cd45 "Pool.tag"=true) (k45:W.keepIn K (.ref f45)=true)
  (a46:W.findIn K (.ref Ae) "count"=some (some (.ref f46))) (i46:W.isFn K (.ref f46)=true) (l46:K.lookup f46=some ⟨oc46,od46,.func (W.fnOf "count" "Pool.count" (Ap CM) (Ao CM) (Ai CM) .none kV46 dc46 pm46 an46 cd46 ct46),sl46⟩) (c46:W.codeIn K cd46 "Pool.count"=true) (k46:W.keepIn K (.ref f46)=true)
  (a47:W.findIn K (.ref Ae) "tags"=some (some (.ref f47))) (i47:W.isFn K (.ref f47)=true) (l47:K.lookup f47=some ⟨oc47,od47,.func (W.fnOf "tags" "Pool.tags" (Ap Dy) (Ao Dy) (Ai Dy) .none kV47 dc47 pm47 an47 cd47 ct47),sl47⟩) (c47:W.codeIn K cd47 "Pool.tags"=true) (k47:W.keepIn K (.ref f47)=true)
  (a48:W.findIn K (.ref Ae) "entries"=some (some (.ref f48))) (i48:W.isFn K (.ref f48)=true) (l48:K.lookup f48=some ⟨oc48,od48,.func (W.fnOf "entries" "Pool.entries" (Ap Cb) (Ao Cb) (Ai Cb) .none kV48 dc48 pm48 an48 cd48 ct48),sl48⟩) (c48:W.codeIn K cd48 "Pool.entries"=true) (k48:W.keepIn K (.ref f48)=true)
  (a49:W.findIn K (.ref Ae) "deep"=some (some (.ref f49))) (i49:W.isFn K (.ref f49)=true) (l49:K.lookup f49=some ⟨oc49,od49,.func (W.fnOf "deep" "Pool.deep" (Ap DD) (Ao DD) (Ai DD) .none kV49 dc49 pm49 an49 cd49 ct49),sl49⟩) (c49:W.codeIn K cd49 "Pool.deep"=true) (k49:W.keepIn K (.ref f49)=true)
  (a50:W.findIn K (.ref Ad) "__init__"=some (some (.ref f50))) (i50:W.isFn K (.ref f50)=true) (l50:K.lookup f50=some ⟨oc50,od50,.func (W.fnOf "__init__" "Boards.__init__" (Ap Cr) (Ao Cr) (Ai Cr) .none kV50 dc50 pm50 an50 cd50 ct50),sl50⟩) (c50:W.codeIn K cd50 "Boards.__init__"=true) (k50:W.keepIn K (.ref f50)=true)
  (a51:W.findIn K (.ref Ad) "many"=some (some (.ref f51))) (i51:W.isFn K (.ref f51)=true) (l51:K.lookup f51=some ⟨oc51,od51,.func (W.fnOf "many" "Boards.many" (Ap Cs) (Ao Cs) (Ai Cs) .none kV51 dc51 pm51 an51 cd51 ct51),sl51⟩) (c51:W.codeIn K cd51 "Boards.many"=true) (k51:W.keepIn K (.ref f51)=true)
  (a52:W.findIn K (.ref Ad) "write"=some (some (.ref f52))) (i52:W.isFn K (.ref f52)=true) (l52:K.lookup f52=some ⟨oc52,od52,.func (W.fnOf "write" "Boards.write" (Ap Ca) (Ao Ca) (Ai Ca) .none kV52 dc52 pm52 an52 cd52 ct52),sl52⟩) (c52:W.codeIn K cd52 "Boards.write"=true) (k52:W.keepIn K (.ref f52)=true)
  (a53:W.findIn K (.ref Ad) "cell"=some (some (.ref f53))) (i53:W.isFn K (.ref f53)=true) (l53:K.lookup f53=some ⟨oc53,od53,.func (W.fnOf "cell" "Boards.cell" (Ap Ct) (Ao Ct) (Ai Ct) .none kV53 dc53 pm53 an53 cd53 ct53),sl53⟩) (c53:W.codeIn K cd53 "Boards.cell"=true) (k53:W.keepIn K (.ref f53)=true)
  (a54:W.findIn K (.ref Ad) "written"=some (some (.ref f54))) (i54:W.isFn K (.ref f54)=true) (l54:K.lookup f54=some ⟨oc54,od54,.func (W.fnOf "written" "Boards.written" (Ap BC) (Ao BC) (Ai BC) .none kV54 dc54 pm54 an54 cd54 ct54),sl54⟩) (c54:W.codeIn K cd54 "Boards.written"=true) (k54:W.keepIn K (.ref f54)=true)
  (a55:W.findIn K (.ref Ad) "twins"=some (some (.ref f55))) (i55:W.isFn K (.ref f55)=true) (l55:K.lookup f55=some ⟨oc55,od55,.func (W.fnOf "twins" "Boards.twins" (Ap B9) (Ao B9) (Ai B9) .none kV55 dc55 pm55 an55 cd55 ct55),sl55⟩) (c55:W.codeIn K cd55 "Boards.twins"=true) (k55:W.keepIn K (.ref f55)=true)
  (a56:W.findIn K (.ref Ad) "shelf"=some (some (.ref f56))) (i56:W.isFn K (.ref f56)=true) (l56:K.lookup f56=some ⟨oc56,od56,.func (W.fnOf "shelf" "Boards.shelf" (Ap B2) (Ao B2) (Ai B2) .none kV56 dc56 pm56 an56 cd56 ct56),sl56⟩) (c56:W.codeIn K cd56 "Boards.shelf"=true) (k56:W.keepIn K (.ref f56)=true)
  (a57:W.nsIn K mainGlobals "_law_row"=some (some (.ref f57))) (l57:K.lookup f57=some ⟨oc57,od57,.func (W.fnOf "_law_row" "_law_row" (Ap Eh) (Ao Eh) (Ai Eh) .none kV57 dc57 pm57 an57 cd57 ct57),sl57⟩) (c57:W.codeIn K cd57 "_law_row"=true) (k57:W.keepIn K (.ref f57)=true)
  (a58:W.nsIn K mainGlobals "_law_signs"=some (some (.ref f58))) (l58:K.lookup f58=some ⟨oc58,od58,.func (W.fnOf "_law_signs" "_law_signs" (Ap CZ) (Ao CZ) (Ai CZ) .none kV58 dc58 pm58 an58 cd58 ct58),sl58⟩) (c58:W.codeIn K cd58 "_law_signs"=true) (k58:W.keepIn K (.ref f58)=true)
  (a59:W.nsIn K mainGlobals "_law_piece"=some (some (.ref f59))) (l59:K.lookup f59=some ⟨oc59,od59,.func (W.fnOf "_law_piece" "_law_piece" (Ap CW) (Ao CW) (Ai CW) .none kV59 dc59 pm59 an59 cd59 ct59),sl59⟩) (c59:W.codeIn K cd59 "_law_piece"=true) (k59:W.keepIn K (.ref f59)=true)
  (a60:W.nsIn K mainGlobals "_law_folder"=some (some (.ref f60))) (l60:K.lookup f60=some ⟨oc60,od60,.func (W.fnOf "_law_folder" "_law_folder" (Ap Cw) (Ao Cw) (Ai Cw) .none kV60 dc60 pm60 an60 cd60 ct60),sl60⟩) (c60:W.codeIn K cd60 "_law_folder"=true) (k60:W.keepIn K (.ref f60)=true)
  (a61:W.nsIn K mainGlobals "_law_block"=some (some (.ref f61))) (l61:K.lookup f61=some ⟨oc61,od61,.func (W.fnOf "_law_block" "_law_block" (Ap C3) (Ao C3) (Ai C3) .none kV61 dc61 pm61 an61 cd61 ct61),sl61⟩) (c61:W.codeIn K cd61 "_law_block"=true) (k61:W.keepIn K (.ref f61)=true)
  (a62:W.nsIn K mainGlobals "_law_tags"=some (some (.ref f62))) (l62:K.lookup f62=some ⟨oc62,od62,.func (W.fnOf "_law_tags" "_law_tags" (Ap Dx) (Ao Dx) (Ai Dx) .none kV62 dc62 pm62 an62 cd62 ct62),sl62⟩) (c62:W.codeIn K cd62 "_law_tags"=true) (k62:W.keepIn K (.ref f62)=true)
  (a63:W.nsIn K mainGlobals "_law_counts"=some (some (.ref f63))) (l63:K.lookup f63=some ⟨oc63,od63,.func (W.fnOf "_law_counts" "_law_counts" (Ap Cq) (Ao Cq) (Ai Cq) .none kV63 dc63 pm63 an63 cd63 ct63),sl63⟩) (c63:W.codeIn K cd63 "_law_counts"=true) (k63:W.keepIn K (.ref f63)=true)
  (a64:W.nsIn K mainGlobals "_law_left"=some (some (.ref f64))) (l64:K.lookup f64=some ⟨oc64,od64,.func (W.fnOf "_law_left" "_law_left" (Ap Dz) (Ao Dz) (Ai Dz) .none kV64 dc64 pm64 an64 cd64 ct64),sl64⟩) (c64:W.codeIn K cd64 "_law_left"=true) (k64:W.keepIn K (.ref f64)=true)
  (a65:W.nsIn K mainGlobals "_law_right"=some (some (.ref f65))) (l65:K.lookup f65=some ⟨oc65,od65,.func (W.fnOf "_law_right" "_law_right" (Ap CQ) (Ao CQ) (Ai CQ) .none kV65 dc65 pm65 an65 cd65 ct65),sl65⟩) (c65:W.codeIn K cd65 "_law_right"=true) (k65:W.keepIn K (.ref f65)=true)
  (a66:W.nsIn K mainGlobals "law"=some (some (.ref f66))) (l66:K.lookup f66=some ⟨oc66,od66,.func (W.fnOf "law" "law" (Ap Jz) (Ao Jz) (Ai Jz) .none kV66 dc66 pm66 an66 cd66 ct66),sl66⟩) (c66:W.codeIn K cd66 "law"=true) (k66:W.keepIn K (.ref f66)=true)
  (FX:W.nsIn K mainGlobals "WordReader"=some (some (.ref Ab))) (FU:W.plainGet K Ab Str.empty=true) (FI:W.hasDictIn K Ab=true) (Gb:W.plainOver K Ab=true) (FT:W.findIn K (.ref Ab) "__setattr__"=some (some (.builtin "object.__setattr__"))) (FG:W.makesIn K Ab=true) (FJ:W.keepIn K (.ref Ab)=true)
  (n_WordReader_words:W.findIn K (.ref Ab) "words"=some none)
  (n_WordReader_place:W.findIn K (.ref Ab) "place"=some none)
  (Kh:W.nsIn K mainGlobals "Boards"=some (some (.ref Ad))) (JX:W.plainGet K Ad Str.empty=true) (Kd:W.hasDictIn K Ad=true) (Kr:W.plainOver K Ad=true) (Kf:W.findIn K (.ref Ad) "__setattr__"=some (some (.builtin "object.__setattr__"))) (Ks:W.makesIn K Ad=true) (J7:W.keepIn K (.ref Ad)=true)
  (n_Boards_shelves:W.findIn K (.ref Ad) "shelves"=some none)
  (n_Boards_writes:W.findIn K (.ref Ad) "writes"=some none)
  (n_Boards_writes_left:W.findIn K (.ref Ad) "writes_left"=some none)
  (G6:W.nsIn K mainGlobals "TakenCell"=some (some (.ref Aa))) (GR:W.plainGet K Aa Str.empty=true) (G3:W.hasDictIn K Aa=true) (Hc:W.plainOver K Aa=true) (GM:W.findIn K (.ref Aa) "__setattr__"=some (some (.builtin "object.__setattr__"))) (GG:W.makesIn K Aa=true) (GZ:W.keepIn K (.ref Aa)=true)
  (n_TakenCell_own_tag:W.findIn K (.ref Aa) "own_tag"=some none)
  (n_TakenCell_own_size:W.findIn K (.ref Aa) "own_size"=some none)
  (n_TakenCell_named:W.findIn K (.ref Aa) "named"=some none)
  (n_TakenCell_times_named:W.findIn K (.ref Aa) "times_named"=some none)
  (n_TakenCell_entries_beneath:W.findIn K (.ref Aa) "entries_beneath"=some none)
  (n_TakenCell_steps_beneath:W.findIn K (.ref Aa) "steps_beneath"=some none)
  (Nr:W.nsIn K mainGlobals "Pool"=some (some (.ref Ae))) (ND:W.plainGet K Ae Str.empty=true) (NC:W.hasDictIn K Ae=true) (NX:W.plainOver K Ae=true) (Ny:W.findIn K (.ref Ae) "__setattr__"=some (some (.builtin "object.__setattr__"))) (NY:W.makesIn K Ae=true) (N4:W.keepIn K (.ref Ae)=true)
  (n_Pool_boards:W.findIn K (.ref Ae) "boards"=some none)
  (n_Pool_taken:W.findIn K (.ref Ae) "taken"=some none)
  (n_Pool_by_sums:W.findIn K (.ref Ae) "by_sums"=some none)
  (n_Pool_draft:W.findIn K (.ref Ae) "draft"=some none)
  (n_Pool_first_maybe_free:W.findIn K (.ref Ae) "first_maybe_free"=some none)
  (x_Lost:W.nsIn K mainGlobals "Lost"=some (some (.ref TN)))
  (x_NoThing:W.nsIn K mainGlobals "NoThing"=some (some (.ref M9)))
  (Td:W.nsIn K mainGlobals "abs"=some none)
  (UL:W.nsIn K mainGlobals "all"=some none)
  (QC:W.nsIn K mainGlobals "bool"=some none)
  (Qw:W.nsIn K mainGlobals "dict"=some none)
  (HF:W.nsIn K mainGlobals "enumerate"=some none)
  (TL:W.nsIn K mainGlobals "int"=some none)
  (G2:W.nsIn K mainGlobals "isinstance"=some none)
  (UE:W.nsIn K mainGlobals "len"=some none)
  (PJ:W.nsIn K mainGlobals "list"=some none)
  (SU:W.nsIn K mainGlobals "max"=some none)
  (S4:W.nsIn K mainGlobals "min"=some none)
  (NP:W.nsIn K mainGlobals "range"=some none)
  (Ta:W.nsIn K mainGlobals "set"=some none)
  (Ly:W.nsIn K mainGlobals "sorted"=some none)
  (U0:W.nsIn K mainGlobals "str"=some none)
  (S9:W.nsIn K mainGlobals "sum"=some none)
  (Nj:W.nsIn K mainGlobals "tuple"=some none)
  (N8:W.nsIn K mainGlobals "SIGNS"=some (some (.str (PySem.Str.ofString " !\"#$&'()*+,-./0123456789:;<=>?@ABCDEFGHIJKLMNOPQRSTUVWXYZ[\\]^_`abcdefghijklmnopqrstuvwxyz{|}~") t_SIGNS)))
  (FR:W.nsIn K mainGlobals "MOST_NUMBER"=some (some (.int 999999999 t_MOST_NUMBER)))
  (G9:W.nsIn K mainGlobals "MOST_SIGNS"=some (some (.int 400 t_MOST_SIGNS)))
  (GL:W.nsIn K mainGlobals "MOST_PARTS"=some (some (.int 100 t_MOST_PARTS)))
  (Hy:W.nsIn K mainGlobals "MOST_DEEP"=some (some (.int 8 t_MOST_DEEP)))
  (Gc:W.nsIn K mainGlobals "NUMBER_WORD"=some (some (.int 0 t_NUMBER_WORD)))
  (Hv:W.nsIn K mainGlobals "TEXT_WORD"=some (some (.int 1 t_TEXT_WORD)))
  (GN:W.nsIn K mainGlobals "TUPLE_WORD"=some (some (.int 2 t_TUPLE_WORD)))
  (NI:W.nsIn K mainGlobals "PIECE"=some (some (.int 0 t_PIECE)))
  (Ts:W.nsIn K mainGlobals "ROW"=some (some (.int 1 t_ROW)))
  (LP:W.nsIn K mainGlobals "FOLDER"=some (some (.int 2 t_FOLDER)))
  (GY:W.nsIn K mainGlobals "FILE_ENTRY"=some (some (.int 1 t_FILE_ENTRY)))
  (Fw:W.nsIn K mainGlobals "FOLDER_ENTRY"=some (some (.int 2 t_FOLDER_ENTRY)))
  (GT:W.nsIn K mainGlobals "NAME_SIGNS"=some (some (.str (PySem.Str.ofString "0123456789abcdefghijklmnopqrstuvwxyz") t_NAME_SIGNS)))
  (DO:W.nsIn K mainGlobals "MOST_NAME_SIGNS"=some (some (.int 8 t_MOST_NAME_SIGNS)))
  (Hr:W.nsIn K mainGlobals "MOST_CELL"=some (some (.int 999999 t_MOST_CELL)))
  (GU:W.nsIn K mainGlobals "MOST_BIRTH"=some (some (.int 999999999 t_MOST_BIRTH)))
  (HV:W.nsIn K mainGlobals "SUM_RESTS"=some (some (.int 997 t_SUM_RESTS)))
  (Dp:W.nsIn K mainGlobals "MOST_PIECE_SIGNS"=some (some (.int 8 t_MOST_PIECE_SIGNS)))
  (GS:W.nsIn K mainGlobals "MOST_LEVEL"=some (some (.int 9 t_MOST_LEVEL)))
  (Hw:W.nsIn K mainGlobals "MOST_TAGS"=some (some (.int 8 t_MOST_TAGS)))
  (Fi:W.nsIn K mainGlobals "MOST_ENTRIES"=some (some (.int 16 t_MOST_ENTRIES)))
  (GQ:W.nsIn K mainGlobals "MARK_RESTS"=some (some (.int 2147483647 t_MARK_RESTS)))
  (Fb:W.nsIn K mainGlobals "LEAST_BOARDS"=some (some (.int 2 t_LEAST_BOARDS)))
  (FW:W.nsIn K mainGlobals "MOST_BOARDS"=some (some (.int 4 t_MOST_BOARDS))) :
  ∃fd:FuncData,(∀(s:Shared) (v:Value),BindsTo s fd ⟨[v],[]⟩ [("_law_script",v)])/\∀base:Heap,K.In base->base.Ns mainGlobals mg->FnOk l.prog w K mg base Cf 20 fa fd ["_law_script"] (Nq K):=by
 have e:=hfa.symm.trans (W.mg_of X G a66);cases e;have T:Txt K mg Ab Ad Aa Ae (fun n=>match n with|0=>TN|1=>M9|_=>0):=⟨⟨FU,FI,Gb,FT⟩,n_WordReader_words,n_WordReader_place,⟨JX,Kd,Kr,Kf⟩,n_Boards_shelves,n_Boards_writes,n_Boards_writes_left,⟨GR,G3,Hc,GM⟩,n_TakenCell_own_tag,n_TakenCell_own_size,n_TakenCell_named,n_TakenCell_times_named,n_TakenCell_entries_beneath,n_TakenCell_steps_beneath,⟨ND,NC,NX,Ny⟩,n_Pool_boards,n_Pool_taken,n_Pool_by_sums,n_Pool_draft,n_Pool_first_maybe_free,W.mg_of X G x_Lost,W.mg_of X G x_NoThing,W.mg_none_of X G Td,W.mg_none_of X G UL,W.mg_none_of X G QC,W.mg_none_of X G Qw,W.mg_none_of X G HF,W.mg_none_of X G TL,W.mg_none_of X G G2,W.mg_none_of X G UE,W.mg_none_of X G PJ,W.mg_none_of X G SU,W.mg_none_of X G S4,W.mg_none_of X G NP,W.mg_none_of X G Ta,W.mg_none_of X G Ly,W.mg_none_of X G U0,W.mg_none_of X G S9,W.mg_none_of X G Nj,⟨_,W.mg_of X G N8⟩,⟨_,W.mg_of X G FR⟩,⟨_,W.mg_of X G G9⟩,⟨_,W.mg_of X G GL⟩,⟨_,W.mg_of X G Hy⟩,⟨_,W.mg_of X G Gc⟩,⟨_,W.mg_of X G Hv⟩,⟨_,W.mg_of X G GN⟩,⟨_,W.mg_of X G NI⟩,⟨_,W.mg_of X G Ts⟩,⟨_,W.mg_of X G LP⟩,⟨_,W.mg_of X G GY⟩,⟨_,W.mg_of X G Fw⟩,⟨_,W.mg_of X G GT⟩,⟨_,W.mg_of X G DO⟩,⟨_,W.mg_of X G Hr⟩,⟨_,W.mg_of X G GU⟩,⟨_,W.mg_of X G HV⟩,⟨_,W.mg_of X G Dp⟩,⟨_,W.mg_of X G GS⟩,⟨_,W.mg_of X G Hw⟩,⟨_,W.mg_of X G Fi⟩,⟨_,W.mg_of X G GQ⟩,⟨_,W.mg_of X G Fb⟩,⟨_,W.mg_of X G FW⟩⟩
 have F0:=Ay (st:=D1) l0 c0 k0;have b0:=F0.binds (ps:=["thing"]) fun _ _ _ _ _ _ us hl=>match us,hl with|[_],_=>rfl
 have F1:=Ay (st:=C1) l1 c1 k1;have b1:=F1.binds (ps:=["thing","least","most"]) fun _ _ _ _ _ _ us hl=>match us,hl with|[_,_,_],_=>rfl
 have F2:=Ay (st:=Cu) l2 c2 k2;have b2:=F2.binds (ps:=["thing","many"]) fun _ _ _ _ _ _ us hl=>match us,hl with|[_,_],_=>rfl
 have F3:=Ay (st:=DC) l3 c3 k3;have b3:=F3.binds (ps:=["sign"]) fun _ _ _ _ _ _ us hl=>match us,hl with|[_],_=>rfl
 have F4:=Ay (st:=E5) l4 c4 k4;have b4:=F4.binds (ps:=["number"]) fun _ _ _ _ _ _ us hl=>match us,hl with|[_],_=>rfl
 have F5:=Ay (st:=EU) l5 c5 k5;have b5:=F5.binds (ps:=["thing","least","most"]) fun _ _ _ _ _ _ us hl=>match us,hl with|[_,_,_],_=>rfl
 have F6:=Ay (st:=CH) l6 c6 k6;have b6:=F6.binds (ps:=["thing"]) fun _ _ _ _ _ _ us hl=>match us,hl with|[_],_=>rfl
 have F7:=Ay (st:=D4) l7 c7 k7;have b7:=F7.binds (ps:=["words"]) fun _ _ _ _ _ _ us hl=>match us,hl with|[_],_=>rfl
 have F8:=Ay (st:=Bv) l8 c8 k8;have b8:=F8.binds (ps:=["self","words"]) fun _ _ _ _ _ _ us hl=>match us,hl with|[_,_],_=>rfl
 have F9:=Ay (st:=AY) l9 c9 k9;have b9:=F9.binds (ps:=["self"]) fun _ _ _ _ _ _ us hl=>match us,hl with|[_],_=>rfl
 have F10:=Ay (st:=A9) l10 c10 k10;have b10:=F10.binds (ps:=["self","most"]) fun _ _ _ _ _ _ us hl=>match us,hl with|[_,_],_=>rfl
 have F11:=Ay (st:=BN) l11 c11 k11;have b11:=F11.binds (ps:=["reader","deep"]) fun _ _ _ _ _ _ us hl=>match us,hl with|[_,_],_=>rfl
 have F12:=Ay (st:=Dt) l12 c12 k12;have b12:=F12.binds (ps:=["reader"]) fun _ _ _ _ _ _ us hl=>match us,hl with|[_],_=>rfl
 have F13:=Ay (st:=E4) l13 c13 k13;have b13:=F13.binds (ps:=["thing"]) fun _ _ _ _ _ _ us hl=>match us,hl with|[_],_=>rfl
 have F14:=Ay (st:=Gr) l14 c14 k14;have b14:=F14.binds (ps:=["thing"]) fun _ _ _ _ _ _ us hl=>match us,hl with|[_],_=>rfl
 have F15:=Ay (st:=Eb) l15 c15 k15;have b15:=F15.binds (ps:=["thing"]) fun _ _ _ _ _ _ us hl=>match us,hl with|[_],_=>rfl
 have F16:=Ay (st:=BX) l16 c16 k16;have b16:=F16.binds (ps:=["thing","level"]) fun _ _ _ _ _ _ us hl=>match us,hl with|[_,_],_=>rfl
 have F17:=Ay (st:=Cv) l17 c17 k17;have b17:=F17.binds (ps:=["thing"]) fun _ _ _ _ _ _ us hl=>match us,hl with|[_],_=>rfl
 have F18:=Ay (st:=D3) l18 c18 k18;have b18:=F18.binds (ps:=["thing"]) fun _ _ _ _ _ _ us hl=>match us,hl with|[_],_=>rfl
 have F19:=Ay (st:=Gk) l19 c19 k19;have b19:=F19.binds (ps:=["block"]) fun _ _ _ _ _ _ us hl=>match us,hl with|[_],_=>rfl
 have F20:=Ay (st:=BW) l20 c20 k20;have b20:=F20.binds (ps:=["block"]) fun _ _ _ _ _ _ us hl=>match us,hl with|[_],_=>rfl
 have F21:=Ay (st:=EY) l21 c21 k21;have b21:=F21.binds (ps:=["block"]) fun _ _ _ _ _ _ us hl=>match us,hl with|[_],_=>rfl
 have F22:=Ay (st:=EZ) l22 c22 k22;have b22:=F22.binds (ps:=["block"]) fun _ _ _ _ _ _ us hl=>match us,hl with|[_],_=>rfl
 have F23:=Ay (st:=E6) l23 c23 k23;have b23:=F23.binds (ps:=["words"]) fun _ _ _ _ _ _ us hl=>match us,hl with|[_],_=>rfl
 have F24:=Ay (st:=Gi) l24 c24 k24;have b24:=F24.binds (ps:=["words"]) fun _ _ _ _ _ _ us hl=>match us,hl with|[_],_=>rfl
 have F25:=Ay (st:=D8) l25 c25 k25;have b25:=F25.binds (ps:=["row"]) fun _ _ _ _ _ _ us hl=>match us,hl with|[_],_=>rfl
 have F26:=Ay (st:=MJ) l26 c26 k26;have b26:=F26.binds (ps:=["boards","number","birth","block"]) fun _ _ _ _ _ _ us hl=>match us,hl with|[_,_,_,_],_=>rfl
 have F27:=Ay (st:=E3) l27 c27 k27;have b27:=F27.binds (ps:=["boards","tag"]) fun _ _ _ _ _ _ us hl=>match us,hl with|[_,_],_=>rfl
 have F28:=Ay (st:=D2) l28 c28 k28;have b28:=F28.binds (ps:=["boards","board","tag"]) fun _ _ _ _ _ _ us hl=>match us,hl with|[_,_,_],_=>rfl
 have F29:=Ay (st:=Ea) l29 c29 k29;have b29:=F29.binds (ps:=["boards","board","number"]) fun _ _ _ _ _ _ us hl=>match us,hl with|[_,_,_],_=>rfl
 have F30:=Ay (st:=BB) l30 c30 k30;have b30:=F30.binds (ps:=["self","own_tag","block"]) fun _ _ _ _ _ _ us hl=>match us,hl with|[_,_,_],_=>rfl
 have F31:=Ay (st:=DB) l31 c31 k31;have b31:=F31.binds (ps:=["self","boards"]) fun _ _ _ _ _ _ us hl=>match us,hl with|[_,_],_=>rfl
 have F32:=Ay (st:=Ei) l32 c32 k32;have b32:=F32.binds (ps:=["self","block","birth"]) fun _ _ _ _ _ _ us hl=>match us,hl with|[_,_,_],_=>rfl
 have F33:=Ay (st:=CS) l33 c33 k33;have b33:=F33.binds (ps:=["self","block"]) fun _ _ _ _ _ _ us hl=>match us,hl with|[_,_],_=>rfl
 have F34:=Ay (st:=Bn) l34 c34 k34;have b34:=F34.binds (ps:=["self"]) fun _ _ _ _ _ _ us hl=>match us,hl with|[_],_=>rfl
 have F35:=Ay (st:=Dr) l35 c35 k35;have b35:=F35.binds (ps:=["self","tag","block"]) fun _ _ _ _ _ _ us hl=>match us,hl with|[_,_,_],_=>rfl
 have F36:=Ay (st:=Bu) l36 c36 k36;have b36:=F36.binds (ps:=["self","folder"]) fun _ _ _ _ _ _ us hl=>match us,hl with|[_,_],_=>rfl
 have F37:=Ay (st:=BM) l37 c37 k37;have b37:=F37.binds (ps:=["self","folder"]) fun _ _ _ _ _ _ us hl=>match us,hl with|[_,_],_=>rfl
 have F38:=Ay (st:=CY) l38 c38 k38;have b38:=F38.binds (ps:=["self","tag"]) fun _ _ _ _ _ _ us hl=>match us,hl with|[_,_],_=>rfl
 have F39:=Ay (st:=Ds) l39 c39 k39;have b39:=F39.binds (ps:=["self","tag"]) fun _ _ _ _ _ _ us hl=>match us,hl with|[_,_],_=>rfl
 have F40:=Ay (st:=B3) l40 c40 k40;have b40:=F40.binds (ps:=["self","tag"]) fun _ _ _ _ _ _ us hl=>match us,hl with|[_,_],_=>rfl
 have F41:=Ay (st:=C2) l41 c41 k41;have b41:=F41.binds (ps:=["self"]) fun _ _ _ _ _ _ us hl=>match us,hl with|[_],_=>rfl
 have F42:=Ay (st:=Dv) l42 c42 k42;have b42:=F42.binds (ps:=["self","number"]) fun _ _ _ _ _ _ us hl=>match us,hl with|[_,_],_=>rfl
 have F43:=Ay (st:=BD) l43 c43 k43;have b43:=F43.binds (ps:=["self"]) fun _ _ _ _ _ _ us hl=>match us,hl with|[_],_=>rfl
 have F44:=Ay (st:=B0) l44 c44 k44;have b44:=F44.binds (ps:=["self"]) fun _ _ _ _ _ _ us hl=>match us,hl with|[_],_=>rfl
 have F45:=Ay (st:=Ek) l45 c45 k45;have b45:=F45.binds (ps:=["self","number"]) fun _ _ _ _ _ _ us hl=>match us,hl with|[_,_],_=>rfl
 have F46:=Ay (st:=CM) l46 c46 k46;have b46:=F46.binds (ps:=["self","number"]) fun _ _ _ _ _ _ us hl=>match us,hl with|[_,_],_=>rfl
 have F47:=Ay (st:=Dy) l47 c47 k47;have b47:=F47.binds (ps:=["self","number"]) fun _ _ _ _ _ _ us hl=>match us,hl with|[_,_],_=>rfl
 have F48:=Ay (st:=Cb) l48 c48 k48;have b48:=F48.binds (ps:=["self","number"]) fun _ _ _ _ _ _ us hl=>match us,hl with|[_,_],_=>rfl
 have F49:=Ay (st:=DD) l49 c49 k49;have b49:=F49.binds (ps:=["self","number"]) fun _ _ _ _ _ _ us hl=>match us,hl with|[_,_],_=>rfl
 have F50:=Ay (st:=Cr) l50 c50 k50;have b50:=F50.binds (ps:=["self","many"]) fun _ _ _ _ _ _ us hl=>match us,hl with|[_,_],_=>rfl
 have F51:=Ay (st:=Cs) l51 c51 k51;have b51:=F51.binds (ps:=["self"]) fun _ _ _ _ _ _ us hl=>match us,hl with|[_],_=>rfl
 have F52:=Ay (st:=Ca) l52 c52 k52;have b52:=F52.binds (ps:=["self","board","number","row"]) fun _ _ _ _ _ _ us hl=>match us,hl with|[_,_,_,_],_=>rfl
 have F53:=Ay (st:=Ct) l53 c53 k53;have b53:=F53.binds (ps:=["self","board","number"]) fun _ _ _ _ _ _ us hl=>match us,hl with|[_,_,_],_=>rfl
 have F54:=Ay (st:=BC) l54 c54 k54;have b54:=F54.binds (ps:=["self"]) fun _ _ _ _ _ _ us hl=>match us,hl with|[_],_=>rfl
 have F55:=Ay (st:=B9) l55 c55 k55;have b55:=F55.binds (ps:=["self","number"]) fun _ _ _ _ _ _ us hl=>match us,hl with|[_,_],_=>rfl
 have F56:=Ay (st:=B2) l56 c56 k56;have b56:=F56.binds (ps:=["self","board"]) fun _ _ _ _ _ _ us hl=>match us,hl with|[_,_],_=>rfl
 have F57:=Ay (st:=Eh) l57 c57 k57;have b57:=F57.binds (ps:=["_law_cell","_law_many"]) fun _ _ _ _ _ _ us hl=>match us,hl with|[_,_],_=>rfl
 have F58:=Ay (st:=CZ) l58 c58 k58;have b58:=F58.binds (ps:=[]) fun _ _ _ _ _ _ us hl=>match us,hl with|[],_=>rfl
 have F59:=Ay (st:=CW) l59 c59 k59;have b59:=F59.binds (ps:=["_law_row_here"]) fun _ _ _ _ _ _ us hl=>match us,hl with|[_],_=>rfl
 have F60:=Ay (st:=Cw) l60 c60 k60;have b60:=F60.binds (ps:=["_law_row_here","_law_some"]) fun _ _ _ _ _ _ us hl=>match us,hl with|[_,_],_=>rfl
 have F61:=Ay (st:=C3) l61 c61 k61;have b61:=F61.binds (ps:=["_law_row_here","_law_some"]) fun _ _ _ _ _ _ us hl=>match us,hl with|[_,_],_=>rfl
 have F62:=Ay (st:=Dx) l62 c62 k62;have b62:=F62.binds (ps:=["_law_block_here"]) fun _ _ _ _ _ _ us hl=>match us,hl with|[_],_=>rfl
 have F63:=Ay (st:=Cq) l63 c63 k63;have b63:=F63.binds (ps:=["_law_some","_law_held"]) fun _ _ _ _ _ _ us hl=>match us,hl with|[_,_],_=>rfl
 have F64:=Ay (st:=Dz) l64 c64 k64;have b64:=F64.binds (ps:=["_law_some","_law_held","_law_gone"]) fun _ _ _ _ _ _ us hl=>match us,hl with|[_,_,_],_=>rfl
 have F65:=Ay (st:=CQ) l65 c65 k65;have b65:=F65.binds (ps:=["_law_pool","_law_some","_law_held"]) fun _ _ _ _ _ _ us hl=>match us,hl with|[_,_,_],_=>rfl
 have F66:=Ay (st:=Jz) l66 c66 k66;refine⟨W.fnOf "law" "law" (Ap Jz) (Ao Jz) (Ai Jz) .none kV66 dc66 pm66 an66 cd66 ct66,fun s v=>.of_eq rfl,fun base _ _=>?_⟩;have Bi:Def l.prog w K mg base 1 "is_whole" ["thing"] (CI K):=⟨_,_,Oj T F0 ,W.mg_of X G a0,k0,b0⟩
 have Bp:Def l.prog w K mg base 1 "is_tuple_of" ["thing","many"] (CK K):=⟨_,_,LQ T F2 ,W.mg_of X G a2,k2,b2⟩
 have Bl:Def l.prog w K mg base 1 "number_of" ["sign"] (C0 K):=⟨_,_,Ni T F3 ,W.mg_of X G a3,k3,b3⟩
 have J2:Def l.prog w K mg base 1 "sign_of" ["number"] (Jl K):=⟨_,_,Py T F4 ,W.mg_of X G a4,k4,b4⟩
 have E8:Def l.prog w K mg base 1 "is_text" ["thing","least","most"] (GK K):=⟨_,_,Qu T F5 ,W.mg_of X G a5,k5,b5⟩
 have DP:NV l.prog w K mg base 1 Ab "WordReader" ["self","words"] (Dn K Ab):=⟨_,_,Je T F8 ,⟨FG,a8,i8,FJ⟩,W.mg_of X G FX,b8⟩
 have AZ:A2 l.prog w K mg base 1 Ab "is_through" ["self"] (Bq K Ab):=⟨_,_,Gf T F9 ,⟨a9,i9,k9⟩,b9⟩
 have Kk:Def l.prog w K mg base 1 "tags_in" ["block"] (Jk K):=⟨_,_,P4 T F22 ,W.mg_of X G a22,k22,b22⟩
 have EW:Def l.prog w K mg base 1 "mark_of" ["words"] (GW K):=⟨_,_,P3 T F23 ,W.mg_of X G a23,k23,b23⟩
 have HL:NV l.prog w K mg base 1 Ae "Pool" ["self","boards"] (GJ K Ae):=⟨_,_,NA T F31 ,⟨NY,a31,i31,N4⟩,W.mg_of X G Nr,b31⟩
 have Do:A2 l.prog w K mg base 1 Ae "free_number" ["self"] (C6 K Ae Aa):=⟨_,_,Iz T F34 ,⟨a34,i34,k34⟩,b34⟩
 have DE:A2 l.prog w K mg base 1 Ae "hold" ["self","tag"] (EN K Ae Aa):=⟨_,_,NR T F39 ,⟨a39,i39,k39⟩,b39⟩
 have BZ:A2 l.prog w K mg base 1 Ae "numbers" ["self"] (Dh K Ae Aa):=⟨_,_,KP T F44 ,⟨a44,i44,k44⟩,b44⟩
 have BQ:A2 l.prog w K mg base 1 Ae "tag" ["self","number"] (Ey K Ae Aa):=⟨_,_,OS T F45 ,⟨a45,i45,k45⟩,b45⟩
 have CO:A2 l.prog w K mg base 1 Ae "count" ["self","number"] (Et K Ae Aa):=⟨_,_,Mx T F46 ,⟨a46,i46,k46⟩,b46⟩
 have HY:A2 l.prog w K mg base 1 Ae "tags" ["self","number"] (GV K Ae Aa):=⟨_,_,Nh T F47 ,⟨a47,i47,k47⟩,b47⟩
 have Fq:A2 l.prog w K mg base 1 Ae "entries" ["self","number"] (EG K Ae Aa):=⟨_,_,KN T F48 ,⟨a48,i48,k48⟩,b48⟩
 have HW:A2 l.prog w K mg base 1 Ae "deep" ["self","number"] (GD K Ae Aa):=⟨_,_,NQ T F49 ,⟨a49,i49,k49⟩,b49⟩
 have BR:A2 l.prog w K mg base 1 Ad "many" ["self"] (DR K Ad):=⟨_,_,LU T F51 ,⟨a51,i51,k51⟩,b51⟩
 have D6:A2 l.prog w K mg base 1 Ad "written" ["self"] (DS K Ad):=⟨_,_,JQ T F54 ,⟨a54,i54,k54⟩,b54⟩
 have Jg:Def l.prog w K mg base 1 "_law_row" ["_law_cell","_law_many"] (Hl K):=⟨_,_,Pb T F57 ,W.mg_of X G a57,k57,b57⟩
 have G5:Def l.prog w K mg base 1 "_law_signs" [] (FN K):=⟨_,_,Mj T F58 ,W.mg_of X G a58,k58,b58⟩
 have FY:Def l.prog w K mg base 1 "_law_folder" ["_law_row_here","_law_some"] (Ff K):=⟨_,_,L4 T F60 ,W.mg_of X G a60,k60,b60⟩
 have DA:Def l.prog w K mg base 1 "_law_tags" ["_law_block_here"] (EM K):=⟨_,_,Nx T F62 ,W.mg_of X G a62,k62,b62⟩
 have AE:Def l.prog w K mg base 2 "is_between" ["thing","least","most"] (Bo K):=⟨_,_,Mu T F1 Bi,W.mg_of X G a1,k1,b1⟩
 have Kg:Def l.prog w K mg base 2 "is_name" ["thing"] (Ja K):=⟨_,_,PD T F13 E8,W.mg_of X G a13,k13,b13⟩
 have Fu:Def l.prog w K mg base 2 "numbers_told" ["block"] (EE K):=⟨_,_,K0 T F20 Bl,W.mg_of X G a20,k20,b20⟩
 have LB:Def l.prog w K mg base 2 "sealed" ["words"] (Kn K):=⟨_,_,SI T F24 EW,W.mg_of X G a24,k24,b24⟩
 have DI:A2 l.prog w K mg base 2 Ae "entries_of" ["self","folder"] (Dq K Ae Aa):=⟨_,_,Jh T F36 Fq,⟨a36,i36,k36⟩,b36⟩
 have EK:A2 l.prog w K mg base 2 Ae "steps_of" ["self","folder"] (Ec K Ae Aa):=⟨_,_,J3 T F37 HW,⟨a37,i37,k37⟩,b37⟩
 have Du:A2 l.prog w K mg base 2 Ae "free" ["self","number"] (ER K Ae Aa):=⟨_,_,NK T F42 BQ,⟨a42,i42,k42⟩,b42⟩
 have Cc:A2 l.prog w K mg base 2 Ad "twins" ["self","number"] (Dk K Ad):=⟨_,_,KL T F55 BR,⟨a55,i55,k55⟩,b55⟩
 have GH:Def l.prog w K mg base 2 "_law_piece" ["_law_row_here"] (FS K):=⟨_,_,Mm T F59 G5,W.mg_of X G a59,k59,b59⟩
 have Be:Def l.prog w K mg base 2 "_law_counts" ["_law_some","_law_held"] (CG K):=⟨_,_,Lj T F63 DA,W.mg_of X G a63,k63,b63⟩
 have Az:A2 l.prog w K mg base 3 Ab "word_to" ["self","most"] (A5 K Ab):=⟨_,_,Hj T F10 AZ AE,⟨a10,i10,k10⟩,b10⟩
 have Gn:Def l.prog w K mg base 3 "is_tag" ["thing"] (Ir K):=⟨_,_,Sf T F14 AE Bp,W.mg_of X G a14,k14,b14⟩
 have DT:Def l.prog w K mg base 3 "sum_of" ["block"] (Gv K):=⟨_,_,Sn T F19 Fu,W.mg_of X G a19,k19,b19⟩
 have Jj:Def l.prog w K mg base 3 "unsealed" ["row"] (HC K):=⟨_,_,O4 T F25 EW AE,W.mg_of X G a25,k25,b25⟩
 have B8:A2 l.prog w K mg base 3 Ae "release" ["self","tag"] (Dj K Ae Aa):=⟨_,_,KZ T F40 Du,⟨a40,i40,k40⟩,b40⟩
 have FV:NV l.prog w K mg base 3 Ad "Boards" ["self","many"] (Fm K Ad):=⟨_,_,LM T F50 AE,⟨Ks,a50,i50,J7⟩,W.mg_of X G Kh,b50⟩
 have BV:A2 l.prog w K mg base 3 Ad "shelf" ["self","board"] (Di K Ad):=⟨_,_,KS T F56 AE BR,⟨a56,i56,k56⟩,b56⟩
 have G1:Def l.prog w K mg base 3 "_law_block" ["_law_row_here","_law_some"] (Gd K):=⟨_,_,Ms T F61 GH FY,W.mg_of X G a61,k61,b61⟩
 have FC:Def l.prog w K mg base 3 "_law_left" ["_law_some","_law_held","_law_gone"] (Gz K):=⟨_,_,N0 T F64 Be DA,W.mg_of X G a64,k64,b64⟩
 have Cj:Def l.prog w K mg base 4 "read_text" ["reader"] (DX K Ab):=⟨_,_,N1 T F12 Az J2,W.mg_of X G a12,k12,b12⟩
 have Fo:Def l.prog w K mg base 4 "are_row_tags" ["thing","level"] (EL K):=⟨_,_,KY T F16 Gn,W.mg_of X G a16,k16,b16⟩
 have IQ:Def l.prog w K mg base 4 "is_entry" ["thing"] (Ic K):=⟨_,_,O8 T F18 AE Gn Bp Kg,W.mg_of X G a18,k18,b18⟩
 have GA:A2 l.prog w K mg base 4 Ae "sweep" ["self"] (Ge K Ae Aa):=⟨_,_,Mq T F41 HY Du BZ B8 CO,⟨a41,i41,k41⟩,b41⟩
 have Fg:A2 l.prog w K mg base 4 Ad "write" ["self","board","number","row"] (EI K Ad):=⟨_,_,K1 T F52 BV,⟨a52,i52,k52⟩,b52⟩
 have Gg:A2 l.prog w K mg base 4 Ad "cell" ["self","board","number"] (Fp K Ad):=⟨_,_,Li T F53 BV,⟨a53,i53,k53⟩,b53⟩
 have Ga:Def l.prog w K mg base 5 "are_entries" ["thing"] (Fl K):=⟨_,_,L1 T F17 IQ,W.mg_of X G a17,k17,b17⟩
 have IL:Def l.prog w K mg base 6 "is_block" ["thing"] (HM K):=⟨_,_,Pk T F15 Ga Bi E8 AE Fo,W.mg_of X G a15,k15,b15⟩
 have CD:Def l.prog w K mg base 9 "words_of" ["thing"] (FF K):=⟨_,_,Og T F6 Bi Bl (W.mg_of X G a6) k6 b6,W.mg_of X G a6,k6,b6⟩
 have J9:Def l.prog w K mg base 10 "size_of" ["block"] (IU K):=⟨_,_,Qx T F21 CD,W.mg_of X G a21,k21,b21⟩
 have UI:Def l.prog w K mg base 10 "lay" ["boards","number","birth","block"] (Qt K Ad):=⟨_,_,XH T F26 LB Cc CD Fg,W.mg_of X G a26,k26,b26⟩
 have DZ:NV l.prog w K mg base 11 Aa "TakenCell" ["self","own_tag","block"] (DK K Aa):=⟨_,_,JJ T F30 J9 Kk,⟨GG,a30,i30,GZ⟩,W.mg_of X G G6,b30⟩
 have Ej:A2 l.prog w K mg base 11 Ae "lay_draft" ["self"] (DM K Ae Aa Ad):=⟨_,_,JS T F43 UI BQ,⟨a43,i43,k43⟩,b43⟩
 have DN:Def l.prog w K mg base 12 "read_thing" ["reader","deep"] (FM K Ab):=⟨_,_,Mi T F11 Az Cj (W.mg_of X G a11) k11 b11,W.mg_of X G a11,k11,b11⟩
 have Jn:Def l.prog w K mg base 13 "thing_of" ["words"] (Hm K):=⟨_,_,OP T F7 DP DN AZ,W.mg_of X G a7,k7,b7⟩
 have HQ:A2 l.prog w K mg base 13 Ae "take" ["self","tag","block"] (G4 K Ae Aa):=⟨_,_,Nz T F35 DZ DI EK DE,⟨a35,i35,k35⟩,b35⟩
 have Jc:Def l.prog w K mg base 14 "thing_on" ["boards","board","number"] (HN K Ad):=⟨_,_,OE T F29 Gg Jj Jn,W.mg_of X G a29,k29,b29⟩
 have IK:Def l.prog w K mg base 15 "block_on" ["boards","board","tag"] (Fz K Ad):=⟨_,_,OT T F28 Jc Bp IL DT,W.mg_of X G a28,k28,b28⟩
 have J4:Def l.prog w K mg base 16 "fetched" ["boards","tag"] (IV K Ad):=⟨_,_,QP T F27 Cc IK,W.mg_of X G a27,k27,b27⟩
 have CV:A2 l.prog w K mg base 17 Ae "block" ["self","tag"] (Dc K Ae Aa Ad):=⟨_,_,Mf T F38 J4,⟨a38,i38,k38⟩,b38⟩
 have G7:A2 l.prog w K mg base 18 Ae "alike" ["self","block"] (FZ K Ae Aa):=⟨_,_,Mo T F33 DT CV BQ,⟨a33,i33,k33⟩,b33⟩
 have ET:Def l.prog w K mg base 18 "_law_right" ["_law_pool","_law_some","_law_held"] (FH K Ae Aa Ad):=⟨_,_,Mv T F65 Be BZ CO CV,W.mg_of X G a65,k65,b65⟩
 have Jd:A2 l.prog w K mg base 19 Ae "put" ["self","block","birth"] (HE K Ae Aa):=⟨_,_,Od T F32 G7 HQ Do DT,⟨a32,i32,k32⟩,b32⟩
 exact XU T F66 FV HL Ej Jg ET G1 Jd D6 DE B8 GA Be FC
theorem walk {l:W.OpenLaw} {q:Program} {loose:List Str} {XP:(Str->Option Value)->Heap->Prop} {YP:World->Heap->Prop} {d:DefRec} {K:Params->W.Frag} (hn:l.most=some 63) (hdf:d.params.defaults=[])
  (hY:∀(w:World) (h:Heap),YP w h->(K w.params).In h)
  (F:∀(w:World) (mg:Str->Option Value) (fa:Addr) (h:Heap),(K w.params).In h->h.Ns mainGlobals mg->mg d.name=some (.ref fa)->
   ∃fd:FuncData,(∀(s:Shared) (u:Value),BindsTo s fd ⟨[u],[]⟩ [("_law_script",u)])/\∀base:Heap,(K w.params).In base->base.Ns mainGlobals mg->FnOk l.prog w (K w.params) mg base Cf 20 fa fd ["_law_script"] (Nq (K w.params))) :
  W.WalkO q loose XP YP l.row.toRowW d [] (fun f vs=>PySem.call f vs):=
 L2.V8 (n:=63) (k:=20) (x:="_law_script") (CX:=fun _=>Cf) (sp:=fun w=>Nq (K w.params)) hn (by decide) hdf ⟨rfl,by decide,by decide⟩ hY F (fun _ _ a ns hl _ hS=>⟨a,ns,rfl,hS,hl,fun _=>rfl⟩) fun _ _ _ _ _ z=>z
end K26
def PySem.W.Fast.tw15641715125113993005:Type:=PySem.Expr
theorem PySem.W.Fast.te15641715125113993005:PySem.Expr = PySem.W.Fast.tw15641715125113993005:=rfl
def PySem.W.Fast.tw90343872475197607:Type:=PySem.Params
theorem PySem.W.Fast.te90343872475197607:PySem.Params = PySem.W.Fast.tw90343872475197607:=rfl
open PySem PySem.W PyProof.Rows
set_option maxRecDepth 100000 in
set_option maxHeartbeats 0 in
theorem PySem.Challenge.cw_stemshelf_k26_counts_through_deeds_holds : PySem.Challenge.rw_stemshelf_k26_counts_through_deeds.Holds := by
 w_on;o_law;k_head;(case hw=>w_witness2)
 k_fill
 refine K26.walk (l:=PySem.Challenge.rw_stemshelf_k26_counts_through_deeds) rfl rfl (fun w h Y=>W.kIn_of Y) ?F
 case F=>
  intro w mg fa h KX G hmg
  refine' K26.all_mk KX G hmg ?a0 ?l0 ?c0 ?k0 ?a1 ?l1 ?c1 ?k1 ?a2 ?l2 ?c2 ?k2 ?a3 ?l3 ?c3 ?k3 ?a4 ?l4 ?c4 ?k4 ?a5 ?l5 ?c5 ?k5 ?a6 ?l6 ?c6 ?k6 ?a7 ?l7 ?c7 ?k7 ?a8 ?i8 ?l8 ?c8 ?k8 ?a9 ?i9 ?l9 ?c9 ?k9 ?a10 ?i10 ?l10 ?c10 ?k10 ?a11 ?l11 ?c11 ?k11 ?a12 ?l12 ?c12 ?k12 ?a13 ?l13 ?c13 ?k13 ?a14 ?l14 ?c14 ?k14 ?a15 ?l15 ?c15 ?k15 ?a16 ?l16 ?c16 ?k16 ?a17 ?l17 ?c17 ?k17 ?a18 ?l18 ?c18 ?k18 ?a19 ?l19 ?c19 ?k19 ?a20 ?l20 ?c20 ?k20 ?a21 ?l21 ?c21 ?k21 ?a22 ?l22 ?c22 ?k22 ?a23 ?l23 ?c23 ?k23 ?a24 ?l24 ?c24 ?k24 ?a25 ?l25 ?c25 ?k25 ?a26 ?l26 ?c26 ?k26 ?a27 ?l27 ?c27 ?k27 ?a28 ?l28 ?c28 ?k28 ?a29 ?l29 ?c29 ?k29 ?a30 ?i30 ?l30 ?c30 ?k30 ?a31 ?i31 ?l31 ?c31 ?k31 ?a32 ?i32 ?l32 ?c32 ?k32 ?a33 ?i33 ?l33 ?c33 ?k33 ?a34 ?i34 ?l34 ?c34 ?k34 ?a35 ?i35 ?l35 ?c35 ?k35 ?a36 ?i36 ?l36 ?c36 ?k36 ?a37 ?i37 ?l37 ?c37 ?k37 ?a38 ?i38 ?l38 ?c38 ?k38 ?a39 ?i39 ?l39 ?c39 ?k39 ?a40 ?i40 ?l40 ?c40 ?k40 ?a41 ?i41 ?l41 ?c41 ?k41 ?a42 ?i42 ?l42 ?c42 ?k42 ?a43 ?i43 ?l43 ?c43 ?k43 ?a44 ?i44 ?l44 ?c44 ?k44 ?a45 ?i45 ?l45 ?c45 ?k45 ?a46 ?i46 ?l46 ?c46 ?k46 ?a47 ?i47 ?l47 ?c47 ?k47 ?a48 ?i48 ?l48 ?c48 ?k48 ?a49 ?i49 ?l49 ?c49 ?k49 ?a50 ?i50 ?l50 ?c50 ?k50 ?a51 ?i51 ?l51 ?c51 ?k51 ?a52 ?i52 ?l52 ?c52 ?k52 ?a53 ?i53 ?l53 ?c53 ?k53 ?a54 ?i54 ?l54 ?c54 ?k54 ?a55 ?i55 ?l55 ?c55 ?k55 ?a56 ?i56 ?l56 ?c56 ?k56 ?a57 ?l57 ?c57 ?k57 ?a58 ?l58 ?c58 ?k58 ?a59 ?l59 ?c59 ?k59 ?a60 ?l60 ?c60 ?k60 ?a61 ?l61 ?c61 ?k61 ?a62 ?l62 ?c62 ?k62 ?a63 ?l63 ?c63 ?k63 ?a64 ?l64 ?c64 ?k64 ?a65 ?l65 ?c65 ?k65 ?a66 ?l66 ?c66 ?k66 ?FX ?FU ?FI ?Gb ?FT ?FG ?FJ ?n_WordReader_words ?n_WordReader_place ?Kh ?JX ?Kd ?Kr ?Kf ?Ks ?J7 ?n_Boards_shelves ?n_Boards_writes ?n_Boards_writes_left ?G6 ?GR ?G3 ?Hc ?GM ?GG ?GZ ?n_TakenCell_own_tag ?n_TakenCell_own_size ?n_TakenCell_named ?n_TakenCell_times_named ?n_TakenCell_entries_beneath ?n_TakenCell_steps_beneath ?Nr ?ND ?NC ?NX ?Ny ?NY ?N4 ?n_Pool_boards ?n_Pool_taken ?n_Pool_by_sums ?n_Pool_draft ?n_Pool_first_maybe_free ?x_Lost ?x_NoThing ?Td ?UL ?QC ?Qw ?HF ?TL ?G2 ?UE ?PJ ?SU ?S4 ?NP ?Ta ?Ly ?U0 ?S9 ?Nj ?N8 ?FR ?G9 ?GL ?Hy ?Gc ?Hv ?GN ?NI ?Ts ?LP ?GY ?Fw ?GT ?DO ?Hr ?GU ?HV ?Dp ?GS ?Hw ?Fi ?GQ ?Fb ?FW
  (case FX|Kh|G6|Nr|x_Lost|x_NoThing|a0|l0|c0|k0|a1|l1|c1|k1|a2|l2|c2|k2|a3|l3|c3|k3|a4|l4|c4|k4|a5|l5|c5|k5|a6|l6|c6|k6|a7|l7|c7|k7|a8|i8|l8|c8|k8|a9|i9|l9|c9|k9|a10|i10|l10|c10|k10|a11|l11|c11|k11|a12|l12|c12|k12|a13|l13|c13|k13|a14|l14|c14|k14|a15|l15|c15|k15|a16|l16|c16|k16|a17|l17|c17|k17|a18|l18|c18|k18|a19|l19|c19|k19|a20|l20|c20|k20|a21|l21|c21|k21|a22|l22|c22|k22|a23|l23|c23|k23|a24|l24|c24|k24|a25|l25|c25|k25|a26|l26|c26|k26|a27|l27|c27|k27|a28|l28|c28|k28|a29|l29|c29|k29|a30|i30|l30|c30|k30|a31|i31|l31|c31|k31|a32|i32|l32|c32|k32|a33|i33|l33|c33|k33|a34|i34|l34|c34|k34|a35|i35|l35|c35|k35|a36|i36|l36|c36|k36|a37|i37|l37|c37|k37|a38|i38|l38|c38|k38|a39|i39|l39|c39|k39|a40|i40|l40|c40|k40|a41|i41|l41|c41|k41|a42|i42|l42|c42|k42|a43|i43|l43|c43|k43|a44|i44|l44|c44|k44|a45|i45|l45|c45|k45|a46|i46|l46|c46|k46|a47|i47|l47|c47|k47|a48|i48|l48|c48|k48|a49|i49|l49|c49|k49|a50|i50|l50|c50|k50|a51|i51|l51|c51|k51|a52|i52|l52|c52|k52|a53|i53|l53|c53|k53|a54|i54|l54|c54|k54|a55|i55|l55|c55|k55|a56|i56|l56|c56|k56|a57|l57|c57|k57|a58|l58|c58|k58|a59|l59|c59|k59|a60|l60|c60|k60|a61|l61|c61|k61|a62|l62|c62|k62|a63|l63|c63|k63|a64|l64|c64|k64|a65|l65|c65|k65|a66|l66|c66|k66|FU|FI|Gb|FT|FG|FJ|n_WordReader_words|n_WordReader_place|JX|Kd|Kr|Kf|Ks|J7|n_Boards_shelves|n_Boards_writes|n_Boards_writes_left|GR|G3|Hc|GM|GG|GZ|n_TakenCell_own_tag|n_TakenCell_own_size|n_TakenCell_named|n_TakenCell_times_named|n_TakenCell_entries_beneath|n_TakenCell_steps_beneath|ND|NC|NX|Ny|NY|N4|n_Pool_boards|n_Pool_taken|n_Pool_by_sums|n_Pool_draft|n_Pool_first_maybe_free|Td|UL|QC|Qw|HF|TL|G2|UE|PJ|SU|S4|NP|Ta|Ly|U0|S9|Nj|N8|FR|G9|GL|Hy|Gc|Hv|GN|NI|Ts|LP|GY|Fw|GT|DO|Hr|GU|HV|Dp|GS|Hw|Fi|GQ|Fb|FW=>k_is)
