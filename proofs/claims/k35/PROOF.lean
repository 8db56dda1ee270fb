import PyProof.Rows.All
import Wide.All
import OpenK.AllK
import Wide.FinOn
import Lean
import PyProof.EqAt
import PyProof.EqKinds
import PyProof.TupleCall
import PySem.Challenge.RW_stemshelf_k35_trees_refused
set_option Elab.async false
set_option linter.all false
set_option maxRecDepth 100000
namespace L2
open PySem PySem.Spec PyProof.Rows
abbrev Key:=Sum Int Str
def K2:Key->Value->Bool
 | .inl k,v=>Value.isInt k v
 | .inr x,v=>Value.isStrOf x v
def V7 (w:World):Key->Int
 | .inl k=>hashInt k
 | .inr x=>hashStr w x
theorem Bh:∀{k:Key} {v:Value},K2 k v=true->(∃i t,k=Sum.inl i/\v=Value.int i t)\/(∃x t,k=Sum.inr x/\v=Value.str x t)
 | .inl i,v,h=>by
  obtain⟨t,e⟩:=Value.isInt_shape (k:=i) (v:=v) h;exact .inl ⟨i,t,rfl,e⟩
 | .inr x,v,h=>by
  obtain⟨t,e⟩:=Value.isStrOf_shape (x:=x) (v:=v) h;exact .inr ⟨x,t,rfl,e⟩
theorem Qm (i:Int)(t:Tok):K2 (.inl i) (.int i t)=true:=by simp[K2,Value.isInt]
theorem Px (x:Str)(t:Tok):K2 (.inr x) (.str x t)=true:=by simp[K2,Value.isStrOf]
theorem Ux (a b:Int):decide ((Sum.inl a:Key)=Sum.inl b)=(a == b):=by
 by_cases e:a=b
 ·subst e;simp
 ·have h:¬(Sum.inl a:Key)=Sum.inl b:=fun q=>e (Sum.inl.inj q)
  rw[decide_eq_false h];exact(beq_eq_false_iff_ne.mpr e).symm
theorem UK (a b:Str):decide ((Sum.inr a:Key)=Sum.inr b)=decide (a=b):=by
 by_cases e:a=b
 ·subst e;simp
 ·have h:¬(Sum.inr a:Key)=Sum.inr b:=fun q=>e (Sum.inr.inj q)
  rw[decide_eq_false h,decide_eq_false e]
theorem U5 (a:Int)(b:Str):decide ((Sum.inl a:Key)=Sum.inr b)=false:=decide_eq_false (fun q=>nomatch q)
theorem Vn (a:Str)(b:Int):decide ((Sum.inr a:Key)=Sum.inl b)=false:=decide_eq_false (fun q=>nomatch q)
def AQ (prog:Program)(w:World):PySem.KeyKind prog w Key where
 is:=K2
 hash:=V7 w
 inj:=fun v a b ha hb=>by
  rcases Bh ha with⟨i,t,rfl,rfl⟩|⟨x,t,rfl,rfl⟩
  ·rcases Bh hb with⟨j,u,rfl,e⟩|⟨y,u,rfl,e⟩
   ·injection e with e1 _;rw[e1]
   ·exact nomatch e
  ·rcases Bh hb with⟨j,u,rfl,e⟩|⟨y,u,rfl,e⟩
   ·exact nomatch e
   ·injection e with e1 _;rw[e1]
 byValue:=fun k v h=>by
  rcases Bh h with⟨i,t,rfl,rfl⟩|⟨x,t,rfl,rfl⟩<;>rfl
 pyHash:=fun hv h=>by
  rcases Bh hv with⟨i,t,rfl,rfl⟩|⟨x,t,rfl,rfl⟩
  ·exact wpAny_pyHash_int h
  ·exact wpAny_pyHash_str h
 eqBool:=fun hu hv h=>by
  rcases Bh hu with⟨i,t,rfl,rfl⟩|⟨x,t,rfl,rfl⟩
  ·rcases Bh hv with⟨j,u,rfl,rfl⟩|⟨y,u,rfl,rfl⟩
   ·rw[Ux] at h;exact wpAny_eqBool_int h
   ·rw[U5] at h;exact SeqAt.EqAt.int_str i t y u _ _ _ _ h
  ·rcases Bh hv with⟨j,u,rfl,rfl⟩|⟨y,u,rfl,rfl⟩
   ·rw[Vn] at h;exact SeqAt.EqAt.str_int x t j u _ _ _ _ h
   ·rw[UK] at h;exact wpAny_eqBool_str h
 «strs»:=fun k x t v h=>by
  rcases Bh h with⟨i,u,rfl,e⟩|⟨y,u,rfl,e⟩
  ·exact nomatch e
  ·injection e with e1 _
   subst e1;cases v<;>rfl
theorem MV (prog:Program)(w:World)(i:Int)(t:Tok):(AQ prog w).is (.inl i) (.int i t)=true:=Qm i t
theorem MX (prog:Program)(w:World)(x:Str)(t:Tok):(AQ prog w).is (.inr x) (.str x t)=true:=Px x t
inductive V where
 |non|bl (b:Bool)|int (i:Int)|str (x:Str)|byt (b:Array UInt8)|flt (b:UInt64)|ref (a:Addr)|ty (n:String)
 deriving DecidableEq
def RelV:V->Value->Prop
 | .non,u=>u=Value.none
 | .bl b,u=>u=Value.bool b
 | .int i,u=>∃t,u=Value.int i t
 | .str x,u=>∃t,u=Value.str x t
 | .byt b,u=>∃t,u=Value.bytes b t
 | .flt b,u=>∃t,u=Value.float b t
 | .ref a,u=>u=Value.ref a
 | .ty n,u=>u=Value.type n
abbrev Aw:List V->List Value->Prop:=Paired RelV
theorem Aw.length {xs:List V}{us:List Value}(r:Aw xs us):xs.length=us.length:=Paired.length r
theorem Aw.get:∀{xs:List V} {us:List Value} {i:Nat} {x:V},Aw xs us->xs[i]?=some x->∃u,us[i]?=some u/\RelV x u
 |_,_,_,_,.nil,e=>by simp at e
 |_,_,0,_,.cons r _,e=>by simp at e;subst e;exact⟨_,rfl,r⟩
 |_,_,i+1,x,.cons _ t,e=>by
  obtain⟨u,h1,h2⟩:=Aw.get (i:=i) (x:=x) t (by simpa using e);exact⟨u,by simpa using h1,h2⟩
theorem Aw.set {x:V}{u:Value}(r:RelV x u):∀{xs:List V} {us:List Value} (i:Nat),Aw xs us->Aw (xs.set i x) (us.set i u)
 |_,_,_,.nil=>.nil
 |_,_,0,.cons _ t=>.cons r t
 |_,_,i+1,.cons q t=>.cons q (Aw.set r i t)
theorem Aw.append:∀{xs ys:List V} {us ws:List Value},Aw xs us->Aw ys ws->Aw (xs++ys) (us++ws)
 |_,_,_,_,.nil,s=>s
 |_,_,_,_,.cons r t,s=>.cons r (Aw.append t s)
theorem Aw.take:∀{xs:List V} {us:List Value} (n:Nat),Aw xs us->Aw (xs.take n) (us.take n)
 |_,_,0,_=>.nil
 |_,_,_+1,.nil=>.nil
 |_,_,n+1,.cons r t=>.cons r (Aw.take n t)
theorem Aw.drop:∀{xs:List V} {us:List Value} (n:Nat),Aw xs us->Aw (xs.drop n) (us.drop n)
 |_,_,0,r=>r
 |_,_,_+1,.nil=>.nil
 |_,_,n+1,.cons _ t=>Aw.drop n t
theorem Aw.none_of:∀{xs:List V} {us:List Value} {i:Nat},Aw xs us->xs[i]?=none->us[i]?=none:=fun{xs us i} r e=>by
 have h1:=r.length;have h2:xs.length<=i:=List.getElem?_eq_none_iff.mp e;exact List.getElem?_eq_none_iff.mpr (by omega)
def Eb:Option V->Option Value->Prop
 |some v,some u=>RelV v u
 |none,none=>True
 |_,_=>False
def KV {κ:Type}:List (κ×V)->List (κ×Value)->Prop:=Paired fun(p:κ×V) (q:κ×Value)=>p.1=q.1/\RelV p.2 q.2
def kV:Key->V
 | .inl i=>.int i
 | .inr x=>.str x
inductive HO where
 |lst (xs:List V)
 |tup (xs:List V)
 |dK (kvs:List (Key×V))|dT (kvs:List (List Key×V))
 |set (S:Int->Bool) (n:Nat)
 |ins (C dx:Addr) (fs:List (Str×V))
 |own (x:Addr)
 |xd (fs:List (Str×V))
 |met (f x:Addr)
 |rng (lo hi:Int)
 |frz (o:Obj) (u:HO)
 |tbl (ps:Array Value)
 |ext (φ:Heap->Prop)
abbrev Hp:=Addr->Option HO
def upd (H:Hp)(a:Addr)(o:HO):Hp:=fun b=>if b=a then some o else H b
theorem Ac {H:Hp}{a:Addr}{o:HO}:upd H a o a=some o:=by unfold upd;rw[if_pos rfl]
theorem Ag {H:Hp}{a b:Addr}{o:HO}(h:b≠a):upd H a o b=H b:=by unfold upd;rw[if_neg h]
theorem Ho {H:Hp}{a:Addr}{o u:HO}:upd (upd H a o) a u=upd H a u:=by
 funext b;unfold upd;split<;>rfl
theorem Ce {H:Hp}{a b:Addr}{o u:HO}(h:H a=some o)(h':H b=some u)(d:o≠u):a≠b:=by
 intro e;subst e;rw[h] at h';exact d (Option.some.inj h')
theorem A4 {H:Hp}{a b:Addr}{o:HO}(h:H a=some o)(h':H b=none):a≠b:=by
 intro e;subst e;rw[h] at h';cases h'
def W0:List V->Bool
 |[.int _,_]=>true
 |_=>false
def Mh (b:Bool)(h:Heap)(a:Addr)(items:Array Value):Prop:=∃o,h.get? a=some o/\o.cls=.type "tuple"/\∃n,o.data=.seq items n/\(b=false->o.dict=none)
theorem Mh.is {b:Bool}{h:Heap}{a:Addr}{items:Array Value}(x:Mh b h a items):IsTup h a items:=let⟨o,e,c,n,d,_⟩:=x;⟨o,e,c,n,d⟩
theorem Mh.lt {b:Bool}{h:Heap}{a:Addr}{items:Array Value}(x:Mh b h a items):a<h.objs.size:=x.is.lt
theorem Mh.new {b:Bool}(h:Heap)(items:Array Value):Mh b (h.push { cls:=.type "tuple",data:=.seq items }) h.objs.size items:=⟨_,Heap.get?_push_size _ rfl,rfl,_,rfl,fun _=>rfl⟩
section
variable (P:Program)(w:World)
def AN (H:Hp)(h:Heap)(a:Addr):HO->Prop
 | .lst xs=>xs.length<=sizeLine/\∃(its:List Value) (n:Nat),Aw xs its/\h.get? a=some { cls:=.type "list",data:=.seq its.toArray n }
 | .tup xs=>xs.length<=sizeLine/\∃its:List Value,Aw xs its/\Mh (W0 xs) h a its.toArray
 | .dK kvs=>kvs.length<=sizeLine/\(a == sysModules)=false/\∃vs,KV kvs vs/\h.DictOf (AQ P w) a vs
 | .dT kvs=>kvs.length<=sizeLine/\(a == sysModules)=false/\∃xs:List (List Key×Addr×Value),
   Paired (fun(p:List Key×V) (q:List Key×Addr×Value)=>p.1=q.1/\H q.2.1=some (.tup (p.1.map kV))/\RelV p.2 q.2.2) kvs xs/\
   ∃o es ep,h.get? a=some o/\o.ExactDict/\o.data=.dict es ep/\es.toList=xs.map (entryOfKey (tupleKind (AQ P w)))/\(xs.map (·.1)).Nodup
 | .set S n=>h.SetOf (intKind P w) a S n
 | .ins C dx fs=>H dx=some (.own a)/\fs.length<=1000/\dx≠a/\h.get? a=some (PySem.W.instObj C dx)/\
   ∃mA,h.Ns1 dx mA/\(∀f,Eb (fs.lookup f) (mA f))/\PySem.Within mA (fs.map (·.1))
 | .own _=>∃o,h.get? a=some o
 | .xd fs=>∃mA,h.Ns1 a mA/\∀f,Eb (fs.lookup f) (mA f)
 | .rng lo hi=>∃t u v,h.get? a=some { cls:=.type "range",data:=.fields #[.int lo t,.int hi u,.int 1 v] }
 | .frz o u=>h.get? a=some o/\AN H h a u
 | .tbl ps=>h.get? a=some { cls:=.none,data:=.fields ps }
 | .met f x=>h.get? a=some (PySem.W.methodObj (.ref f) (.ref x))
 | .ext φ=>φ h/\(∃o,h.get? a=some o)/\∀h1 h2:Heap,φ h1->(∀o,h1.get? a=some o->h2.get? a=some o)->φ h2
def Gb (H:Hp)(h:Heap):Prop:=∀a o,H a=some o->AN P w H h a o
end
section
variable {P:Program}{w:World}{H H':Hp}{h h':Heap}{a:Addr}{o:HO}
theorem AN.lt (x:AN P w H h a o):a<h.objs.size:=by
 cases o with
 |lst xs=>obtain⟨_,_,_,_,e⟩:=x;exact Heap.lt_size e
 |tup xs=>obtain⟨_,_,_,p⟩:=x;exact p.lt
 |dK kvs=>obtain⟨_,_,_,_,o,_,_,e,_⟩:=x;exact Heap.lt_size e
 |dT kvs=>obtain⟨_,_,_,_,o,_,_,e,_⟩:=x;exact Heap.lt_size e
 |set S n=>obtain⟨o,_,_,_,e,_⟩:=x;exact Heap.lt_size e
 |ins C dx fs=>obtain⟨_,_,_,e,_⟩:=x;exact Heap.lt_size e
 |own y=>obtain⟨_,e⟩:=x;exact Heap.lt_size e
 |xd fs=>obtain⟨_,⟨_,_,_,e,_⟩,_⟩:=x;exact Heap.lt_size e
 |rng lo hi=>obtain⟨_,_,_,e⟩:=x;exact Heap.lt_size e
 |frz ob u=>obtain⟨e,_⟩:=x;exact Heap.lt_size e
 |tbl ps=>exact Heap.lt_size (show h.get? a=some _ from x)
 |met f y=>exact Heap.lt_size (show h.get? a=some _ from x)
 |ext φ=>obtain⟨_,⟨_,e⟩,_⟩:=x;exact Heap.lt_size e
theorem Paired.mapP {α β:Type}{F G:α->β->Prop}:∀{l₁:List α} {l₂:List β},Paired F l₁ l₂->(∀a b,F a b->G a b)->Paired G l₁ l₂
 |_,_,.nil,_=>.nil
 |_,_,.cons r t,f=>.cons (f _ _ r) (Paired.mapP t f)
theorem AN.stay (x:AN P w H h a o) (k:∀b u,(b=a\/H b=some (.own a))->h.get? b=some u->h'.get? b=some u)
  (ho:∀b,H b=some (.own a)->H' b=some (.own a)) (ht:∀b xs,H b=some (.tup xs)->H' b=some (.tup xs)):AN P w H' h' a o:=by
 induction o with
 |lst xs=>obtain⟨z,its,n,r,e⟩:=x;exact⟨z,its,n,r,k _ _ (.inl rfl) e⟩
 |tup xs=>obtain⟨z,its,r,ob,e,c⟩:=x;exact⟨z,its,r,ob,k _ _ (.inl rfl) e,c⟩
 |dK kvs=>obtain⟨z,y,vs,r,ob,es,ep,e,c⟩:=x;exact⟨z,y,vs,r,ob,es,ep,k _ _ (.inl rfl) e,c⟩
 |dT kvs=>
  obtain⟨z,y,xs,r,ob,es,ep,e,c⟩:=x;exact⟨z,y,xs,Paired.mapP r fun p q z=>⟨z.1,ht _ _ z.2.1,z.2.2⟩,ob,es,ep,k _ _ (.inl rfl) e,c⟩
 |set S n=>obtain⟨ob,es,ep,t,e,c⟩:=x;exact⟨ob,es,ep,t,k _ _ (.inl rfl) e,c⟩
 |ins C dx fs=>
  obtain⟨d,z,ne,e,mA,⟨od,es,ep,e2,c⟩,r⟩:=x;exact⟨ho _ d,z,ne,k _ _ (.inl rfl) e,mA,⟨od,es,ep,k _ _ (.inr d) e2,c⟩,r⟩
 |own y=>obtain⟨ob,e⟩:=x;exact⟨ob,k _ _ (.inl rfl) e⟩
 |xd fs=>obtain⟨mA,⟨od,es,ep,e,c⟩,r⟩:=x;exact⟨mA,⟨od,es,ep,k _ _ (.inl rfl) e,c⟩,r⟩
 |rng lo hi=>obtain⟨t,u,v,e⟩:=x;exact⟨t,u,v,k _ _ (.inl rfl) e⟩
 |frz ob u ih=>obtain⟨e,q⟩:=x;exact⟨k _ _ (.inl rfl) e,ih q⟩
 |tbl ps=>
  have e:h.get? a=some { cls:=.none,data:=.fields ps }:=x;show h'.get? a=some { cls:=.none,data:=.fields ps };exact k a _ (.inl rfl) e
 |met f y=>
  have e:h.get? a=some (PySem.W.methodObj (.ref f) (.ref y)):=x;show h'.get? a=some (PySem.W.methodObj (.ref f) (.ref y));exact k a _ (.inl rfl) e
 |ext φ=>obtain⟨p,⟨o,e⟩,st⟩:=x;exact⟨st _ _ p fun o q=>k _ _ (.inl rfl) q,⟨o,k _ _ (.inl rfl) e⟩,st⟩
theorem Gb.lt (x:Gb P w H h)(e:H a=some o):a<h.objs.size:=(x a o e).lt
theorem Gb.fresh (x:Gb P w H h)(e:h.objs.size<=a):H a=none:=by
 cases q:H a with
 |none=>rfl
 |some u=>exact absurd (Nat.lt_of_lt_of_le (x.lt q) e) (Nat.lt_irrefl _)
theorem Gb.kept (x:Gb P w H h)(k:∀b u,h.get? b=some u->h'.get? b=some u):Gb P w H h':=fun a o e=>
 (x a o e).stay (fun b u _ q=>k b u q) (fun _ q=>q) fun _ _ q=>q
theorem Gb.laid (x:Gb P w H h)(k:∀b u,h.get? b=some u->h'.get? b=some u)(hp:h.objs.size<=a)(new:AN P w (upd H a o) h' a o):Gb P w (upd H a o) h':=fun b u e=>by
 have hn:=x.fresh hp
 by_cases hb:b=a
 ·subst hb;rw[Ac] at e;cases e;exact new
 ·rw[Ag hb] at e;exact(x b u e).stay (fun c v _ q=>k c v q) (fun c q=>by rw[Ag (A4 q hn)];exact q) fun c xs q=>by rw[Ag (A4 q hn)];exact q
end
def Rd (H:Hp)(a:Addr)(u:HO):Prop:=H a=some u\/∃o,H a=some (.frz o u)
theorem Rd.of {H:Hp}{a:Addr}{u:HO}(h:H a=some u):Rd H a u:=.inl h
theorem Rd.ok {P:Program}{w:World}{H:Hp}{h:Heap}{a:Addr}{u:HO}(r:Rd H a u)(x:Gb P w H h):AN P w H h a u:=by
 rcases r with r|⟨o,r⟩
 ·exact x a u r
 ·obtain⟨_,q⟩:=x a _ r;exact q
def VU:Option HO->Prop
 |some (.lst _)=>True
 |some (.dK _)=>True
 |some (.dT _)=>True
 |some (.set _ _)=>True
 |some (.ins _ _ _)=>True
 |some (.ext _)=>True
 |_=>False
section
variable {P:Program}{w:World}{H:Hp}{h h':Heap}{x e:Addr}{o':HO}
theorem Gb.write (ok:Gb P w H h) (mu:VU (H x)) (he:e=x\/H e=some (.own x)) (k:∀b u,b≠e->h.get? b=some u->h'.get? b=some u) (heo:∃u,h'.get? e=some u)
  (new:AN P w (upd H x o') h' x o'):Gb P w (upd H x o') h':=fun b u q=>by
 have nown:∀c y,H c=some (.own y)->c≠x:=fun c y r z=>by subst z;rw[r] at mu;exact mu
 have ntup:∀c xs,H c=some (.tup xs)->c≠x:=fun c xs r z=>by subst z;rw[r] at mu;exact mu
 by_cases hb:b=x
 ·subst hb;rw[Ac] at q;cases q;exact new
 ·rw[Ag hb] at q
  by_cases hbe:b=e
  ·have q':H b=some (.own x):=by
    rcases he with z|z
    ·exact absurd (hbe.trans z) hb
    ·rw[hbe];exact z
   rw[q] at q';cases q';obtain⟨v,hv⟩:=heo;exact⟨v,by rw[hbe];exact hv⟩
  ·refine(ok b u q).stay (fun c v hc r=>k c v ?_ r) (fun c r=>by rw[Ag (nown c b r)];exact r) fun c xs r=>by rw[Ag (ntup c xs r)];exact r
   rcases hc with rfl|hc
   ·exact hbe
   ·rintro rfl
    rcases he with z|z
    ·exact nown c b hc z
    ·rw[hc] at z;cases z;exact hb rfl
end
structure Un (fs ex:List Addr) (H H':Hp) (h h':Heap):Prop where
 keep:∀b o,h.get? b=some o->H b=none->b∉fs->b∉ex->h'.get? b=some o
 slot:∀b o,h.get? b=some o->H b=none->b∈fs->b∉ex->∃sl,h'.get? b=some { o with slots:=sl }
 free:∀b o,h.get? b=some o->H b=none->b∉ex->H' b=none
 there:∀b o,h.get? b=some o->b∉ex->∃o',h'.get? b=some o'
 tups:∀b xs,H b=some (.tup xs)->H' b=some (.tup xs)
 frzs:∀b o u,H b=some (.frz o u)->H' b=some (.frz o u)
 tbls:∀b ps,H b=some (.tbl ps)->∃more,H' b=some (.tbl (ps++more))
section
variable {fs fs' ex ex':List Addr}{H H1 H2:Hp}{h h1 h2 h':Heap}{a x e:Addr}{o:HO}
theorem Un.any (u:Un fs ex H H1 h h1){b:Addr}{ob:Obj}(q:h.get? b=some ob)(n:H b=none)(hx:b∉ex):∃sl,h1.get? b=some { ob with slots:=sl }:=by
 by_cases hb:b∈fs
 ·exact u.slot b ob q n hb hx
 ·exact⟨ob.slots,u.keep b ob q n hb hx⟩
theorem Un.trans (a:Un fs ex H H1 h h1)(b:Un fs ex H1 H2 h1 h2):Un fs ex H H2 h h2 where
 keep:=fun c ob q n hc hx=>b.keep c ob (a.keep c ob q n hc hx) (a.free c ob q n hx) hc hx
 slot:=fun c ob q n hc hx=>by
  obtain⟨sl,e1⟩:=a.slot c ob q n hc hx;obtain⟨sl',e2⟩:=b.slot c _ e1 (a.free c ob q n hx) hc hx;exact⟨sl',e2⟩
 free:=fun c ob q n hx=>by
  obtain⟨o',e1⟩:=a.there c ob q hx;exact b.free c o' e1 (a.free c ob q n hx) hx
 there:=fun c ob q hx=>by
  obtain⟨o',e1⟩:=a.there c ob q hx;exact b.there c o' e1 hx
 tups:=fun c xs q=>b.tups c xs (a.tups c xs q)
 frzs:=fun c ob xs q=>b.frzs c ob xs (a.frzs c ob xs q)
 tbls:=fun c ps q=>by
  obtain⟨m1,e1⟩:=a.tbls c ps q;obtain⟨m2,e2⟩:=b.tbls c _ e1;exact⟨m1++m2,by rw[e2,Array.append_assoc]⟩
theorem Un.kept (k:∀b u,h.get? b=some u->h'.get? b=some u):Un fs ex H H h h':=
 ⟨fun b ob q _ _ _=>k b ob q,fun b ob q _ _ _=>⟨ob.slots,k b ob q⟩,fun _ _ _ n _=>n,fun b ob q _=>⟨ob,k b ob q⟩,fun _ _ q=>q,fun _ _ _ q=>q,fun _ ps q=>⟨#[],by rw[q];simp⟩⟩
theorem Un.refl:Un fs ex H H h h:=Un.kept fun _ _ q=>q
theorem Un.laid (k:∀b u,h.get? b=some u->h'.get? b=some u)(hp:h.objs.size<=a)(hn:H a=none):Un fs ex H (upd H a o) h h' where
 keep:=fun b u q _ _ _=>k b u q
 slot:=fun b u q _ _ _=>⟨u.slots,k b u q⟩
 free:=fun b u q n _=>by rw[Ag (Nat.ne_of_lt (Nat.lt_of_lt_of_le (Heap.lt_size q) hp))];exact n
 there:=fun b u q _=>⟨u,k b u q⟩
 tups:=fun b xs q=>by rw[Ag (A4 q hn)];exact q
 frzs:=fun b u xs q=>by rw[Ag (A4 q hn)];exact q
 tbls:=fun b ps q=>⟨#[],by rw[Ag (A4 q hn),q];simp⟩
theorem Un.write (mu:VU (H x))(he:e=x\/H e=some (.own x))(k:∀b u,b≠e->h.get? b=some u->h'.get? b=some u)(heo:∃u,h'.get? e=some u):Un fs ex H (upd H x o) h h':=by
 have hx:∀b,H b=none->b≠x:=fun b n z=>by subst z;rw[n] at mu;exact mu
 have hb:∀b,H b=none->b≠e:=fun b n z=>by
  subst z;rcases he with r|r
  ·exact hx b n r
  ·rw[n] at r;cases r
 have hm:∀b u,H b=some u->¬VU (some u)->b≠x:=fun b u q nm z=>by subst z;rw[q] at mu;exact nm mu
 refine⟨fun b u q n _ _=>k b u (hb b n) q,fun b u q n _ _=>⟨u.slots,k b u (hb b n) q⟩,fun b u q n _=>by rw[Ag (hx b n)];exact n,fun b u q _=>?_,
  fun b xs q=>by rw[Ag (hm b _ q fun z=>z)];exact q,fun b u xs q=>by rw[Ag (hm b _ q fun z=>z)];exact q,fun b ps q=>⟨#[],by rw[Ag (hm b _ q fun z=>z),q];simp⟩⟩
 by_cases hbe:b=e
 ·subst hbe;exact heo
 ·exact⟨u,k b u hbe q⟩
theorem Un.mono (u:Un fs ex H H1 h h1)(hs:∀b∈fs,b∈fs')(hx:∀b∈ex,b∈ex'):Un fs' ex' H H1 h h1:=
 ⟨fun b ob q n hb he=>u.keep b ob q n (fun z=>hb (hs b z)) fun z=>he (hx b z),fun _ _ q n _ he=>u.any q n fun z=>he (hx _ z),fun b ob q n he=>u.free b ob q n fun z=>he (hx b z),fun b ob q he=>u.there b ob q fun z=>he (hx b z),u.tups,u.frzs,u.tbls⟩
end
def Wx (h:Heap)(H:Hp):List Addr:=(List.range h.objs.size).filter fun a=>(H a).isSome
def LV (h:Heap)(H:Hp):Heap:=PySem.W.hideAll h (Wx h H)
theorem PJ (h:Heap)(H:Hp):(LV h H).objs.size=h.objs.size:=PySem.W.hideAll_size _ _
theorem RR {h:Heap}{H:Hp}{b:Addr}{o:Obj}(e:h.get? b=some o)(n:H b=none):(LV h H).get? b=some o:=
 PySem.W.hideAll_get _ e fun hm=>by
  have q:(H b).isSome=true:=(List.mem_filter.mp hm).2;rw[n] at q;simp at q
theorem To {h:Heap}{H:Hp}{b:Addr}{o:Obj}(e:(LV h H).get? b=some o):h.get? b=some o/\H b=none:=by
 have e':h.get? b=some o:=PySem.W.of_hideAll (Wx h H) e;refine⟨e',?_⟩;cases q:H b with
 |none=>rfl
 |some x=>
  have hm:b∈Wx h H:=List.mem_filter.mpr ⟨List.mem_range.mpr (Heap.lt_size e'),by simp[q]⟩;have z:(LV h H).get? b=none:=PySem.W.hideAll_none (Wx h H) hm;rw[z] at e;cases e
def SQ (g h:Heap)(L:Addr):List (Addr×Obj):=(List.range h.objs.size).filterMap fun a=>if a=L\/(g.get? a).isSome=true then none else(h.get? a).map fun o=>(a,o)
def rest (g h:Heap)(L d:Addr):List (Addr×Obj):=(SQ g h L).filter fun p=>decide (p.1≠d)
structure Mod (K:PySem.W.Frag) (mg:Str->Option Value) (base:Heap):Prop where
 kin:K.In base
 glob:base.Ns mainGlobals mg
 blt:∃mb,base.Ns builtinsNs mb/\∀x:Str,x≠"__name__"->mb x=bootBuiltins x
 nolimit:base.NoLimit
structure Cx where
 prog:Program
 w:World
 K:PySem.W.Frag
 mg:Str->Option Value
 base:Heap
 A:Around
 N:List Str
 s₀:Shared
 H₀:Hp
 env:Env
 outer:List Env
 stack:List Env
 ex:List Addr
 fn:Str->Bool
 calm:Bool
 pn:List (Addr×Obj)
 xe:Value->Shared->Prop
def EH (l:List Env):List Addr:=l.filterMap (·.frame)
abbrev Cx.fs (X:Cx):List Addr:=EH X.outer
def WC (sc:Scope)(x:Str):Prop:=sc.names.lookup x=some .local\/sc.names.lookup x=some .cell\/sc.names.lookup x=some .free
def Loc (sc:Scope)(x:Str):Prop:=sc.names.lookup x=some .local\/sc.names.lookup x=some .cell
def Look (env:Env)(h:Heap)(m:Str->Option Value)(x:Str)(u:Value):Prop:=
 (env.kindOf x=some .local/\m x=some u)\/((env.kindOf x=some .cell\/env.kindOf x=some .free)/\∃c,env.cells.lookup x=some c/\h.IsCell c (some u))
structure Cx.Ok (X:Cx):Prop where
 mod:Mod X.K X.mg X.base
 kind:X.env.scope.kind=.function
 glob:X.env.globals=mainGlobals
 blt:X.env.builtins=builtinsNs
 above:X.s₀.heap.objs.size<=X.env.locals
 inj:∀x y c,X.env.cells.lookup x=some c->X.env.cells.lookup y=some c->x=y
 has:∀x,(X.env.kindOf x=some .cell\/X.env.kindOf x=some .free)->∃c,X.env.cells.lookup x=some c
 cab:∀x c,X.fn x=true->X.env.cells.lookup x=some c->X.s₀.heap.objs.size<=c
 hd:X.calm=true->X.A.handled=none
 frames:X.A.frames=some X.stack
 stk:X.stack=X.outer\/(X.stack=X.env::X.outer/\X.env.frame=some X.env.locals)
 exf:∀b∈X.ex,b≠X.env.locals/\∀x c,X.env.cells.lookup x=some c->c≠b
 bs:∀b o,X.base.get? b=some o->X.s₀.heap.get? b=some o/\X.H₀ b=none
 bsz:X.base.objs.size<=X.s₀.heap.objs.size
 noex:∀b o,X.base.get? b=some o->b∉X.ex
 exfs:∀b∈X.ex,b∉X.fs
 funs:X.s₀.heap.FunFrames X.base X.outer
 frf:∀b∈X.fs,X.H₀ b=none
structure Inv (X:Cx) (pins:List (Addr×Obj)) (σ:List (Option V)) (H:Hp) (s:Shared):Prop where
 ok:X.Ok
 os:s.os=X.s₀.os
 bare:AllBare s.gens
 base:Un X.fs X.ex X.H₀ H X.s₀.heap s.heap
 loc:∃m,s.heap.Ns X.env.locals m/\∀(i:Nat) (x:Str) (v:V),X.N[i]?=some x->σ[i]?=some (some v)->WC X.env.scope x->∃u,RelV v u/\Look X.env s.heap m x u
 cell:∀x c,X.env.cells.lookup x=some c->∃v,s.heap.IsCell c v
 free:H X.env.locals=none
 freeC:∀x c,X.env.cells.lookup x=some c->H c=none
 pin:∀p∈X.pn++pins,s.heap.get? p.1=some p.2/\H p.1=none/\p.1≠X.env.locals/\p.1∉X.fs/\∀v,p.2.data≠.cell v
 hok:Gb X.prog X.w H s.heap
 len:σ.length=X.N.length
section
variable {X:Cx}{pins:List (Addr×Obj)}{σ:List (Option V)}{H H':Hp}{s:Shared}{h':Heap}
theorem Cx.Ok.nofr (ok:X.Ok){b:Addr}{o:Obj}(e:X.base.get? b=some o):b∉X.fs:=fun hb=>by
 have:=(ok.funs.mem hb).1;rw[e] at this;cases this
theorem Inv.bs (I:Inv X pins σ H s):∀b o,X.base.get? b=some o->s.heap.get? b=some o/\H b=none:=fun b o e=>
 ⟨I.base.keep b o (I.ok.bs b o e).1 (I.ok.bs b o e).2 (I.ok.nofr e) (I.ok.noex b o e),I.base.free b o (I.ok.bs b o e).1 (I.ok.bs b o e).2 (I.ok.noex b o e)⟩
theorem Inv.bk (I:Inv X pins σ H s):∀b o,X.base.get? b=some o->s.heap.get? b=some o:=fun b o e=>(I.bs b o e).1
theorem Inv.mod (I:Inv X pins σ H s):Mod X.K X.mg X.base:=I.ok.mod
theorem Inv.kIn (I:Inv X pins σ H s):X.K.In s.heap:=I.ok.mod.kin.keeps I.bk
theorem Inv.nolimit (I:Inv X pins σ H s):s.heap.NoLimit:=I.ok.mod.nolimit.keeps I.bk
theorem Inv.fr (I:Inv X pins σ H s):∃m,Fr X.base X.env.locals s.heap m:=
 let⟨m,hn,_⟩:=I.loc
 ⟨m,hn,I.bk,Nat.le_trans I.ok.bsz I.ok.above⟩
theorem Inv.lt (I:Inv X pins σ H s):X.env.locals<s.heap.objs.size:=let⟨_,hn,_⟩:=I.loc;hn.lt
theorem Inv.sz (I:Inv X pins σ H s):X.s₀.heap.objs.size<=s.heap.objs.size:=Nat.le_trans I.ok.above (Nat.le_of_lt I.lt)
theorem Inv.nofs (I:Inv X pins σ H s){a:Addr}(h:s.heap.objs.size<=a):a∉X.fs:=fun hb=>by
 obtain⟨_,o,ho,_⟩:=I.ok.funs.mem hb;exact absurd (Nat.lt_of_lt_of_le (Heap.lt_size ho) (Nat.le_trans I.sz h)) (Nat.lt_irrefl _)
theorem Inv.cne (I:Inv X pins σ H s):∀x c,X.env.cells.lookup x=some c->c≠X.env.locals:=fun x c e z=>by
 obtain⟨v,o,ho,hd⟩:=I.cell x c e;obtain⟨m,⟨o',es,ep,ho',hd',_⟩,_⟩:=I.loc;rw[z,ho'] at ho;cases ho;rw[hd'] at hd;cases hd
theorem Inv.funs (I:Inv X pins σ H s):s.heap.FunFrames X.base X.outer:=by
 have all:∀(l:List Env),(∀b∈EH l,b∈X.fs)->X.s₀.heap.FunFrames X.base l->s.heap.FunFrames X.base l:=by
  intro l
  induction l with
  |nil=>intro _ _;trivial
  |cons env r ih=>
   intro hs hl;obtain⟨hk,⟨L,o,hf,hn,ho,hd⟩,hr⟩:=hl;have hL:L∈X.fs:=hs L (by unfold EH;rw[List.filterMap_cons,hf];exact List.mem_cons_self);obtain⟨sl,e⟩:=I.base.slot L o ho (I.ok.frf L hL) hL fun z=>I.ok.exfs L z hL
   exact⟨hk,⟨L,_,hf,hn,e,hd⟩,ih (fun b hb=>hs b (by unfold EH;rw[List.filterMap_cons,hf];exact List.mem_cons_of_mem _ hb)) hr⟩
 exact all X.outer (fun _ hb=>hb) I.ok.funs
theorem Inv.stack (I:Inv X pins σ H s):s.heap.FunFrames X.base X.stack:=by
 rcases I.ok.stk with e|⟨e,hf⟩
 ·rw[e];exact I.funs
 ·rw[e];obtain⟨m,hn,_⟩:=I.loc;refine .cons (by rw[I.ok.kind];decide) hf hn ?_ I.funs;exact Heap.get?_none_of_le (Nat.le_trans I.ok.bsz I.ok.above)
theorem Inv.stkSub (I:Inv X pins σ H s):∀b∈EH X.stack,b∈X.env.locals::X.fs:=fun b hb=>by
 rcases I.ok.stk with e|⟨e,hf⟩
 ·rw[e] at hb;exact List.mem_cons_of_mem _ hb
 ·rw[e] at hb;unfold EH at hb;rw[List.filterMap_cons,hf] at hb;exact hb
theorem Inv.stkFree (I:Inv X pins σ H s):∀b∈EH X.stack,H b=none:=fun b hb=>by
 rcases List.mem_cons.mp (I.stkSub b hb) with e|hb
 ·rw[e];exact I.free
 ·obtain⟨_,o,ho,_⟩:=I.ok.funs.mem hb;exact I.base.free b o ho (I.ok.frf b hb) fun z=>I.ok.exfs b z hb
theorem Inv.step {g':Array GenState} {t':Nat} {d':Drawn} {ch:List Addr} (I:Inv X pins σ H s)
  (hch:∀b∈ch,(b∈X.ex\/X.s₀.heap.objs.size<=b)/\b≠X.env.locals/\(∀x c,X.env.cells.lookup x=some c->c≠b)/\∀p∈X.pn++pins,p.1≠b)
  (keep:∀b o,b≠X.env.locals->b∉X.fs->b∉ch->s.heap.get? b=some o->H b=none->h'.get? b=some o)
  (slot:∀b o,b≠X.env.locals->b∈X.fs->b∉ch->s.heap.get? b=some o->H b=none->∃sl,h'.get? b=some { o with slots:=sl }) (free:∀b o,b∉ch->s.heap.get? b=some o->H b=none->H' b=none)
  (there:∀b o,b∉ch->s.heap.get? b=some o->∃o',h'.get? b=some o')
  (tups:∀b xs,H b=some (.tup xs)->H' b=some (.tup xs)) (frzs:∀b o u,H b=some (.frz o u)->H' b=some (.frz o u)) (tbls:∀b ps,H b=some (.tbl ps)->∃more,H' b=some (.tbl (ps++more)))
  (ns:∀m,s.heap.Ns X.env.locals m->h'.Ns X.env.locals m) (hok:Gb X.prog X.w H' h') (hg:AllBare g') :
  Inv X pins σ H' { s with heap:=h',gens:=g',drawn:=d',toks:=t' }:=by
 have neL:∀b o,X.s₀.heap.get? b=some o->b≠X.env.locals:=fun b o e=>Nat.ne_of_lt (Nat.lt_of_lt_of_le (Heap.lt_size e) I.ok.above)
 have neC:∀b o,X.s₀.heap.get? b=some o->b∉X.ex->b∉ch:=fun b o e hx hb=>by
  rcases(hch b hb).1 with z|z
  ·exact hx z
  ·exact absurd (Nat.lt_of_lt_of_le (Heap.lt_size e) z) (Nat.lt_irrefl _)
 have cellK:∀x c,X.env.cells.lookup x=some c->∀v,s.heap.IsCell c v->h'.IsCell c v:=fun x c e v ⟨o,ho,hd⟩=>by
  have nch:c∉ch:=fun z=>(hch c z).2.2.1 x c e rfl
  by_cases hc:c∈X.fs
  ·obtain⟨sl,q⟩:=slot c o (I.cne x c e) hc nch ho (I.freeC x c e);exact⟨_,q,hd⟩
  ·exact⟨o,keep c o (I.cne x c e) hc nch ho (I.freeC x c e),hd⟩
 refine⟨I.ok,I.os,hg,⟨fun b o e n hb hx=>?_,fun b o e n hb hx=>?_,fun b o e n hx=>?_,fun b o e hx=>?_,fun b xs e=>tups b xs (I.base.tups b xs e),fun b o xs e=>frzs b o xs (I.base.frzs b o xs e),fun b ps e=>?_⟩,?_,fun x c e=>?_,?_,fun x c e=>?_,fun p hp=>?_,hok,I.len⟩
 ·exact keep b o (neL b o e) hb (neC b o e hx) (I.base.keep b o e n hb hx) (I.base.free b o e n hx)
 ·obtain⟨sl,e1⟩:=I.base.slot b o e n hb hx;obtain⟨sl',e2⟩:=slot b _ (neL b o e) hb (neC b o e hx) e1 (I.base.free b o e n hx);exact⟨sl',e2⟩
 ·obtain⟨o',e1⟩:=I.base.there b o e hx;exact free b o' (neC b o e hx) e1 (I.base.free b o e n hx)
 ·obtain⟨o',e1⟩:=I.base.there b o e hx;exact there b o' (neC b o e hx) e1
 ·obtain⟨m1,e1⟩:=I.base.tbls b ps e;obtain⟨m2,e2⟩:=tbls b _ e1;exact⟨m1++m2,by rw[e2,Array.append_assoc]⟩
 ·obtain⟨m,hn,hl⟩:=I.loc;refine⟨m,ns m hn,fun i x v e1 e2 e3=>?_⟩;obtain⟨u,r,l⟩:=hl i x v e1 e2 e3;refine⟨u,r,?_⟩;rcases l with l|⟨k,c,e,z⟩
  ·exact .inl l
  ·exact .inr ⟨k,c,e,cellK x c e _ z⟩
 ·obtain⟨v,z⟩:=I.cell x c e;exact⟨v,cellK x c e v z⟩
 ·obtain⟨m,⟨o,_,_,ho,_⟩,_⟩:=I.loc;exact free _ o (fun z=>(hch _ z).2.1 rfl) ho I.free
 ·obtain⟨v,o,ho,hd⟩:=I.cell x c e;exact free c o (fun z=>(hch c z).2.2.1 x c e rfl) ho (I.freeC x c e)
 ·obtain⟨e,n,ne,nf,d⟩:=I.pin p hp;have nch:p.1∉ch:=fun z=>(hch p.1 z).2.2.2 p hp rfl
  exact⟨keep p.1 p.2 ne nf nch e n,free p.1 p.2 nch e n,ne,nf,d⟩
theorem Inv.un {t':Nat}(I:Inv X pins σ H s)(u:Un X.fs [] H H' s.heap h')(hok:Gb X.prog X.w H' h'):Inv X pins σ H' { s with heap:=h',toks:=t' }:=by
 obtain⟨m,⟨o,es,ep,ho,r⟩,_⟩:=id I.loc;obtain⟨sl,hL⟩:=u.any ho I.free (by simp);exact I.step (g':=s.gens) (d':=s.drawn) (ch:=[]) (fun _ z=>nomatch z) (fun b o _ hb _ e n=>u.keep b o e n hb (by simp)) (fun b o _ hb _ e n=>u.slot b o e n hb (by simp)) (fun b o _ e n=>u.free b o e n (by simp)) (fun b o _ e=>u.there b o e (by simp)) u.tups u.frzs u.tbls (fun m' hm=>by
  obtain⟨o',es',ep',ho',r'⟩:=hm;rw[ho] at ho';cases ho';exact⟨_,es',ep',hL,r'⟩) hok I.bare
theorem Inv.call {g':Array GenState} {t':Nat} {d':Drawn} {ch:List Addr} (I:Inv X pins σ H s) (u:Un (EH X.stack) ch H H' s.heap h') (hok:Gb X.prog X.w H' h') (hg:AllBare g')
  (hch:∀b∈ch,(b∈X.ex\/X.s₀.heap.objs.size<=b)/\b≠X.env.locals/\(∀x c,X.env.cells.lookup x=some c->c≠b)/\∀p∈X.pn++pins,p.1≠b) :
  Inv X pins σ H' { s with heap:=h',gens:=g',drawn:=d',toks:=t' }:=by
 obtain⟨m,⟨o,es,ep,ho,r⟩,_⟩:=id I.loc;obtain⟨sl,hL⟩:=u.any ho I.free fun z=>(hch _ z).2.1 rfl
 exact I.step (ch:=ch) hch (fun b o hL hb hc e n=>u.keep b o e n (fun z=>(List.mem_cons.mp (I.stkSub b z)).elim hL hb) hc) (fun b o _ _ hc e n=>u.any e n hc) (fun b o hc e n=>u.free b o e n hc) (fun b o hc e=>u.there b o e hc) u.tups u.frzs u.tbls (fun m' hm=>by
  obtain⟨o',es',ep',ho',r'⟩:=hm;rw[ho] at ho';cases ho';exact⟨_,es',ep',hL,r'⟩) hok hg
theorem Inv.turned {t':Nat} {it:Addr} (I:Inv X pins σ H s) (k:∀b o,b≠it->s.heap.get? b=some o->h'.get? b=some o) (hn:H it=none) (hL:it≠X.env.locals)
  (h1:it∈X.ex\/X.s₀.heap.objs.size<=it) (h2:∀x c,X.env.cells.lookup x=some c->c≠it) (h3:∀p∈X.pn++pins,p.1≠it):Inv X pins σ H { s with heap:=h',toks:=t' }:=by
 have nit:∀b u,H b=some u->b≠it:=fun b u e z=>by rw[z,hn] at e;cases e
 refine I.step (g':=s.gens) (d':=s.drawn) (ch:=[it]) (fun b hb=>?_) (fun b o _ _ hc e _=>k b o (fun z=>hc (by simp[z])) e) (fun b o _ _ hc e _=>⟨o.slots,k b o (fun z=>hc (by simp[z])) e⟩) (fun _ _ _ _ n=>n)
  (fun b o hc e=>⟨o,k b o (fun z=>hc (by simp[z])) e⟩) (fun _ _ e=>e) (fun _ _ _ e=>e) (fun b ps e=>⟨#[],by rw[e];simp⟩) (fun m hm=>?_) (fun b u e=>?_) I.bare
 ·have e:b=it:=by simpa using hb
  subst e;exact⟨h1,hL,h2,h3⟩
 ·obtain⟨o,es,ep,ho,r⟩:=hm;exact⟨o,es,ep,k _ o (Ne.symm hL) ho,r⟩
 ·refine(I.hok b u e).stay (fun c v hc q=>k c v ?_ q) (fun _ q=>q) fun _ _ q=>q
  rcases hc with z|z
  ·rw[z];exact nit b u e
  ·exact nit c _ z
theorem Inv.tok (I:Inv X pins σ H s)(t:Nat):Inv X pins σ H { s with toks:=t }:=I.un (h':=s.heap) (t':=t) Un.refl I.hok
theorem Inv.kept {t':Nat}(I:Inv X pins σ H s)(k:∀b u,s.heap.get? b=some u->h'.get? b=some u):Inv X pins σ H { s with heap:=h',toks:=t' }:=I.un (Un.kept k) (I.hok.kept k)
theorem Inv.laid {a:Addr}{o:HO}{t':Nat}(I:Inv X pins σ H s)(k:∀b u,s.heap.get? b=some u->h'.get? b=some u)(hp:s.heap.objs.size<=a)(new:AN X.prog X.w (upd H a o) h' a o) :
  Inv X pins σ (upd H a o) { s with heap:=h',toks:=t' }:=I.un (Un.laid k hp (I.hok.fresh hp)) (I.hok.laid k hp new)
theorem Inv.write {x e:Addr} {o:HO} {t':Nat} (I:Inv X pins σ H s) (mu:VU (H x)) (he:e=x\/H e=some (.own x)) (k:∀b u,b≠e->s.heap.get? b=some u->h'.get? b=some u) (heo:∃u,h'.get? e=some u)
  (new:AN X.prog X.w (upd H x o) h' x o):Inv X pins σ (upd H x o) { s with heap:=h',toks:=t' }:=I.un (Un.write mu he k heo) (I.hok.write mu he k heo new)
theorem Inv.pins_of {pins':List (Addr×Obj)}(I:Inv X pins σ H s)(h:∀p∈pins',s.heap.get? p.1=some p.2/\H p.1=none/\p.1≠X.env.locals/\p.1∉X.fs/\∀v,p.2.data≠.cell v):Inv X pins' σ H s:=
 ⟨I.ok,I.os,I.bare,I.base,I.loc,I.cell,I.free,I.freeC,fun p hp=>(List.mem_append.mp hp).elim (fun z=>I.pin p (List.mem_append_left _ z)) (h p),I.hok,I.len⟩
theorem I0 {N:List Str}(hN:N.Nodup){i j:Nat}{x:Str}(a:N[i]?=some x)(b:N[j]?=some x):i=j:=by
 obtain⟨h1,e1⟩:=List.getElem?_eq_some_iff.mp a;obtain⟨h2,e2⟩:=List.getElem?_eq_some_iff.mp b;exact(List.getElem_inj hN).mp (e1.trans e2.symm)
theorem Qd {M:Model} {A:Around} {E:Value->Shared->Prop} {i:Nat} {x:Str} {v:V} {u:Value} {Q:Unit->Shared->Prop} (I:Inv X pins σ H s) (hN:X.N.Nodup) (hi:X.N[i]?=some x) (hx:Loc X.env.scope x) (r:RelV v u)
  (h:∀s',Inv X pins (σ.set i (some v)) H s'->(∃a,Heap.SameBut a s.heap s'.heap/\(a=X.env.locals\/X.env.cells.lookup x=some a))->Q () s') (hf:X.fn x=true\/X.env.scope.names.lookup x=some .local:=by first|exact .inl rfl|exact .inr rfl|assumption):wpAny M A (storeName X.env x u) Q E s:=by
 obtain⟨m,hn,hl⟩:=id I.loc;have hcls:(X.env.scope.kind == .class||(X.env.scope.kind == .module&&X.env.locals != X.env.globals))=false:=by rw[I.ok.kind];rfl
 have hiσ:i<σ.length:=by rw[I.len];exact(List.getElem?_eq_some_iff.mp hi).1
 have cne:=I.cne;have tracked:∀{a:Addr} {h':Heap},(∃o,s.heap.get? a=some o/\H a=none)->Heap.SameBut a s.heap h'->Gb X.prog X.w H h':=fun{a h'} ha hs b ob e=>by
  obtain⟨_,_,hfree⟩:=ha;refine(I.hok b ob e).stay (fun c w' hc q=>(hs.2 c ?_).trans q) (fun _ q=>q) fun _ _ q=>q
  rintro rfl
  rcases hc with rfl|hc
  ·rw[hfree] at e;cases e
  ·rw[hfree] at hc;cases hc
 rcases hx with hk|hk
 ·refine wpAny_storeName_local hk hn (fun h' hn' hs=>?_) hcls;obtain⟨oL,_,_,hoL,_⟩:=id hn;refine h _ ⟨I.ok,I.os,I.bare,⟨fun b o e n hb hx=>?_,fun b o e n hb hx=>?_,I.base.free,fun b o e hx=>?_,I.base.tups,I.base.frzs,I.base.tbls⟩,⟨_,hn',fun j y v' e1 e2 e3=>?_⟩,fun y c e=>?_,I.free,I.freeC,fun p hp=>?_,tracked ⟨oL,hoL,I.free⟩ hs,by simpa using I.len⟩ ⟨_,hs,.inl rfl⟩
  ·exact(hs.2 b (Nat.ne_of_lt (Nat.lt_of_lt_of_le (Heap.lt_size e) I.ok.above))).trans (I.base.keep b o e n hb hx)
  ·obtain⟨sl,e1⟩:=I.base.slot b o e n hb hx;exact⟨sl,(hs.2 b (Nat.ne_of_lt (Nat.lt_of_lt_of_le (Heap.lt_size e) I.ok.above))).trans e1⟩
  ·obtain⟨o',e1⟩:=I.base.there b o e hx;exact⟨o',(hs.2 b (Nat.ne_of_lt (Nat.lt_of_lt_of_le (Heap.lt_size e) I.ok.above))).trans e1⟩
  ·by_cases hj:j=i
   ·subst hj;rw[hi] at e1;cases e1;rw[List.getElem?_set_self hiσ] at e2;cases e2;exact⟨u,r,.inl ⟨hk,by simp⟩⟩
   ·rw[List.getElem?_set_ne (Ne.symm hj)] at e2;obtain⟨u',r',q⟩:=hl j y v' e1 e2 e3;refine⟨u',r',?_⟩;rcases q with⟨k,e⟩|⟨k,c,e,z⟩
    ·refine .inl ⟨k,?_⟩;have:y≠x:=fun e=>hj (I0 hN e1 (e▸hi))
     simp[this,e]
    ·exact .inr ⟨k,c,e,z.sameBut hs (cne y c e)⟩
  ·obtain⟨w',z⟩:=I.cell y c e;exact⟨w',z.sameBut hs (cne y c e)⟩
  ·obtain⟨e,n,ne,nf,d⟩:=I.pin p hp;exact⟨(hs.2 p.1 ne).trans e,n,ne,nf,d⟩
 ·have hfn:X.fn x=true:=by
   rcases hf with z|z
   ·exact z
   ·rw[z] at hk;cases hk
  obtain⟨c,hc⟩:=I.ok.has x (.inl hk);obtain⟨w',z⟩:=I.cell x c hc;refine wpAny_storeName_cell I.ok.kind hk hc z (fun h' hc' hs=>?_);obtain⟨oc,hoc,hocd⟩:=id z;refine h { s with heap:=h' } ⟨I.ok,I.os,I.bare,⟨fun b o e n hb hx=>?_,fun b o e n hb hx=>?_,I.base.free,fun b o e hx=>?_,I.base.tups,I.base.frzs,I.base.tbls⟩,⟨m,hn.sameBut hs (Ne.symm (cne x c hc)),fun j y v' e1 e2 e3=>?_⟩,fun y c' e=>?_,I.free,I.freeC,fun p hp=>?_,tracked ⟨oc,hoc,I.freeC x c hc⟩ hs,by simpa using I.len⟩ ⟨c,hs,.inr hc⟩
  ·exact(hs.2 b (Nat.ne_of_lt (Nat.lt_of_lt_of_le (Heap.lt_size e) (I.ok.cab x c hfn hc)))).trans (I.base.keep b o e n hb hx)
  ·obtain⟨sl,e1⟩:=I.base.slot b o e n hb hx;exact⟨sl,(hs.2 b (Nat.ne_of_lt (Nat.lt_of_lt_of_le (Heap.lt_size e) (I.ok.cab x c hfn hc)))).trans e1⟩
  ·obtain⟨o',e1⟩:=I.base.there b o e hx;exact⟨o',(hs.2 b (Nat.ne_of_lt (Nat.lt_of_lt_of_le (Heap.lt_size e) (I.ok.cab x c hfn hc)))).trans e1⟩
  ·by_cases hj:j=i
   ·subst hj;rw[hi] at e1;cases e1;rw[List.getElem?_set_self hiσ] at e2;cases e2;exact⟨u,r,.inr ⟨.inl hk,c,hc,hc'⟩⟩
   ·rw[List.getElem?_set_ne (Ne.symm hj)] at e2;obtain⟨u',r',q⟩:=hl j y v' e1 e2 e3;refine⟨u',r',?_⟩;rcases q with q|⟨k,c',e,z'⟩
    ·exact .inl q
    ·refine .inr ⟨k,c',e,z'.sameBut hs ?_⟩
     rintro rfl
     exact hj (I0 hN e1 (I.ok.inj _ _ _ e hc▸hi))
  ·by_cases hcc:c'=c
   ·subst hcc;exact⟨_,hc'⟩
   ·obtain⟨w2,z2⟩:=I.cell y c' e;exact⟨w2,z2.sameBut hs hcc⟩
  ·obtain⟨e,n,ne,nf,d⟩:=I.pin p hp;refine⟨(hs.2 p.1 ?_).trans e,n,ne,nf,d⟩;intro q;rw[q,hoc] at e;have q':oc=p.2:=Option.some.inj e;exact d w' (by rw[<-q'];exact hocd)
theorem Fp {M:Model} {A:Around} {E:Value->Shared->Prop} {i:Nat} {x:Str} {v:V} {u:Value} {Q:Unit->Shared->Prop} (I:Inv X pins σ H s) (hN:X.N.Nodup) (hi:X.N[i]?=some x) (hx:Loc X.env.scope x) (r:RelV v u)
  (h:∀s',Inv X pins (σ.set i (some v)) H s'->Q () s') (hf:X.fn x=true\/X.env.scope.names.lookup x=some .local:=by first|exact .inl rfl|exact .inr rfl|assumption):wpAny M A (storeName X.env x u) Q E s:=
 Qd I hN hi hx r (fun s' I' _=>h s' I') hf
theorem Inv.call' {s':Shared} {ch:List Addr} (I:Inv X pins σ H s) (ho:s'.os=s.os) (u:Un (EH X.stack) ch H H' s.heap s'.heap) (hok:Gb X.prog X.w H' s'.heap) (hg:AllBare s'.gens)
  (hch:∀b∈ch,(b∈X.ex\/X.s₀.heap.objs.size<=b)/\b≠X.env.locals/\(∀x c,X.env.cells.lookup x=some c->c≠b)/\∀p∈X.pn++pins,p.1≠b):Inv X pins σ H' s':=by
 obtain⟨h',g',d',t',o'⟩:=s';have e:o'=s.os:=ho;subst e;exact I.call (g':=g') (t':=t') (d':=d') u hok hg hch
end
abbrev XK:=Value->Option Addr->Hp->Prop
abbrev St:=List (Option V)
abbrev VK:=V->Hp->Prop
abbrev TE:=St->Hp->VK->Prop
abbrev TT:=St->Hp->(Bool->Hp->Prop)->Prop
abbrev TA:=St->Hp->(List V->Hp->Prop)->Prop
structure Ends where
 nx:St->Hp->Prop
 rt:VK
 bk:St->Hp->Prop:=fun _ _=>False
 ct:St->Hp->Prop:=fun _ _=>False
abbrev TS:=Ends->St->Hp->Prop
def EP (X:Cx)(pins:List (Addr×Obj))(σ:St)(Q:VK)(u:Value)(s':Shared):Prop:=∃v H',Inv X pins σ H' s'/\RelV v u/\Q v H'
def TP (X:Cx)(pins:List (Addr×Obj))(σ:St)(Q:Bool->Hp->Prop)(b:Bool)(s':Shared):Prop:=∃H',Inv X pins σ H' s'/\Q b H'
def AP (X:Cx)(pins:List (Addr×Obj))(σ:St)(Q:List V->Hp->Prop)(us:List Value)(s':Shared):Prop:=∃vs H',Inv X pins σ H' s'/\Aw vs us/\Q vs H'
def SP (X:Cx)(pins:List (Addr×Obj))(D:Ends)(f:Flow)(s':Shared):Prop:=
 match f with
 | .next=>∃σ' H',Inv X pins σ' H' s'/\D.nx σ' H'
 | .brk=>∃σ' H',Inv X pins σ' H' s'/\D.bk σ' H'
 | .cont=>∃σ' H',Inv X pins σ' H' s'/\D.ct σ' H'
 | .ret u=>∃v σ' H',Inv X pins σ' H' s'/\RelV v u/\D.rt v H'
def PE (X:Cx)(e:Expr)(t:TE):Prop:=
 ∀(pins:List (Addr×Obj)) (s:Shared) (σ:St) (H:Hp) (Q:VK),Inv X pins σ H s->t σ H Q->wpAny (model X.prog X.w) X.A (eval e X.env) (EP X pins σ Q) X.xe s
def PT (X:Cx)(e:Expr)(t:TT):Prop:=
 ∀(pins:List (Addr×Obj)) (s:Shared) (σ:St) (H:Hp) (Q:Bool->Hp->Prop),Inv X pins σ H s->t σ H Q->wpAny (model X.prog X.w) X.A (isTrue e X.env (eval e X.env)) (TP X pins σ Q) X.xe s
def PW (X:Cx)(e:Expr)(t:TT):Prop:=
 ∀(whole:Sem Value) (pins:List (Addr×Obj)) (s:Shared) (σ:St) (H:Hp) (Q:Bool->Hp->Prop),Inv X pins σ H s->t σ H Q->wpAny (model X.prog X.w) X.A (isTrue e X.env whole) (TP X pins σ Q) X.xe s
theorem PW.pt {X:Cx}{e:Expr}{t:TT}(h:PW X e t):PT X e t:=h _
def PA (X:Cx)(es:List Expr)(t:TA):Prop:=
 ∀(pos:Pos) (pins:List (Addr×Obj)) (s:Shared) (σ:St) (H:Hp) (Q:List V->Hp->Prop),Inv X pins σ H s->t σ H Q->wpAny (model X.prog X.w) X.A (spliced (backTo pos (starEach es X.env))) (AP X pins σ Q) X.xe s
def PS (X:Cx)(st:Stmt)(t:TS):Prop:=
 ∀(pins:List (Addr×Obj)) (s:Shared) (σ:St) (H:Hp) (D:Ends),Inv X pins σ H s->t D σ H->wpAny (model X.prog X.w) X.A (exec st X.env) (SP X pins D) X.xe s
def Mf (X:Cx)(st:List Stmt)(t:TS):Prop:=
 ∀(pins:List (Addr×Obj)) (s:Shared) (σ:St) (H:Hp) (D:Ends),Inv X pins σ H s->t D σ H->wpAny (model X.prog X.w) X.A (execs st X.env) (SP X pins D) X.xe s
theorem Ba {α:Type}{t:Sem α}{Q Q':α->Shared->Prop}{M:Model}{A:Around}{E:Value->Shared->Prop}{s:Shared}(h:wpAny M A t Q E s)(hQ:∀a s,Q a s->Q' a s):wpAny M A t Q' E s:=wpAny_mono h hQ fun _ _ x=>x
section
variable {X:Cx}
def Ik (i:Nat):TE:=fun σ H Q=>∃v,σ[i]?=some (some v)/\Q v H
def tC (v:V):TE:=fun _ H Q=>Q v H
theorem U1 {i:Nat}{x:Str}{pos:Pos}(hN:X.N[i]?=some x)(hv:WC X.env.scope x)(hd:(x == ("__debug__":Str))=false:=by decide)(hcd:(x == ("__classdict__":Str))=false:=by decide):PE X (.Name x pos) (Ik i):=by
 intro pins s σ H Q I h;obtain⟨v,e,h⟩:=h;obtain⟨m,hn,hl⟩:=I.loc;obtain⟨u,r,l⟩:=hl i x v hN e hv;have fin:EP X pins σ Q u s:=⟨v,H,I,r,h⟩
 rcases l with⟨hk,hm⟩|⟨hk,c,hc,hcell⟩
 ·exact wpAny_Name (wpAny_loadName_local I.ok.kind hk hn hm fin) hd
 ·rcases hk with hk|hk
  ·exact wpAny_Name (wpAny_loadName_cell I.ok.kind hk hc hcell fin) hd
  ·exact wpAny_Name (wpAny_loadName_free I.ok.kind hk hc hcell fin hcd) hd
theorem Ak {i j pos}:PE X (.Constant (.int i) j pos) (tC (.int i)):=fun _ _ _ H _ I h=>wpAny_Constant_int ⟨.int i,H,I.tok _,⟨_,rfl⟩,h⟩
theorem K7 {b j pos}:PE X (.Constant (.bool b) j pos) (tC (.bl b)):=fun _ _ _ H _ I h=>Constant_bool ⟨.bl b,H,I,rfl,h⟩
theorem JG {j pos}:PE X (.Constant .none j pos) (tC .non):=fun _ _ _ H _ I h=>Constant_none ⟨.non,H,I,rfl,h⟩
theorem AG {x j pos}:PE X (.Constant (.str x) j pos) (tC (.str x)):=fun _ _ _ H _ I h=>Calls.Constant_str ⟨.str x,H,I.tok _,⟨_,rfl⟩,h⟩
def Gl (X:Cx)(x:Str):Prop:=X.env.kindOf x=some .globalImplicit
theorem DY {E:Value->Shared->Prop} {pins:List (Addr×Obj)} {s:Shared} {σ:St} {H:Hp} {x:Str} {u:Value} {pos:Pos} {Q:Value->Shared->Prop} (I:Inv X pins σ H s) (hg:Gl X x) (hm:X.mg x=some u) (h:Q u s)
  (hd:(x == ("__debug__":Str))=false:=by decide):wpAny (model X.prog X.w) X.A (eval (.Name x pos) X.env) Q E s:=
 Calls.Name_function_global I.ok.kind hg (Calls.loadGlobal_global (by rw[I.ok.glob];exact I.mod.glob.keeps I.bk) hm h) hd
theorem Fz {E:Value->Shared->Prop} {pins:List (Addr×Obj)} {s:Shared} {σ:St} {H:Hp} {x:Str} {u:Value} {pos:Pos} {Q:Value->Shared->Prop} (I:Inv X pins σ H s) (hg:Gl X x) (hm:X.mg x=none) (hv:bootBuiltins x=some u) (h:Q u s)
  (hn:x≠"__name__":=by decide) (hd:(x == ("__debug__":Str))=false:=by decide):wpAny (model X.prog X.w) X.A (eval (.Name x pos) X.env) Q E s:=by
 obtain⟨mb,h1,h2⟩:=I.mod.blt;exact Calls.Name_function_global I.ok.kind hg (Calls.loadGlobal_builtin (by rw[I.ok.glob];exact I.mod.glob.keeps I.bk) hm (by rw[I.ok.blt];exact h1.keeps I.bk) ((h2 x hn).trans hv) h) hd
theorem Lv {x:Str}{v:V}{u:Value}{pos:Pos}(hg:Gl X x)(hm:X.mg x=some u)(r:RelV v u)(hd:(x == ("__debug__":Str))=false:=by decide):PE X (.Name x pos) (tC v):=
 fun _ _ _ H _ I h=>DY I hg hm ⟨v,H,I,r,h⟩ hd
theorem Tq {x:Str}{v:V}{u:Value}{pos:Pos}(hg:Gl X x)(hm:X.mg x=none)(hv:bootBuiltins x=some u)(r:RelV v u)(hn:x≠"__name__":=by decide)(hd:(x == ("__debug__":Str))=false:=by decide):PE X (.Name x pos) (tC v):=
 fun _ _ _ H _ I h=>Fz I hg hm hv ⟨v,H,I,r,h⟩ hn hd
variable {a b:Expr}{ta tb:TE}{pos:Pos}
def PC (X:Cx)(op:CmpOp)(a b:Expr)(t:TE):Prop:=
 ∀(pins:List (Addr×Obj)) (s:Shared) (σ:St) (H:Hp) (Q:VK),Inv X pins σ H s->t σ H Q->
  wpAny (model X.prog X.w) X.A (eval a X.env) (fun v s₁=>wpAny (model X.prog X.w) X.A (eval b X.env) (fun u s₂=>wpAny (model X.prog X.w) X.A (compareOp op v u) (EP X pins σ Q) X.xe s₂) X.xe s₁) X.xe s
theorem Dd (b:Expr){op:CmpOp}(h:op≠.In)(h2:op≠.NotIn):behindInMarks op b=false:=by
 have e1:(op == CmpOp.In)=false:=by cases op<;>first|rfl|exact absurd rfl h
 have e2:(op == CmpOp.NotIn)=false:=by cases op<;>first|rfl|exact absurd rfl h2
 cases b<;>simp[behindInMarks,e1,e2]
def W8 (ta:TE):TE:=fun σ H Q=>ta σ H fun x H1=>Q (.bl (decide (x=.non))) H1
def Wm (ta:TE):TE:=fun σ H Q=>ta σ H fun x H1=>Q (.bl (!decide (x=.non))) H1
theorem RelV.none_iff {x:V}{v:Value}(r:RelV x v):(v == Value.none)=decide (x=.non):=by
 cases x with
 |non=>cases r;rfl
 |bl _=>cases r;rfl
 |int _=>obtain⟨t,rfl⟩:=r;rfl
 |str _=>obtain⟨t,rfl⟩:=r;rfl
 |byt _=>obtain⟨t,rfl⟩:=r;rfl
 |flt _=>obtain⟨t,rfl⟩:=r;rfl
 |ref _=>cases r;rfl
 |ty _=>cases r;rfl
theorem NC {j pos'}(ha:PE X a ta):PC X .Is a (.Constant .none j pos') (W8 ta):=by
 intro pins s σ H Q I h;refine Ba (ha pins s σ H _ I h) fun v s1 ⟨x,H1,I1,r1,q1⟩=>?_
 exact Constant_none (is_none_gen ⟨.bl _,H1,I1,by rw[r1.none_iff];rfl,q1⟩)
theorem OI {j pos'}(ha:PE X a ta):PC X .IsNot a (.Constant .none j pos') (Wm ta):=by
 intro pins s σ H Q I h;refine Ba (ha pins s σ H _ I h) fun v s1 ⟨x,H1,I1,r1,q1⟩=>?_
 exact Constant_none (isnot_none_gen ⟨.bl _,H1,I1,by rw[r1.none_iff];rfl,q1⟩)
def tB (t:TE):TT:=fun σ H Q=>t σ H fun x H1=>∃c,x=.bl c/\Q c H1
theorem GE {op:CmpOp}{t:TE}(h:PC X op a b t)(h1:behindInMarks op b=false:=by first|exact Dd _ (by decide) (by decide)|rfl):PT X (.Compare a [op] [b] pos) (tB t):=by
 intro pins s σ H Q I hw;refine wpAny_isTrue_Compare1 (Ba (h pins s σ H _ I hw) fun v s1 h1=>Ba h1 fun u s2 h2=>Ba h2 fun c s3 ⟨x,H1,I1,r1,q1⟩=>?_) h1;obtain⟨d,rfl,q⟩:=q1;cases r1;exact wpAny_truthy_bool ⟨H1,I1,q⟩
theorem Ek {e:Expr}{t:TE}(h:PE X e t)(he:∀whole,isTrue e X.env whole=(do let v <-whole;standAt e.pos;holding [v] (truthy v)):=by intro _;rfl):PT X e (tB t):=by
 intro pins s σ H Q I hw;refine isTrue_plain (Ba (h pins s σ H _ I hw) fun v s1 ⟨x,H1,I1,r1,q1⟩=>?_) (he _);obtain⟨d,rfl,q⟩:=q1;cases r1;exact wpAny_truthy_bool ⟨H1,I1,q⟩
variable {tA tB':TT}{rest:List Expr}
def W5 (t u:TT):TT:=fun σ H Q=>t σ H fun c H1=>if c=true then u σ H1 Q else Q false H1
def WQ (t u:TT):TT:=fun σ H Q=>t σ H fun c H1=>if c=true then Q true H1 else u σ H1 Q
def WK (t:TT):TT:=fun σ H Q=>t σ H fun c H1=>Q (!c) H1
theorem Ly (ha:PT X a tA):PW X (.BoolOp .And [a] pos) tA:=by
 intro wh pins s σ H Q I h;refine isTrue_and (Ba (ha pins s σ H Q I h) fun c s1 e=>?_);cases c with
 |true=>exact isTrue_and_nil e
 |false=>exact e
theorem Gk (ha:PT X a tA):PW X (.BoolOp .Or [a] pos) tA:=by
 intro wh pins s σ H Q I h;refine isTrue_or (Ba (ha pins s σ H Q I h) fun c s1 e=>?_);cases c with
 |false=>exact isTrue_or_nil e
 |true=>exact e
theorem Oo (ha:PT X a tA)(hb:PW X (.BoolOp .And (b::rest) pos) tB'):PW X (.BoolOp .And (a::b::rest) pos) (W5 tA tB'):=by
 intro wh pins s σ H Q I h;refine isTrue_and (Ba (ha pins s σ H _ I h) fun c s1 ⟨H1,I1,q1⟩=>?_);cases c with
 |true=>exact hb wh pins s1 σ H1 Q I1 q1
 |false=>exact⟨H1,I1,q1⟩
theorem Iw (ha:PT X a tA)(hb:PW X (.BoolOp .Or (b::rest) pos) tB'):PW X (.BoolOp .Or (a::b::rest) pos) (WQ tA tB'):=by
 intro wh pins s σ H Q I h;refine isTrue_or (Ba (ha pins s σ H _ I h) fun c s1 ⟨H1,I1,q1⟩=>?_);cases c with
 |true=>exact⟨H1,I1,q1⟩
 |false=>exact hb wh pins s1 σ H1 Q I1 q1
theorem JH (ha:PT X a tA):PT X (.UnaryOp .Not a pos) (WK tA):=by
 intro pins s σ H Q I h;exact isTrue_not (ha pins s σ H (fun c H1=>Q (!c) H1) I h)
def Us (ta tb:TE):TE:=fun σ H Q=>ta σ H fun x H1=>∃c,x=.bl c/\if c=true then tb σ H1 Q else Q (.bl false) H1
def V1 (ta:TE):TE:=fun σ H Q=>ta σ H fun x H1=>∃c,x=.bl c/\Q (.bl (!c)) H1
theorem Om {op}{t:TE}(h:PE X a t):PE X (.BoolOp op [a] pos) t:=fun pins s σ H Q I hw=>BoolOp_one (h pins s σ H Q I hw)
theorem OE (ha:PE X a ta)(hb:PE X (.BoolOp .And (b::rest) pos) tb):PE X (.BoolOp .And (a::b::rest) pos) (Us ta tb):=by
 intro pins s σ H Q I h;refine BoolOp_and (Ba (ha pins s σ H _ I h) fun v s1 ⟨x,H1,I1,r1,q1⟩=>?_);obtain⟨c,rfl,q1⟩:=q1;cases r1;refine wpAny_truthy_bool ?_;cases c with
 |true=>exact hb pins s1 σ H1 Q I1 q1
 |false=>exact⟨.bl false,H1,I1,rfl,q1⟩
theorem UH (ha:PE X a ta):PE X (.UnaryOp .Not a pos) (V1 ta):=by
 intro pins s σ H Q I h;refine UnaryOp_ (Ba (ha pins s σ H _ I h) fun v s1 ⟨x,H1,I1,r1,q1⟩=>?_);obtain⟨c,rfl,q1⟩:=q1;cases r1;exact not_of (wpAny_truthy_bool ⟨.bl (!c),H1,I1,rfl,q1⟩)
def Xm (t:TT)(ta tb:TE):TE:=fun σ H Q=>t σ H fun c H1=>if c=true then ta σ H1 Q else tb σ H1 Q
theorem Nh {c:Expr}(hc:PT X c tA)(ha:PE X a ta)(hb:PE X b tb):PE X (.IfExp c a b pos) (Xm tA ta tb):=by
 intro pins s σ H Q I h;refine wpAny_IfExp (Ba (hc pins s σ H _ I h) fun d s1 ⟨H1,I1,q1⟩=>?_);cases d with
 |true=>exact ha pins s1 σ H1 Q I1 q1
 |false=>exact hb pins s1 σ H1 Q I1 q1
end
def AW (K:PySem.W.Frag)(H:Hp)(a:Addr)(xs:List V):Prop:=
 Rd H a (.lst xs)\/
  ∃(o:Obj) (its:Array Value) (n:Nat),K.lookup a=some o/\o.cls=.type "list"/\o.dict=none/\o.data=.seq its n/\its.size<=sizeLine/\Aw xs its.toList
def A0 (K:PySem.W.Frag)(H:Hp)(a:Addr)(xs:List V):Prop:=
 Rd H a (.tup xs)\/
  ∃(o:Obj) (its:Array Value) (n:Nat),K.lookup a=some o/\o.cls=.type "tuple"/\o.data=.seq its n/\its.size<=sizeLine/\Aw xs its.toList
def WI:Value->Option V
 | .none=>some .non
 | .bool b=>some (.bl b)
 | .int i _=>some (.int i)
 | .str x _=>some (.str x)
 | .bytes b _=>some (.byt b)
 | .float b _=>some (.flt b)
 | .ref a=>some (.ref a)
 | .type n=>some (.ty n)
 |_=>none
theorem RelV.abs {x:V}{u:Value}(r:RelV x u):WI u=some x:=by
 cases x with
 |non=>cases r;rfl
 |bl _=>cases r;rfl
 |int _=>obtain⟨t,rfl⟩:=r;rfl
 |str _=>obtain⟨t,rfl⟩:=r;rfl
 |byt _=>obtain⟨t,rfl⟩:=r;rfl
 |flt _=>obtain⟨t,rfl⟩:=r;rfl
 |ref _=>cases r;rfl
 |ty _=>cases r;rfl
theorem RelV.inj {x y:V}{u:Value}(r:RelV x u)(q:RelV y u):x=y:=Option.some.inj (r.abs.symm.trans q.abs)
theorem Aw.inj:∀{xs ys:List V} {us:List Value},Aw xs us->Aw ys us->xs=ys
 |_,_,_,.nil,.nil=>rfl
 |_,_,_,.cons r t,.cons r' t'=>by rw[r.inj r',Aw.inj t t']
section
variable {X:Cx}{pins:List (Addr×Obj)}{σ:St}{H:Hp}{s:Shared}{a:Addr}{xs ys:List V}
theorem AW.of {K:PySem.W.Frag}(h:H a=some (.lst xs)):AW K H a xs:=.inl (.inl h)
theorem A0.of {K:PySem.W.Frag}(h:H a=some (.tup xs)):A0 K H a xs:=.inl (.inl h)
theorem Inv.list (I:Inv X pins σ H s)(h:AW X.K H a xs):∃its:List Value,Aw xs its/\PlainL s.heap a its.toArray/\xs.length<=sizeLine:=by
 rcases h with h|⟨o,its,n,hk,hc,hd,hs,hz,r⟩
 ·obtain⟨z,its,n,r,e⟩:=h.ok I.hok;exact⟨its,r,⟨_,n,e,rfl,rfl,rfl⟩,z⟩
 ·refine⟨its.toList,r,⟨o,n,I.kIn a o hk,hc,hd,by simpa using hs⟩,?_⟩;have e:=r.length;simp only[Array.length_toList] at e;omega
theorem Inv.tuple (I:Inv X pins σ H s)(h:A0 X.K H a xs):∃its:List Value,Aw xs its/\IsTup s.heap a its.toArray/\xs.length<=sizeLine:=by
 rcases h with h|⟨o,its,n,hk,hc,hs,hz,r⟩
 ·obtain⟨z,its,r,p⟩:=h.ok I.hok;exact⟨its,r,p.is,z⟩
 ·refine⟨its.toList,r,⟨o,I.kIn a o hk,hc,n,by simpa using hs⟩,?_⟩;have e:=r.length;simp only[Array.length_toList] at e;omega
theorem Inv.list_inj (I:Inv X pins σ H s)(h:AW X.K H a xs)(h':AW X.K H a ys):xs=ys:=by
 obtain⟨its,r,⟨o,n,e,_,_,d⟩,_⟩:=I.list h;obtain⟨its',r',⟨o',n',e',_,_,d'⟩,_⟩:=I.list h';rw[e] at e';cases e';rw[d] at d';injection d' with d1 _
 have:its=its':=by simpa using congrArg Array.toList d1
 subst this;exact r.inj r'
theorem Inv.tuple_inj (I:Inv X pins σ H s)(h:A0 X.K H a xs)(h':A0 X.K H a ys):xs=ys:=by
 obtain⟨its,r,⟨o,e,_,n,d⟩,_⟩:=I.tuple h;obtain⟨its',r',⟨o',e',_,n',d'⟩,_⟩:=I.tuple h';rw[e] at e';cases e';rw[d] at d';injection d' with d1 _
 have:its=its':=by simpa using congrArg Array.toList d1
 subst this;exact r.inj r'
end
abbrev Cx.wish (X:Cx)(E:Value->Shared->Prop):Cx:={ X with xe:=E }
abbrev Cx.nox (X:Cx):Cx:=X.wish fun _ _=>False
theorem Cx.Ok.wish {X:Cx}(ok:X.Ok)(E:Value->Shared->Prop):(X.wish E).Ok:=
 ⟨ok.mod,ok.kind,ok.glob,ok.blt,ok.above,ok.inj,ok.has,ok.cab,ok.hd,ok.frames,ok.stk,ok.exf,ok.bs,ok.bsz,ok.noex,ok.exfs,ok.funs,ok.frf⟩
theorem Cx.Ok.unwish {X:Cx}{E:Value->Shared->Prop}(ok:(X.wish E).Ok):X.Ok:=
 ⟨ok.mod,ok.kind,ok.glob,ok.blt,ok.above,ok.inj,ok.has,ok.cab,ok.hd,ok.frames,ok.stk,ok.exf,ok.bs,ok.bsz,ok.noex,ok.exfs,ok.funs,ok.frf⟩
section
variable {X:Cx}{pins:List (Addr×Obj)}{σ:St}{H:Hp}{s:Shared}{E:Value->Shared->Prop}
theorem Inv.wish (I:Inv X pins σ H s)(E:Value->Shared->Prop):Inv (X.wish E) pins σ H s:=⟨I.ok.wish E,I.os,I.bare,I.base,I.loc,I.cell,I.free,I.freeC,I.pin,I.hok,I.len⟩
theorem Inv.unwish (I:Inv (X.wish E) pins σ H s):Inv X pins σ H s:=⟨I.ok.unwish,I.os,I.bare,I.base,I.loc,I.cell,I.free,I.freeC,I.pin,I.hok,I.len⟩
theorem SP.unwish {D:Ends}{f:Flow}{s':Shared}(h:SP (X.wish E) pins D f s'):SP X pins D f s':=by
 cases f with
 |next=>obtain⟨σ',H',I,q⟩:=h;exact⟨σ',H',I.unwish,q⟩
 |brk=>obtain⟨σ',H',I,q⟩:=h;exact⟨σ',H',I.unwish,q⟩
 |cont=>obtain⟨σ',H',I,q⟩:=h;exact⟨σ',H',I.unwish,q⟩
 |ret u=>obtain⟨v,σ',H',I,r,q⟩:=h;exact⟨v,σ',H',I.unwish,r,q⟩
theorem PE.nox {e:Expr}{t:TE}(h:PE X.nox e t):PE X e t:=fun pins s σ H Q I hw=>
 wpAny_mono (h pins s σ H Q (I.wish _) hw) (fun _ _ ⟨v,H',I',r,q⟩=>⟨v,H',I'.unwish,r,q⟩) fun _ _ z=>False.elim z
theorem PT.nox {e:Expr}{t:TT}(h:PT X.nox e t):PT X e t:=fun pins s σ H Q I hw=>
 wpAny_mono (h pins s σ H Q (I.wish _) hw) (fun _ _ ⟨H',I',q⟩=>⟨H',I'.unwish,q⟩) fun _ _ z=>False.elim z
theorem Mf.nox {st:List Stmt}{t:TS}(h:Mf X.nox st t):Mf X st t:=fun pins s σ H D I hw=>
 wpAny_mono (h pins s σ H D (I.wish _) hw) (fun _ _ q=>q.unwish) fun _ _ z=>False.elim z
end
section
variable {X:Cx}{st:Stmt}{rest:List Stmt}{t u:TS}{e:Expr}{te:TE}{pos:Pos}
def Io:TS:=fun D σ H=>D.nx σ H
def IJ (t u:TS):TS:=fun D σ H=>t { D with nx:=u D } σ H
theorem AB:Mf X [] Io:=fun _ _ σ H _ I h=>wpAny_execs_nil ⟨σ,H,I,h⟩
theorem Af (h1:PS X st t)(h2:Mf X rest u):Mf X (st::rest) (IJ t u):=by
 intro pins s σ H D I h;refine wpAny_execs_cons (Ba (h1 pins s σ H { D with nx:=u D } I h) fun f s1 q=>?_);cases f with
 |next=>
  obtain⟨σ',H',I',q⟩:=q;exact h2 pins s1 σ' H' D I' q
 |ret v=>exact q
 |brk=>exact q
 |cont=>exact q
theorem Al (h1:PS X st t):Mf X [st] t:=by
 intro pins s σ H D I h;refine wpAny_execs_cons (Ba (h1 pins s σ H D I h) fun f s1 q=>?_);cases f with
 |next=>exact wpAny_execs_nil q
 |ret v=>exact q
 |brk=>exact q
 |cont=>exact q
theorem Inv.quiet {pins:List (Addr×Obj)}{σ:St}{H:Hp}{s:Shared}(I:Inv X pins σ H s):interactive X.env=false:=by simp[interactive,I.ok.kind]
def Q0 (te:TE):TS:=fun D σ H=>te σ H fun _ H1=>D.nx σ H1
theorem Cn (he:PE X e te)(hs:swapsWith e none pos.line X.env=pure false:=by rfl):PS X (.Expr e pos) (Q0 te):=by
 intro pins s σ H D I h;exact wpAny_Expr_any (Ba (he pins s σ H _ I h) fun v s1 ⟨x,H1,I1,r1,q1⟩=>⟨σ,H1,I1,q1⟩) I.quiet hs
def UW (te:TE):TS:=fun D σ H=>te σ H D.rt
theorem Ar (he:PE X e te):PS X (.Return (some e) pos) (UW te):=by
 intro pins s σ H D I h;exact wpAny_Return_some (Ba (he pins s σ H _ I h) fun v s1 ⟨x,H1,I1,r1,q1⟩=>⟨x,σ,H1,I1,r1,q1⟩)
def GF (c:TT)(t u:TS):TS:=fun D σ H=>c σ H fun b H1=>if b=true then t D σ H1 else u D σ H1
theorem A7 {c:Expr}{a b:List Stmt}{tc:TT}(hc:PT X c tc)(ha:Mf X a t)(hb:Mf X b u):PS X (.If c a b pos) (GF tc t u):=by
 intro pins s σ H D I h;refine wpAny_If (Ba (hc pins s σ H _ I h) fun d s1 ⟨H1,I1,q1⟩=>?_);cases d with
 |true=>exact ha pins s1 σ H1 D I1 q1
 |false=>exact hb pins s1 σ H1 D I1 q1
def Vp:TS:=fun _ _ _=>False
theorem G4:PS X st Vp:=fun _ _ _ _ _ _ h=>h.elim
end
abbrev TG:=V->St->Hp->(St->Hp->Prop)->Prop
abbrev Up:=List V->St->Hp->(St->Hp->Prop)->Prop
def PG (X:Cx)(target:Expr)(t:TG):Prop:=
 ∀(pins:List (Addr×Obj)) (s:Shared) (σ:St) (H:Hp) (v:V) (u:Value) (Q:St->Hp->Prop),Inv X pins σ H s->RelV v u->t v σ H Q->
  wpAny (model X.prog X.w) X.A (assign target X.env u) (fun _ s'=>∃σ' H',Inv X pins σ' H' s'/\Q σ' H') X.xe s
def V6 (X:Cx)(ts:List Expr)(t:Up):Prop:=
 ∀(pins:List (Addr×Obj)) (s:Shared) (σ:St) (H:Hp) (vs:List V) (us:List Value) (Q:St->Hp->Prop),Inv X pins σ H s->Aw vs us->t vs σ H Q->
  wpAny (model X.prog X.w) X.A (assignInOrder ((assignEach ts X.env).map (·.2)) us) (fun _ s'=>∃σ' H',Inv X pins σ' H' s'/\Q σ' H') X.xe s
section
variable {X:Cx}{pos:Pos}
def Au (i:Nat):TG:=fun v σ H Q=>Q (σ.set i (some v)) H
theorem An {i:Nat}{x:Str}(hN:X.N.Nodup)(hi:X.N[i]?=some x)(hx:Loc X.env.scope x)(hf:X.fn x=true\/X.env.scope.names.lookup x=some .local:=by first|exact .inl rfl|exact .inr rfl|assumption):PG X (.Name x pos) (Au i):=by
 intro pins s σ H v u Q I r h;exact wpAny_assign_Name (Fp I hN hi hx r (fun s' I'=>⟨_,H,I',h⟩) hf)
def R4:Up:=fun vs σ H Q=>vs=[]/\Q σ H
def EE (t:TG)(u:Up):Up:=fun vs σ H Q=>∃v r,vs=v::r/\t v σ H fun σ' H'=>u r σ' H' Q
theorem Ds:V6 X [] R4:=by
 intro pins s σ H vs us Q I r h;obtain⟨e,h⟩:=h;subst e;cases r;exact assignInOrder_nil ⟨σ,H,I,h⟩
theorem AF {e:Expr} {es:List Expr} {t:TG} {u:Up} (h1:PG X e t) (h2:V6 X es u)
  (hs:(assignEach (e::es) X.env).map (·.2)=assign e X.env::(assignEach es X.env).map (·.2):=by rfl):V6 X (e::es) (EE t u):=by
 intro pins s σ H vs us Q I r h;obtain⟨v,vr,e1,h⟩:=h;subst e1;cases r with
 |cons r rr=>
  rw[hs];refine assignInOrder_cons (Ba (h1 pins s σ H _ _ _ I r h) fun _ s1 ⟨σ1,H1,I1,q1⟩=>?_);exact h2 pins s1 σ1 H1 _ _ Q I1 rr q1
def Qb (K:PySem.W.Frag)(n:Nat)(t:Up):TG:=fun v σ H Q=>∃a xs,v=.ref a/\A0 K H a xs/\xs.length=n/\t xs σ H Q
theorem Kd {es:List Expr} {k:Nat} {t:Up} {n:Nat} (hc:X.calm=true) (h:V6 X es t)
  (hn:(assignEach es X.env).length=n:=by rfl) (hst:(assignEach es X.env).findIdx? (·.1)=none:=by rfl):PG X (.Tuple es k pos) (Qb X.K n t):=by
 intro pins s σ H v u Q I r hw;obtain⟨a,xs,e1,hq,hl,hw⟩:=hw;subst e1;cases r;obtain⟨its,rv,ht,hz⟩:=I.tuple hq;refine assign_Tuple_tuple (I.ok.hd hc) ht (by simp[hn,<-hl,rv.length]) hst fun h' hx=>?_
 have I1:Inv X pins σ H { s with heap:=h' }:=I.kept (t':=s.toks) fun b o e=>hx b o (Nat.ne_of_lt (Heap.lt_size e)) e
 exact h pins _ σ H xs _ Q I1 (by simpa using rv) hw
def L6 (te:TE)(g:TG):TS:=fun D σ H=>te σ H fun x H1=>g x σ H1 D.nx
theorem As {i:Nat}{x:Str}{e:Expr}{te:TE}{pos':Pos}(hN:X.N.Nodup)(hi:X.N[i]?=some x)(hx:Loc X.env.scope x)(he:PE X e te)(hs:swapsWith e (some (.Name x pos')) pos.line X.env=pure false:=by rfl)(hf:X.fn x=true\/X.env.scope.names.lookup x=some .local:=by first|exact .inl rfl|exact .inr rfl|assumption) :
  PS X (.Assign [.Name x pos'] e pos) (L6 te (Au i)):=by
 intro pins s σ H D I h;refine wpAny_Assign_Name (Ba (he pins s σ H _ I h) fun v s1 ⟨y,H1,I1,r1,q1⟩=>?_) hs;exact Fp I1 hN hi hx r1 (fun s2 I2=>⟨_,H1,I2,q1⟩) hf
end
section
variable {X:Cx}{pos:Pos}
def QB (c:TT)(tb:TS):TS:=fun D σ H=>∃W:Nat->St->Hp->Prop,(∃m,W m σ H)/\∀m σ H,W m σ H->
 c σ H fun b H1=>if b=true then ∃N:St->Hp->Prop,(∀σ' H',N σ' H'->∃m',m'<m/\W m' σ' H')/\tb { D with nx:=N,ct:=N,bk:=D.nx } σ H1 else D.nx σ H1
theorem MQ {c:Expr}{body:List Stmt}{tc:TT}{tb:TS}(hp:PassesOwn (model X.prog X.w) X.A X.env X.xe)(hc:PT X c tc)(hb:Mf X body tb):PS X (.While c body [] pos) (QB tc tb):=by
 intro pins s σ H D I h;obtain⟨W,⟨m0,w0⟩,turn⟩:=h;refine wpAny_While (codeAny_whileLoop (fun n s'=>∃σ' H',Inv X pins σ' H' s'/\W n σ' H') ?_ m0 ⟨σ,H,I,w0⟩)
 rintro n s1 ⟨σ1,H1,I1,w1⟩
 refine wpAny_passesOwn hp (Ba (hc pins s1 σ1 H1 _ I1 (turn n σ1 H1 w1)) fun b s2 ⟨H2,I2,q2⟩=>?_);cases b with
 |true=>
  obtain⟨N,hN,q2⟩:=q2;rw[if_pos rfl];refine wpAny_passesOwn hp (Ba (hb pins s2 σ1 H2 _ I2 q2) fun f s3 q3=>?_);cases f with
  |next=>
   obtain⟨σ3,H3,I3,n3⟩:=q3;obtain⟨m',hm,w3⟩:=hN σ3 H3 n3;exact⟨m',hm,σ3,H3,I3,w3⟩
  |cont=>
   obtain⟨σ3,H3,I3,n3⟩:=q3;obtain⟨m',hm,w3⟩:=hN σ3 H3 n3;exact⟨m',hm,σ3,H3,I3,w3⟩
  |brk=>exact q3
  |ret v=>exact q3
 |false=>
  rw[if_neg Bool.false_ne_true];exact wpAny_execs_nil ⟨σ1,H2,I2,q2⟩
end
structure It where
 go:Nat->Hp->Prop
 yld:Nat->Hp->V->Hp->Prop
 stop:Nat->Hp->Prop
def HN (X:Cx)(pins:List (Addr×Obj))(H:Hp)(b:Addr):Prop:=
 H b=none/\b≠X.env.locals/\b∉X.fs/\(b∈X.ex\/X.s₀.heap.objs.size<=b)/\(∀x c,X.env.cells.lookup x=some c->c≠b)/\∀p∈X.pn++pins,p.1≠b
theorem Inv.fpOk {X:Cx}{pins:List (Addr×Obj)}{σ:St}{H H':Hp}{s:Shared}{b:Addr}(I:Inv X pins σ H s)(hb:s.heap.objs.size<=b)(hn:H' b=none):HN X pins H' b:=by
 refine⟨hn,Nat.ne_of_gt (Nat.lt_of_lt_of_le I.lt hb),I.nofs hb,.inr (Nat.le_trans I.sz hb),fun x c e z=>?_,fun p hp z=>?_⟩
 ·obtain⟨v,q⟩:=I.cell x c e;exact absurd (Nat.lt_of_lt_of_le q.lt (by rw[z];exact hb)) (Nat.lt_irrefl _)
 ·exact absurd (Nat.lt_of_lt_of_le (Heap.lt_size (I.pin p hp).1) (by rw[z];exact hb)) (Nat.lt_irrefl _)
structure Turn (P:Program) (w:World) (K:PySem.W.Frag) (tg:Expr) (J:It) (fp:List Addr) (it:Addr) (tn:Nat->Heap->Prop):Prop where
 mem:it∈fp
 obj:∀i h,tn i h->∀b∈fp,∃o,h.get? b=some o/\∀v,o.data≠.cell v
 keep:∀i h h',tn i h->(∀b∈fp,∀o,h.get? b=some o->h'.get? b=some o)->tn i h'
 item:∀(X:Cx),X.prog=P->X.w=w->X.K=K->X.calm=true->∀(i:Nat) (pins:List (Addr×Obj)) (s:Shared) (σ:St) (H:Hp) (E:Value->Shared->Prop),Inv X pins σ H s->(∀b∈fp,HN X pins H b)->tn i s.heap->J.go i H->
  wpAny (model P w) X.A (pyNext (.ref it)) (fun r s1=>∃u,r=some u/\
   wpAny (model P w) X.A (letOwnedTupleGo tg (.ref it) u) (fun _ s2=>∃x H',Inv X pins σ H' s2/\RelV x u/\J.yld i H x H'/\tn (i+1) s2.heap/\∀b∈fp,H' b=none) E s1) E s
 done:∀(X:Cx),X.prog=P->X.w=w->X.K=K->X.calm=true->∀(i:Nat) (pins:List (Addr×Obj)) (s:Shared) (σ:St) (H:Hp) (E:Value->Shared->Prop),Inv X pins σ H s->(∀b∈fp,HN X pins H b)->tn i s.heap->J.stop i H->
  wpAny (model P w) X.A (pyNext (.ref it)) (fun r s1=>r=none/\Inv X pins σ H s1) E s
 self:∀(A:Around) (i:Nat) (s:Shared) (Q:Value->Shared->Prop) (E:Value->Shared->Prop),tn i s.heap->Q (.ref it) s->wpAny (model P w) A (pyIter (.ref it)) Q E s
abbrev TI:=St->Hp->(It->Hp->Prop)->Prop
def Xh (X:Cx)(pins:List (Addr×Obj))(σ:St)(tg:Expr)(R:It->Hp->Prop)(itv:Value)(s2:Shared):Prop:=
 ∃(it:Addr) (fp:List Addr) (tn:Nat->Heap->Prop) (J:It) (H':Hp),itv=.ref it/\Inv X pins σ H' s2/\Turn X.prog X.w X.K tg J fp it tn/\tn 0 s2.heap/\(∀b∈fp,HN X pins H' b)/\R J H'
def PI (X:Cx)(tg iter:Expr)(wi:TI):Prop:=
 ∀(pins:List (Addr×Obj)) (s:Shared) (σ:St) (H:Hp) (R:It->Hp->Prop),Inv X pins σ H s->wi σ H R->
  wpAny (model X.prog X.w) X.A (eval iter X.env) (fun v s1=>wpAny (model X.prog X.w) X.A (pyIter v) (Xh X pins σ tg R) X.xe s1) X.xe s
theorem KN {M:Model} {A:Around} {E:Value->Shared->Prop} {s:Shared} {tg:Expr} {it:Addr} {u:Value} {o:Obj} {n:String} {vs:Array Value} {Q:Unit->Shared->Prop} (ho:s.heap.get? it=some o) (hc:o.cls=.type n) (hd:o.data=.fields vs)
  (hn:["enumerate","zip","dict_itemiterator","dict_reverseitemiterator","odict_iterator","itertools.zip_longest","itertools.pairwise"].contains n=false) (hQ:Q () s):wpAny M A (letOwnedTupleGo tg (.ref it) u) Q E s:=by
 unfold letOwnedTupleGo;cases tg<;>first
  |exact wpAny_pure hQ
  |(cases u<;>first
    |exact wpAny_pure hQ
    |(refine wpAny_bind (wpAny_load ho ?_)
      rw[hc,hd];show wpAny M A (if(["enumerate","zip","dict_itemiterator","dict_reverseitemiterator","odict_iterator","itertools.zip_longest","itertools.pairwise"].contains n&&vs[0]? == some (rawInt _))=true then _ else _) Q E s;rw[if_neg (by intro h;rw[hn,Bool.false_and] at h;cases h)];exact wpAny_pure hQ))
def VA (K:PySem.W.Frag)(a:Addr):It:=
 ⟨fun i H=>∃xs x,AW K H a xs/\xs[i]?=some x,fun i H x H'=>H'=H/\∀xs,AW K H a xs->xs[i]?=some x,fun i H=>∃xs,AW K H a xs/\xs.length<=i⟩
def Vy (K:PySem.W.Frag)(a:Addr):It:=
 ⟨fun i H=>∃xs x,A0 K H a xs/\xs[i]?=some x,fun i H x H'=>H'=H/\∀xs,A0 K H a xs->xs[i]?=some x,fun i H=>∃xs,A0 K H a xs/\xs.length<=i⟩
def Tx (lo:Int)(n:Nat):It:=⟨fun i _=>i<n,fun i H x H'=>H'=H/\x=.int (lo+i),fun i _=>n<=i⟩
theorem Qf {P:Program}{w:World}{K:PySem.W.Frag}{tg:Expr}(a it:Addr):Turn P w K tg (VA K a) [it] it (fun i h=>h.IsListIter it a i) where
 mem:=by simp
 obj:=fun i h st b hb=>by
  have e:b=it:=by simpa using hb
  subst e;obtain⟨o,e,c,d⟩:=st;exact⟨o,e,fun v z=>by rw[d] at z;cases z⟩
 keep:=fun i h h' st k=>st.at fun o e=>k it (by simp) o e
 item:=by
  intro X hP hw hK hc i pins s σ H E I hf st hg;subst hP hw hK;obtain⟨xs,x,hq,hx⟩:=hg;obtain⟨its,rv,p,hz⟩:=I.list hq;obtain⟨u,hu,ru⟩:=rv.get hx;obtain⟨f0,f1,f2,f3,f4,f5⟩:=hf it (by simp);refine wpAny_pyNext_list_item st p.isList (x:=u) (by simpa using hu) fun h' st' sb=>?_
  have I1:Inv X pins σ H { s with heap:=h' }:=I.turned (t':=s.toks) (fun b o hb e=>(sb.2 b hb).trans e) f0 f1 f3 f4 f5;obtain⟨o,e,c,d⟩:=id st';exact⟨u,rfl,KN (s:={ s with heap:=h' }) e c d (by decide) ⟨x,H,I1,ru,⟨rfl,fun ys hy=>by rw[I.list_inj hy hq];exact hx⟩,st',fun b hb=>(hf b hb).1⟩⟩
 done:=by
  intro X hP hw hK hc i pins s σ H E I hf st hg;subst hP hw hK;obtain⟨xs,hq,hx⟩:=hg;obtain⟨its,rv,p,hz⟩:=I.list hq;obtain⟨f0,f1,f2,f3,f4,f5⟩:=hf it (by simp);have hl:=rv.length;exact wpAny_pyNext_list_end (I.ok.hd hc) st p.isList (by simp;omega) fun h' eb=>⟨rfl,I.turned (t':=s.toks) (fun b o hb e=>eb b o hb e) f0 f1 f3 f4 f5⟩
 self:=fun _ _ _ _ _ st h=>wpAny_pyIter_listiter st h
theorem N0 {P:Program}{w:World}{K:PySem.W.Frag}{tg:Expr}(a it:Addr):Turn P w K tg (Vy K a) [it] it (fun i h=>h.IsTupleIter it a i) where
 mem:=by simp
 obj:=fun i h st b hb=>by
  have e:b=it:=by simpa using hb
  subst e;obtain⟨o,e,c,d⟩:=st;exact⟨o,e,fun v z=>by rw[d] at z;cases z⟩
 keep:=fun i h h' st k=>st.at fun o e=>k it (by simp) o e
 item:=by
  intro X hP hw hK hc i pins s σ H E I hf st hg;subst hP hw hK;obtain⟨xs,x,hq,hx⟩:=hg;obtain⟨its,rv,p,hz⟩:=I.tuple hq;obtain⟨u,hu,ru⟩:=rv.get hx;obtain⟨f0,f1,f2,f3,f4,f5⟩:=hf it (by simp);refine wpAny_pyNext_tuple_item st (show s.heap.IsTuple a its.toArray from p) (x:=u) (by simpa using hu) fun h' st' sb=>?_
  have I1:Inv X pins σ H { s with heap:=h' }:=I.turned (t':=s.toks) (fun b o hb e=>(sb.2 b hb).trans e) f0 f1 f3 f4 f5;obtain⟨o,e,c,d⟩:=id st';exact⟨u,rfl,KN (s:={ s with heap:=h' }) e c d (by decide) ⟨x,H,I1,ru,⟨rfl,fun ys hy=>by rw[I.tuple_inj hy hq];exact hx⟩,st',fun b hb=>(hf b hb).1⟩⟩
 done:=by
  intro X hP hw hK hc i pins s σ H E I hf st hg;subst hP hw hK;obtain⟨xs,hq,hx⟩:=hg;obtain⟨its,rv,p,hz⟩:=I.tuple hq;obtain⟨f0,f1,f2,f3,f4,f5⟩:=hf it (by simp);have hl:=rv.length;exact wpAny_pyNext_tuple_end (I.ok.hd hc) st (show s.heap.IsTuple a its.toArray from p) (by simp;omega) fun h' eb=>⟨rfl,I.turned (t':=s.toks) (fun b o hb e=>eb b o hb e) f0 f1 f3 f4 f5⟩
 self:=fun _ _ _ _ _ st h=>wpAny_pyIter_tupleiter st h
theorem NO {P:Program}{w:World}{K:PySem.W.Frag}{tg:Expr}(it:Addr)(lo:Int)(n:Nat):Turn P w K tg (Tx lo n) [it] it (fun i h=>IsRangeIter h it (lo+(i:Nat)*1) ((n:Int)-(i:Nat)) 1) where
 mem:=by simp
 obj:=fun i h st b hb=>by
  have e:b=it:=by simpa using hb
  subst e;exact⟨_,st,fun v z=>by
   have z':Data.fields _=Data.cell v:=z;cases z'⟩
 keep:=fun i h h' st k=>k it (by simp) _ st
 item:=by
  intro X hP hw hK hc i pins s σ H E I hf st hg;subst hP hw hK;obtain⟨f0,f1,f2,f3,f4,f5⟩:=hf it (by simp);have W:=Walks.range (prog:=X.prog) (w:=X.w) (I.ok.hd hc) it lo 1 n;refine W.item i s _ _ hg st fun v h' tk hv st' kk=>?_
  obtain⟨t,rfl⟩:=hv;have I1:Inv X pins σ H { s with heap:=h',toks:=tk }:=I.turned (fun b o hb e=>kk b o (by simpa using hb) e) f0 f1 f3 f4 f5;refine⟨_,rfl,KN (s:={ s with heap:=h',toks:=tk }) (n:="range_iterator") st' rfl rfl (by decide) ⟨.int (lo+i),H,I1,⟨t,?_⟩,⟨rfl,rfl⟩,st',fun b hb=>(hf b hb).1⟩⟩;rw[Int.mul_one]
 done:=by
  intro X hP hw hK hc i pins s σ H E I hf st hg;subst hP hw hK;obtain⟨f0,f1,f2,f3,f4,f5⟩:=hf it (by simp);exact wpAny_pyNext_range_end (I.ok.hd hc) st (by have:n<=i:=hg;omega) fun h' eb=>⟨rfl,I.turned (t':=s.toks) (fun b o hb e=>eb b o hb e) f0 f1 f3 f4 f5⟩
 self:=fun _ _ _ _ _ st h=>wpAny_pyIter_rangeiter st h
section
variable {X:Cx}{tg:Expr}
def VS (K:PySem.W.Frag)(tl:TE):TI:=fun σ H R=>tl σ H fun x H1=>∃a,x=.ref a/\(∃xs,AW K H1 a xs)/\R (VA K a) H1
def WO (K:PySem.W.Frag)(tl:TE):TI:=fun σ H R=>tl σ H fun x H1=>∃a,x=.ref a/\(∃xs,A0 K H1 a xs)/\R (Vy K a) H1
theorem Ck {l:Expr}{tl:TE}(hl:PE X l tl):PI X tg l (VS X.K tl):=by
 intro pins s σ H R I h;refine Ba (hl pins s σ H _ I h) fun v s1 ⟨x,H1,I1,r1,q1⟩=>?_
 obtain⟨a,e,⟨xs,hq⟩,q⟩:=q1;subst e;cases r1;obtain⟨its,rv,p,hz⟩:=I1.list hq;refine wpAny_pyIter_list p.isList ?_;refine⟨s1.heap.objs.size,[s1.heap.objs.size],_,_,H1,rfl,I1.kept (t':=s1.toks) fun b o e=>Heap.get?_push_of_some _ e,Qf a _,⟨_,Heap.get?_push_size _ rfl,rfl,rfl⟩,fun b hb=>?_,q⟩;have e:b=s1.heap.objs.size:=by simpa using hb
 subst e;exact I1.fpOk (Nat.le_refl _) (I1.hok.fresh (Nat.le_refl _))
theorem E4 {l:Expr}{tl:TE}(hl:PE X l tl):PI X tg l (WO X.K tl):=by
 intro pins s σ H R I h;refine Ba (hl pins s σ H _ I h) fun v s1 ⟨x,H1,I1,r1,q1⟩=>?_
 obtain⟨a,e,⟨xs,hq⟩,q⟩:=q1;subst e;cases r1;obtain⟨its,rv,p,hz⟩:=I1.tuple hq;refine wpAny_pyIter_tuple (show s1.heap.IsTuple a its.toArray from p) ?_;refine⟨s1.heap.objs.size,[s1.heap.objs.size],_,_,H1,rfl,I1.kept (t':=s1.toks) fun b o e=>Heap.get?_push_of_some _ e,N0 a _,⟨_,Heap.get?_push_size _ rfl,rfl,rfl⟩,fun b hb=>?_,q⟩;have e:b=s1.heap.objs.size:=by simpa using hb
 subst e;exact I1.fpOk (Nat.le_refl _) (I1.hok.fresh (Nat.le_refl _))
theorem R6 {pins:List (Addr×Obj)} {σ:St} {H:Hp} {s:Shared} {R:It->Hp->Prop} {E:Value->Shared->Prop} {lo hi:Int} {t u v:Tok} {tk:Nat} (I:Inv X pins σ H s) (h1:-(2^62)<=lo) (h2:lo<2^62) (h3:-(2^62)<=hi) (h4:hi<2^62)
  (q:R (Tx lo (hi-lo).toNat) H):wpAny (model X.prog X.w) X.A (pyIter (.ref s.heap.objs.size)) (Xh X pins σ tg R) E { s with heap:=s.heap.push { cls:=.type "range",data:=.fields #[.int lo t,.int hi u,.int 1 v] },toks:=tk }:=by
 refine wpAny_pyIter_range (IsRange.new ..) (small_one h1 h2 h3 h4) ?_;have I1:Inv X pins σ H { s with heap:=s.heap.push { cls:=.type "range",data:=.fields #[.int lo t,.int hi u,.int 1 v] },toks:=tk }:=I.kept fun b o e=>Heap.get?_push_of_some _ e
 refine⟨(s.heap.push { cls:=.type "range",data:=.fields #[.int lo t,.int hi u,.int 1 v] }).objs.size,[(s.heap.push { cls:=.type "range",data:=.fields #[.int lo t,.int hi u,.int 1 v] }).objs.size],_,_,H,rfl,
  I1.kept (t':=tk) fun b o e=>Heap.get?_push_of_some _ e,NO _ lo (hi-lo).toNat,?_,fun b hb=>?_,q⟩
 ·have e1:lo+((0:Nat):Int)*1=lo:=by simp
  have e2:(((hi-lo).toNat:Nat):Int)-((0:Nat):Int)=Builtin.Range.rangeSize lo hi 1:=by rw[rangeSize_one];split<;>omega
  show IsRangeIter _ _ (lo+((0:Nat):Int)*1) ((((hi-lo).toNat:Nat):Int)-((0:Nat):Int)) 1;rw[e1,e2];exact Heap.get?_push_size _ rfl
 ·have e:b=(s.heap.push { cls:=.type "range",data:=.fields #[.int lo t,.int hi u,.int 1 v] }).objs.size:=by simpa using hb
  subst e;exact I1.fpOk (Nat.le_refl _) (I1.hok.fresh (Nat.le_refl _))
def VJ (ta:TA):TI:=fun σ H R=>ta σ H fun vs H1=>∃j:Int,vs=[.int j]/\-(2^62)<=j/\j<2^62/\R (Tx 0 j.toNat) H1
theorem Il {a:Expr}{ta:TA}{p pos:Pos}(hg:Gl X "range")(hm:X.mg "range"=none)(ha:PA X [a] ta)(hs:starEach [a] X.env=[(false,eval a X.env)]:=by rfl):PI X tg (.Call (.Name "range" p) [a] [] pos) (VJ ta):=by
 intro pins s σ H R I h;refine Call_ (Fz I hg hm boot_range (PyProof.Rows.callWith_type1 (Ba (ha pos pins s σ H _ I h) fun us s1 ⟨vs,H1,I1,r1,q1⟩=>?_) hs rfl));obtain⟨j,e,q1,q2,q⟩:=q1;subst e;cases r1 with
 |cons r rr=>
  cases rr;obtain⟨t,rfl⟩:=r;exact call_range_1 (R6 I1 (by omega) (by omega) q1 q2 (by simpa using q))
def SW (wi:TI)(g:TG)(tb:TS):TS:=fun D σ H=>wi σ H fun J H1=>∃W:Nat->Nat->St->Hp->Prop,(∃m,W 0 m σ H1)/\∀i m σ H,W i m σ H->
 (J.stop i H/\D.nx σ H)\/(J.go i H/\∃N:St->Hp->Prop,(∀σ' H',N σ' H'->∃m',m'<m/\W (i+1) m' σ' H')/\∀x H',J.yld i H x H'->g x σ H' fun σ2 H2=>tb { D with nx:=N,ct:=N,bk:=D.nx } σ2 H2)
def JK (fp:List Addr)(h:Heap):List (Addr×Obj):=fp.filterMap fun b=>(h.get? b).map fun o=>(b,o)
theorem E7 {fp:List Addr}{h:Heap}{b:Addr}{o:Obj}(hb:b∈fp)(e:h.get? b=some o):(b,o)∈JK fp h:=List.mem_filterMap.mpr ⟨b,hb,by rw[e];rfl⟩
theorem PQ {fp:List Addr}{h:Heap}{p:Addr×Obj}(hp:p∈JK fp h):p.1∈fp/\h.get? p.1=some p.2:=by
 obtain⟨b,hb,e⟩:=List.mem_filterMap.mp hp;cases q:h.get? b with
 |none=>rw[q] at e;cases e
 |some o=>
  rw[q] at e;have e':(b,o)=p:=Option.some.inj e;subst e';exact⟨hb,q⟩
theorem Inv.pinned {pins:List (Addr×Obj)}{σ:St}{H:Hp}{s:Shared}{fp:List Addr}(I:Inv X pins σ H s)(hf:∀b∈fp,HN X pins H b)(ho:∀b∈fp,∃o,s.heap.get? b=some o/\∀v,o.data≠.cell v):Inv X (pins++JK fp s.heap) σ H s:=
 I.pins_of fun p hp=>(List.mem_append.mp hp).elim (fun z=>I.pin p (List.mem_append_right _ z)) fun z=>by
  obtain⟨hb,e⟩:=PQ z;obtain⟨f0,f1,f2,_⟩:=hf p.1 hb;obtain⟨o,e',d⟩:=ho p.1 hb;rw[e] at e';cases e';exact⟨e,f0,f1,f2,d⟩
theorem Inv.unpinned {pins pl:List (Addr×Obj)}{σ:St}{H:Hp}{s:Shared}(I:Inv X (pins++pl) σ H s):Inv X pins σ H s:=I.pins_of fun p hp=>I.pin p (List.mem_append_right _ (List.mem_append_left _ hp))
theorem CW {iter:Expr} {body:List Stmt} {wi:TI} {g:TG} {tb:TS} {pos:Pos} (hp:PassesOwn (model X.prog X.w) X.A X.env X.xe) (hc:X.calm=true) (hi:PI X tg iter wi) (hg:PG X tg g) (hb:Mf X body tb)
  (hs:∀x,foldedSetIterable iter X.env x=pure x:=by intro _;rfl):PS X (.For tg iter body [] pos) (SW wi g tb):=by
 intro pins s σ H D I h;refine wpAny_For (Ba (hi pins s σ H _ I h) fun v s1 h1=>Ba h1 fun itv s2 h2=>?_) hs;obtain⟨it,fp,tn,J,H2,e,I2,T,st2,f2,W,⟨m0,w0⟩,turn⟩:=h2;subst e;have stat:∀{H':Hp},(∀b∈fp,H' b=none)->∀b∈fp,HN X pins H' b:=fun hn b hb=>⟨hn b hb,(f2 b hb).2⟩
 refine codeAny_forLoop_any (fun n s'=>∃i σ' H',Inv X pins σ' H' s'/\tn i s'.heap/\(∀b∈fp,H' b=none)/\W i n σ' H') ?_ m0 ⟨0,σ,H2,I2,st2,fun b hb=>(f2 b hb).1,w0⟩
 rintro n s3 ⟨i,σ3,H3,I3,st3,fr3,w3⟩
 rcases turn i n σ3 H3 w3 with⟨stop,qn⟩|⟨go,N,hN,step⟩
 ·refine wpAny_passesOwn hp (Ba (T.done X rfl rfl rfl hc i pins s3 σ3 H3 X.xe I3 (stat fr3) st3 stop) fun r s4 ⟨hr,I4⟩=>?_);subst hr;exact wpAny_execs_nil ⟨σ3,H3,I4,qn⟩
 ·refine wpAny_passesOwn hp (Ba (T.item X rfl rfl rfl hc i pins s3 σ3 H3 X.xe I3 (stat fr3) st3 go) fun r s4 ⟨u,hr,h4⟩=>?_);subst hr;refine wpAny_passesOwn hp (Ba h4 fun _ s5 ⟨x,H5,I5,r5,y5,st5,fr5⟩=>?_);have I5':=I5.pinned (stat fr5) (T.obj _ _ st5);refine wpAny_passesOwn hp (Ba (hg _ s5 σ3 H5 x u _ I5' r5 (step x H5 y5)) fun _ s6 ⟨σ6,H6,I6,q6⟩=>?_);refine wpAny_passesOwn hp (Ba (hb _ s6 σ6 H6 _ I6 q6) fun f s7 q7=>?_);have again:∀{σ7:St} {H7:Hp},Inv X (pins++JK fp s5.heap) σ7 H7 s7->N σ7 H7->∃m,m<n/\∃i σ' H',Inv X pins σ' H' s7/\tn i s7.heap/\(∀b∈fp,H' b=none)/\W i m σ' H':=fun{σ7 H7} I7 n7=>by
   obtain⟨m',hm,w7⟩:=hN σ7 H7 n7;refine⟨m',hm,i+1,σ7,H7,I7.unpinned,T.keep _ _ _ st5 fun b hb o e=>(I7.pin (b,o) (List.mem_append_right _ (List.mem_append_right _ (E7 hb e)))).1,fun b hb=>?_,w7⟩;obtain⟨o,e,d⟩:=T.obj _ _ st5 b hb;exact(I7.pin (b,o) (List.mem_append_right _ (List.mem_append_right _ (E7 hb e)))).2.1
  cases f with
  |next=>obtain⟨σ7,H7,I7,n7⟩:=q7;exact again I7 n7
  |cont=>obtain⟨σ7,H7,I7,n7⟩:=q7;exact again I7 n7
  |brk=>obtain⟨σ7,H7,I7,q7⟩:=q7;exact⟨σ7,H7,I7.unpinned,q7⟩
  |ret v=>obtain⟨x7,σ7,H7,I7,r7,q7⟩:=q7;exact⟨x7,σ7,H7,I7.unpinned,r7,q7⟩
end
theorem DJ {K:PySem.W.Frag} {a:Addr} {xs:List V} {g:TG} {tb:TS} {D:Ends} {σ:St} {H:Hp} (Pv:Nat->St->Hp->Prop) (h0:Pv 0 σ H) (hl:∀i σ H,i<=xs.length->Pv i σ H->AW K H a xs)
  (hs:∀i x σ H,xs[i]?=some x->Pv i σ H->g x σ H fun σ2 H2=>tb { D with nx:=Pv (i+1),ct:=Pv (i+1),bk:=D.nx } σ2 H2) (hd:∀σ H,Pv xs.length σ H->D.nx σ H) :
  ∃W:Nat->Nat->St->Hp->Prop,(∃m,W 0 m σ H)/\∀i m σ H,W i m σ H->
   ((VA K a).stop i H/\D.nx σ H)\/((VA K a).go i H/\∃N:St->Hp->Prop,(∀σ' H',N σ' H'->∃m',m'<m/\W (i+1) m' σ' H')/\∀x H',(VA K a).yld i H x H'->g x σ H' fun σ2 H2=>tb { D with nx:=N,ct:=N,bk:=D.nx } σ2 H2):=by
 refine⟨fun i m σ H=>m=xs.length-i/\i<=xs.length/\Pv i σ H,⟨xs.length,by simp,Nat.zero_le _,h0⟩,?_⟩
 rintro i m σ H ⟨rfl,hi,p⟩
 have q:=hl i σ H hi p
 by_cases hlt:i<xs.length
 ·refine .inr ⟨⟨xs,xs[i],q,by simp[hlt]⟩,Pv (i+1),fun σ' H' p'=>⟨xs.length-(i+1),by omega,rfl,hlt,p'⟩,fun x H' y=>?_⟩;obtain⟨e,y⟩:=y;subst e;exact hs i x σ _ (y xs q) p
 ·have e:i=xs.length:=by omega
  subst e;exact .inl ⟨⟨xs,q,Nat.le_refl _⟩,hd σ H p⟩
theorem L1 {K:PySem.W.Frag} {a:Addr} {xs:List V} {g:TG} {tb:TS} {D:Ends} {σ:St} {H:Hp} (Pv:Nat->St->Hp->Prop) (h0:Pv 0 σ H) (hl:∀i σ H,i<=xs.length->Pv i σ H->A0 K H a xs)
  (hs:∀i x σ H,xs[i]?=some x->Pv i σ H->g x σ H fun σ2 H2=>tb { D with nx:=Pv (i+1),ct:=Pv (i+1),bk:=D.nx } σ2 H2) (hd:∀σ H,Pv xs.length σ H->D.nx σ H) :
  ∃W:Nat->Nat->St->Hp->Prop,(∃m,W 0 m σ H)/\∀i m σ H,W i m σ H->
   ((Vy K a).stop i H/\D.nx σ H)\/((Vy K a).go i H/\∃N:St->Hp->Prop,(∀σ' H',N σ' H'->∃m',m'<m/\W (i+1) m' σ' H')/\∀x H',(Vy K a).yld i H x H'->g x σ H' fun σ2 H2=>tb { D with nx:=N,ct:=N,bk:=D.nx } σ2 H2):=by
 refine⟨fun i m σ H=>m=xs.length-i/\i<=xs.length/\Pv i σ H,⟨xs.length,by simp,Nat.zero_le _,h0⟩,?_⟩
 rintro i m σ H ⟨rfl,hi,p⟩
 have q:=hl i σ H hi p
 by_cases hlt:i<xs.length
 ·refine .inr ⟨⟨xs,xs[i],q,by simp[hlt]⟩,Pv (i+1),fun σ' H' p'=>⟨xs.length-(i+1),by omega,rfl,hlt,p'⟩,fun x H' y=>?_⟩;obtain⟨e,y⟩:=y;subst e;exact hs i x σ _ (y xs q) p
 ·have e:i=xs.length:=by omega
  subst e;exact .inl ⟨⟨xs,q,Nat.le_refl _⟩,hd σ H p⟩
theorem KH {lo:Int} {n:Nat} {g:TG} {tb:TS} {D:Ends} {σ:St} {H:Hp} (Pv:Nat->St->Hp->Prop) (h0:Pv 0 σ H)
  (hs:∀i σ H,i<n->Pv i σ H->g (.int (lo+i)) σ H fun σ2 H2=>tb { D with nx:=Pv (i+1),ct:=Pv (i+1),bk:=D.nx } σ2 H2) (hd:∀σ H,Pv n σ H->D.nx σ H) :
  ∃W:Nat->Nat->St->Hp->Prop,(∃m,W 0 m σ H)/\∀i m σ H,W i m σ H->
   ((Tx lo n).stop i H/\D.nx σ H)\/((Tx lo n).go i H/\∃N:St->Hp->Prop,(∀σ' H',N σ' H'->∃m',m'<m/\W (i+1) m' σ' H')/\∀x H',(Tx lo n).yld i H x H'->g x σ H' fun σ2 H2=>tb { D with nx:=N,ct:=N,bk:=D.nx } σ2 H2):=by
 refine⟨fun i m σ H=>m=n-i/\i<=n/\Pv i σ H,⟨n,by simp,Nat.zero_le _,h0⟩,?_⟩
 rintro i m σ H ⟨rfl,hi,p⟩
 by_cases hlt:i<n
 ·refine .inr ⟨hlt,Pv (i+1),fun σ' H' p'=>⟨n-(i+1),by omega,rfl,hlt,p'⟩,fun x H' y=>?_⟩;obtain⟨e,y⟩:=y;subst e y;exact hs i σ _ hlt p
 ·have e:i=n:=by omega
  subst e;exact .inl ⟨Nat.le_refl _,hd σ H p⟩
abbrev R2:=V->V->Hp->VK->Prop
def Gi (X:Cx)(f:Value->Value->Sem Value)(r:R2):Prop:=
 ∀(pins:List (Addr×Obj)) (s:Shared) (σ:St) (H:Hp) (x y:V) (v u:Value) (Q:VK),Inv X pins σ H s->RelV x v->RelV y u->r x y H Q->
  wpAny (model X.prog X.w) X.A (f v u) (EP X pins σ Q) X.xe s
def WG (X:Cx)(f:Value->Sem Value)(r:V->Hp->VK->Prop):Prop:=
 ∀(pins:List (Addr×Obj)) (s:Shared) (σ:St) (H:Hp) (x:V) (v:Value) (Q:VK),Inv X pins σ H s->RelV x v->r x H Q->
  wpAny (model X.prog X.w) X.A (f v) (EP X pins σ Q) X.xe s
def CH (X:Cx)(f:Value)(r:List V->Hp->VK->Prop):Prop:=
 ∀(pins:List (Addr×Obj)) (s:Shared) (σ:St) (H:Hp) (xs:List V) (us:List Value) (Q:VK),Inv X pins σ H s->Aw xs us->r xs H Q->
  wpAny (model X.prog X.w) X.A (call f us) (EP X pins σ Q) X.xe s
def QA (r:R2)(ta tb:TE):TE:=fun σ H Q=>ta σ H fun x H1=>tb σ H1 fun y H2=>r x y H2 Q
def Xj (r:V->Hp->VK->Prop)(ta:TE):TE:=fun σ H Q=>ta σ H fun x H1=>r x H1 Q
def rI (C:Int->Int->Prop)(g:Int->Int->V):R2:=fun x y H Q=>∃i j,x=.int i/\y=.int j/\C i j/\Q (g i j) H
def Tj (g:Int->Int->V):R2:=fun x y H Q=>∃i j,x=.int i/\y=.int j/\Q (g i j) H
def rU (g:Int->V):V->Hp->VK->Prop:=fun x H Q=>∃i,x=.int i/\Q (g i) H
section
variable {X:Cx}{a b c:Expr}{ta tb tc:TE}{pos:Pos}
theorem Vs (ha:PE X a ta) (hb:PE X b tb) {pins:List (Addr×Obj)} {s:Shared} {σ:St} {H:Hp} {R:V->V->Hp->Prop} (I:Inv X pins σ H s)
  (h:ta σ H fun x H1=>tb σ H1 fun y H2=>R x y H2) {Q:Value->Shared->Prop} {f:Value->Value->Sem Value}
  (hf:∀v u s2 x y H2,Inv X pins σ H2 s2->RelV x v->RelV y u->R x y H2->wpAny (model X.prog X.w) X.A (f v u) Q X.xe s2) :
  wpAny (model X.prog X.w) X.A (eval a X.env) (fun v s₁=>wpAny (model X.prog X.w) X.A (eval b X.env) (fun u s₂=>wpAny (model X.prog X.w) X.A (f v u) Q X.xe s₂) X.xe s₁) X.xe s:=by
 refine Ba (ha pins s σ H _ I h) fun v s1 ⟨x,H1,I1,r1,q1⟩=>?_
 refine Ba (hb pins s1 σ H1 _ I1 q1) fun u s2 ⟨y,H2,I2,r2,q2⟩=>?_
 exact hf v u s2 x y H2 I2 r1 r2 q2
theorem Ay {op:Operator}{r:R2}(ho:Gi X (binaryOp op) r)(ha:PE X a ta)(hb:PE X b tb):PE X (.BinOp a op b pos) (QA r ta tb):=by
 intro pins s σ H Q I h;exact wpAny_BinOp (Vs ha hb I h fun v u s2 x y H2 I2 rx ry q=>ho pins s2 σ H2 x y v u Q I2 rx ry q)
theorem Um {op:UnaryOp}{r:V->Hp->VK->Prop}(ho:WG X (unaryOp op) r)(ha:PE X a ta):PE X (.UnaryOp op a pos) (Xj r ta):=by
 intro pins s σ H Q I h;exact UnaryOp_ (Ba (ha pins s σ H _ I h) fun v s1 ⟨x,H1,I1,r1,q1⟩=>ho pins s1 σ H1 x v Q I1 r1 q1)
theorem Wv {f:Value->Value->Sem Value} {C:Int->Int->Prop} {g:Int->Int->Int}
  (rule:∀(i j:Int) (t u:Tok) (s:Shared) (Q:Value->Shared->Prop) (E:Value->Shared->Prop),C i j->Q (.int (g i j) s.toks) { s with toks:=s.toks+1 }->wpAny (model X.prog X.w) X.A (f (.int i t) (.int j u)) Q E s) :
  Gi X f (rI C fun i j=>.int (g i j)):=by
 intro pins s σ H x y v u Q I rx ry h;obtain⟨i,j,rfl,rfl,hc,q⟩:=h;obtain⟨t,rfl⟩:=rx;obtain⟨t',rfl⟩:=ry;exact rule i j t t' s _ _ hc ⟨.int (g i j),H,I.tok _,⟨_,rfl⟩,q⟩
theorem VP {f:Value->Value->Sem Value} {g:Int->Int->Int}
  (rule:∀(i j:Int) (t u:Tok) (s:Shared) (Q:Value->Shared->Prop) (E:Value->Shared->Prop),Q (.int (g i j) s.toks) { s with toks:=s.toks+1 }->wpAny (model X.prog X.w) X.A (f (.int i t) (.int j u)) Q E s) :
  Gi X f (Tj fun i j=>.int (g i j)):=by
 intro pins s σ H x y v u Q I rx ry h;obtain⟨i,j,rfl,rfl,q⟩:=h;obtain⟨t,rfl⟩:=rx;obtain⟨t',rfl⟩:=ry;exact rule i j t t' s _ _ ⟨.int (g i j),H,I.tok _,⟨_,rfl⟩,q⟩
theorem US {f:Value->Value->Sem Value} {g:Int->Int->Bool}
  (rule:∀(i j:Int) (t u:Tok) (s:Shared) (Q:Value->Shared->Prop) (E:Value->Shared->Prop),Q (.bool (g i j)) s->wpAny (model X.prog X.w) X.A (f (.int i t) (.int j u)) Q E s) :
  Gi X f (Tj fun i j=>.bl (g i j)):=by
 intro pins s σ H x y v u Q I rx ry h;obtain⟨i,j,rfl,rfl,q⟩:=h;obtain⟨t,rfl⟩:=rx;obtain⟨t',rfl⟩:=ry;exact rule i j t t' s _ _ ⟨.bl (g i j),H,I,rfl,q⟩
def W4 (i j:Int):Prop:=0<j/\j<1073741824
def Wg (i j:Int):Prop:=0<=j/\j<=1000000/\i.natAbs<2^64
def Vu (i j:Int):Prop:=(-(2^64)<i/\i<2^64)\/(-(2^64)<j/\j<2^64)
theorem Vu.ok {i j:Int}(h:Vu i j):IntMulOk i j:=by
 rcases h with⟨h1,h2⟩|⟨h1,h2⟩
 ·exact .of_left (intBits_le_64 h1 h2)
 ·exact .of_right (intBits_le_64 h1 h2)
theorem DG:Gi X (binaryOp .Add) (Tj fun i j=>.int (i+j)):=VP fun _ _ _ _ _ _ _ q=>add_int q
theorem JM:Gi X (binaryOp .Mult) (rI Vu fun i j=>.int (i*j)):=Wv fun _ _ _ _ _ _ _ hc q=>mul_int q hc.ok
theorem FX:Gi X (binaryOp .FloorDiv) (rI W4 fun i j=>.int (i/j)):=Wv fun i j _ _ _ _ _ hc q=>by
 have h1:(0:Int)<j:=hc.1;have h2:j<1073741824:=hc.2;exact floordiv_int (by omega) (by rw[Int.fdiv_eq_ediv_of_nonneg i (by omega)];exact q) (.inl (PyProof.noPylong_small (by omega)))
theorem Cb:Gi X (binaryOp .Mod) (rI (fun _ j=>0<j) fun i j=>.int (i%j)):=Wv fun i j _ _ _ _ _ hc q=>by
 have h1:(0:Int)<j:=hc;exact mod_int' (by omega) (by rw[Int.fmod_eq_emod_of_nonneg i (by omega)];exact q)
theorem J0:Gi X (binaryOp .Pow) (rI Wg fun i j=>.int (i^j.toNat)):=Wv fun _ _ _ _ _ _ _ hc q=>pow_int_small hc.1 hc.2.1 hc.2.2 q
theorem OL:Gi X (inplaceOp .Add) (Tj fun i j=>.int (i+j)):=VP fun _ _ _ _ _ _ _ q=>iadd_int q
theorem Xl {f:Value->Sem Value} {g:Int->Int}
  (rule:∀(i:Int) (t:Tok) (s:Shared) (Q:Value->Shared->Prop) (E:Value->Shared->Prop),Q (.int (g i) s.toks) { s with toks:=s.toks+1 }->wpAny (model X.prog X.w) X.A (f (.int i t)) Q E s) :
  WG X f (rU fun i=>.int (g i)):=by
 intro pins s σ H x v Q I rx h;obtain⟨i,rfl,q⟩:=h;obtain⟨t,rfl⟩:=rx;exact rule i t s _ _ ⟨.int (g i),H,I.tok _,⟨_,rfl⟩,q⟩
theorem QM:WG X (unaryOp .USub) (rU fun i=>.int (-i)):=Xl fun _ _ _ _ _ q=>neg_int q
end
def N3:V->V->Bool
 | .non,.non=>true | .non,.int _=>true | .int _,.non=>true | .non,.bl _=>true | .bl _,.non=>true | .non,.str _=>true | .str _,.non=>true
 | .int _,.int _=>true | .bl _,.bl _=>true | .str _,.str _=>true | .byt _,.byt _=>true
 | .int _,.str _=>true | .str _,.int _=>true | .bl _,.str _=>true | .str _,.bl _=>true
 |_,_=>false
def Xf:R2:=fun x y H Q=>N3 x y=true/\Q (.bl (decide (x=y))) H
def Xe:R2:=fun x y H Q=>N3 x y=true/\Q (.bl (!decide (x=y))) H
theorem Lw {i j:Int}:decide (V.int i=V.int j)=(i == j):=by
 rw[Bool.eq_iff_iff];simp
theorem Sm {i j:Bool}:decide (V.bl i=V.bl j)=(i == j):=by
 rw[Bool.eq_iff_iff];simp
theorem IQ {i j:Str}:decide (V.str i=V.str j)=(i == j):=by
 rw[Bool.eq_iff_iff];simp
theorem O7 {i j:Array UInt8}:decide (V.byt i=V.byt j)=(i.toList == j.toList):=by
 rw[Bool.eq_iff_iff];cases i;cases j;simp
section
variable {X:Cx}{a b c:Expr}{ta tb tc:TE}{pos:Pos}
theorem AV {pins:List (Addr×Obj)}{σ:St}{H:Hp}{s:Shared}{Q:VK}{k k':Bool}(I:Inv X pins σ H s)(q:Q (.bl k) H)(e:k=k'):EP X pins σ Q (.bool k') s:=by
 subst e;exact⟨.bl k,H,I,rfl,q⟩
theorem Dq:Gi X (compareOp .Eq) Xf:=by
 intro pins s σ H x y v u Q I rx ry h;obtain⟨hs,q⟩:=h;cases x with
 |non=>
  cases rx;cases y with
  |non=>cases ry;exact PySem.EqNone.eq_none_none (AV I q (by simp))
  |bl j=>cases ry;exact PySem.EqNone.eq_none_bool (AV I q (by simp))
  |int j=>obtain⟨t',rfl⟩:=ry;exact PySem.EqNone.eq_none_int (AV I q (by simp))
  |str j=>obtain⟨t',rfl⟩:=ry;exact PySem.EqNone.eq_none_str (AV I q (by simp))
  |_=>exact absurd (show false=true from hs) Bool.false_ne_true
 |bl i=>
  cases rx;cases y with
  |non=>cases ry;exact PySem.EqNone.eq_bool_none (AV I q (by simp))
  |bl j=>cases ry;exact eq_bool (AV I q Sm)
  |str j=>obtain⟨t',rfl⟩:=ry;exact PySem.EqMixed.eq_bool_str (AV I q (by simp))
  |_=>exact absurd (show false=true from hs) Bool.false_ne_true
 |int i=>
  obtain⟨t,rfl⟩:=rx;cases y with
  |non=>cases ry;exact PySem.EqNone.eq_int_none (AV I q (by simp))
  |int j=>obtain⟨t',rfl⟩:=ry;exact eq_int (AV I q Lw)
  |str j=>obtain⟨t',rfl⟩:=ry;exact PySem.EqMixed.eq_int_str (AV I q (by simp))
  |_=>exact absurd (show false=true from hs) Bool.false_ne_true
 |str i=>
  obtain⟨t,rfl⟩:=rx;cases y with
  |non=>cases ry;exact PySem.EqNone.eq_str_none (AV I q (by simp))
  |bl j=>cases ry;exact PySem.EqMixed.eq_str_bool (AV I q (by simp))
  |int j=>obtain⟨t',rfl⟩:=ry;exact PySem.EqMixed.eq_str_int (AV I q (by simp))
  |str j=>obtain⟨t',rfl⟩:=ry;exact eq_str (AV I q IQ)
  |_=>exact absurd (show false=true from hs) Bool.false_ne_true
 |byt i=>
  obtain⟨t,rfl⟩:=rx;cases y with
  |byt j=>obtain⟨t',rfl⟩:=ry;exact PySem.W.eq_bytes (AV I q O7)
  |_=>exact absurd (show false=true from hs) Bool.false_ne_true
 |_=>cases y<;>exact absurd (show false=true from hs) Bool.false_ne_true
theorem JF:Gi X (compareOp .NotEq) Xe:=by
 intro pins s σ H x y v u Q I rx ry h;obtain⟨hs,q⟩:=h;cases x with
 |non=>
  cases rx;cases y with
  |non=>cases ry;exact PySem.EqNone.ne_none_none (AV I q (by simp))
  |bl j=>cases ry;exact PySem.EqNone.ne_none_bool (AV I q (by simp))
  |int j=>obtain⟨t',rfl⟩:=ry;exact PySem.EqNone.ne_none_int (AV I q (by simp))
  |str j=>obtain⟨t',rfl⟩:=ry;exact PySem.EqNone.ne_none_str (AV I q (by simp))
  |_=>exact absurd (show false=true from hs) Bool.false_ne_true
 |bl i=>
  cases rx;cases y with
  |non=>cases ry;exact PySem.EqNone.ne_bool_none (AV I q (by simp))
  |bl j=>cases ry;exact ne_bool (AV I q (congrArg not Sm))
  |str j=>obtain⟨t',rfl⟩:=ry;exact PySem.EqMixed.ne_bool_str (AV I q (by simp))
  |_=>exact absurd (show false=true from hs) Bool.false_ne_true
 |int i=>
  obtain⟨t,rfl⟩:=rx;cases y with
  |non=>cases ry;exact PySem.EqNone.ne_int_none (AV I q (by simp))
  |int j=>obtain⟨t',rfl⟩:=ry;exact ne_int (AV I q (congrArg not Lw))
  |str j=>obtain⟨t',rfl⟩:=ry;exact PySem.EqMixed.ne_int_str (AV I q (by simp))
  |_=>exact absurd (show false=true from hs) Bool.false_ne_true
 |str i=>
  obtain⟨t,rfl⟩:=rx;cases y with
  |non=>cases ry;exact PySem.EqNone.ne_str_none (AV I q (by simp))
  |bl j=>cases ry;exact PySem.EqMixed.ne_str_bool (AV I q (by simp))
  |int j=>obtain⟨t',rfl⟩:=ry;exact PySem.EqMixed.ne_str_int (AV I q (by simp))
  |str j=>obtain⟨t',rfl⟩:=ry;exact ne_str (AV I q (congrArg not IQ))
  |_=>exact absurd (show false=true from hs) Bool.false_ne_true
 |byt i=>
  obtain⟨t,rfl⟩:=rx;cases y with
  |byt j=>obtain⟨t',rfl⟩:=ry;exact PySem.W.ne_bytes (AV I q (congrArg not O7))
  |_=>exact absurd (show false=true from hs) Bool.false_ne_true
 |_=>cases y<;>exact absurd (show false=true from hs) Bool.false_ne_true
theorem Pc:Gi X (compareOp .Lt) (Tj fun i j=>.bl (decide (i<j))):=US fun _ _ _ _ _ _ _ q=>lt_int q
theorem OR:Gi X (compareOp .LtE) (Tj fun i j=>.bl (decide (i<=j))):=US fun _ _ _ _ _ _ _ q=>le_int q
theorem O5:Gi X (compareOp .Gt) (Tj fun i j=>.bl (decide (j<i))):=US fun _ _ _ _ _ _ _ q=>gt_int q
theorem KI:Gi X (compareOp .In) (fun x y H Q=>∃i j,x=.str i/\y=.str j/\Q (.bl (!(Builtin.Str.occurrences j i 0 j.length 1).isEmpty)) H):=by
 intro pins s σ H x y v u Q I rx ry h;obtain⟨i,j,rfl,rfl,q⟩:=h;obtain⟨t,rfl⟩:=rx;obtain⟨t',rfl⟩:=ry;exact in_str (AV I q rfl)
theorem Gi.or {f:Value->Value->Sem Value}{r r':R2}(h:Gi X f r)(h':Gi X f r'):Gi X f (fun x y H Q=>r x y H Q\/r' x y H Q):=by
 intro pins s σ H x y v u Q I rx ry q;rcases q with q|q
 ·exact h pins s σ H x y v u Q I rx ry q
 ·exact h' pins s σ H x y v u Q I rx ry q
theorem AL (b:Expr){op:CmpOp}(h:op≠.In:=by decide)(h2:op≠.NotIn:=by decide):behindInMarks op b=false:=by
 have e1:(op == CmpOp.In)=false:=by cases op<;>first|rfl|exact absurd rfl h
 have e2:(op == CmpOp.NotIn)=false:=by cases op<;>first|rfl|exact absurd rfl h2
 cases b<;>simp[behindInMarks,e1,e2]
theorem Lh {op:CmpOp}{r:R2}(ho:Gi X (compareOp op) r)(ha:PE X a ta)(hb:PE X b tb)(hm:behindInMarks op b=false):PE X (.Compare a [op] [b] pos) (QA r ta tb):=by
 intro pins s σ H Q I h;exact wpAny_Compare1 (Vs ha hb I h fun v u s2 x y H2 I2 rx ry q=>ho pins s2 σ H2 x y v u Q I2 rx ry q) hm
def KY (t:TE):TT:=fun σ H Q=>t σ H fun x H'=>∃k,x=.bl k/\Q k H'
theorem AA {op:CmpOp}{r:R2}(ho:Gi X (compareOp op) r)(ha:PE X a ta)(hb:PE X b tb)(hm:behindInMarks op b=false):PT X (.Compare a [op] [b] pos) (KY (QA r ta tb)):=by
 intro pins s σ H Q I h;refine wpAny_isTrue_Compare1 (Ba (ha pins s σ H _ I h) fun v s1 ⟨x,H1,I1,r1,q1⟩=>Ba (hb pins s1 σ H1 _ I1 q1) fun u s2 ⟨y,H2,I2,r2,q2⟩=>
  Ba (ho pins s2 σ H2 x y v u _ I2 r1 r2 q2) fun c s3 ⟨z,H3,I3,r3,k,e,q3⟩=>?_) hm
 subst e;cases r3;exact wpAny_truthy_bool ⟨H3,I3,q3⟩
def QD (r r':R2)(ta tb tc:TE):TE:=fun σ H Q=>ta σ H fun x H1=>tb σ H1 fun y H2=>r x y H2 fun z H3=>∃k,z=.bl k/\
 (if k=true then tc σ H3 fun w' H4=>r' y w' H4 Q else Q (.bl false) H3)
theorem RC {op op':CmpOp} {r r':R2} (ho:Gi X (compareOp op) r) (ho':Gi X (compareOp op') r') (ha:PE X a ta) (hb:PE X b tb) (hc:PE X c tc)
  (hm:lastMarks [op,op'] [b,c]=false:=by with_unfolding_all rfl):PE X (.Compare a [op,op'] [b,c] pos) (QD r r' ta tb tc):=by
 intro pins s σ H Q I h;refine Compare_chain (Ba (ha pins s σ H _ I h) fun v s1 ⟨x,H1,I1,r1,q1⟩=>chain_link (Ba (hb pins s1 σ H1 _ I1 q1) fun u s2 ⟨y,H2,I2,r2,q2⟩=>
  Ba (ho pins s2 σ H2 x y v u _ I2 r1 r2 q2) fun d s3 ⟨z,H3,I3,r3,k,e,q3⟩=>?_)) hm
 subst e;cases r3;refine wpAny_truthy_bool ?_;cases k with
 |false=>exact ite_ff ⟨.bl false,H3,I3,rfl,q3⟩
 |true=>exact ite_tt (chain_last (Ba (hc pins s3 σ H3 _ I3 q3) fun w' s4 ⟨z',H4,I4,r4,q4⟩=>ho' pins s4 σ H4 y z' u w' Q I4 r2 r4 q4))
theorem QL {op op':CmpOp} {r r':R2} (ho:Gi X (compareOp op) r) (ho':Gi X (compareOp op') r') (ha:PE X a ta) (hb:PE X b tb) (hc:PE X c tc)
  (hm:lastMarks [op,op'] [b,c]=false:=by with_unfolding_all rfl):PT X (.Compare a [op,op'] [b,c] pos) (KY (QD r r' ta tb tc)):=by
 intro pins s σ H Q I h;refine isTrue_chain (Ba (ha pins s σ H _ I h) fun v s1 ⟨x,H1,I1,r1,q1⟩=>test_link (Ba (hb pins s1 σ H1 _ I1 q1) fun u s2 ⟨y,H2,I2,r2,q2⟩=>
  Ba (ho pins s2 σ H2 x y v u _ I2 r1 r2 q2) fun d s3 ⟨z,H3,I3,r3,k,e,q3⟩=>?_)) hm
 subst e;cases r3;refine wpAny_truthy_bool ?_;cases k with
 |false=>
  obtain⟨k',e',q'⟩:=q3;cases e';exact ite_ff ⟨H3,I3,q'⟩
 |true=>
  refine ite_tt (test_last (Ba (hc pins s3 σ H3 _ I3 q3) fun w' s4 ⟨z',H4,I4,r4,q4⟩=>Ba (ho' pins s4 σ H4 y z' u w' _ I4 r2 r4 q4) fun d' s5 ⟨z2,H5,I5,r5,k2,e2,q5⟩=>?_));subst e2;cases r5;exact wpAny_truthy_bool ⟨H5,I5,q5⟩
theorem Jt:(sizeLine:Nat)<2^63:=by rw[sizeLine_eq];decide
theorem Bb:Gi X (binaryOp .Add) (fun x y H Q=>∃i j,x=.str i/\y=.str j/\i.length+j.length<=sizeLine/\Q (.str (i++j)) H):=by
 intro pins s σ H x y v u Q I rx ry h;obtain⟨i,j,rfl,rfl,hz,q⟩:=h;obtain⟨t,rfl⟩:=rx;obtain⟨t',rfl⟩:=ry;exact add_str (fun t' tk=>⟨.str (i++j),H,I.tok _,⟨_,rfl⟩,q⟩) hz
theorem vals1 {x:V}{us:List Value}(r:Aw [x] us):∃u,us=[u]/\RelV x u:=by
 cases r with
 |cons r1 r2=>cases r2;exact⟨_,rfl,r1⟩
theorem vals2 {x y:V}{us:List Value}(r:Aw [x,y] us):∃u w',us=[u,w']/\RelV x u/\RelV y w':=by
 cases r with
 |cons r1 r2=>
  cases r2 with
  |cons r3 r4=>cases r4;exact⟨_,_,rfl,r1,r3⟩
theorem Nu:CH X (.builtin "abs") (fun xs H Q=>∃i,xs=[.int i]/\Q (.int (if i<0 then -i else i)) H):=by
 intro pins s σ H xs us Q I r h;obtain⟨i,rfl,q⟩:=h;obtain⟨u,rfl,t,rfl⟩:=vals1 r;exact call_abs_int fun u tk=>⟨.int (if i<0 then -i else i),H,I.tok _,⟨_,rfl⟩,q⟩
theorem Kx:CH X (.type "int") (fun xs H Q=>(∃i,xs=[.int i]/\Q (.int i) H)\/∃k,xs=[.bl k]/\Q (.int (if k then 1 else 0)) H):=by
 intro pins s σ H xs us Q I r h;rcases h with⟨i,rfl,q⟩|⟨k,rfl,q⟩
 ·obtain⟨u,rfl,t,rfl⟩:=vals1 r;exact call_int_int ⟨.int i,H,I,⟨_,rfl⟩,q⟩
 ·obtain⟨u,rfl,r1⟩:=vals1 r;cases r1;exact call_int_bool ⟨.int (if k then 1 else 0),H,I.tok _,⟨_,rfl⟩,q⟩
end
structure ObjM (h:Heap) (x dx C:Addr) (mA:Str->Option Value):Prop where
 obj:h.get? x=some (PySem.W.instObj C dx)
 ns:h.Ns1 dx mA
 ne:dx≠x
theorem KP {h:Heap}{dx:Addr}{mA:Str->Option Value}(n:h.Ns1 dx mA):∃od,h.get? dx=some od/\∀name,PySem.W.lookIn name od=some (mA name):=by
 obtain⟨o,es,ep,ho,hd,hk,_,hm⟩:=n;refine⟨o,ho,fun name=>?_⟩;have e:=hm name;unfold nsFind findBy at e;rw[<-Array.find?_toList] at e;unfold PySem.W.lookIn;rw[hd];dsimp only
 split
 ·rename_i y q
  rw[q] at e;exact congrArg some e
 ·rename_i q
  rw[q] at e;have a:es.toList.any (·.refKey)=false:=by
   rw[List.any_eq_false];intro y hy;obtain⟨z,t,hkey⟩:=hk y (Array.mem_toList_iff.mp hy);simp[DictEntry.refKey,hkey]
  have a':¬es.toList.any (·.refKey)=true:=by rw[a];exact Bool.false_ne_true
  rw[if_neg a'];exact congrArg some e
theorem ObjM.look {h:Heap}{x dx C:Addr}{mA:Str->Option Value}(I:ObjM h x dx C mA):∃od,PySem.W.InstAt h x (PySem.W.instObj C dx) C (some od)/\∀name,PySem.W.lookIn name od=some (mA name):=
 let⟨od,ho,hl⟩:=KP I.ns
 ⟨od,⟨I.obj,rfl,rfl,ho⟩,hl⟩
section
variable {prog:Program}{w:World}{A:Around}{E:Value->Shared->Prop}{s:Shared}{K:PySem.W.Frag}{x dx C f:Addr}{mA:Str->Option Value}{name:Str}{v:Value}
theorem get_map {expr:Bool} {Q:Value->Shared->Prop} (X:K.In s.heap) (I:ObjM s.heap x dx C mA) (hg:PySem.W.plainGet K C name=true) (hh:PySem.W.hasDictIn K C=true)
  (ha:PySem.W.findIn K (.ref C) name=some none) (hv:mA name=some v) (hv':PySem.W.handedIn v=true) (h:Q v { s with toks:=s.toks+1 }) :
  wpAny (model prog w) A (getAttr (.ref x) name expr) Q E s:=by
 obtain⟨od,J,hl⟩:=I.look;exact PySem.W.get_value X J (PySem.W.plainGet_of hg).1 (PySem.W.findObj_own hh ha rfl (by rw[hl,hv])) hv' h
theorem Rp {pl:Sem Bool} {Q:Value×List Value->Shared->Prop} (X:K.In s.heap) (I:ObjM s.heap x dx C mA) (hg:PySem.W.plainGet K C name=true)
  (hf:PySem.W.findIn K (.ref C) name=some (some (.ref f))) (ht:PySem.W.isFn K (.ref f)=true) (hv:mA name=none) (h:Q (.ref f,[.ref x]) s) :
  wpAny (model prog w) A (getMethod (.ref x) name pl) Q E s:=by
 obtain⟨od,J,hl⟩:=I.look;exact PySem.W.method_fn X J (PySem.W.plainGet_of hg).1 (PySem.W.plainGet_of hg).2 hf (beq_iff_eq.mp ht) (by show(PySem.W.lookIn name od).map (·.isSome)=some false;rw[hl,hv];rfl) h
theorem T3 {ns:List Str} {Q:Unit->Shared->Prop} (X:K.In s.heap) (I:ObjM s.heap x dx C mA)
  (hs:PySem.W.findIn K (.ref C) "__setattr__"=some (some (.builtin "object.__setattr__"))) (hp:PySem.W.plainOver K C=true) (ht:PySem.W.takerIn K C name=some none) (hh:PySem.W.hasDictIn K C=true)
  (hw:PySem.Within mA ns) (hsz:ns.length<=sizeLine)
  (h:∀h',ObjM h' x dx C (fun y=>if y=name then some v else mA y)->Heap.SameBut dx s.heap h'->Q () { s with heap:=h',toks:=s.toks+2 }) :
  wpAny (model prog w) A (setAttr (.ref x) name v) Q E s:=by
 obtain⟨od,J,hl⟩:=I.look;refine PySem.W.set_plain X J hs (PySem.W.osa_open (s:={ s with toks:=s.toks+1 }) (r:=none) X J hp ht fun b=>?_);obtain⟨cd,hc,hd'⟩:=PySem.W.any_some hh;have hx:s.heap.get? x=some ⟨.ref C,some dx,.plain,#[]⟩:=I.obj;refine wpAny_bind (wpAny_pure (wpAny_bind (wpAny_bind (wpAny_loadPart hx (wpAny_bind (PySem.W.Looks.here (s:={ s with toks:=s.toks+1 }) (PySem.W.looks_clsIn X hc) ?_))))));rw[hd'];refine wpAny_pure (a:=some dx) (wpAny_bind (wpAny_pure (wpAny_bind ?_)));refine wpAny_nsSet1 (s:={ s with toks:=s.toks+1 }) I.ns fun h' hn2 hs2=>?_
 obtain⟨oD,esD,epD,hoD,hdD,hcD⟩:=hn2.count (PySem.Within.cons name v hw);refine wpAny_bind (wpAny_lookBehind hoD (by rw[hdD];exact pastItsLine_dict (Nat.le_trans hcD (by rw[List.length_cons];omega))) ?_);exact wpAny_pure (h _ ⟨(hs2.2 _ (Ne.symm I.ne)).trans I.obj,hn2,I.ne⟩ hs2)
theorem QI {R:Result->Shared->Prop} {vs:List Value} {kw:List (Str×Value)} (X:K.In s.heap) (hm:PySem.W.makesIn K C=true)
  (hi:PySem.W.findIn K (.ref C) "__init__"=some (some (.ref f))) (hf:PySem.W.typeIn K (.ref f)=some (.type "function"))
  (h:codeAny (model prog w) (A.under (.builtin "type.__call__" ⟨.ref C::vs,kw⟩)) (.call (.ref f) ⟨.ref (s.heap.objs.size+1)::vs,kw⟩) (PySem.W.InitBack (s.heap.objs.size+1) R)
   { s with heap:=(s.heap.push PySem.W.emptyDict).push (PySem.W.instObj C s.heap.objs.size) }) :
  codeAny (model prog w) A (.call (.ref C) ⟨vs,kw⟩) R s:=by
 obtain⟨hh,g,d,t,os⟩:=s;exact PySem.W.make_core (PySem.W.makes_of X hm) (PySem.W.looks_findIn X hi) (fun self=>PySem.W.bind_fn X self hf) (.inl rfl) h
end
def DX (f:Str)(v:V):List (Str×V)->List (Str×V)
 |[]=>[(f,v)]
 |(g,x)::r=>if g=f then(g,v)::r else(g,x)::DX f v r
theorem Iv (f g:Str)(v:V):∀fs:List (Str×V),(DX f v fs).lookup g=if g=f then some v else fs.lookup g
 |[]=>by
  show List.lookup g [(f,v)]=_
  by_cases h:g=f
  ·have hb:(g == f)=true:=beq_iff_eq.mpr h;simp only[List.lookup,hb,if_pos h]
  ·have hb:(g == f)=false:=beq_eq_false_iff_ne.mpr h;simp only[List.lookup,hb,if_neg h]
 |(k,x)::r=>by
  have ih:=Iv f g v r;rw[show DX f v ((k,x)::r)=(if k=f then(k,v)::r else(k,x)::DX f v r) from rfl]
  by_cases hk:k=f
  ·rw[if_pos hk]
   by_cases h:g=k
   ·have hb:(g == k)=true:=beq_iff_eq.mpr h;simp only[List.lookup,hb,if_pos (h.trans hk)]
   ·have hb:(g == k)=false:=beq_eq_false_iff_ne.mpr h;simp only[List.lookup,hb,if_neg (fun e:g=f=>h (e.trans hk.symm))]
  ·rw[if_neg hk]
   by_cases h:g=k
   ·have hb:(g == k)=true:=beq_iff_eq.mpr h;simp only[List.lookup,hb,if_neg (fun e:g=f=>hk (h.symm.trans e))]
   ·have hb:(g == k)=false:=beq_eq_false_iff_ne.mpr h;simp only[List.lookup,hb];exact ih
theorem HC (f:Str)(v:V):∀fs:List (Str×V),f∈(DX f v fs).map (·.1)/\∀g,g∈fs.map (·.1)->g∈(DX f v fs).map (·.1)
 |[]=>⟨by simp[DX],fun g h=>by simp at h⟩
 |(k,x)::r=>by
  obtain⟨i1,i2⟩:=HC f v r;rw[show DX f v ((k,x)::r)=(if k=f then(k,v)::r else(k,x)::DX f v r) from rfl]
  by_cases hk:k=f
  ·rw[if_pos hk];subst hk;exact⟨by simp,fun g h=>by simpa using h⟩
  ·rw[if_neg hk];refine⟨?_,fun g h=>?_⟩
   ·rw[List.map_cons];exact List.mem_cons_of_mem _ i1
   ·rw[List.map_cons] at h ⊢;rcases List.mem_cons.mp h with e|e
    ·exact List.mem_cons.mpr (.inl e)
    ·exact List.mem_cons_of_mem _ (i2 g e)
theorem Iz (f:Str)(v:V):∀fs:List (Str×V),(DX f v fs).length<=fs.length+1
 |[]=>by simp[DX]
 |(k,x)::r=>by
  have ih:=Iz f v r;rw[show DX f v ((k,x)::r)=(if k=f then(k,v)::r else(k,x)::DX f v r) from rfl]
  by_cases hk:k=f
  ·rw[if_pos hk,List.length_cons,List.length_cons];omega
  ·rw[if_neg hk,List.length_cons,List.length_cons];omega
theorem Eb.some_of {v:V}{o:Option Value}(r:Eb (some v) o):∃u,o=some u/\RelV v u:=by
 cases o with
 |none=>exact(show False from r).elim
 |some u=>exact⟨u,rfl,r⟩
theorem Eb.none_of {o:Option Value}(r:Eb none o):o=none:=by
 cases o with
 |none=>rfl
 |some u=>exact(show False from r).elim
theorem K3 {v:V}{u:Value}(r:RelV v u):PySem.W.handedIn u=true:=by
 cases v with
 |non=>cases(show u=Value.none from r);rfl
 |bl b=>cases(show u=Value.bool b from r);rfl
 |int i=>obtain⟨t,e⟩:=(show ∃t,u=Value.int i t from r);cases e;rfl
 |str x=>obtain⟨t,e⟩:=(show ∃t,u=Value.str x t from r);cases e;rfl
 |byt b=>obtain⟨t,e⟩:=(show ∃t,u=Value.bytes b t from r);cases e;rfl
 |flt b=>obtain⟨t,e⟩:=(show ∃t,u=Value.float b t from r);cases e;rfl
 |ref a=>cases(show u=Value.ref a from r);rfl
 |ty n=>cases(show u=Value.type n from r);rfl
section
variable {P:Program}{w:World}{H H':Hp}{h h':Heap}{a C dx:Addr}{fs fs':List (Str×V)}
theorem IV (hok:Gb P w H h)(e:H a=some (.ins C dx fs)):∃mA,ObjM h a dx C mA/\(∀f,Eb (fs.lookup f) (mA f))/\PySem.Within mA (fs.map (·.1))/\fs.length<=1000/\H dx=some (.own a):=by
 obtain⟨d,z,ne,ob,mA,n,r,q⟩:=(show AN P w H h a (.ins C dx fs) from hok a _ e)
 exact⟨mA,⟨ob,n,ne⟩,r,q,z,d⟩
end
structure Cls (K:PySem.W.Frag) (C:Addr):Prop where
 pg:PySem.W.plainGet K C Str.empty=true
 hd:PySem.W.hasDictIn K C=true
 po:PySem.W.plainOver K C=true
 sa:PySem.W.findIn K (.ref C) "__setattr__"=some (some (.builtin "object.__setattr__"))
theorem Cls.get {K:PySem.W.Frag}{C:Addr}(c:Cls K C)(f:Str):PySem.W.plainGet K C f=true:=c.pg
def Bq (K:PySem.W.Frag)(C:Addr)(f:Str):Prop:=PySem.W.findIn K (.ref C) f=some none
theorem Bq.taker {K:PySem.W.Frag}{C:Addr}{f:Str}(n:Bq K C f):PySem.W.takerIn K C f=some none:=by
 unfold PySem.W.takerIn;rw[show PySem.W.findIn K (.ref C) f=some none from n];rfl
structure Con (K:PySem.W.Frag) (C:Addr) (f:Str) (v:V) (u:Value):Prop where
 at_:PySem.W.findIn K (.ref C) f=some (some u)
 rel:RelV v u
 get:PySem.W.specialIn K u "__get__"=some none
 cp:PySem.W.copiedNames.contains f=false
structure Meth (K:PySem.W.Frag) (C:Addr) (m:Str) (f:Addr):Prop where
 at_:PySem.W.findIn K (.ref C) m=some (some (.ref f))
 fn:PySem.W.isFn K (.ref f)=true
 kp:PySem.W.keepIn K (.ref f)=true
section
variable {X:Cx}{pins:List (Addr×Obj)}{σ:St}{H:Hp}{s:Shared}{a C dx:Addr}{fs:List (Str×V)}{f:Str}{v:V}{A:Around}{E:Value->Shared->Prop}
theorem Jz {b:Bool} {Q:Value->Shared->Prop} (I:Inv X pins σ H s) (e:H a=some (.ins C dx fs)) (c:Cls X.K C) (n:Bq X.K C f) (l:fs.lookup f=some v)
  (h:∀u s',Inv X pins σ H s'->RelV v u->Q u s'):wpAny (model X.prog X.w) A (getAttr (.ref a) f b) Q E s:=by
 obtain⟨mA,O,r,_,_,_⟩:=IV I.hok e;obtain⟨u,hu,ru⟩:=Eb.some_of (v:=v) (o:=mA f) (by rw[<-l];exact r f);exact get_map I.kIn O (c.get f) c.hd n hu (K3 ru) (h u _ (I.tok _) ru)
theorem Ji {m:Str} {g:Addr} {pl:Sem Bool} {Q:Value×List Value->Shared->Prop} (I:Inv X pins σ H s) (e:H a=some (.ins C dx fs)) (c:Cls X.K C) (k:Meth X.K C m g) (l:fs.lookup m=none)
  (h:Q (.ref g,[.ref a]) s):wpAny (model X.prog X.w) A (getMethod (.ref a) m pl) Q E s:=by
 obtain⟨mA,O,r,_,_,_⟩:=IV I.hok e;have hn:mA m=none:=Eb.none_of (by rw[<-l];exact r m);exact Rp I.kIn O (c.get m) k.at_ k.fn hn h
theorem Je {y:V} {u:Value} {Q:Unit->Shared->Prop} (I:Inv X pins σ H s) (e:H a=some (.ins C dx fs)) (c:Cls X.K C) (n:Bq X.K C f) (hl:fs.length<1000) (ry:RelV y u)
  (h:∀s',Inv X pins σ (upd H a (.ins C dx (DX f y fs))) s'->Q () s'):wpAny (model X.prog X.w) A (setAttr (.ref a) f u) Q E s:=by
 obtain⟨mA,O,r,wi,_,ho⟩:=IV I.hok e;have hz:(fs.map (·.1)).length<=sizeLine:=by rw[List.length_map,sizeLine_eq];omega
 refine T3 I.kIn O c.sa c.po n.taker c.hd wi hz fun h' O' sb=>h _ ?_
 have hd:∃o,h'.get? dx=some o:=let⟨o,_,_,e',_⟩:=O'.ns;⟨o,e'⟩;refine I.write (x:=a) (e:=dx) (by rw[e];exact True.intro) (.inr ho) (fun b q hb z=>(sb.2 b hb).trans z) hd ?_;refine⟨by rw[Ag O.ne];exact ho,?_,O.ne,O'.obj,_,O'.ns,fun g=>?_,fun g hg=>?_⟩
 ·have:=Iz f y fs;omega
 ·show Eb ((DX f y fs).lookup g) (if g=f then some u else mA g);rw[Iv]
  by_cases q:g=f
  ·rw[if_pos q,if_pos q];exact ry
  ·rw[if_neg q,if_neg q];exact r g
 ·by_cases q:g=f
  ·rw[q];exact(HC f y fs).1
  ·refine(HC f y fs).2 g (wi g fun z=>hg ?_);show(if g=f then some u else mA g)=none;rw[if_neg q];exact z
theorem Inv.made (I:Inv X pins σ H s):Inv X pins σ (upd (upd H s.heap.objs.size (.own (s.heap.objs.size+1))) (s.heap.objs.size+1) (.ins C s.heap.objs.size []))
  { s with heap:=(s.heap.push PySem.W.emptyDict).push (PySem.W.instObj C s.heap.objs.size) }:=by
 have e1:(s.heap.push PySem.W.emptyDict).get? s.heap.objs.size=some PySem.W.emptyDict:=Heap.get?_push_size s.heap rfl;have e2:((s.heap.push PySem.W.emptyDict).push (PySem.W.instObj C s.heap.objs.size)).get? (s.heap.objs.size+1)=some (PySem.W.instObj C s.heap.objs.size):=by
  have:=Heap.get?_push_size (s.heap.push PySem.W.emptyDict) (o:=PySem.W.instObj C s.heap.objs.size) rfl
  rwa [Heap.size_push] at this
 have e3:(s.heap.push PySem.W.emptyDict).Ns s.heap.objs.size (fun _=>none):=⟨PySem.W.emptyDict,#[],_,e1,rfl,(fun e he=>absurd he (by simp)),fun _=>rfl⟩
 have I1:=I.laid (a:=s.heap.objs.size) (o:=.own (s.heap.objs.size+1)) (h':=s.heap.push PySem.W.emptyDict) (t':=s.toks) (fun b u q=>Heap.get?_push_of_some _ q) (Nat.le_refl _) ⟨_,e1⟩;refine I1.laid (a:=s.heap.objs.size+1) (o:=.ins C s.heap.objs.size []) (t':=s.toks) (fun b u q=>Heap.get?_push_of_some _ q) (Nat.le_of_eq (Heap.size_push _ _)) ?_;have ne:s.heap.objs.size≠s.heap.objs.size+1:=Nat.ne_of_lt (Nat.lt_succ_self _);refine⟨by rw[Ag ne,Ac],Nat.zero_le _,ne,e2,fun _=>none,(Heap.Ns1.of_empty e3).at fun o q=>Heap.get?_push_of_some _ q,fun _=>True.intro,fun y hy=>absurd rfl hy⟩
theorem OH {prog:Program} {w:World} {env:Env} {e:Expr} {f:Str} {pos:Pos} {s:Shared} {Q:Value->Shared->Prop} (hb:attributeBase e f env (eval e env)=eval e env)
  (h:wpAny (model prog w) A (eval e env) (fun o s₁=>wpAny (model prog w) A (getAttr o f true) Q E s₁) E s):wpAny (model prog w) A (eval (.Attribute e f pos) env) Q E s:=
 Attribute_any_ h (by rw[arm_eval_Attribute,hb])
end
def WM (K:PySem.W.Frag)(ta:TE)(f:Str):TE:=fun σ H Q=>ta σ H fun x H1=>∃a C dx fs v,x=.ref a/\H1 a=some (.ins C dx fs)/\Cls K C/\Bq K C f/\fs.lookup f=some v/\Q v H1
def W1 (K:PySem.W.Frag)(ta tv:TE)(f:Str):TS:=fun D σ H=>tv σ H fun y H1=>ta σ H1 fun x H2=>∃a C dx fs,x=.ref a/\H2 a=some (.ins C dx fs)/\Cls K C/\Bq K C f/\fs.length<1000/\
 D.nx σ (upd H2 a (.ins C dx (DX f y fs)))
def WE (X:Cx)(op:Operator)(rd:V->V->Hp->VK->Prop):Prop:=
 ∀(pins:List (Addr×Obj)) (s:Shared) (σ:St) (H:Hp) (x y:V) (u v:Value) (Q:VK),Inv X pins σ H s->RelV x u->RelV y v->rd x y H Q->wpAny (model X.prog X.w) X.A (inplaceOp op u v) (EP X pins σ Q) X.xe s
def SI (K:PySem.W.Frag)(ta tv:TE)(rd:V->V->Hp->VK->Prop)(f:Str):TS:=fun D σ H=>ta σ H fun x H1=>∃a C dx fs v,x=.ref a/\H1 a=some (.ins C dx fs)/\Cls K C/\Bq K C f/\fs.lookup f=some v/\
 tv σ H1 fun y H2=>rd v y H2 fun z H3=>∃dx' fs',H3 a=some (.ins C dx' fs')/\fs'.length<1000/\D.nx σ (upd H3 a (.ins C dx' (DX f z fs')))
section
variable {X:Cx}{o e value:Expr}{f:Str}{pos pos' tpos:Pos}{ta tv:TE}
theorem BU (he:PE X e ta)(hb:attributeBase e f X.env (eval e X.env)=eval e X.env):PE X (.Attribute e f pos) (WM X.K ta f):=by
 intro pins s σ H Q I h;refine OH hb (Ba (he pins s σ H _ I h) fun u s1 ⟨x,H1,I1,rx,a,C,dx,fs,v,ex,ea,c,n,l,q⟩=>?_);subst ex;obtain rfl:u=Value.ref a:=rx;exact Jz I1 ea c n l fun u' s2 I2 ru=>⟨v,H1,I2,ru,q⟩
theorem Cd (ha:PE X o ta)(hv:PE X value tv)(hs:swapsWith value (some (.Attribute o f pos')) pos.line X.env=pure false):PS X (.Assign [.Attribute o f pos'] value pos) (W1 X.K ta tv f):=by
 intro pins s σ H D I h;refine plainObj_wpAny_Assign_Attribute (Ba (hv pins s σ H _ I h) fun u s1 ⟨y,H1,I1,ry,q⟩=>Ba (ha pins s1 σ H1 _ I1 q) fun ov s2 ⟨x,H2,I2,rx,a,C,dx,fs,ex,ea,c,n,l,q2⟩=>?_) hs;subst ex;obtain rfl:ov=Value.ref a:=rx;exact Je I2 ea c n l ry fun s3 I3=>⟨σ,_,I3,q2⟩
theorem KL {op:Operator}{rd:V->V->Hp->VK->Prop}(ha:PE X o ta)(hv:PE X value tv)(hop:WE X op rd):PS X (.AugAssign (.Attribute o f tpos) op value pos) (SI X.K ta tv rd f):=by
 intro pins s σ H D I h;refine wpAny_AugAssign_AttributeAny (Ba (ha pins s σ H _ I h) fun ov s1 ⟨x,H1,I1,rx,a,C,dx,fs,v,ex,ea,c,n,l,q⟩=>?_);subst ex;obtain rfl:ov=Value.ref a:=rx;refine Jz I1 ea c n l fun u s2 I2 ru=>Ba (hv pins s2 σ H1 _ I2 q) fun w3 s3 ⟨y,H2,I3,ry,q3⟩=>Ba (hop pins s3 σ H2 v y u w3 _ I3 ru ry q3) fun w4 s4 ⟨z,H3,I4,rz,dx',fs',ea',l',q4⟩=>?_
 exact Je I4 ea' c n l' rz fun s5 I5=>⟨σ,_,I5,q4⟩
end
section
variable {X:Cx}{pins:List (Addr×Obj)}{σ:St}{H:Hp}{s:Shared}{A:Around}{E:Value->Shared->Prop}{Q:Value->Shared->Prop}{c:Value}{b:Bool}
inductive TyOf (K:PySem.W.Frag) (H:Hp):V->Value->Prop where
 |non:TyOf K H .non (.type "NoneType")
 |bl (x:Bool):TyOf K H (.bl x) (.type "bool")
 |int (i:Int):TyOf K H (.int i) (.type "int")
 |str (x:Str):TyOf K H (.str x) (.type "str")
 |flt (x:UInt64):TyOf K H (.flt x) (.type "float")
 |lst {a:Addr} {xs:List V} (e:H a=some (.lst xs)):TyOf K H (.ref a) (.type "list")
 |frz {a:Addr} {o:Obj} {xs:List V} (e:H a=some (.frz o (.lst xs))):TyOf K H (.ref a) (.type "list")
 |tup {a:Addr} {xs:List V} (e:H a=some (.tup xs)):TyOf K H (.ref a) (.type "tuple")
 |dK {a:Addr} {kvs:List (Key×V)} (e:H a=some (.dK kvs)):TyOf K H (.ref a) (.type "dict")
 |dT {a:Addr} {kvs:List (List Key×V)} (e:H a=some (.dT kvs)):TyOf K H (.ref a) (.type "dict")
 |ins {a C dx:Addr} {fs:List (Str×V)} (e:H a=some (.ins C dx fs)) (cl:Cls K C) (ha:PySem.W.findIn K (.ref C) "__class__"=some (some (.builtin "object.__class__")))
   (hn:PySem.W.specialIn K (.builtin "object.__class__") "__get__"=some (some (.builtin "getset_descriptor.__get__"))) (htk:PySem.W.takesIn K (.builtin "object.__class__")=some true)
   (hm:PySem.W.mroIn K C (.type "object")=some true):TyOf K H (.ref a) (.ref C)
theorem Pm {x:V}{u t:Value}(I:Inv X pins σ H s)(rx:RelV x u)(ty:TyOf X.K H x t)(e:PySem.W.kitOne X.K t c=some b)(h:∀tk,Q (.bool b) { s with toks:=tk }) :
  wpAny (model X.prog X.w) A (call (.builtin "isinstance") [u,c]) Q E s:=by
 cases ty with
 |non=>cases(show u=Value.none from rx);exact PySem.W.kia_one PySem.W.kitx_none I.kIn True.intro e (fun z=>nomatch z) h
 |bl y=>cases(show u=Value.bool y from rx);exact PySem.W.kia_one PySem.W.kitx_bool I.kIn True.intro e (fun z=>nomatch z) h
 |int i=>obtain⟨t,q⟩:=(show ∃t,u=Value.int i t from rx);cases q;exact PySem.W.kia_one PySem.W.kitx_int I.kIn True.intro e (fun z=>nomatch z) h
 |str y=>obtain⟨t,q⟩:=(show ∃t,u=Value.str y t from rx);cases q;exact PySem.W.kia_one PySem.W.kitx_str I.kIn True.intro e (fun z=>nomatch z) h
 |flt y=>obtain⟨t,q⟩:=(show ∃t,u=Value.float y t from rx);cases q;exact PySem.W.kia_one PySem.W.kitx_float I.kIn True.intro e (fun z=>nomatch z) h
 |@lst a xs ea=>
  cases(show u=Value.ref a from rx);obtain⟨_,_,n,_,h1⟩:=(show AN X.prog X.w H s.heap a (.lst xs) from I.hok a _ ea)
  exact PySem.W.kia_one PySem.W.kitx_list I.kIn ⟨_,h1,rfl⟩ e (fun z=>nomatch z) h
 |@frz a ob xs ea=>
  cases(show u=Value.ref a from rx);obtain⟨_,_,_,n,_,h1⟩:=(show AN X.prog X.w H s.heap a (.frz ob (.lst xs)) from I.hok a _ ea)
  exact PySem.W.kia_one PySem.W.kitx_list I.kIn ⟨_,h1,rfl⟩ e (fun z=>nomatch z) h
 |@tup a xs ea=>
  cases(show u=Value.ref a from rx);obtain⟨_,_,_,p⟩:=(show AN X.prog X.w H s.heap a (.tup xs) from I.hok a _ ea)
  obtain⟨o,h1,h2,_⟩:=p;exact PySem.W.kia_one PySem.W.kitx_tuple I.kIn ⟨o,h1,h2⟩ e (fun z=>nomatch z) h
 |@dK a kvs ea=>
  cases(show u=Value.ref a from rx);obtain⟨_,_,vs,_,p⟩:=(show AN X.prog X.w H s.heap a (.dK kvs) from I.hok a _ ea)
  obtain⟨o,es,ep,h1,h2,_⟩:=p;exact PySem.W.kia_one PySem.W.kitx_dict I.kIn ⟨o,h1,h2.1⟩ e (fun z=>nomatch z) h
 |@dT a kvs ea=>
  cases(show u=Value.ref a from rx);obtain⟨_,_,xs,_,o,es,ep,h1,h2,_⟩:=(show AN X.prog X.w H s.heap a (.dT kvs) from I.hok a _ ea)
  exact PySem.W.kia_one PySem.W.kitx_dict I.kIn ⟨o,h1,h2.1⟩ e (fun z=>nomatch z) h
 |@ins a C dx fs ea cl ha hn htk hm=>
  cases(show u=Value.ref a from rx);obtain⟨mA,O,_⟩:=IV I.hok ea;obtain⟨od,J,_⟩:=O.look;exact PySem.W.kia_one (PySem.W.kitx_own (cl.get _) cl.hd ha hn htk hm) I.kIn J e (fun z=>nomatch z) h
end
structure Room (k:Nat) (A:Around):Prop where
 hd:A.handled=none
 dp:A.depth+3*k+5<recursionLimit
 un:A.units+16*k+200<cLine
theorem Room.mono {j k:Nat}{A:Around}(r:Room k A)(h:j<=k):Room j A:=⟨r.hd,by have:=r.dp;omega,by have:=r.un;omega⟩
theorem Room.deeper {k:Nat}{A:Around}(r:Room (k+1) A)(env:Env):Room k (A.deeper env):=
 ⟨r.hd,by have:=r.dp;show A.depth+1+3*k+5<_;omega,by have:=r.un;show A.units+3+16*k+200<_;omega⟩
theorem Room.in1 {k:Nat}{A:Around}(r:Room (k+1) A):Room k A.in1:=
 ⟨r.hd,by have:=r.dp;show A.depth+3*k+5<_;omega,by have:=r.un;show A.units+1+16*k+200<_;omega⟩
theorem N8 {A:Around}{C:Addr}{us:List Value}{kw:List (Str×Value)}:(A.under (.builtin "type.__call__" ⟨.ref C::us,kw⟩)).depth=A.depth+1:=by
 first|rfl|simp[Around.under,Code.weight,Code.isCreation,Code.isGuard,Code.isCaller,Code.frames,Code.isFrame,guardIds]
theorem NQ {A:Around}{C:Addr}{us:List Value}{kw:List (Str×Value)}:(A.under (.builtin "type.__call__" ⟨.ref C::us,kw⟩)).units=A.units+1:=by
 first|rfl|simp[Around.under,Code.cUnits,Code.frames,Code.isFrame]
theorem Room.make {k:Nat}{A:Around}(r:Room (k+1) A)(C:Addr)(us:List Value)(kw:List (Str×Value)):Room k (A.under (.builtin "type.__call__" ⟨.ref C::us,kw⟩)):=
 ⟨r.hd,by have:=r.dp;rw[N8];omega,by have:=r.un;rw[NQ];omega⟩
theorem Room.depth {k:Nat}{A:Around}(r:Room k A):A.depth<recursionLimit:=by have:=r.dp;omega
theorem Room.units {k:Nat}{A:Around}(r:Room k A):A.units+64<cLine:=by have:=r.un;omega
def LP:TA:=fun _ H Q=>Q [] H
def IC (ta:TE)(tr:TA):TA:=fun σ H Q=>ta σ H fun x H1=>tr σ H1 fun xs H2=>Q (x::xs) H2
section
variable {X:Cx}{e:Expr}{es:List Expr}{te:TE}{t:TA}{pos:Pos}
theorem Ae:PA X [] LP:=fun _ _ _ _ H Q I h=>Calls.spliced_nil ⟨[],H,I,.nil,h⟩
theorem Ab (ha:PE X e te)(hr:PA X es t)(hs:starEach (e::es) X.env=(false,eval e X.env)::starEach es X.env:=by rfl):PA X (e::es) (IC te t):=by
 intro pos pins s σ H Q I h;rw[hs];show wpAny _ _ (spliced ((false,eval e X.env)::backTo pos (starEach es X.env))) _ _ s;refine Calls.spliced_cons (Ba (ha pins s σ H _ I h) fun u s1 ⟨x,H1,I1,r1,q1⟩=>?_);exact Ba (hr pos pins s1 σ H1 _ I1 q1) fun us s2 ⟨xs,H2,I2,r2,q2⟩=>⟨x::xs,H2,I2,.cons r1 r2,q2⟩
def VG (t:TA):TE:=fun σ H Q=>t σ H fun xs H1=>xs.length<=sizeLine/\∀p,H1 p=none->Q (.ref p) (upd H1 p (.tup xs))
def WL (t:TA):TE:=fun σ H Q=>t σ H fun xs H1=>xs.length<=sizeLine/\∀p,H1 p=none->Q (.ref p) (upd H1 p (.lst xs))
theorem AR {x1}(h:PA X es t):PE X (.Tuple es x1 pos) (VG t):=by
 intro pins s σ H Q I hq;refine wpAny_Tuple_spliced (Ba (h pos pins s σ H _ I hq) fun us s1 ⟨xs,H1,I1,r,z,q⟩=>⟨by rw[<-r.length];exact z,?_⟩);have hf:H1 s1.heap.objs.size=none:=I1.hok.fresh (Nat.le_refl _);refine⟨.ref s1.heap.objs.size,upd H1 s1.heap.objs.size (.tup xs),I1.laid (t':=s1.toks) (fun b u e=>Heap.get?_push_of_some _ e) (Nat.le_refl _) ?_,rfl,q _ hf⟩;exact⟨z,us,r,⟨_,Heap.get?_push_size _ rfl,rfl,_,rfl,fun _=>rfl⟩⟩
theorem Bm (h:PA X es t):PE X (.List es pos) (WL t):=by
 intro pins s σ H Q I hq;refine wpAny_List_spliced (Ba (h pos pins s σ H _ I hq) fun us s1 ⟨xs,H1,I1,r,z,q⟩=>⟨by rw[<-r.length];exact z,?_⟩);have hf:H1 s1.heap.objs.size=none:=I1.hok.fresh (Nat.le_refl _);refine⟨.ref s1.heap.objs.size,upd H1 s1.heap.objs.size (.lst xs),I1.laid (t':=s1.toks) (fun b u e=>Heap.get?_push_of_some _ e) (Nat.le_refl _) ?_,rfl,q _ hf⟩;exact⟨z,us,0,r,Heap.get?_push_size _ rfl⟩
end
abbrev Sp:=List V->Hp->VK->XK->Prop
abbrev Nx:=List Env->Hp->Shared->XK->Value->Shared->Prop
structure Env0 (P:Program) (w:World) (K:PySem.W.Frag) (mg:Str->Option Value) (base:Heap) (A:Around) (outer:List Env) (s:Shared) (H:Hp):Prop where
 frames:A.frames=some outer
 mod:Mod K mg base
 bs:∀b o,base.get? b=some o->s.heap.get? b=some o/\H b=none
 bsz:base.objs.size<=s.heap.objs.size
 funs:s.heap.FunFrames base outer
 frf:∀b∈EH outer,H b=none
 hok:Gb P w H s.heap
 bare:AllBare s.gens
def CE (outer:List Env)(P:Program)(w:World)(H:Hp)(s:Shared)(Q:VK)(u:Value)(s':Shared):Prop:=
 ∃v H',s'.os=s.os/\AllBare s'.gens/\Un (EH outer) [] H H' s.heap s'.heap/\Gb P w H' s'.heap/\RelV v u/\Q v H'
def CR (CX:Nx)(outer:List Env)(P:Program)(w:World)(H:Hp)(s:Shared)(Q:VK)(E:XK)(r:Result)(s':Shared):Prop:=
 match r with
 | .ok (.ret u)=>CE outer P w H s Q u s'
 | .ok _=>False
 | .error e=>CX outer H s E e s'
structure FnOk (P:Program) (w:World) (K:PySem.W.Frag) (mg:Str->Option Value) (base:Heap) (CX:Nx) (k:Nat) (f:Addr) (fd:FuncData) (ps:List Str) (sp:Sp):Prop where
 len:∀vs H Q E,sp vs H Q E->vs.length=ps.length
 run:∀(A:Around) (outer:List Env) (s:Shared) (H:Hp) (args:Args) (us:List Value) (vs:List V) (Q:VK) (E:XK),Room k A->Env0 P w K mg base A outer s H->BindsTo s fd args (ps.zip us)->Aw vs us->sp vs H Q E->
  codeAny (model P w) A (.call (.ref f) args) (CR CX outer P w H s Q E) s
theorem FnOk.mono {P:Program}{w:World}{K:PySem.W.Frag}{mg:Str->Option Value}{base:Heap}{CX:Nx}{j k:Nat}{f:Addr}{fd:FuncData}{ps:List Str}{sp:Sp}(F:FnOk P w K mg base CX j f fd ps sp)(h:j<=k) :
  FnOk P w K mg base CX k f fd ps sp:=⟨F.len,fun A outer s H args us vs Q E hr=>F.run A outer s H args us vs Q E (hr.mono h)⟩
theorem FnOk.imp {P:Program} {w:World} {K:PySem.W.Frag} {mg:Str->Option Value} {base:Heap} {CX:Nx} {k:Nat} {f:Addr} {fd:FuncData} {ps:List Str} {sp sp':Sp} (F:FnOk P w K mg base CX k f fd ps sp)
  (h:∀vs H Q E,sp' vs H Q E->sp vs H Q E):FnOk P w K mg base CX k f fd ps sp':=
 ⟨fun vs H Q E q=>F.len vs H Q E (h _ _ _ _ q),fun A outer s H args us vs Q E hr he hb hv hs=>F.run A outer s H args us vs Q E hr he hb hv (h _ _ _ _ hs)⟩
theorem Env0.make {P:Program}{w:World}{K:PySem.W.Frag}{mg:Str->Option Value}{base:Heap}{A:Around}{outer:List Env}{s:Shared}{H:Hp}(e:Env0 P w K mg base A outer s H)(C:Addr)(us:List Value)(kw:List (Str×Value)) :
  Env0 P w K mg base (A.under (.builtin "type.__call__" ⟨.ref C::us,kw⟩)) outer s H:=⟨by first|exact e.frames|(simpa [Around.under,Code.envs,Code.isFrame,pushEnvs] using e.frames),e.mod,e.bs,e.bsz,e.funs,e.frf,e.hok,e.bare⟩
theorem Env0.in1 {P:Program}{w:World}{K:PySem.W.Frag}{mg:Str->Option Value}{base:Heap}{A:Around}{outer:List Env}{s:Shared}{H:Hp}(e:Env0 P w K mg base A outer s H) :
  Env0 P w K mg base A.in1 outer s H:=⟨e.frames,e.mod,e.bs,e.bsz,e.funs,e.frf,e.hok,e.bare⟩
section
variable {X:Cx}{pins:List (Addr×Obj)}{σ:St}{H:Hp}{s s':Shared}
theorem Inv.env0 (I:Inv X pins σ H s):Env0 X.prog X.w X.K X.mg X.base X.A X.stack s H:=
 ⟨I.ok.frames,I.ok.mod,I.bs,Nat.le_trans I.ok.bsz I.sz,I.stack,I.stkFree,I.hok,I.bare⟩
theorem Inv.after {Q:VK}{u:Value}(I:Inv X pins σ H s)(h:CE X.stack X.prog X.w H s Q u s'):EP X pins σ Q u s':=by
 obtain⟨v,H',os,bare,un,hok,r,q⟩:=h;obtain⟨hh,g,d,t,os'⟩:=s';obtain rfl:os'=s.os:=os;exact⟨v,H',I.call (h':=hh) (g':=g) (d':=d) (t':=t) (ch:=[]) un hok bare (fun b z=>absurd z (by simp)),r,q⟩
end
def Mw (sp:Sp)(dvs:List V)(E:XK)(t:TA):TE:=fun σ H Q=>t σ H fun vs H1=>sp (vs++dvs) H1 Q E
def O6 (C:Addr)(m:Str)(sp:Sp)(dvs:List V)(E:XK)(ta:TE)(t:TA):TE:=fun σ H Q=>ta σ H fun x H1=>∃a dx fs,x=.ref a/\H1 a=some (.ins C dx fs)/\fs.lookup m=none/\
 t σ H1 fun vs H2=>sp (x::(vs++dvs)) H2 Q E
def Ut (C:Addr)(sp:Sp)(dvs:List V)(E:XK)(t:TA):TE:=fun σ H Q=>t σ H fun vs H1=>∀x dx,H1 x=none->H1 dx=none->dx≠x->
 sp (.ref x::(vs++dvs)) (upd (upd H1 dx (.own x)) x (.ins C dx [])) (fun v H2=>v=.non/\Q (.ref x) H2) E
def Binds (K:PySem.W.Frag)(fd:FuncData)(ps:List Str)(ds:List Value):Prop:=
 ∀(s:Shared) (us:List Value),K.In s.heap->(us++ds).length=ps.length->BindsTo s fd ⟨us,[]⟩ (ps.zip (us++ds))
theorem Binds.all {K:PySem.W.Frag}{fd:FuncData}{ps:List Str}(h:∀us:List Value,us.length=ps.length->bindArgs fd ⟨us,[]⟩=pure (ps.zip us)):Binds K fd ps []:=fun s us _ hl=>by
 rw[List.append_nil] at hl ⊢;exact .of_eq (h us hl)
def DL (CX:Nx)(X:Cx)(E:XK):Prop:=∀(pins:List (Addr×Obj)) (σ:St) (H:Hp) (s:Shared) (e:Value) (s':Shared),Inv X pins σ H s->CX X.stack H s E e s'->X.xe e s'
section
variable {X:Cx}{CX:Nx}{k:Nat}{f C:Addr}{fd:FuncData}{ps:List Str}{sp:Sp}{dvs:List V}{ds:List Value}{E:XK}{x m:Str}{p pos apos:Pos}{e o:Expr}{es:List Expr}{ta:TE}{t:TA}
theorem Od {pins:List (Addr×Obj)} {σ:St} {H:Hp} {s:Shared} {Q:VK} {us:List Value} {vs:List V} (F:FnOk X.prog X.w X.K X.mg X.base CX k f fd ps sp) (hr:Room k X.A) (hb:Binds X.K fd ps ds) (hd:Aw dvs ds) (hx:DL CX X E)
  (I:Inv X pins σ H s) (r:Aw vs us) (h:sp (vs++dvs) H Q E):wpAny (model X.prog X.w) X.A (call (.ref f) us) (EP X pins σ Q) X.xe s:=by
 have r2:Aw (vs++dvs) (us++ds):=r.append hd;have hl:(us++ds).length=ps.length:=by rw[<-r2.length];exact F.len _ _ _ _ h
 refine wpAny_call (codeAny_mono (F.run X.A X.stack s H ⟨us,[]⟩ (us++ds) (vs++dvs) Q E hr I.env0 (hb s us I.kIn hl) r2 h) fun r s' hq=>?_);cases r with
 |error e=>exact hx pins σ H s e s' I hq
 |ok fl=>
  cases fl with
  |ret u=>exact I.after hq
  |next=>exact False.elim hq
  |brk=>exact False.elim hq
  |cont=>exact False.elim hq
theorem OP (F:FnOk X.prog X.w X.K X.mg X.base CX k f fd ps sp) (hr:Room k X.A) (hg:Gl X x) (hm:X.mg x=some (.ref f)) (hk:PySem.W.keepIn X.K (.ref f)=true) (hb:Binds X.K fd ps ds) (hd:Aw dvs ds) (hx:DL CX X E)
  (ha:PA X (e::es) t) (hdb:(x == ("__debug__":Str))=false:=by decide) (he:starEach (e::es) X.env=(false,eval e X.env)::starEach es X.env:=by rfl) (hpl:(backTo pos (starEach es X.env)).any (·.1)=false:=by rfl) :
  PE X (.Call (.Name x p) (e::es) [] pos) (Mw sp dvs E t):=by
 intro pins s σ H Q I h;refine wpAny_Call_Name_kw (DY I hg hm ?_ hdb);refine PySem.W.callWith_K (h₀:=X.base) I.ok.mod.kin hk (Ba (ha pos pins s σ H _ I h) fun us s1 ⟨vs,H1,I1,r,q⟩=>⟨I1.kIn,?_⟩) he hpl;exact Od F hr hb hd hx I1 r q
theorem Tn {pl:Sem Bool} (he:PE X o ta) (c:Cls X.K C) (hm:Meth X.K C m f) (F:FnOk X.prog X.w X.K X.mg X.base CX k f fd ps sp) (hr:Room k X.A) (hb:Binds X.K fd ps ds) (hd:Aw dvs ds) (hx:DL CX X E) (ha:PA X (e::es) t)
  (hst:starEach (e::es) X.env=(false,eval e X.env)::starEach es X.env:=by rfl) (hpl:(backTo pos (starEach es X.env)).any (·.1)=false:=by rfl)
  (ht:eval (.Call (.Attribute o m apos) (e::es) [] pos) X.env=(do
   let ov <-eval o X.env
   standAt apos.atName
   let(f,first) <-holding [ov] (getMethod ov m pl)
   callWith pos f first (backTo pos (starEach (e::es) X.env)) (backToKw pos (keywordEach [] X.env))):=by rfl) :
  PE X (.Call (.Attribute o m apos) (e::es) [] pos) (O6 C m sp dvs E ta t):=by
 intro pins s σ H Q I h;refine PySem.W.methodCall_KW (pl:=pl) (Ba (he pins s σ H _ I h) fun u s1 ⟨x,H1,I1,rx,a,dx,fs,ex,ea,l,q⟩=>?_) ht;subst ex;obtain rfl:u=Value.ref a:=rx;refine Ji I1 ea c hm l ?_;refine PySem.W.callWith_K (first:=[.ref a]) (h₀:=X.base) I.ok.mod.kin hm.kp (Ba (ha pos pins s1 σ H1 _ I1 q) fun us s2 ⟨vs,H2,I2,r,q2⟩=>⟨I2.kIn,?_⟩) hst hpl;exact Od (us:=.ref a::us) (vs:=.ref a::vs) F hr hb hd hx I2 (.cons rfl r) q2
theorem Rj {pl:Sem Bool} (he:PE X o ta) (c:Cls X.K C) (hm:Meth X.K C m f) (F:FnOk X.prog X.w X.K X.mg X.base CX k f fd ps sp) (hr:Room k X.A) (hb:Binds X.K fd ps ds) (hd:Aw dvs ds) (hx:DL CX X E)
  (ht:eval (.Call (.Attribute o m apos) [] [] pos) X.env=(do
   let ov <-eval o X.env
   standAt apos.atName
   let(f,first) <-holding [ov] (getMethod ov m pl)
   callWith pos f first (backTo pos (starEach [] X.env)) (backToKw pos (keywordEach [] X.env))):=by rfl) :
  PE X (.Call (.Attribute o m apos) [] [] pos) (O6 C m sp dvs E ta LP):=by
 intro pins s σ H Q I h;refine PySem.W.methodCall_KW (pl:=pl) (Ba (he pins s σ H _ I h) fun u s1 ⟨x,H1,I1,rx,a,dx,fs,ex,ea,l,q⟩=>?_) ht;subst ex;obtain rfl:u=Value.ref a:=rx;refine Ji I1 ea c hm l ?_;exact PySem.W.callWith_K0 (first:=[.ref a]) I1.kIn hm.kp (Od (us:=[.ref a]) (vs:=[.ref a]) F hr hb hd hx I1 (.cons rfl .nil) q)
structure Mk (K:PySem.W.Frag) (C f:Addr):Prop where
 makes:PySem.W.makesIn K C=true
 init:PySem.W.findIn K (.ref C) "__init__"=some (some (.ref f))
 fn:PySem.W.isFn K (.ref f)=true
 kp:PySem.W.keepIn K (.ref C)=true
theorem Q7 {pins:List (Addr×Obj)} {σ:St} {H:Hp} {s:Shared} {Q:VK} {us:List Value} {vs:List V} (M:Mk X.K C f) (F:FnOk X.prog X.w X.K X.mg X.base CX k f fd ps sp) (hr:Room (k+1) X.A) (hb:Binds X.K fd ps ds) (hd:Aw dvs ds)
  (hx:DL CX X E) (I:Inv X pins σ H s) (r:Aw vs us)
  (h:∀x dx,H x=none->H dx=none->dx≠x->sp (.ref x::(vs++dvs)) (upd (upd H dx (.own x)) x (.ins C dx [])) (fun v H2=>v=.non/\Q (.ref x) H2) E) :
  wpAny (model X.prog X.w) X.A (call (.ref C) us) (EP X pins σ Q) X.xe s:=by
 have hq:=h (s.heap.objs.size+1) s.heap.objs.size (I.hok.fresh (Nat.le_succ _)) (I.hok.fresh (Nat.le_refl _)) (Nat.ne_of_lt (Nat.lt_succ_self _));have I2:=Inv.made (C:=C) I;have r2:Aw (V.ref (s.heap.objs.size+1)::(vs++dvs)) (Value.ref (s.heap.objs.size+1)::(us++ds)):=.cons rfl (r.append hd);have hl:(Value.ref (s.heap.objs.size+1)::us++ds).length=ps.length:=by
  have e:=r2.length;rw[F.len _ _ _ _ hq] at e;exact e.symm
 refine wpAny_call (QI (f:=f) I.kIn M.makes M.init (beq_iff_eq.mp M.fn) (codeAny_mono (F.run _ X.stack _ _ ⟨Value.ref (s.heap.objs.size+1)::us,[]⟩ (Value.ref (s.heap.objs.size+1)::(us++ds)) _ _ E (hr.make C us [])
  (I2.env0.make C us []) (hb _ (Value.ref (s.heap.objs.size+1)::us) I2.kIn hl) r2 hq) fun r s' hq'=>?_))
 cases r with
 |error e=>exact hx pins σ _ _ e s' I2 hq'
 |ok fl=>
  cases fl with
  |ret u=>
   obtain⟨v,H',I3,rv,ev,q3⟩:=I2.after hq';subst ev;exact⟨rv,⟨V.ref (s.heap.objs.size+1),H',I3,rfl,q3⟩⟩
  |next=>exact False.elim hq'
  |brk=>exact False.elim hq'
  |cont=>exact False.elim hq'
theorem S5 (M:Mk X.K C f) (F:FnOk X.prog X.w X.K X.mg X.base CX k f fd ps sp) (hr:Room (k+1) X.A) (hg:Gl X x) (hm:X.mg x=some (.ref C)) (hb:Binds X.K fd ps ds) (hd:Aw dvs ds) (hx:DL CX X E)
  (ha:PA X (e::es) t) (hdb:(x == ("__debug__":Str))=false:=by decide) (he:starEach (e::es) X.env=(false,eval e X.env)::starEach es X.env:=by rfl) (hpl:(backTo pos (starEach es X.env)).any (·.1)=false:=by rfl) :
  PE X (.Call (.Name x p) (e::es) [] pos) (Ut C sp dvs E t):=by
 intro pins s σ H Q I h;refine wpAny_Call_Name_kw (DY I hg hm ?_ hdb);refine PySem.W.callWith_K (h₀:=X.base) I.ok.mod.kin M.kp (Ba (ha pos pins s σ H _ I h) fun us s1 ⟨vs,H1,I1,r,q⟩=>⟨I1.kIn,?_⟩) he hpl;exact Q7 M F hr hb hd hx I1 r q
end
section
variable {X:Cx}{CX:Nx}{k:Nat}{f C:Addr}{fd:FuncData}{ps ks:List Str}{sp:Sp}{E:XK}{x m:Str}{p pos apos kpos:Pos}{e o:Expr}{es:List Expr}{kws:List Keyword}{te ta:TE}{t tk:TA}{nm:Option Str}
structure KBinds (K:PySem.W.Frag) (fd:FuncData) (ps ks:List Str) (g:List Value->List Value->List Value) (gV:List V->List V->List V):Prop where
 to:∀(s:Shared) (us ws:List Value),K.In s.heap->(g us ws).length=ps.length->BindsTo s fd ⟨us,ks.zip ws⟩ (ps.zip (g us ws))
 rel:∀{vs:List V} {us:List Value} {zs:List V} {ws:List Value},Aw vs us->Aw zs ws->Aw (gV vs zs) (g us ws)
variable {g:List Value->List Value->List Value}{gV:List V->List V->List V}
end
structure FnScope (N P:List Str) (sc:Scope):Prop where
 kind:sc.kind=.function
 co:sc.isCoroutine=false
 gen:sc.isGenerator=false
 nd:N.Nodup
 pre:N.take P.length=P
 par:∀x∈P,sc.names.lookup x=some .local\/sc.names.lookup x=some .cell
 nofree:∀y∈sc.names,y.2≠.free
theorem Lc {kindOf:Str->Option NameKind}{x:Str}:∀{binds:List (Str×Value)} {m:Str->Option Value},(∀v,(x,v)∉binds)->bindL kindOf binds m x=m x
 |[],_,_=>rfl
 |(n,v)::r,m,h=>by
  unfold bindL;rw[Lc fun w hw=>h w (List.mem_cons_of_mem _ hw)]
  split
  ·have:x≠n:=by rintro rfl;exact h v List.mem_cons_self
   simp[this]
  ·rfl
theorem K1 {kindOf:Str->Option NameKind}{x:Str}:∀{binds:List (Str×Value)} {m:Str->Option Value},(∀v,(x,v)∉binds)->bindC kindOf binds m x=m x
 |[],_,_=>rfl
 |(n,v)::r,m,h=>by
  unfold bindC;rw[K1 fun w hw=>h w (List.mem_cons_of_mem _ hw)]
  split
  ·rfl
  ·have:x≠n:=by rintro rfl;exact h v List.mem_cons_self
   simp[this]
theorem KQ {kindOf:Str->Option NameKind}{x:Str}{v:Value}:∀{P:List Str} {vs:List Value} {i:Nat} {m:Str->Option Value},P.Nodup->P[i]?=some x->vs[i]?=some v->kindOf x=some .local->
  bindL kindOf (P.zip vs) m x=some v
 |[],_,_,_,_,h,_,_=>by simp at h
 |_::_,[],_,_,_,_,h,_=>by simp at h
 |p::P,w::vs,0,m,nd,h1,h2,hk=>by
  simp at h1 h2;subst h1;subst h2;show bindL kindOf ((p,w)::P.zip vs) m p=_;unfold bindL;rw[Lc fun v hv=>(List.nodup_cons.mp nd).1 (List.of_mem_zip hv).1,if_pos hk];simp
 |p::P,w::vs,i+1,m,nd,h1,h2,hk=>by
  show bindL kindOf ((p,w)::P.zip vs) m x=_;unfold bindL;exact KQ (i:=i) (List.nodup_cons.mp nd).2 (by simpa using h1) (by simpa using h2) hk
theorem KD {kindOf:Str->Option NameKind}{x:Str}{v:Value}:∀{P:List Str} {vs:List Value} {i:Nat} {m:Str->Option Value},P.Nodup->P[i]?=some x->vs[i]?=some v->kindOf x≠some .local->
  bindC kindOf (P.zip vs) m x=some v
 |[],_,_,_,_,h,_,_=>by simp at h
 |_::_,[],_,_,_,_,h,_=>by simp at h
 |p::P,w::vs,0,m,nd,h1,h2,hk=>by
  simp at h1 h2;subst h1;subst h2;show bindC kindOf ((p,w)::P.zip vs) m p=_;unfold bindC;rw[K1 fun v hv=>(List.nodup_cons.mp nd).1 (List.of_mem_zip hv).1,if_neg hk];simp
 |p::P,w::vs,i+1,m,nd,h1,h2,hk=>by
  show bindC kindOf ((p,w)::P.zip vs) m x=_;unfold bindC;exact KD (i:=i) (List.nodup_cons.mp nd).2 (by simpa using h1) (by simpa using h2) hk
def start (N:List Str)(vs:List V):St:=vs.map some++List.replicate (N.length-vs.length) none
def BB (CX:Nx)(P:Program)(w:World)(K:PySem.W.Frag)(mg:Str->Option Value)(base:Heap)(N:List Str)(qual:Str)(scope:Scope)(f:Addr)(cd:Value)(A:Around)(outer:List Env)(s:Shared)(H:Hp)(E:XK):Cx where
 prog:=P
 w:=w
 K:=K
 mg:=mg
 base:=base
 A:=A.deeper (envOfC qual scope s.heap.objs.size f cd)
 N:=N
 s₀:=s
 H₀:=H
 env:=envOfC qual scope s.heap.objs.size f cd
 outer:=outer
 stack:=envOfC qual scope s.heap.objs.size f cd::outer
 ex:=[]
 calm:=true
 fn:=fun _=>true
 pn:=[]
 xe:=fun e s'=>wpAny (model P w) (A.deeper (envOfC qual scope s.heap.objs.size f cd)) (leaving (envOfC qual scope s.heap.objs.size f cd) e) (fun _ s''=>CX outer H s E e s'') (fun e' s''=>CX outer H s E e' s'') s'
theorem MZ {sc:Scope}{n:Nat}{x:Str}(h:sc.names.lookup x=some .cell):∃c,(cellsFrom n sc.names []).lookup x=some c:=by
 have q:=PySem.W.cellsFrom_some sc.names n [] (.inl h);exact Option.isSome_iff_exists.mp q
theorem PY {CX:Nx} {P:Program} {w:World} {K:PySem.W.Frag} {mg:Str->Option Value} {base:Heap} {N ps:List Str} {qual:Str} {scope:Scope} {f:Addr} {cd:Value} {A:Around} {outer:List Env} {s s1:Shared} {H:Hp} {E:XK} {us:List Value} {vs:List V}
  (S:FnScope N ps scope) (hd:A.handled=none) (e0:Env0 P w K mg base A outer s H) (hl:vs.length=ps.length) (r:Aw vs us)
  (x:InCallC s s.heap.objs.size (bindL (envOfC qual scope s.heap.objs.size f cd).kindOf (ps.zip us) fun _=>none) (cellsFrom (s.heap.objs.size+1) scope.names []) (bindC (envOfC qual scope s.heap.objs.size f cd).kindOf (ps.zip us) fun _=>none) s1) :
  Inv (BB CX P w K mg base N qual scope f cd A outer s H E) [] (start N vs) H s1:=by
 have hpl:ps.length<=N.length:=by have:=congrArg List.length S.pre;rw[List.length_take] at this;omega
 obtain⟨h1,tk,rfl,hk⟩:=x.done;have noA:∀b:Addr,b∉(BB CX P w K mg base N qual scope f cd A outer s H E).ex:=fun b z=>absurd (show b∈([]:List Addr) from z) (by simp)
 refine⟨⟨e0.mod,S.kind,rfl,rfl,Nat.le_refl _,fun y z c h1 h2=>?_,fun y hy=>?_,fun y c _ h=>?_,fun _=>hd,Around.frames_deeper e0.frames,.inr ⟨rfl,rfl⟩,fun b z=>absurd z (noA b),e0.bs,e0.bsz,fun b _ _=>noA b,fun b z=>absurd z (noA b),e0.funs,e0.frf⟩,
  rfl,e0.bare,Un.kept hk,⟨_,x.toInCall.ns,fun i y v h1 h2 h3=>?_⟩,fun y c h=>⟨_,x.cell y c h⟩,e0.hok.fresh (Nat.le_refl _),fun y c h=>?_,fun p hp=>absurd (show p∈([]:List (Addr×Obj)) from hp) (by simp),e0.hok.kept hk,?_⟩
 ·exact name_of_addr x.apart (PySem.mem_of_lookup h1) (PySem.mem_of_lookup h2)
 ·have hy:scope.names.lookup y=some .cell\/scope.names.lookup y=some .free:=hy;rcases hy with hy|hy
  ·exact MZ hy
  ·exact absurd rfl (S.nofree _ (PySem.mem_of_lookup hy))
 ·exact Nat.le_of_lt (x.above y c (PySem.mem_of_lookup h))
 ·have hi:i<vs.length:=by
   unfold start at h2
   by_cases hi:i<vs.length
   ·exact hi
   ·rw[List.getElem?_append_right (by simpa using hi)] at h2;rw[List.getElem?_replicate] at h2
    split at h2<;>cases h2
  have ha:vs[i]?=some v:=by
   unfold start at h2;rw[List.getElem?_append_left (by simpa using hi),List.getElem?_map] at h2;cases e:vs[i]? with
   |none=>rw[e] at h2;cases h2
   |some a=>rw[e] at h2;cases h2;rfl
  obtain⟨u,hu,rv⟩:=r.get ha;have hp:ps[i]?=some y:=by
   rw[<-S.pre,List.getElem?_take_of_lt (by omega)];exact h1
  have ndP:ps.Nodup:=by rw[<-S.pre];exact S.nd.sublist (List.take_sublist _ _)
  refine⟨u,rv,?_⟩;rcases S.par y (List.mem_of_getElem? hp) with k|k
  ·exact .inl ⟨k,KQ ndP hp hu k⟩
  ·obtain⟨c,e⟩:=MZ (n:=s.heap.objs.size+1) k;refine .inr ⟨.inl k,c,e,?_⟩;have q:=x.cell y c e;rw[KD ndP hp hu (by show scope.names.lookup y≠_;rw[k];decide)] at q;exact q
 ·exact e0.hok.fresh (Nat.le_of_lt (x.above y c (PySem.mem_of_lookup h)))
 ·unfold start;show _=N.length;rw[List.length_append,List.length_map,List.length_replicate];omega
theorem Uv {CX:Nx} {P:Program} {w:World} {K:PySem.W.Frag} {mg:Str->Option Value} {base:Heap} {k:Nat} {f:Addr} {name qual:Str} {params:Arguments} {body:List Stmt} {scope:Scope} {dV kV doc pm cdv ct oc:Value} {an od:Option Addr}
  {osl:Array (Option Value)} {N ps:List Str} {sp:Sp} (lk:K.lookup f=some ⟨oc,od,.func (PySem.W.fnOf name qual params body scope dV kV doc pm an cdv ct),osl⟩) (hcd:PySem.W.codeIn K cdv qual=true) (S:FnScope N ps scope)
  (len:∀vs H Q E,sp vs H Q E->vs.length=ps.length)
  (hbody:∀(A:Around) (outer:List Env) (s:Shared) (H:Hp) (vs:List V) (Q:VK) (E:XK),Room k (A.deeper (envOfC qual scope s.heap.objs.size f cdv))->sp vs H Q E->
   ∃t,Mf (BB CX P w K mg base N qual scope f cdv A outer s H E) body t/\t { nx:=fun _ H'=>Q .non H',rt:=Q } (start N vs) H) :
  FnOk P w K mg base CX (k+1) f (PySem.W.fnOf name qual params body scope dV kV doc pm an cdv ct) ps sp:=by
 refine⟨len,fun A outer s H args us vs Q E hr e0 hb r hsp=>?_⟩;have hl:=len _ _ _ _ hsp;have KX:K.In s.heap:=e0.mod.kin.keeps fun b o e=>(e0.bs b o e).1
 have lim:s.heap.NoLimit:=e0.mod.nolimit.keeps fun b o e=>(e0.bs b o e).1
 have hkind:∀y∈ps.zip us,scope.names.lookup y.1=some .local\/(scope.names.lookup y.1=some .cell/\((cellsFrom (s.heap.objs.size+1) scope.names []).lookup y.1).isSome=true):=fun⟨n,v⟩ hy=>by
  rcases S.par n (List.of_mem_zip hy).1 with q|q
  ·exact .inl q
  ·exact .inr ⟨q,PySem.W.cellsFrom_some _ _ _ (.inl q)⟩
 refine codeAny_call_function hr.depth (KX _ _ lk) rfl S.co S.gen rfl (PySem.W.codeRec_of KX hcd) (hb _ _ _ _ ?_);refine wpAny_newFunctionEnv_cells S.kind hkind fun env he s1 x=>?_
 subst he;refine⟨lim.keeps x.toInCall.keep,codeAny_func ?_⟩;obtain⟨t,ht,hq⟩:=hbody A outer s H vs Q E (hr.deeper _) hsp;have I:Inv (BB CX P w K mg base N qual scope f cdv A outer s H E) [] (start N vs) H s1:=PY S hr.hd e0 hl r x;refine wpAny_mono (ht [] s1 (start N vs) H _ I hq) (fun fl s' hs=>?_) fun e s' hs=>hs
 have fin:∀{σ':St} {H':Hp} {v:V} {u:Value},Inv (BB CX P w K mg base N qual scope f cdv A outer s H E) [] σ' H' s'->RelV v u->Q v H'->CE outer P w H s Q u s':=
  fun{σ' H' v u} J rv q=>⟨v,H',J.os,J.bare,J.base,J.hok,rv,q⟩
 cases fl with
 |ret u=>
  obtain⟨v,σ',H',J,rv,q⟩:=hs;exact fin J rv q
 |next=>
  obtain⟨σ',H',J,q⟩:=hs;exact fin (v:=V.non) (u:=Value.none) J rfl q
 |brk=>
  obtain⟨_,_,_,q⟩:=hs;exact False.elim q
 |cont=>
  obtain⟨_,_,_,q⟩:=hs;exact False.elim q
section
variable {X:Cx}{x:Str}{p pos:Pos}{e:Expr}{es:List Expr}{t:TA}{id T:String}{r:List V->Hp->VK->Prop}
def W3 (r:List V->Hp->VK->Prop)(t:TA):TE:=fun σ H Q=>t σ H fun vs H1=>r vs H1 Q
theorem Av (hc:CH X (.builtin id) r) (hg:Gl X x) (hm:X.mg x=none) (hv:bootBuiltins x=some (.builtin id)) (ha:PA X (e::es) t) (hn:x≠"__name__":=by decide) (hdb:(x == ("__debug__":Str))=false:=by decide)
  (he:starEach (e::es) X.env=(false,eval e X.env)::starEach es X.env:=by rfl) (hpl:(backTo pos (starEach es X.env)).any (·.1)=false:=by rfl):PE X (.Call (.Name x p) (e::es) [] pos) (W3 r t):=by
 intro pins s σ H Q I h;refine wpAny_Call_Name_kw (Fz I hg hm hv ?_ hn hdb);exact PyProof.Rows.callWith_builtin1 (Ba (ha pos pins s σ H _ I h) fun us s1 ⟨vs,H1,I1,r1,q1⟩=>hc pins s1 σ H1 vs us Q I1 r1 q1) he hpl
theorem Dy (hc:CH X (.type T) r) (hg:Gl X x) (hm:X.mg x=none) (hv:bootBuiltins x=some (.type T)) (ha:PA X (e::es) t) (hn:x≠"__name__":=by decide) (hdb:(x == ("__debug__":Str))=false:=by decide)
  (he:starEach (e::es) X.env=(false,eval e X.env)::starEach es X.env:=by rfl) (hpl:(backTo pos (starEach es X.env)).any (·.1)=false:=by rfl):PE X (.Call (.Name x p) (e::es) [] pos) (W3 r t):=by
 intro pins s σ H Q I h;refine wpAny_Call_Name_kw (Fz I hg hm hv ?_ hn hdb);exact PyProof.Rows.callWith_type1 (Ba (ha pos pins s σ H _ I h) fun us s1 ⟨vs,H1,I1,r1,q1⟩=>hc pins s1 σ H1 vs us Q I1 r1 q1) he hpl
end
end L2
namespace HT
open PySem PyProof.Rows
section
variable {prog:Program}{w:World}{A:Around}{E:Value->Shared->Prop}{s:Shared}
def Kr (n d:Nat):Option Int->Nat
 |none=>d
 |some v=>if v<0 then(v+(n:Int)).toNat else min v.toNat n
theorem R3 (n d:Nat):Kr n d none=d:=rfl
theorem Sw (n d k:Nat):Kr n d (some (k:Int))=min k n:=by
 show(if(k:Int)<0 then((k:Int)+(n:Int)).toNat else min (k:Int).toNat n)=min k n;rw[if_neg (by omega),Int.toNat_natCast]
end
end HT
namespace L2
open PySem PySem.Spec PyProof.Rows
abbrev TO:=St->Hp->(Option Int->Hp->Prop)->Prop
def PO (X:Cx)(e:Option Expr)(t:TO):Prop:=
 ∀(pins:List (Addr×Obj)) (s:Shared) (σ:St) (H:Hp) (Q:Option Int->Hp->Prop),Inv X pins σ H s->t σ H Q->
  wpAny (model X.prog X.w) X.A (evalPart e X.env) (fun u s'=>∃o H',Inv X pins σ H' s'/\IsPart u o/\Q o H') X.xe s
def TQ:TO:=fun _ H Q=>Q none H
def Wi (t:TE):TO:=fun σ H Q=>t σ H fun x H1=>∃i,x=.int i/\Q (some i) H1
theorem intsAre_of {ns:List Int}:∀{us:List Value},Aw (ns.map V.int) us->IntsAre us ns:=by
 induction ns with
 |nil=>intro us r;rw[List.map_nil] at r;cases r;exact .nil
 |cons n ns ih=>
  intro us r;rw[List.map_cons] at r;cases r with
  |cons r1 r2=>
   obtain⟨t,e⟩:=r1;subst e;exact .cons n t (ih r2)
section
variable {X:Cx}{e:Expr}{te:TE}{lo hi:Option Expr}{tl th:TO}{pos p2:Pos}
theorem IU:PO X none TQ:=by
 intro pins s σ H Q I h;rw[evalPart_none];exact wpAny_pure ⟨none,H,I,.none,h⟩
theorem FV (h:PE X e te):PO X (some e) (Wi te):=by
 intro pins s σ H Q I hw;rw[evalPart_some];refine Ba (h pins s σ H _ I hw) fun u s1 ⟨x,H1,I1,r1,q1⟩=>?_
 obtain⟨i,rfl,q⟩:=q1;obtain⟨t,rfl⟩:=r1;exact⟨some i,H1,I1,.int i t,q⟩
def Vj (X:Cx)(r:V->Option Int->Option Int->Hp->VK->Prop):Prop:=
 ∀(pins:List (Addr×Obj)) (s:Shared) (σ:St) (H:Hp) (x:V) (v vl vu:Value) (lo hi:Option Int) (sl:Addr) (Q:VK),Inv X pins σ H s->RelV x v->s.heap.IsSliceOf sl vl vu .none->IsPart vl lo->IsPart vu hi->r x lo hi H Q->
  ∃T id,typeLookup (.type T) "__getitem__"=pure (some (.builtin id))/\s.TypeIs v T/\wpAny (model X.prog X.w) X.A (getItem v (.ref sl)) (EP X pins σ Q) X.xe s
theorem Vj.or {r r':V->Option Int->Option Int->Hp->VK->Prop}(h:Vj X r)(h':Vj X r'):Vj X (fun x lo hi H Q=>r x lo hi H Q\/r' x lo hi H Q):=by
 intro pins s σ H x v vl vu lo hi sl Q I rx hs pl pu q;rcases q with q|q
 ·exact h pins s σ H x v vl vu lo hi sl Q I rx hs pl pu q
 ·exact h' pins s σ H x v vl vu lo hi sl Q I rx hs pl pu q
def Xk (r:V->Option Int->Option Int->Hp->VK->Prop)(te:TE)(tl th:TO):TE:=fun σ H Q=>te σ H fun x H1=>tl σ H1 fun l H2=>th σ H2 fun u H3=>r x l u H3 Q
theorem Fq {r:V->Option Int->Option Int->Hp->VK->Prop}(hr:Vj X r)(he:PE X e te)(hl:PO X lo tl)(hu:PO X hi th):PE X (.Subscript e (.Slice lo hi none p2) pos) (Xk r te tl th):=by
 intro pins s σ H Q I h;refine Subscript_ (Ba (he pins s σ H _ I h) fun v s1 ⟨x,H1,I1,r1,q1⟩=>?_);refine wpAny_Slice (Ba (hl pins s1 σ H1 _ I1 q1) fun vl s2 ⟨l,H2,I2,pl,q2⟩=>Ba (hu pins s2 σ H2 _ I2 q2) fun vu s3 ⟨u,H3,I3,pu,q3⟩=>?_);rw[evalPart_none];refine wpAny_pure ?_;have I4:Inv X pins σ H3 { s3 with heap:=s3.heap.push { cls:=.type "slice",data:=.fields #[vl,vu,.none] } }:=I3.kept (t':=s3.toks) fun b ob q=>Heap.get?_push_of_some _ q
 obtain⟨T,id,hT,ht,hg⟩:=hr pins { s3 with heap:=s3.heap.push { cls:=.type "slice",data:=.fields #[vl,vu,.none] } } σ H3 x v vl vu l u s3.heap.objs.size Q I4 r1 (Heap.IsSliceOf.new ..) pl pu q3;show wpAny (model X.prog X.w) X.A (subscriptTail e (.Slice lo hi none p2) v (.ref s3.heap.objs.size)) (EP X pins σ Q) X.xe { s3 with heap:=s3.heap.push { cls:=.type "slice",data:=.fields #[vl,vu,.none] } };exact tail_any (ops:=[.ref s3.heap.objs.size,v]) ht hT hg (by with_unfolding_all rfl)
def J1 (xs:List V)(lo hi:Option Int):List V:=(xs.drop (HT.Kr xs.length 0 lo)).take (HT.Kr xs.length xs.length hi-HT.Kr xs.length 0 lo)
theorem MG (xs:List V)(lo hi:Option Int):(J1 xs lo hi).length<=xs.length:=by
 unfold J1;rw[List.length_take,List.length_drop];omega
end
def Sx (n:Nat)(i:Int):Option Nat:=if 0<=i then(if i<n then some i.toNat else none) else if -(n:Int)<=i then some (i+n).toNat else none
def Kv {α:Type}(xs:List α)(i:Int):Option α:=(Sx xs.length i).bind fun j=>xs[j]?
theorem SD {n:Nat}{i:Int}{j:Nat}(h:Sx n i=some j):seqIndex? i n=some j/\j<n/\-(n:Int)<=i/\i<n:=by
 unfold Sx at h
 by_cases h0:0<=i
 ·rw[if_pos h0] at h
  by_cases h1:i<n
  ·rw[if_pos h1] at h;have e:i.toNat=j:=Option.some.inj h;exact⟨by rw[seqIndex_of h0 h1,e],by omega,by omega,h1⟩
  ·rw[if_neg h1] at h;cases h
 ·rw[if_neg h0] at h
  by_cases h1:-(n:Int)<=i
  ·rw[if_pos h1] at h;have e:(i+n).toNat=j:=Option.some.inj h;exact⟨by rw[seqIndex_neg (by omega) h1,e],by omega,h1,by omega⟩
  ·rw[if_neg h1] at h;cases h
theorem LG {α:Type}{xs:List α}{i:Int}{v:α}(h:Kv xs i=some v):∃j,seqIndex? i xs.length=some j/\xs[j]?=some v/\j<xs.length/\-(xs.length:Int)<=i/\i<xs.length:=by
 unfold Kv at h;cases e:Sx xs.length i with
 |none=>rw[e] at h;cases h
 |some j=>
  rw[e] at h;obtain⟨h1,h2,h3,h4⟩:=SD e;exact⟨j,h1,h,h2,h3,h4⟩
theorem Lk {α:Type}{xs:List α}{j:Nat}{v:α}(h:xs[j]?=some v):Kv xs (j:Int)=some v:=by
 have hj:j<xs.length:=(List.getElem?_eq_some_iff.mp h).1;have e:Sx xs.length (j:Int)=some j:=by
  unfold Sx;rw[if_pos (by omega),if_pos (by omega)];simp
 unfold Kv;rw[e];exact h
theorem Rx {α:Type}(xs:List α)(v:α):Kv (xs++[v]) (-1)=some v:=by
 have hl:(xs++[v]).length=xs.length+1:=by simp
 have e:Sx (xs++[v]).length (-1)=some xs.length:=by
  unfold Sx;rw[hl,if_neg (by decide),if_pos (by omega)]
  congr 1
  omega
 unfold Kv;rw[e];show(xs++[v])[xs.length]?=some v;simp
def TF (b:Expr):Prop:=∀o i,subscripted b false o i=operate [o,i] (getItem o i)
def Te (X:Cx)(r:R2):Prop:=
 ∀(value slice:Expr) (pins:List (Addr×Obj)) (s:Shared) (σ:St) (H:Hp) (x y:V) (v u:Value) (Q:VK),Inv X pins σ H s->RelV x v->RelV y u->r x y H Q->
  subscripted slice false v u=operate [v,u] (getItem v u)->wpAny (model X.prog X.w) X.A (subscriptTail value slice v u) (EP X pins σ Q) X.xe s
def Tw (X:Cx)(id:String)(r:V->List V->Hp->VK->Prop):Prop:=
 ∀(pins:List (Addr×Obj)) (s:Shared) (σ:St) (H:Hp) (x:V) (xs:List V) (v:Value) (us:List Value) (Q:VK),Inv X pins σ H s->RelV x v->Aw xs us->r x xs H Q->
  wpAny (model X.prog X.w) X.A (call (.builtin id) (v::us)) (EP X pins σ Q) X.xe s
section
variable {X:Cx}{a b:Expr}{ta tb:TE}{pos:Pos}
theorem Te.or {r r':R2}(h:Te X r)(h':Te X r'):Te X (fun x y H Q=>r x y H Q\/r' x y H Q):=by
 intro value slice pins s σ H x y v u Q I rx ry q hs;rcases q with q|q
 ·exact h value slice pins s σ H x y v u Q I rx ry q hs
 ·exact h' value slice pins s σ H x y v u Q I rx ry q hs
theorem Tw.or {id:String}{r r':V->List V->Hp->VK->Prop}(h:Tw X id r)(h':Tw X id r'):Tw X id (fun x xs H Q=>r x xs H Q\/r' x xs H Q):=by
 intro pins s σ H x xs v us Q I rx rs q;rcases q with q|q
 ·exact h pins s σ H x xs v us Q I rx rs q
 ·exact h' pins s σ H x xs v us Q I rx rs q
theorem AD {r:R2}(hr:Te X r)(ha:PE X a ta)(hb:PE X b tb)(hs:TF b):PE X (.Subscript a b pos) (QA r ta tb):=by
 intro pins s σ H Q I h;exact Subscript_ (Vs ha hb I h fun v u s2 x y H2 I2 rx ry q=>hr a b pins s2 σ H2 x y v u Q I2 rx ry q (hs _ _))
def WS (K:PySem.W.Frag):R2:=fun x y H Q=>∃p xs i v,x=.ref p/\y=.int i/\AW K H p xs/\Kv xs i=some v/\Q v H
def Vm (K:PySem.W.Frag):R2:=fun x y H Q=>∃p xs i v,x=.ref p/\y=.int i/\A0 K H p xs/\Kv xs i=some v/\Q v H
def WT:R2:=fun x y H Q=>∃z i c,x=.str z/\y=.int i/\z.length<=sizeLine/\Kv z.cps.toList i=some c/\Q (.str ⟨#[c]⟩) H
theorem Ci:Te X (WS X.K):=by
 intro value slice pins s σ H x y v u Q I rx ry h hs;obtain⟨p,xs,i,z,rfl,rfl,hq,he,q⟩:=h;cases rx;obtain⟨t,rfl⟩:=ry;obtain⟨its,r,pl,hz⟩:=I.list hq;obtain⟨j,h1,h2,h3,h4,h5⟩:=LG he;obtain⟨w,ew,rw'⟩:=r.get h2;have hl:=r.length;have hn:=Jt;have fin:EP X pins σ Q w s:=⟨z,H,I,rw',q⟩
 by_cases h0:0<=i
 ·have hj:i.toNat=j:=by
   rw[seqIndex_of h0 h5] at h1;exact Option.some.inj h1
  exact item_listR pl.isList h0 (by omega) (by rw[hj];simpa using ew) fin hs
 ·have hj:(i+(its.toArray.size:Int)).toNat=j:=by
   rw[seqIndex_neg (by omega) h4] at h1;rw[List.size_toArray,<-hl];exact Option.some.inj h1
  exact subscriptTail_builtinR (x:=w) pl.isList.typeIs slot_list_getitem.lookup
   (wpAny_getItem_list_neg (Q:=fun r s'=>r=w/\EP X pins σ Q r s') pl.isList (by omega) (by rw[List.size_toArray]<;>omega) (by omega) (by rw[hj];simpa using ew) ⟨rfl,fin⟩) hs
theorem AH:Te X (Vm X.K):=by
 intro value slice pins s σ H x y v u Q I rx ry h hs;obtain⟨p,xs,i,z,rfl,rfl,hq,he,q⟩:=h;cases rx;obtain⟨t,rfl⟩:=ry;obtain⟨its,r,pl,hz⟩:=I.tuple hq;obtain⟨j,h1,h2,h3,h4,h5⟩:=LG he;obtain⟨w,ew,rw'⟩:=r.get h2;have hl:=r.length;have hn:=Jt;have fin:EP X pins σ Q w s:=⟨z,H,I,rw',q⟩
 exact subscriptTail_builtinR (x:=w) pl.typeIs slot_tuple_getitem.lookup
  (getItem_tuple (j:=j) (Q:=fun r s'=>r=w/\EP X pins σ Q r s') pl (by omega) (by omega) (by rw[List.size_toArray,<-hl];exact h1) (by simpa using ew) ⟨rfl,fin⟩) hs
theorem QZ:Te X WT:=by
 intro value slice pins s σ H x y v u Q I rx ry h hs;obtain⟨z,i,c,rfl,rfl,hz,he,q⟩:=h;obtain⟨t,rfl⟩:=rx;obtain⟨t',rfl⟩:=ry;obtain⟨j,h1,h2,h3,h4,h5⟩:=LG he;have hl:z.cps.toList.length=z.length:=by simp[Str.length]
 rw[hl] at h1 h4 h5;have hn:=Jt;exact tail_any (typeIs_str s z t) slot_str_getitem.lookup (getItem_str (c:=c) (by
  have e1:decide (i < -(2^63:Int))=false:=decide_eq_false (by omega);have e2:decide (i≥2^63)=false:=decide_eq_false (by omega);rw[e1,e2,Bool.or_false]) (by rw[h1];simpa using h2) ⟨.str ⟨#[c]⟩,H,I.tok _,⟨_,rfl⟩,q⟩) hs
theorem Inv.lst {pins:List (Addr×Obj)}{σ:St}{H:Hp}{s:Shared}{p:Addr}{xs:List V}(I:Inv X pins σ H s)(h:H p=some (.lst xs)) :
  ∃(its:List Value) (n:Nat),Aw xs its/\s.heap.get? p=some { cls:=.type "list",data:=.seq its.toArray n }/\xs.length<=sizeLine:=by
 obtain⟨z,its,n,r,e⟩:=I.hok p _ h;exact⟨its,n,r,e,z⟩
theorem Mb (lo hi:Option Int)(n:Nat):(sliceBounds lo hi none n).1=((HT.Kr n 0 lo:Nat):Int)/\(sliceBounds lo hi none n).2.1=((HT.Kr n n hi:Nat):Int)/\(sliceBounds lo hi none n).2.2=1:=by
 refine⟨?_,?_,rfl⟩
 ·cases lo with
  |none=>simp[sliceBounds,HT.Kr]
  |some i=>
   simp only[sliceBounds,HT.Kr,Option.getD_none,show(1:Int)>0 by decide,if_true]
   by_cases h:i<0
   ·simp only[h,if_true]<;>omega
   ·simp only[h,if_false]<;>omega
 ·cases hi with
  |none=>simp[sliceBounds,HT.Kr]
  |some i=>
   simp only[sliceBounds,HT.Kr,Option.getD_none,show(1:Int)>0 by decide,if_true]
   by_cases h:i<0
   ·simp only[h,if_true]<;>omega
   ·simp only[h,if_false]<;>omega
theorem Ko (its:List Value)(lo hi:Option Int):slicePick its.toArray lo hi none=((its.drop (HT.Kr its.length 0 lo)).take (HT.Kr its.length its.length hi-HT.Kr its.length 0 lo)).toArray:=by
 obtain⟨h1,h2,h3⟩:=Mb lo hi its.toArray.size;unfold slicePick;rw[h1,h2,h3];simp only[sliceRange_one,pick_run,List.size_toArray]<;>rfl
def WZ (K:PySem.W.Frag):V->Option Int->Option Int->Hp->VK->Prop:=fun x lo hi H Q=>∃a xs,x=.ref a/\AW K H a xs/\∀p,H p=none->Q (.ref p) (upd H p (.lst (J1 xs lo hi)))
theorem IY:Vj X (WZ X.K):=by
 intro pins s σ H x v vl vu lo hi sl Q I rx hs pl pu h;obtain⟨a,xs,rfl,hx,q⟩:=h;cases rx;obtain⟨its,r,ht,hz⟩:=I.list hx;have hlen:=r.length;refine⟨"list",_,slot_list_getitem.lookup,ht.isList.typeIs,?_⟩;refine wpAny_getItem_list_slice ht.isList hs pl pu .none (by simp) ?_ (by rw[List.size_toArray]<;>omega);rw[Ko,<-hlen];refine⟨.ref s.heap.objs.size,_,I.laid (t':=s.toks) (o:=.lst (J1 xs lo hi)) (fun b ob q=>Heap.get?_push_of_some _ q) (Nat.le_refl _) ?_,rfl,q _ (I.hok.fresh (Nat.le_refl _))⟩;exact⟨Nat.le_trans (MG xs lo hi) hz,_,0,(r.drop (HT.Kr xs.length 0 lo)).take (HT.Kr xs.length xs.length hi-HT.Kr xs.length 0 lo),Heap.get?_push_size _ rfl⟩
def G3:V->Bool
 | .non=>true
 | .bl _=>true
 | .int _=>true
 | .str _=>true
 |_=>false
def RM:V->V->Bool
 | .non,.non=>true
 | .bl a,.bl b=>a == b
 | .bl a,.int b=>(if a then 1 else 0) == b
 | .int a,.bl b=>a == (if b then 1 else 0)
 | .int a,.int b=>a == b
 | .str a,.str b=>a == b
 |_,_=>false
theorem OC {A:Around}{s:Shared}{y x:V}{u v:Value}(ry:RelV y u)(rx:RelV x v)(fy:G3 y=true)(fx:G3 x=true):SeqAt.EqAt A s u v (RM y x):=by
 cases y with
 |non=>
  cases ry;cases x with
  |non=>cases rx;exact SeqAt.EqAt.same _
  |bl b=>cases rx;exact SeqAt.EqAt.none_bool b
  |int b=>obtain⟨t,rfl⟩:=rx;exact SeqAt.EqAt.none_int b t
  |str b=>obtain⟨t,rfl⟩:=rx;exact SeqAt.EqAt.none_str b t
  |_=>exact absurd (show false=true from fx) Bool.false_ne_true
 |bl a=>
  cases ry;cases x with
  |non=>cases rx;exact SeqAt.EqAt.bool_none a
  |bl b=>cases rx;exact SeqAt.EqAt.bool_bool a b
  |int b=>obtain⟨t,rfl⟩:=rx;exact SeqAt.EqAt.bool_int a b t
  |str b=>obtain⟨t,rfl⟩:=rx;exact SeqAt.EqAt.bool_str a b t
  |_=>exact absurd (show false=true from fx) Bool.false_ne_true
 |int a=>
  obtain⟨t',rfl⟩:=ry;cases x with
  |non=>cases rx;exact SeqAt.EqAt.int_none a t'
  |bl b=>cases rx;exact SeqAt.EqAt.int_bool a t' b
  |int b=>obtain⟨t,rfl⟩:=rx;exact SeqAt.EqAt.int_int a t' b t
  |str b=>obtain⟨t,rfl⟩:=rx;exact SeqAt.EqAt.int_str a t' b t
  |_=>exact absurd (show false=true from fx) Bool.false_ne_true
 |str a=>
  obtain⟨t',rfl⟩:=ry;cases x with
  |non=>cases rx;exact SeqAt.EqAt.str_none a t'
  |bl b=>cases rx;exact SeqAt.EqAt.str_bool a t' b
  |int b=>obtain⟨t,rfl⟩:=rx;exact SeqAt.EqAt.str_int a t' b t
  |str b=>obtain⟨t,rfl⟩:=rx;exact SeqAt.EqAt.str_str a t' b t
  |_=>exact absurd (show false=true from fx) Bool.false_ne_true
 |_=>exact absurd (show false=true from fy) Bool.false_ne_true
def TH (x:V)(u:Value):Bool:=match u with
 | .none=>RM .non x
 | .bool b=>RM (.bl b) x
 | .int i _=>RM (.int i) x
 | .str z _=>RM (.str z) x
 |_=>false
theorem R0 {x y:V}{u:Value}(r:RelV y u)(f:G3 y=true):TH x u=RM y x:=by
 cases y with
 |non=>cases r;rfl
 |bl b=>cases r;rfl
 |int i=>obtain⟨t,rfl⟩:=r;rfl
 |str z=>obtain⟨t,rfl⟩:=r;rfl
 |_=>exact absurd (show false=true from f) Bool.false_ne_true
theorem LQ {x:V}:∀{xs:List V} {us:List Value},Aw xs us->xs.all G3=true->us.any (TH x)=xs.any fun y=>RM y x
 |_,_,.nil,_=>rfl
 |y::xs,u::us,.cons r t,f=>by
  rw[List.all_cons,Bool.and_eq_true] at f;rw[List.any_cons,List.any_cons,R0 r f.1,LQ t f.2]
theorem Jp {A:Around}{s:Shared}{x:V}{v:Value}(rx:RelV x v)(fx:G3 x=true):∀{xs:List V} {us:List Value},Aw xs us->xs.all G3=true->∀u∈us,SeqAt.EqAt A s u v (TH x u)
 |_,_,.nil,_=>fun u hu=>by cases hu
 |y::xs,u::us,.cons r t,f=>fun u' hu=>by
  rw[List.all_cons,Bool.and_eq_true] at f;rcases List.mem_cons.mp hu with rfl|hu
  ·rw[R0 r f.1];exact OC r rx f.1 fx
  ·exact Jp rx fx t f.2 u' hu
def Wy (x:V)(xs:List V):Bool:=xs.any fun y=>RM y x
def Xn (K:PySem.W.Frag)(neg:Bool):R2:=fun x y H Q=>∃p xs,y=.ref p/\(AW K H p xs\/A0 K H p xs)/\G3 x=true/\xs.all G3=true/\Q (.bl (if neg then !Wy x xs else Wy x xs)) H
theorem Pw:Gi X (compareOp .In) (Xn X.K false):=by
 intro pins s σ H x y v u Q I rx ry h;obtain⟨p,xs,rfl,hq,fx,fs,q⟩:=h;cases ry;rcases hq with hq|hq
 ·obtain⟨its,r,pl,hz⟩:=I.list hq;refine SeqAt.in_listAt (TH x) pl.isList (fun w hw=>Jp rx fx r fs w (by simpa using hw)) ⟨.bl _,H,I,rfl,?_⟩;rw[show its.toArray.any (TH x)=its.any (TH x) by simp,LQ r fs];exact q
 ·obtain⟨its,r,pl,hz⟩:=I.tuple hq;refine SeqAt.in_tupleAt (TH x) pl (fun w hw=>Jp rx fx r fs w (by simpa using hw)) ⟨.bl _,H,I,rfl,?_⟩;rw[show its.toArray.any (TH x)=its.any (TH x) by simp,LQ r fs];exact q
theorem Be:CH X (.builtin "len") (fun xs H Q=>∃p ys,xs=[.ref p]/\(AW X.K H p ys\/A0 X.K H p ys)/\Q (.int ys.length) H):=by
 intro pins s σ H xs us Q I r h;obtain⟨p,ys,rfl,hq,q⟩:=h;obtain⟨u,rfl,rx⟩:=vals1 r;cases rx;have hn:=Jt;rcases hq with hq|hq
 ·obtain⟨its,r',pl,hz⟩:=I.list hq;have hlen:=r'.length;exact Calls.call_len_list pl.isList (by simp only[List.size_toArray]<;>omega) ⟨.int ys.length,H,I.tok _,⟨s.toks+1,by rw[List.size_toArray,hlen]⟩,q⟩
 ·obtain⟨its,r',pl,hz⟩:=I.tuple hq;have hlen:=r'.length;exact len_tuple pl (by simp only[List.size_toArray]<;>omega) ⟨.int ys.length,H,I.tok _,⟨s.toks+1,by rw[List.size_toArray,hlen]⟩,q⟩
theorem GS:CH X (.builtin "len") (fun xs H Q=>∃z,xs=[.str z]/\z.length<=sizeLine/\Q (.int z.length) H):=by
 intro pins s σ H xs us Q I r h;obtain⟨z,rfl,hz,q⟩:=h;obtain⟨u,rfl,t,rfl⟩:=vals1 r;have hn:=Jt;exact len_str (by omega) ⟨.int z.length,H,I.tok _,⟨_,rfl⟩,q⟩
theorem CH.or {f:Value}{r r':List V->Hp->VK->Prop}(h:CH X f r)(h':CH X f r'):CH X f (fun xs H Q=>r xs H Q\/r' xs H Q):=by
 intro pins s σ H xs us Q I rs q;rcases q with q|q
 ·exact h pins s σ H xs us Q I rs q
 ·exact h' pins s σ H xs us Q I rs q
theorem LS:CH X (.type "list") (fun xs H Q=>∃p ys,xs=[.ref p]/\(AW X.K H p ys\/A0 X.K H p ys)/\∀l,H l=none->Q (.ref l) (upd H l (.lst ys))):=by
 intro pins s σ H xs us Q I r h;obtain⟨p,ys,rfl,hq,q⟩:=h;obtain⟨u,rfl,rx⟩:=vals1 r;cases rx;have fin:∀(its:List Value),Aw ys its->ys.length<=sizeLine->∀(h':Heap) (c':Nat),(∀b o',s.heap.get? b=some o'->h'.get? b=some o')->
   h'.get? s.heap.objs.size=some { cls:=.type "list",dict:=none,data:=.seq its.toArray c',slots:=#[] }->EP X pins σ Q (.ref s.heap.objs.size) { s with heap:=h' }:=fun its r' hz h' c' kp e=>
  ⟨.ref s.heap.objs.size,_,I.laid (t':=s.toks) kp (Nat.le_refl _) (show AN X.prog X.w _ h' _ (.lst ys) from⟨hz,its,c',r',e⟩),rfl,q _ (I.hok.fresh (Nat.le_refl _))⟩
 rcases hq with hq|hq
 ·obtain⟨its,r',pl,hz⟩:=I.list hq;have hlen:=r'.length;obtain⟨o,ho,hc,n,hd⟩:=pl.isList;exact call_list_seq p (.inl rfl) ho hc hd (fun h' c' kp e=>fin its r' hz h' c' kp e) (by simp only[List.size_toArray]<;>omega)
 ·obtain⟨its,r',pl,hz⟩:=I.tuple hq;have hlen:=r'.length;obtain⟨o,ho,hc,n,hd⟩:=pl;exact call_list_seq p (.inr rfl) ho hc hd (fun h' c' kp e=>fin its r' hz h' c' kp e) (by simp only[List.size_toArray]<;>omega)
theorem Ep:CH X (.type "tuple") (fun xs H Q=>∃p ys,xs=[.ref p]/\((AW X.K H p ys/\∀l,H l=none->Q (.ref l) (upd H l (.tup ys)))\/(A0 X.K H p ys/\Q (.ref p) H))):=by
 intro pins s σ H xs us Q I r h;obtain⟨p,ys,rfl,h⟩:=h;obtain⟨u,rfl,rx⟩:=vals1 r;cases rx;rcases h with⟨hq,q⟩|⟨hq,q⟩
 ·obtain⟨its,r',pl,hz⟩:=I.list hq;have hlen:=r'.length;refine call_tuple_list pl.isList (fun h' kp=>?_) (by simp only[List.size_toArray]<;>omega);have I1:Inv X pins σ H { s with heap:=h' }:=I.kept (t':=s.toks) kp;have I2:Inv X pins σ (upd H h'.objs.size (.tup ys)) { s with heap:=h'.push { cls:=.type "tuple",data:=.seq its.toArray } }:=
   I1.laid (t':=s.toks) (fun b o e=>Heap.get?_push_of_some _ e) (Nat.le_refl _) (show AN X.prog X.w _ _ _ (.tup ys) from⟨hz,its,r',Mh.new _ _⟩)
  exact⟨.ref h'.objs.size,_,I2,rfl,q _ (I1.hok.fresh (Nat.le_refl _))⟩
 ·obtain⟨its,r',pl,hz⟩:=I.tuple hq;exact call_tuple_same pl ⟨.ref p,H,I,rfl,q⟩
def Xb (K:PySem.W.Frag)(T:String)(x:V)(H:Hp):Prop:=match x with
 | .str _=>T="str"
 | .int _=>T="int"
 | .ref p=>(T="list"/\∃xs,AW K H p xs)\/(T="tuple"/\∃o,K.lookup p=some o/\o.cls=.type "tuple"/\o.dict=none)\/
   (T="dict"/\((∃kvs,H p=some (.dK kvs))\/∃kvs,H p=some (.dT kvs)))\/(T="set"/\∃S n,H p=some (.set S n))
 |_=>False
theorem Vt {pins:List (Addr×Obj)}{σ:St}{H:Hp}{s:Shared}{T:String}{x:V}{v:Value}(I:Inv X pins σ H s)(r:RelV x v)(ty:Xb X.K T x H) :
  s.TypeIs v T/\∀a,v=.ref a->∃ob,s.heap.get? a=some ob/\ob.dict=none:=by
 cases x with
 |str z=>
  obtain⟨t,rfl⟩:=r;cases(show T="str" from ty);exact⟨typeIs_str s z t,fun _ e=>nomatch e⟩
 |int i=>
  obtain⟨t,rfl⟩:=r;cases(show T="int" from ty);exact⟨typeIs_int s i t,fun _ e=>nomatch e⟩
 |ref p=>
  cases r;rcases ty with⟨rfl,xs,hq⟩|⟨rfl,o,hk,hc,hd⟩|⟨rfl,hk⟩|⟨rfl,S,n,hk⟩
  ·obtain⟨its,_,pl,_⟩:=I.list hq;refine⟨pl.isList.typeIs,fun a e=>?_⟩;cases e;obtain⟨o,n,e,c,hd,_⟩:=pl;exact⟨o,e,hd⟩
  ·refine⟨⟨o,I.kIn p o hk,hc⟩,fun a e=>?_⟩;cases e;exact⟨o,I.kIn _ o hk,hd⟩
  ·have z:∃o,s.heap.get? p=some o/\o.ExactDict:=by
    rcases hk with⟨kvs,hk⟩|⟨kvs,hk⟩
    ·obtain⟨_,_,_,_,o,_,_,e,ex,_⟩:=I.hok p _ hk;exact⟨o,e,ex⟩
    ·obtain⟨_,_,_,_,o,_,_,e,ex,_⟩:=I.hok p _ hk;exact⟨o,e,ex⟩
   obtain⟨o,e,ex⟩:=z;refine⟨⟨o,e,ex.1⟩,fun a e2=>?_⟩;cases e2;exact⟨o,e,ex.2.1⟩
  ·obtain⟨o,_,_,_,e,ex,_⟩:=I.hok p _ hk;refine⟨⟨o,e,ex.1⟩,fun a e2=>?_⟩;cases e2;exact⟨o,e,ex.2.1⟩
 |_=>exact False.elim ty
def WN (K:PySem.W.Frag)(T:String)(r:V->List V->Hp->VK->Prop)(to:TE)(t:TA):TE:=fun σ H Q=>to σ H fun x H1=>Xb K T x H1/\t σ H1 fun xs H2=>r x xs H2 Q
variable {o e:Expr}{es:List Expr}{to:TE}{t:TA}{name:Str}{apos cpos:Pos}{T id:String}{r:V->List V->Hp->VK->Prop}
theorem Ew (pa:PlainAttrs T) (slot:Slot T name id) (hty:typeOf (.builtin id)=pure (.type "method_descriptor")) (hm:Tw X id r) (ho:PE X o to) (ha:PA X (e::es) t)
  (hbase:attributeBase o name X.env (eval o X.env)=eval o X.env:=by rfl)
  (hfew:((backTo cpos (starEach (e::es) X.env)).all (fun x=>!x.1)&&(backToKw cpos (keywordEach [] X.env)).all (fun x=>x.1.isSome)
   && decide ((e::es).length+([]:List Keyword).length+(if([]:List Keyword).isEmpty then 0 else 1)<30))=true:=by rfl)
  (hline:(apos.endLine == cpos.line)=true:=by rfl) (hs:starEach (e::es) X.env=(false,eval e X.env)::starEach es X.env:=by rfl) (hplain:(backTo cpos (starEach es X.env)).any (·.1)=false:=by rfl) :
  PE X (.Call (.Attribute o name apos) (e::es) [] cpos) (WN X.K T r to t):=by
 intro pins s σ H Q I h;refine wpAny_Call_method_late hbase hfew hline rfl (Ba (ho pins s σ H _ I h) fun v s1 ⟨x,H1,I1,r1,ty,q1⟩=>?_);obtain⟨h1,h2⟩:=Vt I1 r1 ty;refine⟨T,id,pa,slot,hty,h1,h2,?_⟩;have hA:=ha cpos pins s1 σ H1 _ I1 q1;rw[hs] at hA ⊢;refine Calls.callWith_builtin (by show(false||(backTo cpos (starEach es X.env)).any (·.1))=false;rw[hplain]<;>rfl) (Calls.evalArgs_plain ?_);exact Ba hA fun us s2 ⟨vs,H2,I2,r2,q2⟩=>hm pins s2 σ H2 x vs v us Q I2 r1 r2 q2
end
def Xi (X:Cx)(id:String)(r:V->List V->Hp->VK->Prop):Prop:=
 ∀(pins:List (Addr×Obj)) (s:Shared) (σ:St) (H:Hp) (x:V) (xs:List V) (v:Value) (us:List Value) (Q:VK),Inv X pins σ H s->RelV x v->Aw xs us->r x xs H Q->
  wpAny (model X.prog X.w) X.A (call (.builtin id) (v::us)) (EP X pins σ Q) X.xe s
theorem Aw.one:∀{x:V} {us:List Value},Aw [x] us->∃u,us=[u]/\RelV x u
 |_,_,.cons r .nil=>⟨_,rfl,r⟩
theorem Aw.two:∀{x y:V} {us:List Value},Aw [x,y] us->∃u v,us=[u,v]/\RelV x u/\RelV y v
 |_,_,_,.cons r (.cons q .nil)=>⟨_,_,rfl,r,q⟩
theorem Aw.zero:∀{us:List Value},Aw [] us->us=[]
 |_,.nil=>rfl
theorem Aw.dropLast {xs:List V}{us:List Value}(h:Aw xs us):Aw xs.dropLast us.dropLast:=by
 induction h with
 |nil=>exact .nil
 |cons r t ih=>
  cases t with
  |nil=>exact .nil
  |cons q t'=>exact .cons r ih
theorem Aw.reverse {xs:List V}{us:List Value}(h:Aw xs us):Aw xs.reverse us.reverse:=by
 induction h with
 |nil=>exact .nil
 |cons r t ih=>rw[List.reverse_cons,List.reverse_cons];exact Aw.append ih (.cons r .nil)
section
variable {X:Cx}{pins:List (Addr×Obj)}{σ:St}{H:Hp}{s:Shared}{l b:Addr}{xs ys zs:List V}
theorem Inv.lset {its its':List Value} {n:Nat} {f:Array Value->Array Value} {t':Nat} (I:Inv X pins σ H s) (hH:H l=some (.lst xs))
  (e:s.heap.get? l=some { cls:=.type "list",data:=.seq its.toArray n }) (hf:f its.toArray=its'.toArray) (hv:Aw ys its') (hz:ys.length<=sizeLine) :
  Inv X pins σ (upd H l (.lst ys)) { s with heap:=s.heap.update l (Obj.mapSeq f),toks:=t' }:=by
 have q:=PySem.IsL.update e f;rw[hf] at q;refine I.write (x:=l) (e:=l) (by rw[hH];exact trivial) (.inl rfl) (fun b' u hb hu=>(Heap.get?_update_other s.heap (Obj.mapSeq f) (Ne.symm hb)).trans hu) ⟨_,q⟩ ?_;exact⟨hz,its',_,hv,q⟩
theorem Inv.lnew {its:List Value}{t':Nat}(I:Inv X pins σ H s)(hv:Aw ys its)(hz:ys.length<=sizeLine) :
  Inv X pins σ (upd H s.heap.objs.size (.lst ys)) { s with heap:=s.heap.push { cls:=.type "list",data:=.seq its.toArray },toks:=t' }:=
 I.laid (fun _ _ q=>Heap.get?_push_of_some _ q) (Nat.le_refl _) ⟨hz,its,0,hv,Heap.get?_push_size _ rfl⟩
theorem Inv.fresh (I:Inv X pins σ H s):H s.heap.objs.size=none:=I.hok.fresh (Nat.le_refl _)
theorem Inv.lstM (I:Inv X pins σ H s)(hH:H l=some (.lst xs)):xs.length<=sizeLine/\∃(its:List Value) (n:Nat),Aw xs its/\xs.length=its.length/\s.heap.get? l=some { cls:=.type "list",data:=.seq its.toArray n }:=by
 obtain⟨z,its,n,r,e⟩:=I.hok l _ hH;exact⟨z,its,n,r,r.length,e⟩
theorem QT {n:Nat}(h:n<=sizeLine):Builtin.List.listTooLong n=false:=by
 unfold Builtin.List.listTooLong;exact decide_eq_false (by omega)
end
section
variable {X:Cx}
def SY:V->List V->Hp->VK->Prop:=fun x vs H Q=>∃l xs y,x=.ref l/\vs=[y]/\H l=some (.lst xs)/\xs.length<sizeLine/\Q .non (upd H l (.lst (xs++[y])))
theorem DC:Xi X "list.append" SY:=by
 intro pins s σ H x vs v us Q I rx rv h;obtain⟨l,xs,y,rfl,rfl,hH,hz,q⟩:=h;cases rx;obtain⟨u,rfl,ru⟩:=rv.one;obtain⟨z,its,n,r,hl,e⟩:=I.lstM hH;refine call_meets F.slot_list_append ⟨_,e,rfl⟩ F.entry_list_append (F.args_list_append_2 _ _) (PySem.list_append l its.toArray n u (by rw[List.size_toArray];omega)) ⟨e,?_⟩;refine⟨.non,_,I.lset (its':=its++[u]) hH e (by simp) (r.append (.cons ru .nil)) ?_,rfl,q⟩;rw[List.length_append,List.length_singleton];omega
def S8:V->List V->Hp->VK->Prop:=fun x vs H Q=>∃l b xs zs,x=.ref l/\vs=[.ref b]/\H l=some (.lst xs)/\H b=some (.lst zs)/\xs.length+zs.length<=sizeLine/\Q .non (upd H l (.lst (xs++zs)))
theorem EB:Xi X "list.extend" S8:=by
 intro pins s σ H x vs v us Q I rx rv h;obtain⟨l,b,xs,zs,rfl,rfl,hH,hB,hz,q⟩:=h;cases rx;obtain⟨u,rfl,ru⟩:=rv.one;cases ru;obtain⟨z,its,n,r,hl,e⟩:=I.lstM hH;obtain⟨z2,its2,n2,r2,hl2,e2⟩:=I.lstM hB;have hsz:its.toArray.size+its2.toArray.size<=sizeLine:=by rw[List.size_toArray,List.size_toArray];omega
 have hlong:¬(!its.toArray.isEmpty&&Builtin.List.listTooLong (its.toArray.size+its2.toArray.size))=true:=by
  rw[QT hsz,Bool.and_false];exact Bool.false_ne_true
 refine call_meets F.slot_list_extend ⟨_,e,rfl⟩ F.entry_list_extend (F.args_list_extend_2 _ _)
  (AutoSeq1.list_extend_list_list_0 l its.toArray n b its2.toArray n2 hlong (by rw[List.size_toArray];omega) (by omega)) ⟨e,e2,?_⟩
 refine⟨.non,_,I.lset (its':=its++its2) hH e (by simp) (r.append r2) ?_,rfl,q⟩;rw[List.length_append];omega
end
end L2
namespace Att
open PySem PySem.W PySem.Calls PyProof.Rows
theorem IM {P:Params}{h:Heap}:∀(ns:List Int) (vs:List Value),WellAll P h vs (ns.map WData.int)->IntsAre vs ns:=by
 intro ns
 induction ns with
 |nil=>
  intro vs w;rw[List.map_nil] at w;cases w;exact .nil
 |cons n ns ih=>
  intro vs w;rw[List.map_cons] at w;cases w with
  |cons a b=>
   cases a;exact .cons _ _ (ih _ b)
theorem PP {l:OpenLaw} {n:Nat} (hn:l.most=some n) {P:Params} {h:Heap} {args:List WData} {vals:List Value}
  (hpre:l.row.toRowW.claim.pre args=true) (hwl:WellAll P h vals args) :
  ∃a vs ns,vals=[Value.ref a]/\args=[WData.list (ns.map WData.int)]/\h.get? a=some { cls:=.type "list",data:=.seq vs.toArray }/\IntsAre vs ns/\ns.length<=n:=by
 have hsh:WShape.hasAll [] args [.list .int]=true:=(pre_splitW hpre).1;have hc:l.pre.holds [] { args:=args }=true:=(pre_splitW hpre).2;obtain⟨d,r,rfl,h1,h2⟩:=hasAllW_cons hsh;obtain rfl:=hasAllW_nil h2;obtain⟨xs,rfl,h3⟩:=hasW_list h1;obtain⟨ns,rfl⟩:=items_int h3;have hlen:ns.length<=n:=by
  unfold OpenLaw.pre at hc;have h4:(WTm.not (.lt (.lit (.int (n:Int))) (.len (.arg 0)))).holds [] { args:=[.list (ns.map .int)] }=true:=by
   have h4:=(holds_andW hc).1;rw[hn] at h4;exact h4
  have h5:=condW_of h4 (w_not (w_lt w_lit (w_len_list (w_arg rfl))));rw[List.length_map] at h5;refine Nat.le_of_not_lt fun q=>?_
  have q':(n:Int)<((ns.length:Nat):Int):=by omega
  first
   |(rw[decide_eq_true q'] at h5;exact absurd h5 (by decide))
   |(simp at h5;omega)
 cases hwl with
 |cons w1 w2=>
  cases w2;cases w1 with
  |list ho hall=>exact⟨_,_,ns,rfl,rfl,ho,IM ns _ hall,hlen⟩
theorem P3 (l:OpenLaw)(args:List WData):l.row.toRowW.claim.post args (.bool true) args=true:=
 postW_of (r:=l.row.toRowW) (X:=(true == true))
  (show WShape.has [] (.bool true) .bool=true by first|rfl|decide|simp[WShape.has,WShape.arms,WShape.armsAll])
  (show(WTm.eq .res (.lit (.bool true))).value [] { args:=args,res:=some (.bool true),after:=args }=some (.bool (true == true)) from w_eq_bool (w_res rfl) w_lit) rfl
theorem Mi {l:OpenLaw} {n:Nat} {q:Program} {loose:List Str} {XP:(Str->Option Value)->Heap->Prop} {YP:World->Heap->Prop} {d:DefRec}
  (hn:l.most=some n) (hdf:d.params.defaults=[])
  (call:∀(w:World) (s₀ s₁:Shared) (mg mb:Str->Option Value) (fa:Addr) (o:Obj) (pm cd doc:Value) (a:Addr) (vs:List Value) (ns:List Int),
   Ground q loose [] XP w s₀ mg mb s₁.heap->YP w s₁.heap->
   s₁.heap.get? fa=some o->o.data=.func (docDef d.name d.params d.body d.scope pm cd doc)->s₁.heap.CodeRec cd d.name->mg d.name=some (.ref fa)->
   s₁.heap.get? a=some { cls:=.type "list",data:=.seq vs.toArray }->IntsAre vs ns->ns.length<=n->s₁.gens = #[]->
   codeAny (model l.prog w) callerA (.call (.ref fa) ⟨[.ref a],[]⟩) (fun r s'=>r=.ok (.ret (.bool true))/\OldK s₁.heap s'.heap/\s'.os=s₁.os/\AllBare s'.gens) s₁) :
  WalkO q loose XP YP l.row.toRowW d [] (fun f vs=>PySem.call f vs):=by
 intro w s₀ s₁ mg mb G Y fa o pm cd doc dV kV ho hd hcd hD hmg hg args vals as hpre hlay hrd hwl hlo;obtain rfl:dV=.none:=Dflts.none hD hdf;obtain rfl:kV=.none:=Dflts.noKw hD;obtain⟨a,vs,ns,rfl,rfl,hobj,hints,hlen⟩:=PP hn hpre hwl;refine enter_call (codeAny_mono (call w s₀ s₁ mg mb fa o pm cd doc a vs ns G Y ho (fd_plain hd) hcd hmg hobj hints hlen hg) fun r s' hq=>?_);obtain⟨rfl,h2,h3,h4⟩:=hq;exact⟨.inl ⟨.bool true,.bool true,[],rfl,fun _=>rfl,.bool true,P3 l _,fun _=>⟨List.Pairwise.nil,fun _ hm=>(nomatch hm)⟩⟩,h2,h3,h4⟩
end Att
namespace L2
open PySem PySem.Spec PyProof.Rows
theorem KR:∀{vs:List Value} {ns:List Int},IntsAre vs ns->Aw (ns.map V.int) vs
 |_,_,.nil=>.nil
 |_,_,.cons n t h=>.cons ⟨t,rfl⟩ (KR h)
def Vd (H:Hp):Prop:=∀b,H b=none\/∃o xs,H b=some (.frz o (.lst xs))
theorem RV {P:Program} {w:World} {K:PySem.W.Frag} {mg mb:Str->Option Value} {CX:Nx} {k:Nat} {fa a:Addr} {fd:FuncData} {x:Str} {sp:Sp} {s₁:Shared} {vs:List Value} {ns:List Int}
  (KX:K.In s₁.heap) (hns:s₁.heap.Ns mainGlobals mg) (hb:s₁.heap.Ns builtinsNs mb) (hbb:∀x:Str,x≠"__name__"->mb x=bootBuiltins x) (hlim:s₁.heap.NoLimit) (hg:s₁.gens = #[])
  (ha:s₁.heap.get? a=some { cls:=.type "list",data:=.seq vs.toArray }) (hi:IntsAre vs ns) (hl:ns.length<=sizeLine) (hr:Room k callerA)
  (F:∀base:Heap,K.In base->base.Ns mainGlobals mg->FnOk P w K mg base CX k fa fd [x] sp) (hbind:∀(s:Shared) (u:Value),BindsTo s fd ⟨[u],[]⟩ [(x,u)])
  (hsp:∀H:Hp,Vd H->AW K H a (ns.map V.int)->sp [.ref a] H (fun v _=>v=.bl true) fun _ _ _=>False)
  (hCX:∀H e s',CX [] H s₁ (fun _ _ _=>False) e s'->False) :
  codeAny (model P w) callerA (.call (.ref fa) ⟨[.ref a],[]⟩) (fun r s'=>r=.ok (.ret (.bool true))/\OldK s₁.heap s'.heap/\s'.os=s₁.os/\AllBare s'.gens) s₁:=by
 have rv:=KR hi;have lenV:=hi.length;have core:∀H:Hp,Vd H->AW K H a (ns.map V.int)->Gb P w H s₁.heap->(∀b,H b≠none->b=a)->(H a≠none->K.lookup a=none)->
   codeAny (model P w) callerA (.call (.ref fa) ⟨[.ref a],[]⟩) (fun r s'=>r=.ok (.ret (.bool true))/\OldK s₁.heap s'.heap/\s'.os=s₁.os/\AllBare s'.gens) s₁:=by
  intro H hO hS hok hA hK;have base_of:∀{b:Addr} {o:Obj},s₁.heap.get? b=some o->H b=none->(LV s₁.heap H).get? b=some o:=fun e n=>RR e n
  have noA:∀{b:Addr} {o:Obj} {es:Array DictEntry} {ep:Nat},s₁.heap.get? b=some o->o.data=.dict es ep->H b=none:=fun{b o es ep} e d=>by
   cases q:H b with
   |none=>rfl
   |some u=>
    have e':b=a:=hA b (by rw[q];simp);subst e';rw[ha] at e;cases e;have d':Data.seq vs.toArray _=Data.dict es ep:=d;cases d'
  have nsK:∀{b:Addr} {m:Str->Option Value},s₁.heap.Ns b m->(LV s₁.heap H).Ns b m:=fun{b m} ⟨o,es,ep,e,d,r⟩=>⟨o,es,ep,base_of e (noA e d),d,r⟩
  have hKb:K.In (LV s₁.heap H):=fun b o e=>base_of (KX b o e) (by
   cases q:H b with
   |none=>rfl
   |some u=>
    have e':b=a:=hA b (by rw[q];simp);subst e';rw[hK (by rw[q];simp)] at e;cases e)
  have hM:Mod K mg (LV s₁.heap H):=⟨hKb,nsK hns,⟨mb,nsK hb,hbb⟩,let⟨mc,h1,h2⟩:=hlim;⟨mc,nsK h1,h2⟩⟩
  have e0:Env0 P w K mg (LV s₁.heap H) callerA [] s₁ H:=⟨rfl,hM,fun b o e=>To e,Nat.le_of_eq (PJ _ _),trivial,fun b hb=>absurd (show b∈([]:List Addr) from hb) (by simp),hok,.of_eq hg⟩
  refine codeAny_mono ((F _ hKb (nsK hns)).run callerA [] s₁ H ⟨[.ref a],[]⟩ [.ref a] [.ref a] _ _ hr e0 (hbind s₁ (.ref a)) (.cons rfl .nil) (hsp H hO hS)) fun r s' h=>?_
  cases r with
  |error e=>exact(hCX H e s' h).elim
  |ok fl=>
   cases fl with
   |next=>exact False.elim h
   |brk=>exact False.elim h
   |cont=>exact False.elim h
   |ret u=>
    obtain⟨v,H',os,bare,un,hok',r',q⟩:=h;have q':v=.bl true:=q;subst q';obtain rfl:u=Value.bool true:=r';refine⟨rfl,OldK.of_keep fun b o e=>?_,os,bare⟩;cases q:H b with
    |none=>exact un.keep b o e q (by intro z;exact absurd (show b∈([]:List Addr) from z) (by simp)) (by simp)
    |some u=>
     rcases hO b with z|⟨ob,xs,z⟩
     ·rw[q] at z;cases z
     ·have z2:=un.frzs b ob _ z;obtain⟨e1,_⟩:=hok b _ z;obtain⟨e2,_⟩:=hok' b _ z2;rw[e] at e1;cases e1;exact e2
 cases hk:K.lookup a with
 |some o=>
  have e:=KX a o hk;rw[ha] at e;cases e;refine core (fun _=>none) (fun _=>.inl rfl) (.inr ⟨_,vs.toArray,_,hk,rfl,rfl,rfl,by rw[List.size_toArray,lenV];exact hl,by simpa using rv⟩) (fun b u z=>by have z':(none:Option HO)=some u:=z;cases z') (fun b z=>absurd rfl z) fun z=>absurd rfl z
 |none=>
  refine core (fun b=>if b=a then some (.frz { cls:=.type "list",data:=.seq vs.toArray } (.lst (ns.map V.int))) else none) (fun b=>?_) (.inl (.inr ⟨{ cls:=.type "list",data:=.seq vs.toArray },if_pos rfl⟩)) (fun b u z=>?_) (fun b z=>?_) fun _=>hk
  ·by_cases hb:b=a
   ·exact .inr ⟨_,_,if_pos hb⟩
   ·exact .inl (if_neg hb)
  ·by_cases hb:b=a
   ·have z':=(if_pos hb).symm.trans z;cases z';subst hb;exact⟨ha,by rw[List.length_map];exact hl,vs,_,rv,ha⟩
   ·have z':=(if_neg hb).symm.trans z;cases z'
  ·by_cases hb:b=a
   ·exact hb
   ·exact absurd (if_neg hb) z
theorem Ua {l:PySem.W.OpenLaw} {n k:Nat} {q:Program} {loose:List Str} {XP:(Str->Option Value)->Heap->Prop} {YP:World->Heap->Prop} {d:DefRec} {K:Params->PySem.W.Frag} {CX:World->Nx} {sp:World->Sp} {x:Str}
  (hn:l.most=some n) (hn2:n<=sizeLine) (hdf:d.params.defaults=[]) (hr:Room k callerA)
  (hY:∀(w:World) (h:Heap),YP w h->(K w.params).In h)
  (F:∀(w:World) (mg:Str->Option Value) (fa:Addr) (h:Heap),(K w.params).In h->h.Ns mainGlobals mg->mg d.name=some (.ref fa)->
   ∃fd:FuncData,(∀(s:Shared) (u:Value),BindsTo s fd ⟨[u],[]⟩ [(x,u)])/\
    ∀base:Heap,(K w.params).In base->base.Ns mainGlobals mg->FnOk l.prog w (K w.params) mg base (CX w) k fa fd [x] (sp w))
  (hsp:∀(w:World) (H:Hp) (a:Addr) (ns:List Int),ns.length<=n->Vd H->AW (K w.params) H a (ns.map V.int)->sp w [.ref a] H (fun v _=>v=.bl true) fun _ _ _=>False)
  (hCX:∀(w:World) (H:Hp) (s:Shared) (e:Value) (s':Shared),CX w [] H s (fun _ _ _=>False) e s'->False) :
  PySem.W.WalkO q loose XP YP l.row.toRowW d [] (fun f vs=>PySem.call f vs):=by
 refine Att.Mi hn hdf fun w s₀ s₁ mg mb fa o pm cd doc a vs ns G Y ho hd hcd hmg hobj hints hlen hg=>?_
 have KX:=hY w _ Y;obtain⟨fd,hb,hF⟩:=F w mg fa _ KX G.T.g hmg;exact RV KX G.T.g G.T.b G.T.builtins G.T.nolimit hg hobj hints (Nat.le_trans hlen hn2) hr hF hb (fun H hO hS=>hsp w H a ns hlen hO hS) fun H e s'=>hCX w H s₁ e s'
def inClass (s:Stmt)(j:Nat):Stmt:=match s with
 | .ClassDef _ _ _ body _ _ _ _ _ _ _=>body.getD j (.Pass ⟨0,0,0,0⟩)
 |_=>.Pass ⟨0,0,0,0⟩
def Aq (s:Stmt):Arguments:=match s with
 | .FunctionDef _ a _ _ _ _ _ _ _ _=>a
 |_=>{ posonlyargs:=[],args:=[],vararg:=none,kwonlyargs:=[],kw_defaults:=[],kwarg:=none,defaults:=[] }
def Ao (s:Stmt):List Stmt:=match s with
 | .FunctionDef _ _ b _ _ _ _ _ _ _=>b
 |_=>[]
def Aj (s:Stmt):Scope:=match s with
 | .FunctionDef _ _ _ _ _ _ sc _ _ _=>sc
 |_=>{ kind:=.function,names:=[],isGenerator:=false,isCoroutine:=false }
abbrev DD:Nx:=fun _ _ _ _ _ _=>False
abbrev E0:XK:=fun _ _ _=>False
theorem MM {X:Cx}:DL DD X E0:=fun _ _ _ _ _ _ _ h=>h.elim
structure Fun (K:PySem.W.Frag) (x qual:Str) (st:Stmt) (f:Addr) (fd:FuncData):Prop where
 ex:∃(oc:Value) (od:Option Addr) (kV doc pm:Value) (an:Option Addr) (cdv ct:Value) (osl:Array (Option Value)),
  fd=PySem.W.fnOf x qual (Aq st) (Ao st) (Aj st) .none kV doc pm an cdv ct/\K.lookup f=some ⟨oc,od,.func fd,osl⟩/\PySem.W.codeIn K cdv qual=true
 kp:PySem.W.keepIn K (.ref f)=true
section
variable {P:Program}{w:World}{K:PySem.W.Frag}{mg:Str->Option Value}{base:Heap}
theorem Fun.ok {x qual:Str} {st:Stmt} {f:Addr} {fd:FuncData} {N ps:List Str} {k:Nat} {sp:Sp} (F:Fun K x qual st f fd) (S:FnScope N ps (Aj st)) (len:∀vs H Q E,sp vs H Q E->vs.length=ps.length)
  (hbody:∀(cdv:Value) (A:Around) (outer:List Env) (s:Shared) (H:Hp) (vs:List V) (Q:VK) (E:XK),Room k (A.deeper (envOfC qual (Aj st) s.heap.objs.size f cdv))->sp vs H Q E->
   ∃t,Mf (BB DD P w K mg base N qual (Aj st) f cdv A outer s H E).nox (Ao st) t/\t { nx:=fun _ H'=>Q .non H',rt:=Q } (start N vs) H):FnOk P w K mg base DD (k+1) f fd ps sp:=by
 obtain⟨oc,od,kV,doc,pm,an,cdv,ct,osl,rfl,lk,hcd⟩:=F.ex;refine Uv lk hcd S len fun A outer s H vs Q E hr hsp=>?_
 obtain⟨t,h,q⟩:=hbody cdv A outer s H vs Q E hr hsp;exact⟨t,h.nox,q⟩
theorem Fun.binds {x qual:Str} {st:Stmt} {f:Addr} {fd:FuncData} {ps:List Str} (F:Fun K x qual st f fd)
  (h:∀(kV doc pm:Value) (an:Option Addr) (cdv ct:Value) (us:List Value),us.length=ps.length->bindArgs (PySem.W.fnOf x qual (Aq st) (Ao st) (Aj st) .none kV doc pm an cdv ct) ⟨us,[]⟩=pure (ps.zip us)):Binds K fd ps []:=by
 obtain⟨oc,od,kV,doc,pm,an,cdv,ct,osl,rfl,lk,hcd⟩:=F.ex;exact .all (h kV doc pm an cdv ct)
theorem AI {x qual:Str} {st:Stmt} {f:Addr} {oc:Value} {od an:Option Addr} {osl:Array (Option Value)} {kV doc pm cdv ct:Value} (l:K.lookup f=some ⟨oc,od,.func (PySem.W.fnOf x qual (Aq st) (Ao st) (Aj st) .none kV doc pm an cdv ct),osl⟩)
  (c:PySem.W.codeIn K cdv qual=true) (k:PySem.W.keepIn K (.ref f)=true):Fun K x qual st f (PySem.W.fnOf x qual (Aq st) (Ao st) (Aj st) .none kV doc pm an cdv ct):=⟨⟨oc,od,kV,doc,pm,an,cdv,ct,osl,rfl,l,c⟩,k⟩
end
theorem Cf {A:Around}{k:Nat}(hr:Room k A):A.units+1<cLine:=Nat.lt_of_le_of_lt (Nat.add_le_add_left (by decide:1<=64) _) hr.units
section
variable {X:Cx}
theorem pv (i:Nat) {x:Str} {pos:Pos} (hN:X.N[i]?=some x:=by rfl) (hv:WC X.env.scope x:=by first|exact Or.inl rfl|exact Or.inr (Or.inl rfl)|exact Or.inr (Or.inr rfl)) (hd:(x == ("__debug__":Str))=false:=by decide)
  (hcd:(x == ("__classdict__":Str))=false:=by decide):PE X (.Name x pos) (Ik i):=U1 hN hv hd hcd
end
theorem C8 {c A B:Prop}[Decidable c](h1:c->A)(h2:¬c->B):if c then A else B:=by
 by_cases h:c
 ·rw[if_pos h];exact h1 h
 ·rw[if_neg h];exact h2 h
def Am (H H':Hp):Prop:=∀b o,H b=some o->H' b=some o
theorem Am.refl (H:Hp):Am H H:=fun _ _ h=>h
theorem Am.trans {H H1 H2:Hp}(a:Am H H1)(b:Am H1 H2):Am H H2:=fun c o h=>b c o (a c o h)
theorem Am.free {H H':Hp}(e:Am H H'){l:Addr}(h:H' l=Option.none):H l=Option.none:=by
 cases q:H l with
 |none=>rfl
 |some o=>
  rw[e l o q] at h;cases h
theorem Am.seq {K:PySem.W.Frag}{H H':Hp}{a:Addr}{xs:List V}(e:Am H H')(h:AW K H a xs):AW K H' a xs:=by
 rcases h with(h|⟨o,h⟩)|h
 ·exact .inl (.inl (e _ _ h))
 ·exact .inl (.inr ⟨o,e _ _ h⟩)
 ·exact .inr h
end L2
set_option maxHeartbeats 1000000
namespace L2
open PySem PySem.Spec PyProof.Rows
section
variable {prog:Program}{w:World}{A:Around}{env:Env}{elt target iter:Expr}{ifs:List Expr}{scope:Scope}{pos:Pos}{it acc:Value}
abbrev SZ (env:Env)(ifs:List Expr):Sem Bool:=forIn ifs true fun c r=>(if r=true then(do let ok <-isTrue c env (eval c env);pure (ForInStep.yield ok)) else pure (ForInStep.yield r))
abbrev OQ (prog:Program)(w:World)(A:Around)(env:Env)(elt target:Expr)(ifs:List Expr)(it acc:Value)(Ee:Value->Shared->Prop)(over on:Shared->Prop):Shared->Prop:=
 wpAny (model prog w) A (pyNext it) (fun|none,s1=>over s1|some v,s1=>wpAny (model prog w) A (letOwnedTupleGo target it v) (fun _ s2=>wpAny (model prog w) A (assign target env v) (fun _ s3=>wpAny (model prog w) A (SZ env ifs) (fun ok s4=>
  if ok=true then wpAny (model prog w) A (eval elt env) (fun x s5=>wpAny (model prog w) A (call (.builtin "list.append") [acc,x]) (fun _=>on) (fun _ _=>False) s5) Ee s4 else on s4) Ee s3) Ee s2) (fun _ _=>False) s1) (fun _ _=>False)
theorem Nm {R:Result->Shared->Prop} {Ee:Value->Shared->Prop} (I:Nat->Shared->Prop) (hE:∀x s,Ee x s->notedBy (model prog w) A env (fun x s=>R (.error x) s) x s)
  (turn:∀n s,I n s->OQ prog w A env elt target ifs it acc Ee (R (.ok .next)) (fun s'=>∃m,m<n/\I m s') s) (n:Nat) {s:Shared} (h:I n s) :
  codeAny (model prog w) A (.compLoop (.ListComp elt [⟨target,iter,ifs,0⟩] scope pos) 0 it acc env) R s:=by
 have none':∀{Z:Value->Shared->Prop} (x:Value) (s:Shared),False->Z x s:=fun _ _ z=>z.elim
 refine codeAny_loop rfl I (fun k s1 h1=>?_) n h
 change wpAny _ A ((compTurn (.ListComp elt [⟨target,iter,ifs,0⟩] scope pos) 0 it acc env).onRaise (fun x=>do noteFrame x env;theTreesLotGoes x)) _ _ s1
 refine wpAny_noted ?_;rw[compTurn_list];refine wpAny_bind (wpAny_standAt (wpAny_bind (wpAny_mono (turn k s1 h1) (fun r s2 h2=>?_) none')))
 match r,h2 with
 |none,h2=>exact wpAny_pure h2
 |some v,h2=>
  refine wpAny_bind (wpAny_mono h2 (fun _ s3 h3=>wpAny_bind (wpAny_mono h3 (fun _ s4 h4=>wpAny_bind (wpAny_mono h4 (fun ok s5 h5=>?_) hE)) hE)) none')
  match ok,h5 with
  |false,h5=>exact wpAny_pure ⟨rfl,h5⟩
  |true,h5=>exact wpAny_bind (wpAny_bind (wpAny_mono h5 (fun x s6 h6=>wpAny_bind (wpAny_mono h6 (fun _ s7 h7=>wpAny_pure (wpAny_pure ⟨rfl,h7⟩)) none')) hE))
theorem NB {R:Result->Shared->Prop}(I:Nat->Shared->Prop)(turn:∀n s,I n s->OQ prog w A env elt target ifs it acc (fun _ _=>False) (R (.ok .next)) (fun s'=>∃m,m<n/\I m s') s)(n:Nat){s:Shared}(h:I n s) :
  codeAny (model prog w) A (.compLoop (.ListComp elt [⟨target,iter,ifs,0⟩] scope pos) 0 it acc env) R s:=Nm I (fun _ _ z=>z.elim) turn n h
end
def Ov (X:Cx)(ifs:List Expr)(t:TT):Prop:=
 ∀(pins:List (Addr×Obj)) (s:Shared) (σ:St) (H:Hp) (Q:Bool->Hp->Prop),Inv X pins σ H s->t σ H Q->
  wpAny (model X.prog X.w) X.A (forIn ifs true fun c r=>if r=true then do let ok <-isTrue c X.env (eval c X.env);pure (ForInStep.yield ok) else pure (ForInStep.yield r)) (TP X pins σ Q) X.xe s
def Qv:TT:=fun _ H Q=>Q true H
theorem Bp {X:Cx}:Ov X [] Qv:=fun _ _ _ H _ I h=>wpAny_tests_nil ⟨H,I,h⟩
theorem JW {X:Cx}{c:Expr}{t:TT}(h:PT X c t):Ov X [c] t:=fun pins s σ H Q I q=>wpAny_tests_one (h pins s σ H Q I q)
def Bd (X:Cx)(scope:Scope)(cl:List (Str×Addr))(N:List Str)(C:Addr)(s:Shared)(H:Hp)(fp:List Addr):Cx:=
 { prog:=X.prog,w:=X.w,K:=X.K,mg:=X.mg,base:=X.base,A:=X.A,N:=N,s₀:=s,H₀:=H,env:=compEnvC scope cl C X.env,outer:=X.stack,stack:=X.stack,ex:=fp,fn:=fun _=>false,calm:=X.calm,pn:=[],xe:=fun _ _=>False }
def stC (fr:List (Option Nat))(σ:St):St:=fr.map fun o=>o.bind fun i=>(σ[i]?).bind id
def Di (fr:List (Option Nat))(g:TG)(tt:TT)(te:TE)(σ:St)(Q:VK)(J:It)(H1:Hp):Prop:=∀l,H1 l=none->∃W:Nat->Nat->St->Hp->Prop,(∃m,W 0 m (stC fr σ) (upd H1 l (.lst [])))/\∀i m σ H,W i m σ H->
 (J.stop i H/\Q (.ref l) H)\/(J.go i H/\∀x H',J.yld i H x H'->g x σ H' fun σ2 H2=>tt σ2 H2 fun b H3=>if b=true then te σ2 H3 fun v H4=>∃xs,H4 l=some (.lst xs)/\xs.length<sizeLine/\∃m',m'<m/\W (i+1) m' σ2 (upd H4 l (.lst (xs++[v])))
  else ∃m',m'<m/\W (i+1) m' σ2 H3)
def K4 (fr:List (Option Nat))(wi:TI)(g:TG)(tt:TT)(te:TE):TE:=fun σ H Q=>wi σ H (Di fr g tt te σ Q)
def FS (XN:List Str)(xs sc:Scope)(N:List Str)(fr:List (Option Nat)):Bool:=
 decide (sc.kind=.function)&&decide (fr.length=N.length)&&(sc.names.all fun y=>!decide (y.2=.cell))&&(sc.names.all fun y=>!decide (y.2=.local)||decide (sc.names.lookup y.1=some .local)) &&
 (sc.names.all fun y=>!decide (y.2=.free)||(decide (xs.names.lookup y.1=some .cell)||decide (xs.names.lookup y.1=some .free))) &&
 ((N.zip fr).all fun p=>match p.2 with|none=>true|some i=>decide (XN[i]?=some p.1)&&decide (sc.names.lookup p.1=some .free))
def NZ (cells:List (Str×Addr)):List (Str×Addr)->Prop
 |[]=>True
 |p::r=>cells.lookup p.1=some p.2/\NZ cells r
theorem NZ.get {cells:List (Str×Addr)}:∀{cl:List (Str×Addr)},NZ cells cl->∀{x:Str} {c:Addr},cl.lookup x=some c->cells.lookup x=some c
 |[],_,_,_,h=>by cases h
 |(y,d)::r,k,x,c,h=>by
  rw[List.lookup_cons] at h;cases e:x == y with
  |true=>
   rw[e] at h;cases h;rw[eq_of_beq e];exact k.1
  |false=>
   rw[e] at h;exact NZ.get k.2 h
def G5 (cl:List (Str×Addr)):List (Str×NameKind)->Prop
 |[]=>True
 |p::r=>(p.2=.free->∃c,cl.lookup p.1=some c)/\G5 cl r
theorem G5.get {cl:List (Str×Addr)}:∀{ns:List (Str×NameKind)},G5 cl ns->∀y∈ns,y.2=.free->∃c,cl.lookup y.1=some c
 |[],_,_,h=>by cases h
 |p::r,k,y,h=>by
  rcases List.mem_cons.mp h with rfl|h
  ·exact k.1
  ·exact G5.get k.2 y h
theorem EL {env:Env}:∀{names:List (Str×NameKind)} {x:Str} {k:NameKind},(names.map fun(n,k)=>if(k == NameKind.free&&env.scope.kind == .function&&env.kindOf n == some .cell) then(n,NameKind.cell) else(n,k)).lookup x=some k->
  names.lookup x=some k\/(k=.cell/\names.lookup x=some .free)
 |[],_,_,h=>by cases h
 |(n,k0)::r,x,k,h=>by
  have ih:=@EL env r x k
  by_cases hc:(k0 == NameKind.free&&env.scope.kind == .function&&env.kindOf n == some .cell)=true
  ·simp only[List.map_cons,if_pos hc,List.lookup_cons] at h;rw[List.lookup_cons];cases e:x == n with
   |true=>
    rw[e] at h;cases h;simp only[Bool.and_eq_true] at hc;have:k0=.free:=by simpa using hc.1.1
    exact .inr ⟨rfl,by rw[this]⟩
   |false=>rw[e] at h;exact ih h
  ·simp only[List.map_cons,if_neg hc,List.lookup_cons] at h;rw[List.lookup_cons];cases e:x == n with
   |true=>rw[e] at h;exact .inl h
   |false=>rw[e] at h;exact ih h
theorem Hi {env:Env}:∀{names:List (Str×NameKind)} {x:Str},names.lookup x=some .free->
  (names.map fun(n,k)=>if(k == NameKind.free&&env.scope.kind == .function&&env.kindOf n == some .cell) then(n,NameKind.cell) else(n,k)).lookup x=some .cell\/
  (names.map fun(n,k)=>if(k == NameKind.free&&env.scope.kind == .function&&env.kindOf n == some .cell) then(n,NameKind.cell) else(n,k)).lookup x=some .free
 |[],_,h=>by cases h
 |(n,k0)::r,x,h=>by
  have ih:=@Hi env r x;rw[List.lookup_cons] at h
  by_cases hc:(k0 == NameKind.free&&env.scope.kind == .function&&env.kindOf n == some .cell)=true
  ·simp only[List.map_cons,if_pos hc,List.lookup_cons];cases e:x == n with
   |true=>exact .inl rfl
   |false=>rw[e] at h;exact ih h
  ·simp only[List.map_cons,if_neg hc,List.lookup_cons];cases e:x == n with
   |true=>rw[e] at h;exact .inr h
   |false=>rw[e] at h;exact ih h
section
variable {X:Cx}
theorem KU (N:List Str) (fr:List (Option Nat)) {elt tg iter:Expr} {ifs:List Expr} {scope:Scope} {pos fpos:Pos} {wi:TI} {g:TG} {tt:TT} {te:TE} {cl:List (Str×Addr)}
  (hc:X.calm=true) (hi:PI X tg iter wi) (hchk:FS X.N X.env.scope scope N fr=true) (hclos:closureFor scope X.env=pure cl) (hcl:NZ X.env.cells cl) (hall:G5 cl scope.names)
  (hb:∀(C:Addr) (s:Shared) (H:Hp) (fp:List Addr),PG (Bd X scope cl N C s H fp) tg g/\Ov (Bd X scope cl N C s H fp) ifs tt/\PE (Bd X scope cl N C s H fp) elt te)
  (hs:∀x,foldedSetIterable iter X.env x=pure x) {pins:List (Addr×Obj)} {s:Shared} {σ:St} {H:Hp} {Q:VK} {use:Option (Value->Sem Unit)} {Qc:Value->Shared->Prop} (I:Inv X pins σ H s) (h:K4 fr wi g tt te σ H Q)
  (hfin:∀(l:Addr) (H':Hp) (s':Shared) (C:Addr),Inv X pins σ H' s'->HN X pins H' C->(∃m,s'.heap.Ns C m)->Q (.ref l) H'->compPost (model X.prog X.w) X.A X.xe use Qc (.ref l) C (.ok .next) s') :
  wpAny (model X.prog X.w) X.A (comprehension (.ListComp elt [⟨tg,iter,ifs,0⟩] scope pos) scope X.env fpos (newList []) (firstAsync [⟨tg,iter,ifs,0⟩]) (firstIter [⟨tg,iter,ifs,0⟩] X.env) use) Qc X.xe s:=by
 simp only[FS,Bool.and_eq_true,decide_eq_true_eq,List.all_eq_true,Bool.or_eq_true,Bool.not_eq_true',decide_eq_false_iff_not] at hchk;obtain⟨⟨⟨⟨⟨hkind,hlen⟩,hcell⟩,hnames⟩,hfree⟩,hfr⟩:=hchk;have hnames':∀x∈scope.names,x.2=.local->scope.names.lookup x.1=some .local:=fun y hy e=>(hnames y hy).resolve_left fun z=>z e
 have hcell':∀x∈scope.names,x.2≠.cell:=fun y hy=>hcell y hy
 refine wpAny_comprehension_free (use:=use) rfl hs hclos hkind hnames' (Ba (hi pins s σ H _ I h) fun v s1 h1=>Ba h1 fun itv s2 h2=>?_);obtain⟨it,fp,tn,J,H2,e,I2,T,st2,f2,hQ⟩:=h2;subst e;refine wpAny_newObj_type (hd:=by size_fits) (wpAny_newFunctionEnv hcell' (by intro y hy;simp at hy) (fun h₁ hns hsb=>?_) hkind);dsimp only at hns hsb ⊢;obtain⟨W,⟨m0,w0⟩,turn⟩:=hQ s2.heap.objs.size I2.fresh;have I3:Inv X pins σ (upd H2 s2.heap.objs.size (.lst [])) { s2 with heap:=s2.heap.push { cls:=.type "list",data:=.seq ([]:List Value).toArray },toks:=s2.toks }:=I2.lnew (its:=[]) .nil (Nat.zero_le _);generalize hh3:s2.heap.push { cls:=.type "list",dict:=none,data:=.seq ([]:List Value).toArray }=h3 at hns hsb ⊢;rw[show s2.heap.push { cls:=.type "list",data:=.seq ([]:List Value).toArray }=h3 from hh3] at I3;generalize hH3:upd H2 s2.heap.objs.size (.lst [])=H3 at I3 w0;generalize hl:s2.heap.objs.size=l at turn hH3 ⊢;have hl3:l<h3.objs.size:=by rw[<-hh3,<-hl,Heap.size_push];exact Nat.lt_succ_self _
 generalize hs3:({ s2 with heap:=h3,toks:=s2.toks }:Shared)=s3 at I3;have es3:s3.heap=h3:=by rw[<-hs3]
 have eos:s3.os=s2.os:=by rw[<-hs3]
 have egens:s3.gens=s2.gens:=by rw[<-hs3]
 generalize hC:h3.objs.size=C at hns hsb ⊢;have old:∀b o,h3.get? b=some o->h₁.get? b=some o:=fun b o e=>
  hsb.extBut b o (by rw[<-hC];exact Nat.ne_of_lt (Heap.lt_size e)) (Heap.get?_push_of_some _ e)
 have f3:∀b∈fp,HN X pins H3 b:=fun b hb=>by
  obtain⟨g0,g1⟩:=f2 b hb;refine⟨?_,g1⟩;rw[<-hH3];have:b≠l:=by
   obtain⟨o,e,_⟩:=T.obj _ _ st2 b hb;rw[<-hl];exact Nat.ne_of_lt (Heap.lt_size e)
  rw[Ag this];exact g0
 have st3:tn 0 h₁:=T.keep _ _ _ st2 fun b hb o e=>old b o (by rw[<-hh3];exact Heap.get?_push_of_some _ e)
 have ok:(Bd X scope cl N C s3 H3 fp).Ok:=by
  refine⟨I3.ok.mod,?_,I3.ok.glob,I3.ok.blt,?_,fun x y c e1 e2=>I3.ok.inj x y c (hcl.get e1) (hcl.get e2),fun x hx=>?_,fun x c hx=>(by cases hx),I3.ok.hd,I3.ok.frames,.inl rfl,fun b hb=>?_,fun b o e=>?_,?_,fun b o e hb=>?_,fun b hb hb2=>?_,?_,fun b hb=>?_⟩
  ·exact hkind
  ·show s3.heap.objs.size<=C;rw[es3,hC];exact Nat.le_refl _
  ·have hx':(relabel scope X.env).names.lookup x=some .cell\/(relabel scope X.env).names.lookup x=some .free:=hx;have:scope.names.lookup x=some .free:=by
    rcases hx' with z|z
    ·rcases EL z with q|⟨_,q⟩
     ·exact absurd rfl (hcell' _ (PySem.mem_of_lookup q))
     ·exact q
    ·rcases EL z with q|⟨q,_⟩
     ·exact q
     ·cases q
   exact hall.get _ (PySem.mem_of_lookup this) rfl
  ·obtain⟨g0,g1,g2,g3,g4,g5⟩:=f3 b hb;obtain⟨o,e,_⟩:=T.obj _ _ st2 b hb;refine⟨?_,fun x c e=>g4 x c (hcl.get e)⟩;show b≠C;rw[<-hC];exact Nat.ne_of_lt (Heap.lt_size (by rw[<-hh3];exact Heap.get?_push_of_some _ e))
  ·have q:=I3.bs b o e;exact q
  ·show X.base.objs.size<=s3.heap.objs.size;exact Nat.le_trans I3.ok.bsz I3.sz
  ·obtain⟨g0,g1,g2,g3,g4,g5⟩:=f3 b hb;rcases g3 with z|z
   ·exact I3.ok.noex b o e z
   ·exact absurd (Nat.lt_of_lt_of_le (Heap.lt_size e) (Nat.le_trans I3.ok.bsz z)) (Nat.lt_irrefl _)
  ·obtain⟨g0,g1,g2,g3,g4,g5⟩:=f3 b hb;rcases List.mem_cons.mp (I3.stkSub b hb2) with z|z
   ·exact g1 z
   ·exact g2 z
  ·show s3.heap.FunFrames X.base X.stack;exact I3.stack
  ·exact I3.stkFree b hb
 have I4:Inv (Bd X scope cl N C s3 H3 fp) [] (stC fr σ) H3 { s2 with heap:=h₁,toks:=s2.toks+([]:List (Str×Value)).length }:=by
  have hk3:∀b o,s3.heap.get? b=some o->h₁.get? b=some o:=fun b o e=>old b o (by rw[<-es3];exact e)
  refine⟨ok,eos.symm▸rfl,egens▸I3.bare,Un.kept hk3,⟨_,hns,fun i x v e1 e2 e3=>?_⟩,fun x c e=>?_,?_,fun x c e=>I3.freeC x c (hcl.get e),fun p hp=>(by cases hp),I3.hok.kept hk3,?_⟩
  ·
   have e1':N[i]?=some x:=e1;have e2':(fr[i]?).map (fun o=>o.bind fun i=>(σ[i]?).bind id)=some (some v):=by
    have:(stC fr σ)[i]?=some (some v):=e2;rw[stC,List.getElem?_map] at this;exact this
   cases q:fr[i]? with
   |none=>rw[q] at e2';cases e2'
   |some o=>
    rw[q] at e2';cases o with
    |none=>cases e2'
    |some j=>
     have e2'':(σ[j]?).bind id=some v:=Option.some.inj e2';obtain⟨p1,p2⟩:X.N[j]?=some x/\scope.names.lookup x=some .free:=by
      have hz:(x,some j)∈N.zip fr:=by
       have:(N.zip fr)[i]?=some (x,some j):=by
        rw[List.getElem?_zip_eq_some];exact⟨e1',q⟩
       exact List.mem_of_getElem? this
      have:=hfr _ hz;simpa using this
     have hv:X.env.scope.names.lookup x=some .cell\/X.env.scope.names.lookup x=some .free:=by
      rcases hfree _ (PySem.mem_of_lookup p2) with z|z
      ·exact absurd rfl z
      ·simpa using z
     have e3':σ[j]?=some (some v):=by
      cases q3:σ[j]? with
      |none=>rw[q3] at e2'';cases e2''
      |some w'=>rw[q3] at e2'';have:w'=some v:=e2'';rw[this]
     obtain⟨m,hn,hl'⟩:=I3.loc;obtain⟨u,ru,lk⟩:=hl' j x v p1 e3' (.inr hv);refine⟨u,ru,.inr ⟨Hi p2,?_⟩⟩;rcases lk with⟨lk,_⟩|⟨_,c,ec,cc⟩
     ·have lk':X.env.scope.names.lookup x=some .local:=lk;rcases hv with z|z<;>(rw[z] at lk';cases lk')
     ·obtain⟨c',ec'⟩:=hall.get _ (PySem.mem_of_lookup p2) rfl;have:=hcl.get ec';rw[ec] at this;cases this;obtain⟨o,ho,hd⟩:=cc;exact⟨c,ec',o,hk3 _ _ ho,hd⟩
  ·obtain⟨v,o,ho,hd⟩:=I3.cell x c (hcl.get e);exact⟨v,o,hk3 _ _ ho,hd⟩
  ·show H3 C=none;exact I3.hok.fresh (by rw[es3,hC];exact Nat.le_refl _)
  ·show(stC fr σ).length=N.length;rw[stC,List.length_map];exact hlen
 obtain⟨hg,ht,he⟩:=hb C s3 H3 fp;have fpc:∀{H':Hp},(∀b∈fp,H' b=none)->∀b∈fp,HN (Bd X scope cl N C s3 H3 fp) [] H' b:=fun hn b hb=>by
  obtain⟨q1,q2⟩:=ok.exf b hb;exact⟨hn b hb,q1,ok.exfs b hb,.inl hb,q2,fun p hp=>by cases hp⟩
 have fin:∀(σ':St) (H':Hp) (s':Shared),Inv (Bd X scope cl N C s3 H3 fp) [] σ' H' s'->Q (.ref l) H'->compPost (model X.prog X.w) X.A X.xe use Qc (.ref l) C (.ok .next) s':=fun σ' H' s' I' q=>by
  obtain⟨m,hn,_⟩:=I'.loc;have nC:∀b o,s3.heap.get? b=some o->b≠C:=fun b o e=>by
   rw[<-hC,<-es3];exact Nat.ne_of_lt (Heap.lt_size e)
  have fC:H' C=none:=I'.free;have u:=I'.base;refine hfin l H' s' C ?_ (I3.fpOk (by rw[es3,hC];exact Nat.le_refl _) fC) ⟨m,hn⟩ q;refine I3.call' (s':=s') (ch:=fp) I'.os ⟨fun b o e n hb hx=>u.keep b o e n hb hx,fun b o e n hb hx=>u.slot b o e n hb hx,u.free,fun b o e hx=>u.there b o e hx,u.tups,u.frzs,u.tbls⟩ (fun b o e=>I'.hok b o e) I'.bare fun b hb=>?_
  obtain⟨g0,g1,g2,g3,g4,g5⟩:=f3 b hb;exact⟨g3,g1,g4,g5⟩
 have loop:codeAny (model X.prog X.w) X.A (.compLoop (.ListComp elt [⟨tg,iter,ifs,0⟩] scope pos) 0 (.ref it) (.ref l) (compEnvC scope cl C X.env)) (compPost (model X.prog X.w) X.A X.xe use Qc (.ref l) C)
   { s2 with heap:=h₁,toks:=s2.toks+([]:List (Str×Value)).length }:=by
  refine NB (fun n s'=>∃i σ' H',Inv (Bd X scope cl N C s3 H3 fp) [] σ' H' s'/\tn i s'.heap/\(∀b∈fp,H' b=none)/\W i n σ' H') ?_ m0 ⟨0,_,H3,I4,st3,fun b hb=>(f3 b hb).1,w0⟩
  rintro n s5 ⟨i,σ5,H5,I5,st5,fr5,w5⟩
  rcases turn i n σ5 H5 w5 with⟨stop,qn⟩|⟨go,step⟩
  ·refine Ba (T.done (Bd X scope cl N C s3 H3 fp) rfl rfl rfl hc i [] s5 σ5 H5 (fun _ _=>False) I5 (fpc fr5) st5 stop) fun r s6 ⟨hr,I6⟩=>?_
   subst hr;exact fin σ5 H5 s6 I6 qn
  ·refine Ba (T.item (Bd X scope cl N C s3 H3 fp) rfl rfl rfl hc i [] s5 σ5 H5 (fun _ _=>False) I5 (fpc fr5) st5 go) fun r s6 ⟨u,hr,h6⟩=>?_
   subst hr;refine Ba h6 fun _ s7 ⟨x,H7,I7,r7,y7,st7,fr7⟩=>?_
   have I7':=I7.pinned (fpc fr7) (T.obj _ _ st7);refine Ba (hg _ s7 σ5 H7 x u _ I7' r7 (step x H7 y7)) fun _ s8 ⟨σ8,H8,I8,q8⟩=>?_
   have again:∀{σ9:St} {H9:Hp} {s9:Shared},Inv (Bd X scope cl N C s3 H3 fp) ([]++JK fp s7.heap) σ9 H9 s9->(∃m',m'<n/\W (i+1) m' σ9 H9)->∃m,m<n/\∃i σ' H',Inv (Bd X scope cl N C s3 H3 fp) [] σ' H' s9/\tn i s9.heap/\(∀b∈fp,H' b=none)/\W i m σ' H':=fun{σ9 H9 s9} I9 n9=>by
    obtain⟨m',hm,w9⟩:=n9;refine⟨m',hm,i+1,σ9,H9,I9.unpinned,T.keep _ _ _ st7 fun b hb o e=>(I9.pin (b,o) (List.mem_append_right _ (List.mem_append_right _ (E7 hb e)))).1,fun b hb=>?_,w9⟩;obtain⟨o,e,d⟩:=T.obj _ _ st7 b hb;exact(I9.pin (b,o) (List.mem_append_right _ (List.mem_append_right _ (E7 hb e)))).2.1
   refine Ba (ht _ s8 σ8 H8 _ I8 q8) fun ok s9 ⟨H9,I9,q9⟩=>?_
   cases ok with
   |false=>
    rw[if_neg Bool.false_ne_true] at q9 ⊢;exact again I9 q9
   |true=>
    rw[if_pos rfl] at q9 ⊢;refine Ba (he _ s9 σ8 H9 _ I9 q9) fun y sa ⟨vy,Ha,Ia,ry,qa⟩=>?_
    obtain⟨xs,hla,hsz,n9⟩:=qa;refine Ba (DC _ sa σ8 Ha (.ref l) [vy] (.ref l) [y] (fun _ Hb=>∃m',m'<n/\W (i+1) m' σ8 Hb) Ia rfl (.cons ry .nil) ⟨l,xs,vy,rfl,rfl,hla,hsz,n9⟩) fun _ sb ⟨_,Hb,Ib,_,qb⟩=>?_
    exact again Ib qb
 show codeAny (model X.prog X.w) X.A (.compStart (.ListComp elt [⟨tg,iter,ifs,0⟩] scope pos) 0 (.ref it) (.ref l) (compEnvC scope cl C X.env)) (compPost (model X.prog X.w) X.A X.xe use Qc (.ref l) C) { s2 with heap:=h₁,toks:=s2.toks+([]:List (Str×Value)).length };exact codeAny_compStart_list loop (T.self _ 0 _ _ _ st3 loop)
theorem Hc (N:List Str) (fr:List (Option Nat)) {elt tg iter:Expr} {ifs:List Expr} {scope:Scope} {pos:Pos} {wi:TI} {g:TG} {tt:TT} {te:TE} {cl:List (Str×Addr)}
  (hc:X.calm=true) (hi:PI X tg iter wi) (hchk:FS X.N X.env.scope scope N fr=true) (hclos:closureFor scope X.env=pure cl) (hcl:NZ X.env.cells cl) (hall:G5 cl scope.names)
  (hb:∀(C:Addr) (s:Shared) (H:Hp) (fp:List Addr),PG (Bd X scope cl N C s H fp) tg g/\Ov (Bd X scope cl N C s H fp) ifs tt/\PE (Bd X scope cl N C s H fp) elt te)
  (hs:∀x,foldedSetIterable iter X.env x=pure x:=by intro _;rfl) :
  PE X (.ListComp elt [⟨tg,iter,ifs,0⟩] scope pos) (K4 fr wi g tt te):=by
 intro pins s σ H Q I h;rw[eval_ListComp];refine KU N fr hc hi hchk hclos hcl hall hb hs I h fun l H' s' C I' fC ⟨m,hn⟩ q=>?_
 refine⟨m,hn,fun h'' hs''=>⟨.ref l,H',?_,rfl,q⟩⟩;obtain⟨f0,f1,f2,f3,f4,f5⟩:=fC;exact I'.turned (t':=s'.toks) (fun b o hb e=>(hs''.2 b hb).trans e) f0 f1 f3 f4 f5
theorem IR (N:List Str) (fr:List (Option Nat)) {i:Nat} {x:Str} {elt tg iter:Expr} {ifs:List Expr} {scope:Scope} {cpos pos pos':Pos} {wi:TI} {g:TG} {tt:TT} {te:TE} {cl:List (Str×Addr)}
  (hN:X.N.Nodup) (hi':X.N[i]?=some x) (hx:Loc X.env.scope x)
  (hc:X.calm=true) (hi:PI X tg iter wi) (hchk:FS X.N X.env.scope scope N fr=true) (hclos:closureFor scope X.env=pure cl) (hcl:NZ X.env.cells cl) (hall:G5 cl scope.names)
  (hb:∀(C:Addr) (s:Shared) (H:Hp) (fp:List Addr),PG (Bd X scope cl N C s H fp) tg g/\Ov (Bd X scope cl N C s H fp) ifs tt/\PE (Bd X scope cl N C s H fp) elt te)
  (hs:∀x,foldedSetIterable iter X.env x=pure x:=by intro _;rfl)
  (hsw:swapsWith (.ListComp elt [⟨tg,iter,ifs,0⟩] scope cpos) (some (.Name x pos')) pos.line X.env=pure true:=by rfl)
  (hf:X.fn x=true\/X.env.scope.names.lookup x=some .local:=by first|exact .inl rfl|exact .inr rfl|assumption) :
  PS X (.Assign [.Name x pos'] (.ListComp elt [⟨tg,iter,ifs,0⟩] scope cpos) pos) (L6 (K4 fr wi g tt te) (Au i)):=by
 intro pins s σ H D I h;rw[exec_Assign_arm];refine wpAny_bind (wpAny_standAt ?_);rw[show swapsWithSole [.Name x pos'] (.ListComp elt [⟨tg,iter,ifs,0⟩] scope cpos) pos.line X.env=pure true from hsw];refine wpAny_bind (wpAny_pure ?_);rw[if_pos rfl,arm_evalThenUse_ListComp];refine wpAny_bind (wpAny_bind ?_);have h1:K4 fr wi g tt te σ H fun v H1=>D.nx (σ.set i (some v)) H1:=h
 refine KU (use:=some _) N fr hc hi hchk hclos hcl hall hb hs I h1 fun l H' s' C I' fC ⟨m,hn⟩ q=>?_
 obtain⟨f0,f1,f2,f3,f4,f5⟩:=fC;obtain⟨o,es,ep,ho,hd,hk,hm⟩:=hn;have Ip:Inv X (pins++[(C,o)]) σ H' s':=I'.pins_of fun p hp=>(List.mem_append.mp hp).elim (fun z=>I'.pin p (List.mem_append_right _ z)) fun z=>by
  rw[List.mem_singleton.mp z];exact⟨ho,f0,f1,f2,fun v e=>by rw[hd] at e;cases e⟩
 show wpAny _ _ (assignAll (.ref l) [assign (.Name x pos') X.env]) _ _ _;rw[assignAll.eq_2];refine wpAny_assign_Name (Fp Ip hN hi' hx (v:=.ref l) rfl (fun s2 I2=>?_) hf);have ho2:=(I2.pin (C,o) (List.mem_append_right _ (List.mem_append_right _ (List.mem_singleton_self _)))).1;refine⟨m,⟨o,es,ep,ho2,hd,hk,hm⟩,fun h' hs'=>wpAny_pure (wpAny_pure ⟨_,H',?_,q⟩)⟩;exact I2.unpinned.turned (t':=s2.toks) (fun b o hb e=>(hs'.2 b hb).trans e) f0 f1 f3 f4 f5
def GZ (sc:Scope):Bool:=
 decide (sc.kind=.function)&&(sc.names.all fun y=>!decide (y.2=.cell))&&(sc.names.all fun y=>!decide (y.2=.local)||decide (sc.names.lookup y.1=some .local))&&(sc.names.all fun y=>!decide (y.2=.free))
theorem CJ (N:List Str) {elt tg iter:Expr} {ifs:List Expr} {scope:Scope} {pos:Pos} {wi:TI} {g:TG} {tt:TT} {te:TE}
  (hc:X.calm=true) (hi:PI X tg iter wi) (hchk:GZ scope=true)
  (hb:∀(C:Addr) (s:Shared) (H:Hp) (fp:List Addr),PG (Bd X scope [] N C s H fp) tg g/\Ov (Bd X scope [] N C s H fp) ifs tt/\PE (Bd X scope [] N C s H fp) elt te)
  (hs:∀x,foldedSetIterable iter X.env x=pure x:=by intro _;rfl) :
  PE X (.ListComp elt [⟨tg,iter,ifs,0⟩] scope pos) (K4 (N.map fun _=>none) wi g tt te):=by
 simp only[GZ,Bool.and_eq_true,decide_eq_true_eq,List.all_eq_true,Bool.or_eq_true,Bool.not_eq_true',decide_eq_false_iff_not] at hchk;obtain⟨⟨⟨hkind,hcell⟩,hnames⟩,hfree⟩:=hchk;refine Hc (cl:=[]) N (N.map fun _=>none) hc hi ?_ (closureFor_none fun x hx=>hfree x hx) trivial ?_ hb hs
 ·simp only[FS,Bool.and_eq_true,decide_eq_true_eq,List.all_eq_true,Bool.or_eq_true,Bool.not_eq_true',decide_eq_false_iff_not];refine⟨⟨⟨⟨⟨hkind,by simp⟩,hcell⟩,hnames⟩,fun y hy=>.inl (hfree y hy)⟩,fun p hp=>?_⟩;have:p.2∈N.map fun _=>(none:Option Nat):=(List.of_mem_zip hp).2
  obtain⟨_,_,e⟩:=List.mem_map.mp this;rw[<-e]
 ·have:∀ns:List (Str×NameKind),(∀y∈ns,y.2≠.free)->G5 [] ns:=by
   intro ns
   induction ns with
   |nil=>intro _;exact trivial
   |cons p r ih=>intro h;exact⟨fun e=>absurd e (h p List.mem_cons_self),ih fun y hy=>h y (List.mem_cons_of_mem _ hy)⟩
  exact this _ fun y hy=>hfree y hy
theorem QX (N:List Str) {i:Nat} {x:Str} {elt tg iter:Expr} {ifs:List Expr} {scope:Scope} {cpos pos pos':Pos} {wi:TI} {g:TG} {tt:TT} {te:TE}
  (hN:X.N.Nodup) (hi':X.N[i]?=some x) (hx:Loc X.env.scope x)
  (hc:X.calm=true) (hi:PI X tg iter wi) (hchk:GZ scope=true)
  (hb:∀(C:Addr) (s:Shared) (H:Hp) (fp:List Addr),PG (Bd X scope [] N C s H fp) tg g/\Ov (Bd X scope [] N C s H fp) ifs tt/\PE (Bd X scope [] N C s H fp) elt te)
  (hs:∀x,foldedSetIterable iter X.env x=pure x:=by intro _;rfl)
  (hsw:swapsWith (.ListComp elt [⟨tg,iter,ifs,0⟩] scope cpos) (some (.Name x pos')) pos.line X.env=pure true:=by rfl)
  (hf:X.fn x=true\/X.env.scope.names.lookup x=some .local:=by first|exact .inl rfl|exact .inr rfl|assumption) :
  PS X (.Assign [.Name x pos'] (.ListComp elt [⟨tg,iter,ifs,0⟩] scope cpos) pos) (L6 (K4 (N.map fun _=>none) wi g tt te) (Au i)):=by
 simp only[GZ,Bool.and_eq_true,decide_eq_true_eq,List.all_eq_true,Bool.or_eq_true,Bool.not_eq_true',decide_eq_false_iff_not] at hchk;obtain⟨⟨⟨hkind,hcell⟩,hnames⟩,hfree⟩:=hchk;refine IR (cl:=[]) N (N.map fun _=>none) hN hi' hx hc hi ?_ (closureFor_none fun x hx=>hfree x hx) trivial ?_ hb hs hsw hf
 ·simp only[FS,Bool.and_eq_true,decide_eq_true_eq,List.all_eq_true,Bool.or_eq_true,Bool.not_eq_true',decide_eq_false_iff_not];refine⟨⟨⟨⟨⟨hkind,by simp⟩,hcell⟩,hnames⟩,fun y hy=>.inl (hfree y hy)⟩,fun p hp=>?_⟩;have:p.2∈N.map fun _=>(none:Option Nat):=(List.of_mem_zip hp).2
  obtain⟨_,_,e⟩:=List.mem_map.mp this;rw[<-e]
 ·have:∀ns:List (Str×NameKind),(∀y∈ns,y.2≠.free)->G5 [] ns:=by
   intro ns
   induction ns with
   |nil=>intro _;exact trivial
   |cons p r ih=>intro h;exact⟨fun e=>absurd e (h p List.mem_cons_self),ih fun y hy=>h y (List.mem_cons_of_mem _ hy)⟩
  exact this _ fun y hy=>hfree y hy
end
def Def (P:Program)(w:World)(K:PySem.W.Frag)(mg:Str->Option Value)(base:Heap)(k:Nat)(x:Str)(ps:List Str)(sp:Sp):Prop:=
 ∃(f:Addr) (fd:FuncData),FnOk P w K mg base DD k f fd ps sp/\mg x=some (.ref f)/\PySem.W.keepIn K (.ref f)=true/\Binds K fd ps []
section
variable {X:Cx}{k:Nat}{x:Str}{ps:List Str}{sp:Sp}{e:Expr}{es:List Expr}{t:TA}{p pos:Pos}
theorem BD (D:Def X.prog X.w X.K X.mg X.base k x ps sp) (hr:Room k X.A) (hg:Gl X x) (ha:PA X (e::es) t)
  (hdb:(x == ("__debug__":Str))=false:=by decide) (he:starEach (e::es) X.env=(false,eval e X.env)::starEach es X.env:=by rfl) (hpl:(backTo pos (starEach es X.env)).any (·.1)=false:=by rfl) :
  PE X (.Call (.Name x p) (e::es) [] pos) (Mw sp [] E0 t):=by
 obtain⟨f,fd,F,hm,hk,hb⟩:=D;exact OP F hr hg hm hk hb .nil MM ha hdb he hpl
end
section
variable {X:Cx}
theorem AK {x:Str}{i:Int}{pos:Pos}(hg:Gl X x)(hm:∃t,X.mg x=some (.int i t))(hd:(x == ("__debug__":Str))=false:=by decide):PE X (.Name x pos) (tC (.int i)):=by
 obtain⟨t,hm⟩:=hm;exact Lv hg hm ⟨_,rfl⟩ hd
theorem MP {x:Str}{T:String}{pos:Pos}(hg:Gl X x)(hm:X.mg x=none)(hv:bootBuiltins x=some (.type T))(hn:x≠"__name__":=by decide)(hd:(x == ("__debug__":Str))=false:=by decide):PE X (.Name x pos) (tC (.ty T)):=Tq hg hm hv rfl hn hd
theorem JJ {x z:Str}{pos:Pos}(hg:Gl X x)(hm:∃t,X.mg x=some (.str z t))(hd:(x == ("__debug__":Str))=false:=by decide):PE X (.Name x pos) (tC (.str z)):=by
 obtain⟨t,hm⟩:=hm;exact Lv hg hm ⟨_,rfl⟩ hd
end
theorem AY:bootBuiltins "isinstance"=some (.builtin "isinstance"):=by decide +kernel
theorem NH:bootBuiltins "all"=some (.builtin "all"):=by decide +kernel
theorem U8:bootBuiltins "sum"=some (.builtin "sum"):=by decide +kernel
theorem Et:bootBuiltins "sorted"=some (.builtin "sorted"):=by decide +kernel
theorem DP:bootBuiltins "len"=some (.builtin "len"):=by decide +kernel
theorem UG:bootBuiltins "max"=some (.builtin "max"):=by decide +kernel
theorem On:bootBuiltins "int"=some (.type "int"):=by decide +kernel
theorem Tc:bootBuiltins "bool"=some (.type "bool"):=by decide +kernel
theorem QY:bootBuiltins "str"=some (.type "str"):=by decide +kernel
theorem OW:bootBuiltins "list"=some (.type "list"):=by decide +kernel
theorem JR:bootBuiltins "tuple"=some (.type "tuple"):=by decide +kernel
theorem Uz {t c:String}{b:Bool}(h:(if(Value.type t == Value.type c)=true then some true else if PySem.W.kitMeta c=true then(fastBuiltinMro t).map (·.contains (.type c)) else none)=some b)(K:PySem.W.Frag) :
  PySem.W.kitOne K (.type t) (.type c)=some b:=h
section
variable {X:Cx}
def WX (K:PySem.W.Frag):List V->Hp->VK->Prop:=fun xs H Q=>∃x c t b,xs=[x,.ty c]/\TyOf K H x t/\PySem.W.kitOne K t (.type c)=some b/\Q (.bl b) H
theorem D5:CH X (.builtin "isinstance") (WX X.K):=by
 intro pins s σ H xs us Q I r h;obtain⟨x,c,t,b,rfl,ty,e,q⟩:=h;obtain⟨u,v,rfl,ru,rv⟩:=vals2 r;have ev:v=Value.type c:=rv;subst ev;exact Pm I ru ty e fun tk=>⟨.bl b,H,I.tok _,rfl,q⟩
end
def Q8:V->Bool
 | .non=>true
 | .int _=>true
 | .str _=>true
 |_=>false
theorem pure_eq {x y:V}(hx:Q8 x=true)(hy:Q8 y=true):RM x y=decide (x=y):=by
 cases x<;>first|exact absurd (show false=true from hx) Bool.false_ne_true|skip
 all_goals (cases y<;>first|exact absurd (show false=true from hy) Bool.false_ne_true|skip)
 ·rfl
 ·rfl
 ·rfl
 ·rfl
 ·exact Lw.symm
 ·rfl
 ·rfl
 ·rfl
 ·exact IQ.symm
theorem Ir:∀{bs:List Bool} {us:List Value},Aw (bs.map V.bl) us->LSm.BoolsAre us bs
 |[],_,.nil=>.nil
 |b::bs,_,.cons r t=>by
  have e:_=Value.bool b:=r;subst e;exact .cons b (Ir t)
section
variable {prog:Program}{w:World}{A:Around}{E:Value->Shared->Prop}{s:Shared}{l:Addr}{vs:List Value}
theorem Rf {bs:List Bool} {Q:Value->Shared->Prop} (hh:A.handled=none) (hl:s.heap.IsList l vs.toArray) (hb:LSm.BoolsAre vs bs)
  (h:∀h' tk,(∀b o,s.heap.get? b=some o->h'.get? b=some o)->Q (.bool (bs.all id)) { s with heap:=h',toks:=tk }):wpAny (model prog w) A (call (.builtin "all") [.ref l]) Q E s:=by
 have below:l<s.heap.objs.size:=(fun⟨_,e,_⟩=>Heap.lt_size e:s.heap.IsList l vs.toArray->_) hl;have whole:((List.range vs.toArray.size).all fun i=>(bs[i]?).getD true)=bs.all id:=by rw[List.size_toArray,hb.length,LSm.range_all]
 exact call_all_walk (wpAny_pyIter_list hl ⟨s.heap.objs.size,[s.heap.objs.size,l],[s.heap.objs.size],vs.toArray.size,_,_,fun i=>(bs[i]?).getD true,rfl,Walks.list (A:=A.in1) hh _ l (Nat.ne_of_lt below) vs.toArray,⟨⟨_,Heap.get?_push_size _ rfl,rfl,rfl⟩,hl.push _⟩,
  (fun i v s' Q' E' hP hQ=>by
   obtain⟨b,hg,hv⟩:=hb.get i v (by simpa using hP);have hQ':Q' b s':=by simpa [hg] using hQ
   subst hv;exact wpAny_truthy_bool hQ'),
  fun h' tk hk=>whole▸h h' tk (LSm.kept_iter hk)⟩)
end
section
variable {X:Cx}
theorem Jb (hc:X.calm=true):CH X (.builtin "all") (fun xs H Q=>∃(a:Addr) (bs:List Bool),xs=[.ref a]/\AW X.K H a (bs.map V.bl)/\Q (.bl (bs.all id)) H):=by
 intro pins s σ H xs us Q I r h;obtain⟨a,bs,rfl,h1,q⟩:=h;obtain⟨u,rfl,ru⟩:=vals1 r;cases ru;obtain⟨its,r1,p1,_⟩:=I.list h1;exact Rf (I.ok.hd hc) p1.isList (Ir r1) fun h' tk hk=>⟨.bl _,H,I.kept hk,rfl,q⟩
theorem Sd (hc:X.calm=true):CH X (.builtin "sum") (fun xs H Q=>∃(a:Addr) (ns:List Int),xs=[.ref a]/\AW X.K H a (ns.map V.int)/\Q (.int ns.sum) H):=by
 intro pins s σ H xs us Q I r h;obtain⟨a,ns,rfl,h1,q⟩:=h;obtain⟨u,rfl,ru⟩:=vals1 r;cases ru;obtain⟨its,r1,p1,_⟩:=I.list h1;have hi:=intsAre_of r1;obtain⟨zs,hz⟩:=hi.allInts.items;have due:preSum (numAt zs) zs.size=ns.sum:=by
  have:zs.toList.map (·.1)=ns:=by rw[<-nums_intItems,<-hz];exact hi.numsOf
  rw[<-this,preSum_eq,List.take_of_length_le (by simp)]
 exact sum_intListG (I.ok.hd hc) (hz▸p1.isList) fun h' tk t' hk=>⟨.int ns.sum,H,I.kept hk,⟨_,by rw[due]⟩,q⟩
def VV (K:PySem.W.Frag):R2:=fun x y H Q=>∃l b xs zs,x=.ref l/\y=.ref b/\AW K H l xs/\AW K H b zs/\xs.length+zs.length<=sizeLine/\∀p,H p=none->Q (.ref p) (upd H p (.lst (xs++zs)))
theorem He:Gi X (binaryOp .Add) (VV X.K):=by
 intro pins s σ H x y v u Q I rx ry h;obtain⟨l,b,xs,zs,rfl,rfl,h1,h2,hz,q⟩:=h;cases rx;cases ry;obtain⟨its,r,p1,_⟩:=I.list h1;obtain⟨its2,r2,p2,_⟩:=I.list h2;have l1:=r.length;have l2:=r2.length;obtain⟨⟨cls,dd,data,sl⟩,ho,hc,n,hd⟩:=id p1.isList;obtain⟨⟨cls2,dd2,data2,sl2⟩,ho2,hc2,n2,hd2⟩:=id p2.isList;simp only at hc hd hc2 hd2;subst hc hd hc2 hd2;have e:its.toArray++its2.toArray=(its++its2).toArray:=by simp
 refine concat_meets ⟨_,ho,rfl⟩ ⟨_,ho2,rfl⟩ noFill_list_add seq_list_add PySem.F.slot_list_add PySem.F.entry_list_add (PySem.F.args_list_add_2 _ _) (list_addW l b its.toArray its2.toArray n n2 dd dd2 sl sl2 (by rw[List.size_toArray,List.size_toArray];omega)) ⟨ho,ho2,?_⟩;rw[e];exact⟨.ref _,_,I.lnew (t':=s.toks) (r.append r2) (by rw[List.length_append];omega),rfl,q _ I.fresh⟩
end
theorem Ai {H:Hp}{p:Addr}(h:H p=none)(o:HO):Am H (upd H p o):=fun b u q=>by rw[Ag (A4 q h)];exact q
theorem AU {H H':Hp}{p:Addr}(s:Am H H')(h:H p=none)(o:HO):Am H (upd H' p o):=fun b u q=>by rw[Ag (A4 q h)];exact s b u q
theorem Am.get {H H':Hp}{a:Addr}{o:HO}(s:Am H H')(h:H a=some o):H' a=some o:=s a o h
theorem ES:1000000<=sizeLine:=by decide
theorem small {n:Nat}(h:n<=1000000):n<=sizeLine:=Nat.le_trans h ES
theorem BF {n:Nat}(h:n<1000000):n<sizeLine:=Nat.lt_of_lt_of_le h ES
theorem Vc {ns:List Int}{i:Int}(h0:0<=i)(h1:i<ns.length):Kv (ns.map V.int) i=some (.int (ns.getD i.toNat 0)):=by
 have hk:i.toNat<ns.length:=by omega
 have ek:i=((i.toNat:Nat):Int):=by omega
 have q:Kv (ns.map V.int) ((i.toNat:Nat):Int)=some (.int (ns.getD i.toNat 0)):=Lk (by rw[List.getElem?_map,List.getElem?_eq_getElem hk];simp[List.getD,List.getElem?_eq_getElem hk]);rw[<-ek] at q;exact q
theorem Si {xs:List V}{j:Int}(h:0<=j):J1 xs none (some j)=xs.take j.toNat:=by
 unfold J1;rw[show j=((j.toNat:Nat):Int) by omega,HT.Sw,HT.R3,Int.toNat_natCast,List.drop_zero,Nat.sub_zero]
 by_cases hl:j.toNat<=xs.length
 ·rw[Nat.min_eq_left hl]
 ·rw[Nat.min_eq_right (by omega),List.take_of_length_le (Nat.le_refl _),List.take_of_length_le (by omega)]
theorem Ro (ns:List Int)(lo hi:Option Int):∃ms:List Int,J1 (ns.map V.int) lo hi=ms.map V.int/\ms.length<=ns.length/\∀x∈ms,x∈ns:=by
 refine⟨(ns.drop (HT.Kr (ns.map V.int).length 0 lo)).take (HT.Kr (ns.map V.int).length (ns.map V.int).length hi-HT.Kr (ns.map V.int).length 0 lo),?_,?_,fun x hx=>List.mem_of_mem_drop (List.mem_of_mem_take hx)⟩
 ·unfold J1;rw[List.map_take,List.map_drop]
 ·rw[List.length_take,List.length_drop];omega
theorem AX {c:Bool}{A B:Prop}(h:c=false)(b:B):if c=true then A else B:=by
 subst h;rw[if_neg Bool.false_ne_true];exact b
theorem BW {c:Bool}{A B:Prop}(h:c=true)(b:A):if c=true then A else B:=by
 subst h;rw[if_pos rfl];exact b
theorem dec_true {c:Prop}[Decidable c](h:decide c=true):c:=of_decide_eq_true h
theorem dec_false {c:Prop}[Decidable c](h:¬decide c=true):¬c:=fun z=>h (decide_eq_true z)
def HF (J:It)(H:Hp)(xs:List V):Prop:=∀H',Am H H'->∀i:Nat,(i<xs.length->J.go i H')/\(∀x H'',J.yld i H' x H''->H''=H'/\(i<xs.length->xs[i]?=some x))/\(xs.length<=i->J.stop i H')
theorem Es {K:PySem.W.Frag}{a:Addr}{H:Hp}{xs:List V}(h:AW K H a xs):HF (VA K a) H xs:=fun H' s i=>
 ⟨fun hi=>⟨xs,xs[i],s.seq h,by simp[hi]⟩,fun x H'' y=>⟨y.1,fun _=>y.2 xs (s.seq h)⟩,fun hi=>⟨xs,s.seq h,hi⟩⟩
theorem comp_map {J:It} {xs:List V} {fr:List (Option Nat)} {k:Nat} {te:TE} {Q:VK} {σ:St} {H:Hp} (f:V->V) (hJ:HF J H xs) (hn:xs.length<=1000000)
  (helt:∀(x:V) (H':Hp) (R:VK),x∈xs->Am H H'->(∀H'',Am H' H''->R (f x) H'')->te ((stC fr σ).set k (some x)) H' R)
  (hQ:∀l H',H l=none->Am H H'->H' l=some (.lst (xs.map f))->Q (.ref l) H') :
  Di fr (Au k) Qv te σ Q J H:=by
 intro l hl;refine⟨fun i m σ' H'=>m=xs.length-i/\i<=xs.length/\(∀y,σ'.set k y=(stC fr σ).set k y)/\Am H H'/\H' l=some (.lst ((xs.take i).map f)),⟨xs.length,by simp,Nat.zero_le _,fun _=>rfl,Ai hl _,by rw[Ac,List.take_zero,List.map_nil]⟩,?_⟩
 rintro i m σ' H' ⟨rfl,hi,hσ,hs,hl'⟩
 obtain⟨h1,h2,h3⟩:=hJ H' hs i
 by_cases hlt:i<xs.length
 ·refine .inr ⟨h1 hlt,fun x H'' y=>?_⟩;obtain⟨rfl,hx⟩:=h2 x H'' y;have hx:=hx hlt;show te (σ'.set k (some x)) H'' _;rw[hσ];refine helt x H'' _ (List.mem_of_getElem? hx) hs fun H4 s4=>?_
  refine⟨_,s4.get hl',BF (by rw[List.length_map,List.length_take];omega),xs.length-(i+1),by omega,rfl,hlt,fun y=>by rw[List.set_set],AU (hs.trans s4) hl _,?_⟩;rw[Ac,List.take_add_one,hx];simp
 ·have e:i=xs.length:=by omega
  subst e;exact .inl ⟨h3 (Nat.le_refl _),hQ l H' hl hs (by rw[hl',List.take_of_length_le (Nat.le_refl _)])⟩
section
variable {X:Cx}{K:PySem.W.Frag}
theorem Hk (h:X.K=K):Te X (Vm K):=by subst h;exact AH
end
def Ok (H:Hp):V->Prop
 | .non=>True
 | .bl _=>True
 | .int _=>True
 | .str z=>z.length<=1000
 | .ref a=>(∃xs,H a=some (.lst xs))\/∃xs,H a=some (.tup xs)
 |_=>False
theorem Ok.same {H H':Hp}{v:V}(h:Ok H v)(s:Am H H'):Ok H' v:=by
 cases v<;>first|exact h|skip
 rcases h with⟨xs,e⟩|⟨xs,e⟩
 ·exact .inl ⟨xs,s.get e⟩
 ·exact .inr ⟨xs,s.get e⟩
def Hj (H:Hp):V->String
 | .non=>"NoneType"
 | .bl _=>"bool"
 | .int _=>"int"
 | .str _=>"str"
 | .ref a=>match H a with
  |some (.lst _)=>"list"
  |some (.tup _)=>"tuple"
  |_=>"?"
 |_=>"?"
theorem Ok.ty {H:Hp}{v:V}(h:Ok H v)(K:PySem.W.Frag):TyOf K H v (.type (Hj H v)):=by
 cases v with
 |non=>exact .non
 |bl b=>exact .bl b
 |int i=>exact .int i
 |str z=>exact .str z
 |ref a=>
  rcases h with⟨xs,e⟩|⟨xs,e⟩
  ·have q:Hj H (.ref a)="list":=by simp only[Hj,e]
   rw[q];exact .lst e
  ·have q:Hj H (.ref a)="tuple":=by simp only[Hj,e]
   rw[q];exact .tup e
 |_=>exact h.elim
def isA (t c:String):Bool:=t == c||(t == "bool"&&c == "int")
theorem Ug {t c:String}(K:PySem.W.Frag)(ht:t∈["NoneType","bool","int","str","list","tuple"])(hc:c∈["bool","int","str","list","tuple"]):PySem.W.kitOne K (.type t) (.type c)=some (isA t c):=by
 have all:∀t∈["NoneType","bool","int","str","list","tuple"],∀c∈["bool","int","str","list","tuple"],(if(Value.type t == Value.type c)=true then some true else if PySem.W.kitMeta c=true then(fastBuiltinMro t).map (·.contains (.type c)) else none)=some (isA t c):=by decide +kernel
 exact Uz (all t ht c hc) K
theorem Ok.tyMem {H:Hp}{v:V}(h:Ok H v):Hj H v∈["NoneType","bool","int","str","list","tuple"]:=by
 cases v with
 |ref a=>
  rcases h with⟨xs,e⟩|⟨xs,e⟩
  ·simp only[Hj,e];decide
  ·simp only[Hj,e];decide
 |byt _=>exact h.elim
 |flt _=>exact h.elim
 |ty _=>exact h.elim
 |_=>simp only[Hj];decide
theorem Ok.kit {H:Hp}{v:V}(h:Ok H v)(K:PySem.W.Frag){c:String}(hc:c∈["bool","int","str","list","tuple"]:=by decide):PySem.W.kitOne K (.type (Hj H v)) (.type c)=some (isA (Hj H v) c):=Ug K h.tyMem hc
theorem OU {t u:TE}{σ:St}{H:Hp}{Q:VK}(c d:Bool)(ht:∀R:VK,R (.bl c) H->t σ H R)(hu:c=true->∀R:VK,R (.bl d) H->u σ H R)(q:Q (.bl (c&&d)) H):Us t u σ H Q:=by
 refine ht _ ⟨c,rfl,?_⟩;cases c with
 |false=>rw[if_neg Bool.false_ne_true];exact q
 |true=>rw[if_pos rfl];exact hu rfl _ q
theorem SS {H:Hp}{a:Addr}{xs:List V}(e:H a=some (.lst xs)):Hj H (.ref a)="list":=by simp only[Hj,e]
theorem TY {H:Hp}{a:Addr}{xs:List V}(e:H a=some (.tup xs)):Hj H (.ref a)="tuple":=by simp only[Hj,e]
theorem Ok.elim {H:Hp} {v:V} (ok:Ok H v) {C:Prop} (c1:v=.non->Hj H v="NoneType"->C) (c2:∀b,v=.bl b->Hj H v="bool"->C) (c3:∀i,v=.int i->Hj H v="int"->C) (c4:∀z,v=.str z->z.length<=1000->Hj H v="str"->C)
  (c5:∀a xs,v=.ref a->H a=some (.lst xs)->Hj H v="list"->C) (c6:∀a xs,v=.ref a->H a=some (.tup xs)->Hj H v="tuple"->C):C:=by
 cases v with
 |non=>exact c1 rfl rfl
 |bl b=>exact c2 b rfl rfl
 |int i=>exact c3 i rfl rfl
 |str z=>exact c4 z rfl ok rfl
 |ref a=>
  rcases ok with⟨xs,e⟩|⟨xs,e⟩
  ·exact c5 a xs rfl e (SS e)
  ·exact c6 a xs rfl e (TY e)
 |_=>exact(show False from ok).elim
def Fv (H:Hp)(v:V):Bool:=isA (Hj H v) "int" && !isA (Hj H v) "bool"
theorem Qs (H:Hp)(i:Int):Fv H (.int i)=true:=by
 show(isA "int" "int" && !isA "int" "bool")=true
 decide
theorem Ri {H:Hp}{v:V}(ok:Ok H v)(h:Fv H v=true):∃i,v=.int i:=by
 unfold Fv at h;refine ok.elim (fun _ e=>?_) (fun _ _ e=>?_) (fun i e _=>⟨i,e⟩) (fun _ _ _ e=>?_) (fun _ _ _ _ e=>?_) (fun _ _ _ _ e=>?_)
 all_goals (rw[e] at h;exact absurd h (by decide))
def Sk (a b:Int):V->Bool
 | .int i=>decide (a<=i)&&decide (i<=b)
 |_=>false
theorem T5 {H:Hp}{v:V}{a b:Int}(h:Fv H v=false):Sk a b v=false:=by
 cases v with
 |int i=>rw[Qs] at h;cases h
 |_=>rfl
theorem U7 {H:Hp}{v:V}(ok:Ok H v)(h:isA (Hj H v) "str"=true):∃z,v=.str z/\z.length<=1000:=by
 refine ok.elim (fun _ e=>?_) (fun _ _ e=>?_) (fun _ _ e=>?_) (fun z e1 e2 _=>⟨z,e1,e2⟩) (fun _ _ _ _ e=>?_) (fun _ _ _ _ e=>?_)
 all_goals (rw[e] at h;exact absurd h (by decide))
def Wt (x:Str):It:=⟨fun i _=>i<x.cps.size,fun i H v H'=>H'=H/\∃c,x.cps[i]?=some c/\v=.str ⟨#[c]⟩,fun i _=>x.cps.size<=i⟩
theorem Ny {P:Program}{w:World}{K:PySem.W.Frag}{tg:Expr}(it:Addr)(x:Str)(t:Tok):Turn P w K tg (Wt x) [it] it (fun i h=>h.IsStrIter it "str_ascii_iterator" x t i) where
 mem:=by simp
 obj:=fun i h st b hb=>by
  have e:b=it:=by simpa using hb
  subst e;obtain⟨o,e,c,d⟩:=st;exact⟨o,e,fun v z=>by rw[d] at z;cases z⟩
 keep:=fun i h h' st k=>by
  obtain⟨o,e,c,d⟩:=st;exact⟨o,k it (by simp) o e,c,d⟩
 item:=by
  intro X hP hw hK hc i pins s σ H E I hf st hg;subst hP hw hK;have hg':i<x.cps.size:=hg;obtain⟨f0,f1,f2,f3,f4,f5⟩:=hf it (by simp);refine wpAny_pyNext_ascii_item st (c:=x.cps[i]) (by simp[hg']) fun h' st' sb=>?_
  have I1:Inv X pins σ H { s with heap:=h',toks:=s.toks+1 }:=I.turned (fun b o hb e=>(sb.2 b hb).trans e) f0 f1 f3 f4 f5;obtain⟨o,e,c,d⟩:=id st';exact⟨_,rfl,KN (s:={ s with heap:=h',toks:=s.toks+1 }) e c d (by decide) ⟨.str ⟨#[x.cps[i]]⟩,H,I1,⟨_,rfl⟩,⟨rfl,_,by simp[hg'],rfl⟩,st',fun b hb=>(hf b hb).1⟩⟩
 done:=by
  intro X hP hw hK hc i pins s σ H E I hf st hg;subst hP hw hK;have hg':x.cps.size<=i:=hg;obtain⟨f0,f1,f2,f3,f4,f5⟩:=hf it (by simp);exact wpAny_pyNext_ascii_end (I.ok.hd hc) st (by simp[hg']) fun h' eb=>⟨rfl,I.turned (t':=s.toks) (fun b o hb e=>eb b o hb e) f0 f1 f3 f4 f5⟩
 self:=fun _ _ _ _ _ st h=>wpAny_pyIter_striter_ascii st h
theorem Qr {P:Program}{w:World}{K:PySem.W.Frag}{tg:Expr}(it:Addr)(x:Str)(t:Tok):Turn P w K tg (Wt x) [it] it (fun i h=>h.IsStrIter it "str_iterator" x t i) where
 mem:=by simp
 obj:=fun i h st b hb=>by
  have e:b=it:=by simpa using hb
  subst e;obtain⟨o,e,c,d⟩:=st;exact⟨o,e,fun v z=>by rw[d] at z;cases z⟩
 keep:=fun i h h' st k=>by
  obtain⟨o,e,c,d⟩:=st;exact⟨o,k it (by simp) o e,c,d⟩
 item:=by
  intro X hP hw hK hc i pins s σ H E I hf st hg;subst hP hw hK;have hg':i<x.cps.size:=hg;obtain⟨f0,f1,f2,f3,f4,f5⟩:=hf it (by simp);refine wpAny_pyNext_wide_item st (c:=x.cps[i]) (by simp[hg']) fun h' st' sb=>?_
  have I1:Inv X pins σ H { s with heap:=h',toks:=s.toks+1 }:=I.turned (fun b o hb e=>(sb.2 b hb).trans e) f0 f1 f3 f4 f5;obtain⟨o,e,c,d⟩:=id st';exact⟨_,rfl,KN (s:={ s with heap:=h',toks:=s.toks+1 }) e c d (by decide) ⟨.str ⟨#[x.cps[i]]⟩,H,I1,⟨_,rfl⟩,⟨rfl,_,by simp[hg'],rfl⟩,st',fun b hb=>(hf b hb).1⟩⟩
 done:=by
  intro X hP hw hK hc i pins s σ H E I hf st hg;subst hP hw hK;have hg':x.cps.size<=i:=hg;obtain⟨f0,f1,f2,f3,f4,f5⟩:=hf it (by simp);exact wpAny_pyNext_wide_end (I.ok.hd hc) st (by simp[hg']) fun h' eb=>⟨rfl,I.turned (t':=s.toks) (fun b o hb e=>eb b o hb e) f0 f1 f3 f4 f5⟩
 self:=fun _ _ _ _ _ st h=>wpAny_pyIter_striter_wide st h
section
variable {X:Cx}{tg:Expr}
def W9 (tl:TE):TI:=fun σ H R=>tl σ H fun x H1=>∃z,x=.str z/\R (Wt z) H1
theorem Jn {l:Expr}{tl:TE}(hl:PE X l tl):PI X tg l (W9 tl):=by
 intro pins s σ H R I h;refine Ba (hl pins s σ H _ I h) fun v s1 ⟨x,H1,I1,r1,q1⟩=>?_
 obtain⟨z,e,q⟩:=q1;subst e;obtain⟨t,rfl⟩:=r1;have fp:∀b∈[s1.heap.objs.size],HN X pins H1 b:=fun b hb=>by
  have e:b=s1.heap.objs.size:=by simpa using hb
  subst e;exact I1.fpOk (Nat.le_refl _) (I1.hok.fresh (Nat.le_refl _))
 cases ha:z.cps.all (· < 128)
 ·exact wpAny_pyIter_wide ha ⟨s1.heap.objs.size,[s1.heap.objs.size],_,_,H1,rfl,I1.kept (t':=s1.toks) (fun b o e=>Heap.get?_push_of_some _ e),Qr _ z t,⟨_,Heap.get?_push_size _ rfl,rfl,rfl⟩,fp,q⟩
 ·exact wpAny_pyIter_ascii ha ⟨s1.heap.objs.size,[s1.heap.objs.size],_,_,H1,rfl,I1.kept (t':=s1.toks) (fun b o e=>Heap.get?_push_of_some _ e),Ny _ z t,⟨_,Heap.get?_push_size _ rfl,rfl,rfl⟩,fp,q⟩
end
theorem FB {x:Str}{H:Hp}:HF (Wt x) H (x.cps.toList.map fun c=>V.str ⟨#[c]⟩):=fun H' s i=>
 ⟨fun hi=>(by simpa using hi:i<x.cps.size),fun v H'' y=>⟨y.1,fun hi=>by
  obtain⟨_,c,hc,e⟩:=y;rw[List.getElem?_map,Array.getElem?_toList,hc,e];rfl⟩,fun hi=>(by simpa using hi:x.cps.size<=i)⟩
section
variable {X:Cx}
def Vr:V->List V->Hp->VK->Prop:=fun x vs H Q=>∃t u,x=.str t/\vs=[.str u]/\0<=Txt.find t u/\Q (.int (Txt.find t u)) H
theorem QE (hc:X.calm=true):Tw X "str.index" Vr:=by
 intro pins s σ H x vs v us Q I rx rv h;obtain⟨t,u,rfl,rfl,h0,q⟩:=h;obtain⟨tk,rfl⟩:=rx;obtain⟨y,rfl,ry⟩:=rv.one;obtain⟨tk2,rfl⟩:=ry;refine index_or (I.ok.hd hc) (fun e=>absurd e (by omega)) fun _ _=>⟨.int (Txt.find t u),H,I.tok _,⟨_,rfl⟩,q⟩
end
section
variable {X:Cx}
def WR:V->Option Int->Option Int->Hp->VK->Prop:=fun x lo hi H Q=>∃z:Str,x=.str z/\z.length<=sizeLine/\Q (.str (PySem.Txt.slice z lo hi)) H
theorem U6:Vj X WR:=by
 intro pins s σ H x v vl vu lo hi sl Q I rx hs pl pu h;obtain⟨z,rfl,hz,q⟩:=h;obtain⟨t,rfl⟩:=rx;refine⟨"str",_,slot_str_getitem.lookup,typeIs_str _ _ _,?_⟩;cases pl with
 |none=>
  cases pu with
  |none=>exact wpAny_getItem_str_slice (l:=none) (u:=none) (st:=none) hs rfl (post_val_or_str ⟨Nat.le_trans (PySem.Txt.slice_le z _ _) hz,fun t' k=>⟨.str _,H,I.tok k,⟨_,rfl⟩,q⟩⟩)
  |int j tj=>exact wpAny_getItem_str_slice (l:=none) (u:=some (j,tj)) (st:=none) hs rfl (post_val_or_str ⟨Nat.le_trans (PySem.Txt.slice_le z _ _) hz,fun t' k=>⟨.str _,H,I.tok k,⟨_,rfl⟩,q⟩⟩)
 |int i ti=>
  cases pu with
  |none=>exact wpAny_getItem_str_slice (l:=some (i,ti)) (u:=none) (st:=none) hs rfl (post_val_or_str ⟨Nat.le_trans (PySem.Txt.slice_le z _ _) hz,fun t' k=>⟨.str _,H,I.tok k,⟨_,rfl⟩,q⟩⟩)
  |int j tj=>exact wpAny_getItem_str_slice (l:=some (i,ti)) (u:=some (j,tj)) (st:=none) hs rfl (post_val_or_str ⟨Nat.le_trans (PySem.Txt.slice_le z _ _) hz,fun t' k=>⟨.str _,H,I.tok k,⟨_,rfl⟩,q⟩⟩)
def V3:R2:=fun x y H Q=>∃(z:Str) (n:Int),x=.str z/\y=.int n/\n<=1000/\-1000<=n/\z.length<=1000/\Q (.str (PySem.Txt.mul z n)) H
theorem mulOk_of {z:Str}{n:Int}(h1:n<=1000)(h0:-1000<=n)(h2:z.length<=1000):MulOk z n:=by
 refine⟨?_,fun h3 _=>?_,fun h3 _=>?_⟩
 ·rw[decide_eq_false (by omega),decide_eq_false (by omega)];rfl
 ·have:(2^63-1:Int)/n≥(2^63-1:Int)/1000:=by
   have hn:0<n:=by omega
   have a:(2^63-1:Int)/1000*n<=2^63-1:=by
    have b:(2^63-1:Int)/1000*n<=(2^63-1:Int)/1000*1000:=Int.mul_le_mul_of_nonneg_left h1 (by decide);have c:(2^63-1:Int)/1000*1000<=2^63-1:=by decide
    omega
   exact(Int.le_ediv_iff_mul_le hn).mpr a
  have d:(1000:Int)<=(2^63-1:Int)/1000:=by decide
  omega
 ·have:z.length*n.toNat<=1000*1000:=Nat.mul_le_mul h2 (by omega);have e:Builtin.Str.tooLong (z.length*n.toNat)=decide (z.length*n.toNat>sizeLine):=rfl;rw[e];exact decide_eq_false (by have:=ES;omega)
theorem NF:Gi X (binaryOp .Mult) V3:=by
 intro pins s σ H x y v u Q I rx ry h;obtain⟨z,n,rfl,rfl,h1,h0,h2,q⟩:=h;obtain⟨t,rfl⟩:=rx;obtain⟨t',rfl⟩:=ry;exact SB.mul (mulOk_of h1 h0 h2) fun t' k=>⟨.str _,H,I.tok k,⟨_,rfl⟩,q⟩
end
end L2
namespace L2
open PySem PySem.Spec PyProof.Rows PySem.Builtin.Str
abbrev Ap (z:Str):List Nat:=z.cps.toList
theorem Az (z:Str):(Ap z).length=z.length:=by simp[Str.length]
theorem D4 {x y:Str}(h:Ap x=Ap y):x=y:=by
 obtain⟨a⟩:=x;obtain⟨b⟩:=y;have:a=b:=Array.toList_inj.mp h;rw[this]
theorem A6 (a y:Str):Ap (a++y)=Ap a++Ap y:=by
 show(a.cps++y.cps).toList=_;simp
end L2
namespace L2
open PySem PySem.Spec PyProof.Rows
theorem R1:bootBuiltins "abs"=some (.builtin "abs"):=by decide +kernel
theorem NI {M:Model} {A:Around} {E:Value->Shared->Prop} {s:Shared} {pos:Pos} {T:String} {args:List (Bool×Sem Value)} {kws:List (Option Str×Sem Value)} {Q:Value->Shared->Prop} (hp:args.any (·.1)=false) (hk:kws.any (·.1.isNone)=false)
  (h:wpAny M A (evalArgs (.type T) true args kws) (fun z sz=>wpAny M A (call (.type T) z.pos z.kw) Q E sz) E s):wpAny M A (callWith pos (.type T) [] args kws) Q E s:=by
 unfold callWith;refine wpAny_bind (wpAny_holding (wpAny_mono h (fun z sz hz=>wpAny_bind (wpAny_standAt ?_)) fun _ _ y=>y));simp only[hp,hk,Bool.or_false];refine wpAny_bind (wpAny_pure (wpAny_bind (wpAny_mono hz (fun v sv hv=>wpAny_bind (wpAny_holding (wpAny_point (wpAny_pure hv)))) fun _ _ y=>y)))
theorem Hf {X:Cx}{K:PySem.W.Frag}{pos:Pos}{es:List Expr}{k:Nat}{t:Up}{n:Nat}(hK:X.K=K)(hc:X.calm=true)(h:V6 X es t)(hn:(assignEach es X.env).length=n:=by rfl)(hs:(assignEach es X.env).findIdx? (·.1)=none:=by rfl):PG X (.Tuple es k pos) (Qb K n t):=by
 subst hK;exact Kd hc h hn hs
theorem RE {xs:List V}:J1 xs none (some (-1))=xs.dropLast:=by
 unfold J1 HT.Kr;rw[List.dropLast_eq_take];simp only[List.drop_zero,Nat.sub_zero];rw[if_pos (by decide)]
 congr 1
 omega
section
variable {κ:Type}[DecidableEq κ]
def BJ (kvs:List (κ×V))(k:κ):Option V:=(kvs.find? fun kv=>decide (kv.1=k)).map (·.2)
def putK (kvs:List (κ×V))(k:κ)(v:V):List (κ×V):=
 if(kvs.any fun kv=>decide (kv.1=k))=true then kvs.map (fun kv=>if kv.1=k then(kv.1,v) else kv) else kvs++[(k,v)]
def Uk (kvs:List (κ×V))(k:κ):List (κ×V):=kvs.filter fun kv=>decide (kv.1≠k)
theorem FD {p:κ×V}{r:List (κ×V)}{k:κ}(e:p.1=k):BJ (p::r) k=some p.2:=by simp[BJ,List.find?_cons,e]
theorem Fy {p:κ×V}{r:List (κ×V)}{k:κ}(e:¬p.1=k):BJ (p::r) k=BJ r k:=by simp[BJ,List.find?_cons,e]
theorem JN (k:κ):∀kvs:List (κ×V),(kvs.any fun kv=>decide (kv.1=k))=(BJ kvs k).isSome
 |[]=>rfl
 |p::r=>by
  rw[List.any_cons]
  by_cases e:p.1=k
  ·simp only[FD e,decide_eq_true e,Bool.true_or,Option.isSome_some]
  ·rw[Fy e,decide_eq_false e,Bool.false_or];exact JN k r
theorem FP (kvs:List (κ×V))(k:κ)(v:V):(putK kvs k v).length<=kvs.length+1:=by
 unfold putK
 split
 ·rw[List.length_map];omega
 ·rw[List.length_append,List.length_cons,List.length_nil];omega
theorem GT {kvs:List (κ×V)}{k:κ}(v:V)(h:BJ kvs k=none):putK kvs k v=kvs++[(k,v)]:=by
 unfold putK;rw[JN,h];exact if_neg (by decide)
theorem Eb.isSome_eq {o:Option V}{u:Option Value}(r:Eb o u):o.isSome=u.isSome:=by
 cases o with
 |none=>cases u with
  |none=>rfl
  |some _=>exact(show False from r).elim
 |some _=>cases u with
  |none=>exact(show False from r).elim
  |some _=>rfl
theorem Eb.getD {o:Option V}{u:Option Value}{d:V}{d':Value}(r:Eb o u)(rd:RelV d d'):RelV (o.getD d) (u.getD d'):=by
 cases o with
 |none=>cases u with
  |none=>exact rd
  |some _=>exact(show False from r).elim
 |some _=>cases u with
  |none=>exact(show False from r).elim
  |some _=>exact r
theorem KV.val {kvs:List (κ×V)}{vs:List (κ×Value)}(r:KV kvs vs)(k:κ):Eb (BJ kvs k) (valueAt vs k):=by
 unfold KV at r
 induction r with
 |nil=>exact True.intro
 |@cons p q ps qs h t ih=>
  obtain⟨h1,h2⟩:=h
  by_cases e:p.1=k
  ·have e':q.1=k:=h1.symm.trans e;have b:valueAt (q::qs) k=some q.2:=by simp[valueAt,List.find?_cons,e']
   rw[FD e,b];exact h2
  ·have e':¬q.1=k:=fun z=>e (h1.trans z)
   have b:valueAt (q::qs) k=valueAt qs k:=by simp[valueAt,List.find?_cons,e']
   rw[Fy e,b];exact ih
theorem KV.any {kvs:List (κ×V)}{vs:List (κ×Value)}(r:KV kvs vs)(k:κ):(kvs.any fun kv=>decide (kv.1=k))=vs.any fun kv=>decide (kv.1=k):=by
 unfold KV at r
 induction r with
 |nil=>rfl
 |cons h t ih=>rw[List.any_cons,List.any_cons,ih,h.1]
theorem KV.repl {kvs:List (κ×V)}{vs:List (κ×Value)}(r:KV kvs vs)(k:κ){y:V}{u:Value}(ry:RelV y u) :
  KV (kvs.map fun kv=>if kv.1=k then(kv.1,y) else kv) (vs.map fun kv=>if kv.1=k then(kv.1,u) else kv):=by
 unfold KV at r ⊢
 induction r with
 |nil=>exact .nil
 |@cons p q ps qs h t ih=>
  rw[List.map_cons,List.map_cons];refine .cons ?_ ih;obtain⟨h1,h2⟩:=h
  by_cases e:p.1=k
  ·rw[if_pos e,if_pos (h1.symm.trans e)];exact⟨h1,ry⟩
  ·rw[if_neg e,if_neg (fun z=>e (h1.trans z))];exact⟨h1,h2⟩
theorem KV.put {kvs:List (κ×V)}{vs:List (κ×Value)}(r:KV kvs vs)(k:κ){y:V}{u:Value}(ry:RelV y u):KV (putK kvs k y) (stored vs k u):=by
 unfold putK stored;rw[r.any k]
 by_cases e:(vs.any fun kv=>decide (kv.1=k))=true
 ·rw[if_pos e,if_pos e];exact r.repl k ry
 ·rw[if_neg e,if_neg e];exact Paired.snoc r ⟨rfl,ry⟩
theorem KV.drop {kvs:List (κ×V)}{vs:List (κ×Value)}(r:KV kvs vs)(k:κ):KV (Uk kvs k) (without vs k):=by
 unfold KV at r ⊢;unfold Uk without
 induction r with
 |nil=>exact .nil
 |@cons p q ps qs h t ih=>
  obtain⟨h1,h2⟩:=h;rw[List.filter_cons,List.filter_cons]
  by_cases e:p.1=k
  ·have a:¬decide (p.1≠k)=true:=by simp[e]
   have b:¬decide (q.1≠k)=true:=by simp[h1.symm.trans e]
   rw[if_neg a,if_neg b];exact ih
  ·have e':¬q.1=k:=fun z=>e (h1.trans z)
   have a:decide (p.1≠k)=true:=by simp[e]
   have b:decide (q.1≠k)=true:=by simp[e']
   rw[if_pos a,if_pos b];exact .cons ⟨h1,h2⟩ ih
theorem KV.length {kvs:List (κ×V)}{vs:List (κ×Value)}(r:KV kvs vs):kvs.length=vs.length:=Paired.length r
end
theorem JQ {P:Program}{w:World}{k:Key}{u:Value}(r:RelV (kV k) u):(AQ P w).is k u=true:=by
 cases k with
 |inl i=>obtain⟨t,e⟩:=(show ∃t,u=Value.int i t from r);subst e;exact MV P w i t
 |inr x=>obtain⟨t,e⟩:=(show ∃t,u=Value.str x t from r);subst e;exact MX P w x t
theorem KO {P:Program}{w:World}:∀{ks:List Key} {us:List Value},Aw (ks.map kV) us->ItemsAre (AQ P w) ks us
 |[],_,r=>by rw[List.map_nil] at r;cases r;exact .nil
 |k::ks,_,r=>by
  rw[List.map_cons] at r;cases r with
  |cons h t=>exact .cons (JQ h) (KO t)
abbrev KT (H:Hp):List (List Key×V)->List (List Key×Addr×Value)->Prop:=Paired fun p q=>p.1=q.1/\H q.2.1=some (.tup (p.1.map kV))/\RelV p.2 q.2.2
theorem KT.val {H:Hp}{kvs:List (List Key×V)}{xs:List (List Key×Addr×Value)}(r:KT H kvs xs)(k:List Key):Eb (BJ kvs k) ((atKey xs k).map (·.2)):=by
 induction r with
 |nil=>exact True.intro
 |@cons p q ps qs h t ih=>
  obtain⟨h1,_,h2⟩:=h
  by_cases e:p.1=k
  ·have e':q.1=k:=h1.symm.trans e;have b:atKey (q::qs) k=some q.2:=by simp[atKey,List.find?_cons,e']
   rw[FD e,b];exact h2
  ·have e':¬q.1=k:=fun z=>e (h1.trans z)
   have b:atKey (q::qs) k=atKey qs k:=by simp[atKey,List.find?_cons,e']
   rw[Fy e,b];exact ih
theorem KT.repl {H:Hp}{kvs:List (List Key×V)}{xs:List (List Key×Addr×Value)}(r:KT H kvs xs)(k:List Key){y:V}{u:Value}(ry:RelV y u) :
  KT H (kvs.map fun kv=>if kv.1=k then(kv.1,y) else kv) (xs.map (putAt k u)):=by
 induction r with
 |nil=>exact .nil
 |@cons p q ps qs h t ih=>
  rw[List.map_cons,List.map_cons];refine .cons ?_ ih;obtain⟨h1,h2,h3⟩:=h;unfold putAt
  by_cases e:p.1=k
  ·rw[if_pos e,if_pos (h1.symm.trans e)];exact⟨h1,h2,ry⟩
  ·rw[if_neg e,if_neg (fun z=>e (h1.trans z))];exact⟨h1,h2,h3⟩
theorem KT.put {H:Hp}{kvs:List (List Key×V)}{xs:List (List Key×Addr×Value)}(r:KT H kvs xs)(k:List Key){b:Addr}{y:V}{u:Value}(hb:H b=some (.tup (k.map kV)))(ry:RelV y u) :
  KT H (putK kvs k y) (storedH xs k b u):=by
 have e:(kvs.any fun kv=>decide (kv.1=k))=(atKey xs k).isSome:=by
  rw[JN,(r.val k).isSome_eq,Option.isSome_map]
 unfold putK storedH;rw[e]
 by_cases q:(atKey xs k).isSome=true
 ·rw[if_pos q,if_pos q];exact r.repl k ry
 ·rw[if_neg q,if_neg q];exact Paired.snoc r ⟨rfl,hb,ry⟩
theorem KT.keeps {H H':Hp}{kvs:List (List Key×V)}{xs:List (List Key×Addr×Value)}(r:KT H kvs xs)(ht:∀b ys,H b=some (.tup ys)->H' b=some (.tup ys)):KT H' kvs xs:=
 Paired.mapP r fun _ _ z=>⟨z.1,ht _ _ z.2.1,z.2.2⟩
section
variable {P:Program}{w:World}{H:Hp}{h:Heap}{a:Addr}
theorem Uq {u:HO}(ok:Gb P w H h)(e:Rd H a u):AN P w H h a u:=e.ok ok
theorem Lb {kvs:List (Key×V)}(ok:Gb P w H h)(e:Rd H a (.dK kvs)):kvs.length<=sizeLine/\(a == sysModules)=false/\∃vs,KV kvs vs/\h.DictOf (AQ P w) a vs:=
 show AN P w H h a (.dK kvs) from Uq ok e
theorem Ur {kvs:List (Key×V)}(ok:Gb P w H h)(e:H a=some (.dK kvs)):kvs.length<=sizeLine/\(a == sysModules)=false/\∃vs,KV kvs vs/\h.DictOf (AQ P w) a vs:=Lb ok (.inl e)
theorem Jv {ks:List Key}(ok:Gb P w H h)(e:H a=some (.tup (ks.map kV))):(tupleKind (AQ P w)).is h ks a:=by
 obtain⟨_,its,r,o,h1,h2,n,h3⟩:=(show AN P w H h a (.tup (ks.map kV)) from ok a _ e)
 exact⟨o,its.toArray,n,h1,h2,h3.1,by simpa using KO r⟩
theorem KW {kvs:List (List Key×V)}(ok:Gb P w H h)(e:Rd H a (.dT kvs)):kvs.length<=sizeLine/\(a == sysModules)=false/\
  ∃xs,KT H kvs xs/\h.DictOfH (tupleKind (AQ P w)) a xs:=by
 obtain⟨z,y,xs,r,o,es,ep,h1,h2,h3,h4,h5⟩:=(show AN P w H h a (.dT kvs) from Uq ok e)
 refine⟨z,y,xs,r,o,es,ep,h1,h2,h3,h4,fun x hx=>?_,h5⟩;have all:∀{l:List (List Key×V)} {m:List (List Key×Addr×Value)},KT H l m->∀x∈m,(tupleKind (AQ P w)).is h x.1 x.2.1:=by
  intro l m q
  induction q with
  |nil=>intro x hx;exact nomatch hx
  |@cons p q ps qs hq t ih=>
   intro x hx;rcases List.mem_cons.mp hx with e|hx
   ·subst e;exact Jv ok (by rw[<-hq.1];exact hq.2.1)
   ·exact ih x hx
 exact all r x hx
theorem Wb {kvs:List (List Key×V)}(ok:Gb P w H h)(e:H a=some (.dT kvs)):kvs.length<=sizeLine/\(a == sysModules)=false/\
  ∃xs,KT H kvs xs/\h.DictOfH (tupleKind (AQ P w)) a xs:=KW ok (.inl e)
end
def Dm (H:Hp)(a:Addr)(y:V)(r:Option V):Prop:=
 (∃kvs k,Rd H a (.dK kvs)/\y=kV k/\r=BJ kvs k)\/∃kvs k b,Rd H a (.dT kvs)/\y=.ref b/\H b=some (.tup (k.map kV))/\r=BJ kvs k
def LO (H:Hp)(a:Addr)(y v:V)(H':Hp):Prop:=
 (∃kvs k,H a=some (.dK kvs)/\y=kV k/\kvs.length<sizeLine/\H'=upd H a (.dK (putK kvs k v)))\/
 ∃kvs k b,H a=some (.dT kvs)/\y=.ref b/\H b=some (.tup (k.map kV))/\kvs.length<sizeLine/\H'=upd H a (.dT (putK kvs k v))
theorem Dm.k {H:Hp}{a:Addr}{kvs:List (Key×V)}{k:Key}(e:H a=some (.dK kvs)):Dm H a (kV k) (BJ kvs k):=.inl ⟨kvs,k,.inl e,rfl,rfl⟩
theorem Dm.t {H:Hp}{a b:Addr}{kvs:List (List Key×V)}{k:List Key}(e:H a=some (.dT kvs))(eb:H b=some (.tup (k.map kV))):Dm H a (.ref b) (BJ kvs k):=.inr ⟨kvs,k,b,.inl e,rfl,eb,rfl⟩
theorem LO.k {H:Hp}{a:Addr}{kvs:List (Key×V)}{k:Key}{v:V}(e:H a=some (.dK kvs))(hl:kvs.length<sizeLine):LO H a (kV k) v (upd H a (.dK (putK kvs k v))):=.inl ⟨kvs,k,e,rfl,hl,rfl⟩
theorem LO.t {H:Hp}{a b:Addr}{kvs:List (List Key×V)}{k:List Key}{v:V}(e:H a=some (.dT kvs))(eb:H b=some (.tup (k.map kV)))(hl:kvs.length<sizeLine) :
  LO H a (.ref b) v (upd H a (.dT (putK kvs k v))):=.inr ⟨kvs,k,b,e,rfl,eb,hl,rfl⟩
section
variable {X:Cx}{pins:List (Addr×Obj)}{σ:St}{H:Hp}{s:Shared}{a:Addr}{y v:V}{u r:Value}{o:Option V}{A:Around}{E:Value->Shared->Prop}
theorem Inv.big (I:Inv X pins σ H s):sysModules<s.heap.objs.size:=by
 have h:mainGlobals<s.heap.objs.size:=(I.mod.glob.keeps I.bk).lt;exact Nat.lt_trans (by decide) h
theorem Qo {Q:Value->Shared->Prop}(hu:A.units+1<cLine)(I:Inv X pins σ H s)(g:Dm H a y (some v))(ry:RelV y u)(h:∀w' s',Inv X pins σ H s'->RelV v w'->Q w' s') :
  wpAny (model X.prog X.w) A (getItem (.ref a) u) Q E s:=by
 rcases g with⟨kvs,k,e,ey,l⟩|⟨kvs,k,b,e,ey,eb,l⟩
 ·subst ey;obtain⟨z,hd,vs,rel,dd⟩:=Lb I.hok e;obtain⟨w',hw,rw'⟩:=Eb.some_of (v:=v) (o:=valueAt vs k) (by rw[l];exact rel.val k);exact wpAny_getItem_of (JQ ry) dd.mapOf hw (h w' _ (I.tok _) rw')
 ·subst ey;cases(show u=Value.ref b from ry);obtain⟨z,hd,xs,rel,dd⟩:=KW I.hok e;obtain⟨w',hw,rw'⟩:=Eb.some_of (v:=v) (o:=(atKey xs k).map (·.2)) (by rw[l];exact rel.val k);obtain⟨p,hp,hp2⟩:=Option.map_eq_some_iff.mp hw;refine wpAny_getItem_heap (tupleKind_room_in1 hu) (Jv I.hok eb) dd hp ?_;rw[hp2];exact h w' _ (I.tok _) rw'
theorem WD {Q:Value->Shared->Prop}(hu:A.units+1<cLine)(I:Inv X pins σ H s)(g:Dm H a y o)(ry:RelV y u)(h:∀s',Inv X pins σ H s'->Q (.bool o.isSome) s') :
  wpAny (model X.prog X.w) A (compareOp .In u (.ref a)) Q E s:=by
 rcases g with⟨kvs,k,e,ey,l⟩|⟨kvs,k,b,e,ey,eb,l⟩
 ·subst ey;obtain⟨z,hd,vs,rel,dd⟩:=Lb I.hok e;refine wpAny_in_of (JQ ry) hd dd.mapOf ?_;rw[<-(rel.val k).isSome_eq,<-l];exact h _ (I.tok _)
 ·subst ey;cases(show u=Value.ref b from ry);obtain⟨z,hd,xs,rel,dd⟩:=KW I.hok e;refine wpAny_in_heap (tupleKind_room_in1 hu) (Jv I.hok eb) hd dd ?_;have q:=(rel.val k).isSome_eq;rw[Option.isSome_map] at q;rw[<-q,<-l];exact h _ (I.tok _)
theorem LC {h':Heap}{t':Nat}{ob:HO}(I:Inv X pins σ H s)(mu:VU (H a))(hs:Heap.SameBut a s.heap h')(he:∃q,h'.get? a=some q)(new:AN X.prog X.w (upd H a ob) h' a ob) :
  Inv X pins σ (upd H a ob) { s with heap:=h',toks:=t' }:=
 I.write (x:=a) (e:=a) mu (.inl rfl) (fun b q hb z=>(hs.2 b hb).trans z) he new
theorem RI {P:Program}{w:World}{H':Hp}{h':Heap}{kvs:List (Key×V)}{vs:List (Key×Value)}(z:kvs.length<=sizeLine)(hd:(a == sysModules)=false)(rel:KV kvs vs)(dd:h'.DictOf (AQ P w) a vs) :
  AN P w H' h' a (.dK kvs):=⟨z,hd,vs,rel,dd⟩
theorem Qk {H':Hp}{Q:Unit->Shared->Prop}(hu:A.units+1<cLine)(I:Inv X pins σ H s)(g:LO H a y v H')(ry:RelV y u)(rv:RelV v r)(h:∀s',Inv X pins σ H' s'->Q () s') :
  wpAny (model X.prog X.w) A (setItem (.ref a) u r) Q E s:=by
 rcases g with⟨kvs,k,e,ey,l,eH⟩|⟨kvs,k,b,e,ey,eb,l,eH⟩
 ·subst ey eH;obtain⟨z,hd,vs,rel,dd⟩:=Ur I.hok e;have hz:vs.length<=sizeLine:=by rw[<-rel.length];exact z
  have hl:(putK kvs k v).length<=sizeLine:=by have:=FP kvs k v;omega
  refine wpAny_setItem_pairs (hsz:=hz) (JQ ry) dd fun h' dd' hs=>h _ ?_
  have he:∃q,h'.get? a=some q:=let⟨q,_,_,hq,_⟩:=dd';⟨q,hq⟩;exact LC I (by rw[e];exact True.intro) hs he (RI hl hd (rel.put k rv) dd')
 ·subst ey eH;cases(show u=Value.ref b from ry);obtain⟨z,hd,xs,rel,dd⟩:=Wb I.hok e;have hz:xs.length<=sizeLine:=by rw[<-Paired.length rel];exact z
  have hl:(putK kvs k v).length<=sizeLine:=by have:=FP kvs k v;omega
  refine wpAny_setItem_heap (hsz:=hz) (tupleKind_room_in1 hu) (Jv I.hok eb) dd fun h' dd' hs=>h _ ?_
  obtain⟨q,es,ep,hq,h2,h3,h4,_,h5⟩:=dd';refine LC I (by rw[e];exact True.intro) hs ⟨q,hq⟩ ⟨hl,hd,_,(rel.put k eb rv).keeps fun c ys ec=>?_,q,es,ep,hq,h2,h3,h4,h5⟩;rw[Ag (Ce ec e (fun z=>nomatch z))];exact ec
end
def VM (i:Expr):Prop:=∀ov iv,subscripted i false ov iv=operate [ov,iv] (getItem ov iv)
theorem Tb {prog:Program} {w:World} {A:Around} {E:Value->Shared->Prop} {s:Shared} {env:Env} {value slice:Expr} {pos:Pos} {T id:String} {Q:Value->Shared->Prop}
  (hl:typeLookup (.type T) "__getitem__"=pure (some (.builtin id))) (hs:VM slice)
  (h:wpAny (model prog w) A (eval value env) (fun o s₁=>wpAny (model prog w) A (eval slice env) (fun i s₂=>s₂.TypeIs o T/\wpAny (model prog w) A (getItem o i) Q E s₂) E s₁) E s) :
  wpAny (model prog w) A (eval (.Subscript value slice pos) env) Q E s:=by
 refine Subscript_ (wpAny_mono h (fun o s₁ h₁=>wpAny_mono h₁ (fun i s₂ h₂=>?_) fun _ _ x=>x) fun _ _ x=>x);obtain⟨hT,h₂⟩:=h₂;unfold subscriptTail;refine wpAny_bind ?_;rw[getitemInPython_of_ne hT.not_modules];refine wpAny_bind (wpAny_specialOf hT hl ?_);have fin:wpAny (model prog w) A (subscripted slice false o i) (fun r s₃=>wpAny (model prog w) A (letTemporaryGo value o r >>= fun _=>pure r) Q E s₃) E s₂:=by
  rw[hs o i];exact wpAny_operating (wpAny_mono h₂ (fun r s₃ h₃=>wpAny_bind (wpAny_letTemporaryGo (wpAny_pure h₃))) fun _ _ x=>x)
 first
  |exact wpAny_pure (wpAny_bind fin)
  |exact wpAny_bind (wpAny_pure (wpAny_bind fin))
  |exact wpAny_bind fin
theorem M9 {X:Cx}{pins:List (Addr×Obj)}{σ:St}{H:Hp}{s:Shared}{a:Addr}{y:V}{o:Option V}(I:Inv X pins σ H s)(g:Dm H a y o):s.TypeIs (.ref a) "dict":=by
 rcases g with⟨kvs,k,e,_,_⟩|⟨kvs,k,b,e,_,_,_⟩
 ·obtain⟨_,_,vs,_,dd⟩:=Lb I.hok e;exact dd.typeIs
 ·obtain⟨_,_,xs,_,dd⟩:=KW I.hok e;exact dd.typeIs
def VY (td ty:TE):TE:=fun σ H Q=>td σ H fun x H1=>ty σ H1 fun y H2=>∃a v,x=.ref a/\Dm H2 a y (some v)/\Q v H2
def WB (ty td:TE):TE:=fun σ H Q=>ty σ H fun y H1=>td σ H1 fun x H2=>∃a o,x=.ref a/\Dm H2 a y o/\Q (.bl o.isSome) H2
def V9 (td ty tv:TE):TS:=fun D σ H=>tv σ H fun v H1=>td σ H1 fun x H2=>ty σ H2 fun y H3=>∃a H4,x=.ref a/\LO H3 a y v H4/\D.nx σ H4
section
variable {X:Cx}{o i e value:Expr}{pos pos' tpos:Pos}{td ty tv:TE}
theorem G7 (hu:X.A.units+1<cLine)(ho:PE X o td)(hi:PE X i ty)(hs:VM i):PE X (.Subscript o i pos) (VY td ty):=by
 intro pins s σ H Q I h;refine Tb PySem.F.slot_dict_getitem.lookup hs (Ba (ho pins s σ H _ I h) fun u s1 ⟨x,H1,I1,rx,q1⟩=>Ba (hi pins s1 σ H1 _ I1 q1) fun iv s2 ⟨y,H2,I2,ry,a,v,ex,g,q2⟩=>?_);subst ex;obtain rfl:u=Value.ref a:=rx;exact⟨M9 I2 g,Qo hu I2 g ry fun w' s3 I3 rw'=>⟨v,H2,I3,rw',q2⟩⟩
theorem RN (hu:X.A.units+1<cLine)(hi:PE X i ty)(ho:PE X o td):PC X .In i o (WB ty td):=by
 intro pins s σ H Q I h;refine Ba (hi pins s σ H _ I h) fun iv s1 ⟨y,H1,I1,ry,q1⟩=>Ba (ho pins s1 σ H1 _ I1 q1) fun u s2 ⟨x,H2,I2,rx,a,ov,ex,g,q2⟩=>?_
 subst ex;obtain rfl:u=Value.ref a:=rx;exact WD hu I2 g ry fun s3 I3=>⟨.bl ov.isSome,H2,I3,rfl,q2⟩
theorem Lm (hu:X.A.units+1<cLine)(ho:PE X o td)(hi:PE X i ty)(hv:PE X value tv)(hs:swapsWith value (some (.Subscript o i pos')) pos.line X.env=pure false) :
  PS X (.Assign [.Subscript o i pos'] value pos) (V9 td ty tv):=by
 intro pins s σ H D I h;refine wpAny_Assign_Subscript (Ba (hv pins s σ H _ I h) fun r s1 ⟨v,H1,I1,rv,q1⟩=>Ba (ho pins s1 σ H1 _ I1 q1) fun u s2 ⟨x,H2,I2,rx,q2⟩=>Ba (hi pins s2 σ H2 _ I2 q2) fun iv s3 ⟨y,H3,I3,ry,a,H4,ex,g,q3⟩=>?_) hs;subst ex;obtain rfl:u=Value.ref a:=rx;exact Qk hu I3 g ry rv fun s4 I4=>⟨σ,H4,I4,q3⟩
end
theorem Ry {P:Program}{w:World}{H:Hp}(h:Heap)(hb:sysModules<h.objs.size):AN P w H (h.push { cls:=.type "dict",data:=.dict #[] }) h.objs.size (.dK []):=
 ⟨Nat.zero_le _,beq_eq_false_iff_ne.mpr (Ne.symm (Nat.ne_of_lt hb)),[],.nil,Heap.DictOf.new h⟩
def UA:TE:=fun _ H Q=>∀p,H p=none->Q (.ref p) (upd H p (.dK []))
section
variable {X:Cx}{pos:Pos}
theorem EG:PE X (.Dict [] [] pos) UA:=fun pins s σ H Q I h=>
 wpAny_Dict_empty ⟨.ref s.heap.objs.size,_,I.laid (a:=s.heap.objs.size) (o:=.dK []) (t':=s.toks) (fun _ _ q=>Heap.get?_push_of_some _ q) (Nat.le_refl _) (Ry s.heap I.big),rfl,h _ (I.hok.fresh (Nat.le_refl _))⟩
end
structure M1 (X:Cx) (o:Expr) (m:Str) (apos:Pos) (e:Expr) (cpos:Pos):Prop where
 base:attributeBase o m X.env (eval o X.env)=eval o X.env
 few:((backTo cpos (starEach [e] X.env)).all (fun x=>!x.1)&&(backToKw cpos (keywordEach [] X.env)).all (fun x=>x.1.isSome)
  && decide (([e]:List Expr).length+([]:List Keyword).length+(if([]:List Keyword).isEmpty then 0 else 1)<30))=true
 line:(apos.endLine == cpos.line)=true
 trees:backTo cpos (starEach [e] X.env)=[(false,eval e X.env)]
structure M2 (X:Cx) (o:Expr) (m:Str) (apos:Pos) (e f:Expr) (cpos:Pos):Prop where
 base:attributeBase o m X.env (eval o X.env)=eval o X.env
 few:((backTo cpos (starEach [e,f] X.env)).all (fun x=>!x.1)&&(backToKw cpos (keywordEach [] X.env)).all (fun x=>x.1.isSome)
  && decide (([e,f]:List Expr).length+([]:List Keyword).length+(if([]:List Keyword).isEmpty then 0 else 1)<30))=true
 line:(apos.endLine == cpos.line)=true
 trees:backTo cpos (starEach [e,f] X.env)=[(false,eval e X.env),(false,eval f X.env)]
def W6 (H:Hp)(a:Addr):Prop:=(∃kvs,Rd H a (.dK kvs))\/∃kvs,Rd H a (.dT kvs)
theorem QV {X:Cx}{pins:List (Addr×Obj)}{σ:St}{H:Hp}{s:Shared}{a:Addr}(I:Inv X pins σ H s)(d:W6 H a) :
  s.TypeIs (.ref a) "dict"/\(∀b,Value.ref a=.ref b->∃ob,s.heap.get? b=some ob/\ob.dict=none)/\(a == sysModules)=false:=by
 rcases d with⟨kvs,e⟩|⟨kvs,e⟩
 ·obtain⟨_,hd,vs,_,dd⟩:=Lb I.hok e;refine⟨dd.typeIs,fun b q=>?_,hd⟩;cases q;obtain⟨ob,_,_,h1,h2,_⟩:=dd;exact⟨ob,h1,h2.2.1⟩
 ·obtain⟨_,hd,xs,_,dd⟩:=KW I.hok e;refine⟨dd.typeIs,fun b q=>?_,hd⟩;cases q;obtain⟨ob,_,_,h1,h2,_⟩:=dd;exact⟨ob,h1,h2.2.1⟩
section
variable {X:Cx}{pins:List (Addr×Obj)}{σ:St}{H:Hp}{s:Shared}{a:Addr}{y d:V}{u r:Value}{o:Option V}{A:Around}{E:Value->Shared->Prop}
theorem UR {Q:Value->Shared->Prop}(hu:A.units+1<cLine)(I:Inv X pins σ H s)(g:Dm H a y o)(ry:RelV y u)(rd:RelV d r)(h:∀w' s',Inv X pins σ H s'->RelV (o.getD d) w'->Q w' s') :
  wpAny (model X.prog X.w) A (call (.builtin "dict.get") [.ref a,u,r]) Q E s:=by
 rcases g with⟨kvs,k,e,ey,l⟩|⟨kvs,k,b,e,ey,eb,l⟩
 ·subst ey;obtain⟨z,hd,vs,rel,dd⟩:=Lb I.hok e;refine call_meetsIn PySem.F.slot_dict_get dd.typeIs PySem.F.entry_dict_get (PySem.F.args_dict_get_3 _ _ _) (meets_dict_get_default (AQ X.prog X.w) a (JQ ry) hd r) ⟨_,dd.mapOf,h _ _ (I.tok _) ?_⟩;rw[l];exact(rel.val k).getD rd
 ·subst ey;cases(show u=Value.ref b from ry);obtain⟨z,hd,xs,rel,dd⟩:=KW I.hok e;refine call_meetsIn PySem.F.slot_dict_get dd.typeIs PySem.F.entry_dict_get (PySem.F.args_dict_get_3 _ _ _) (meetsH_dict_get_default (tupleKind (AQ X.prog X.w)) a b hd r) ⟨tupleKind_room_in1 hu,k,xs,Jv I.hok eb,dd,h _ _ (I.tok _) ?_⟩;rw[l];exact(rel.val k).getD rd
end
def UY (td ty tx:TE):TE:=fun σ H Q=>td σ H fun x H1=>∃a,x=.ref a/\W6 H1 a/\ty σ H1 fun y H2=>tx σ H2 fun z H3=>∃o,Dm H3 a y o/\Q (o.getD z) H3
section
variable {X:Cx}{o e f:Expr}{apos cpos:Pos}{td ty tx:TE}
theorem QH (hu:X.A.units+1<cLine)(ho:PE X o td)(he:PE X e ty)(hf:PE X f tx)(m:M2 X o "get" apos e f cpos):PE X (.Call (.Attribute o "get" apos) [e,f] [] cpos) (UY td ty tx):=by
 intro pins s σ H Q I h;refine wpAny_Call_method m.base m.few m.line PySem.F.plainAttrs_dict PySem.F.slot_dict_get PySem.F.type_dict_get (Ba (ho pins s σ H _ I h) fun u s1 ⟨x,H1,I1,rx,a,ex,d,q1⟩=>?_);subst ex;obtain rfl:u=Value.ref a:=rx;obtain⟨t1,t2,_⟩:=QV I1 d;refine⟨t1,t2,?_⟩;rw[m.trees];refine Calls.callWith_builtin rfl (Calls.evalArgs_plain (Calls.spliced_cons (Ba (he pins s1 σ H1 _ I1 q1) fun iv s2 ⟨y,H2,I2,ry,q2⟩=>
  Calls.spliced_cons (Ba (hf pins s2 σ H2 _ I2 q2) fun fv s3 ⟨z,H3,I3,rz,ov,g,q3⟩=>Calls.spliced_nil ?_))))
 exact UR hu I3 g ry rz fun w' s4 I4 rw'=>⟨_,H3,I4,rw',q3⟩
end
inductive Tr where
 |non
 |bl (b:Bool)
 |int (i:Int)
 |str (z:Str)
 |tup (ts:List Tr)
 |lst (ts:List Tr)
mutual
def Rep (F:Addr->Prop)(H:Hp):Tr->V->Prop
 | .non,v=>v=.non
 | .bl b,v=>v=.bl b
 | .int i,v=>v=.int i
 | .str z,v=>v=.str z
 | .tup ts,v=>∃a vs,v=.ref a/\H a=some (.tup vs)/\Ax F H ts vs
 | .lst ts,v=>∃a vs,v=.ref a/\F a/\H a=some (.lst vs)/\Ax F H ts vs
def Ax (F:Addr->Prop)(H:Hp):List Tr->List V->Prop
 |[],vs=>vs=[]
 |t::ts,vs=>∃v us,vs=v::us/\Rep F H t v/\Ax F H ts us
end
mutual
def Tr.dep:Tr->Nat
 | .tup ts=>1+Tr.deps ts
 | .lst ts=>1+Tr.deps ts
 |_=>1
def Tr.deps:List Tr->Nat
 |[]=>0
 |t::ts=>max (Tr.dep t) (Tr.deps ts)
end
mutual
def Tr.ok:Tr->Prop
 | .str z=>z.length<=1000
 | .tup ts=>ts.length<=1000/\Tr.oks ts
 | .lst ts=>ts.length<=1000/\Tr.oks ts
 |_=>True
def Tr.oks:List Tr->Prop
 |[]=>True
 |t::ts=>Tr.ok t/\Tr.oks ts
end
mutual
theorem Rep.same {F:Addr->Prop}{H H':Hp}(s:Am H H'):∀(t:Tr) (v:V),Rep F H t v->Rep F H' t v
 | .non,_,h=>h
 | .bl _,_,h=>h
 | .int _,_,h=>h
 | .str _,_,h=>h
 | .tup ts,_,⟨a,vs,e,ha,hr⟩=>⟨a,vs,e,s.get ha,Ax.same s ts vs hr⟩
 | .lst ts,_,⟨a,vs,e,fa,ha,hr⟩=>⟨a,vs,e,fa,s.get ha,Ax.same s ts vs hr⟩
theorem Ax.same {F:Addr->Prop}{H H':Hp}(s:Am H H'):∀(ts:List Tr) (vs:List V),Ax F H ts vs->Ax F H' ts vs
 |[],_,h=>h
 |t::ts,_,⟨v,us,e,h1,h2⟩=>⟨v,us,e,Rep.same s t v h1,Ax.same s ts us h2⟩
end
theorem Ax.len {F:Addr->Prop}{H:Hp}:∀(ts:List Tr) (vs:List V),Ax F H ts vs->vs.length=ts.length
 |[],_,h=>by rw[show _=[] from h];rfl
 |t::ts,_,⟨v,us,e,_,h2⟩=>by rw[e,List.length_cons,List.length_cons,Ax.len ts us h2]
theorem Ax.get {F:Addr->Prop}{H:Hp}:∀{ts:List Tr} {vs:List V},Ax F H ts vs->∀{i:Nat} {v:V},vs[i]?=some v->∃t,ts[i]?=some t/\Rep F H t v
 |[],_,h,i,v,hv=>by rw[show _=[] from h] at hv;simp at hv
 |t::ts,_,⟨w,us,e,h1,h2⟩,0,v,hv=>by
  rw[e] at hv;cases(Option.some.inj hv);exact⟨t,rfl,h1⟩
 |t::ts,_,⟨w,us,e,h1,h2⟩,i+1,v,hv=>by
  rw[e] at hv;obtain⟨t',e1,e2⟩:=Ax.get h2 (i:=i) (v:=v) (by simpa using hv);exact⟨t',by simpa using e1,e2⟩
theorem Ax.append {F:Addr->Prop}{H:Hp}:∀{ts us:List Tr} {vs ws:List V},Ax F H ts vs->Ax F H us ws->Ax F H (ts++us) (vs++ws)
 |[],us,_,ws,h,h2=>by rw[show _=[] from h];exact h2
 |t::ts,us,_,ws,⟨w,vs,e,h1,hr⟩,h2=>by
  rw[e];exact⟨w,vs++ws,rfl,h1,Ax.append hr h2⟩
theorem Ax.one {F:Addr->Prop}{H:Hp}{t:Tr}{v:V}(h:Rep F H t v):Ax F H [t] [v]:=⟨v,[],rfl,h,rfl⟩
theorem Rep.ok {F:Addr->Prop}{H:Hp}:∀{t:Tr} {v:V},Rep F H t v->t.ok->Ok H v
 | .non,_,h,_=>by rw[show _=V.non from h];trivial
 | .bl _,_,h,_=>by rw[show _=V.bl _ from h];trivial
 | .int _,_,h,_=>by rw[show _=V.int _ from h];trivial
 | .str z,_,h,o=>by rw[show _=V.str z from h];exact o
 | .tup ts,_,⟨a,vs,e,ha,_⟩,_=>by rw[e];exact .inr ⟨vs,ha⟩
 | .lst ts,_,⟨a,vs,e,_,ha,_⟩,_=>by rw[e];exact .inl ⟨vs,ha⟩
section
variable {X:Cx}{pins:List (Addr×Obj)}{σ:St}{H:Hp}{s:Shared}{F G:Addr->Prop}
mutual
theorem U9 (I:Inv X pins σ H s):∀(t:Tr) (A:Around) (v u:V) (vv uu:Value),A.units+t.dep<cLine->Rep F H t v->Rep G H t u->RelV v vv->RelV u uu->SeqAt.EqAt A s vv uu true
 | .non,A,v,u,vv,uu,_,h1,h2,r1,r2=>by
  rw[show v=V.non from h1] at r1;rw[show u=V.non from h2] at r2;cases r1;cases r2;exact SeqAt.EqAt.same _
 | .bl b,A,v,u,vv,uu,_,h1,h2,r1,r2=>by
  rw[show v=V.bl b from h1] at r1;rw[show u=V.bl b from h2] at r2;cases r1;cases r2;exact SeqAt.EqAt.same _
 | .int i,A,v,u,vv,uu,_,h1,h2,r1,r2=>by
  have:=OC (A:=A) (s:=s) r1 r2 (by rw[show v=V.int i from h1];rfl) (by rw[show u=V.int i from h2];rfl);rw[show v=V.int i from h1,show u=V.int i from h2] at this;have e:RM (V.int i) (V.int i)=true:=by rw[pure_eq rfl rfl];simp
  rw[e] at this;exact this
 | .str z,A,v,u,vv,uu,_,h1,h2,r1,r2=>by
  have:=OC (A:=A) (s:=s) r1 r2 (by rw[show v=V.str z from h1];rfl) (by rw[show u=V.str z from h2];rfl);rw[show v=V.str z from h1,show u=V.str z from h2] at this;have e:RM (V.str z) (V.str z)=true:=by rw[pure_eq rfl rfl];simp
  rw[e] at this;exact this
 | .tup ts,A,v,u,vv,uu,hA,⟨a,vs,e1,ha,hr1⟩,⟨b,us,e2,hb,hr2⟩,r1,r2=>by
  subst e1 e2;cases r1;cases r2
  by_cases hab:a=b
  ·subst hab;exact SeqAt.EqAt.same _
  have hA':A.units+(1+Tr.deps ts)<cLine:=hA;obtain⟨its,rv1,p1,_⟩:=I.tuple (A0.of (K:=X.K) ha);obtain⟨its2,rv2,p2,_⟩:=I.tuple (A0.of (K:=X.K) hb);have l1:=rv1.length.symm.trans (Ax.len ts vs hr1);have l2:=rv2.length.symm.trans (Ax.len ts us hr2);have q:=SeqAt.RcAt.tuples (A:=A) (s:=s) (e:=fun _=>true) p1 p2 (by omega) (fun j g1 g2=>GQ I ts A.in1 vs us its its2 (by show A.units+1+Tr.deps ts<cLine;omega) hr1 hr2 rv1 rv2 j (by simpa using g1) (by simpa using g2));have e:((List.range (min its.toArray.size its2.toArray.size)).all (fun _=>true)&&its.toArray.size == its2.toArray.size)=true:=by
   simp[l1,l2]
  rw[e] at q;exact SeqAt.EqAt.of_refs hab q
 | .lst ts,A,v,u,vv,uu,hA,⟨a,vs,e1,_,ha,hr1⟩,⟨b,us,e2,_,hb,hr2⟩,r1,r2=>by
  subst e1 e2;cases r1;cases r2
  by_cases hab:a=b
  ·subst hab;exact SeqAt.EqAt.same _
  have hA':A.units+(1+Tr.deps ts)<cLine:=hA;obtain⟨its,rv1,p1,_⟩:=I.list (AW.of (K:=X.K) ha);obtain⟨its2,rv2,p2,_⟩:=I.list (AW.of (K:=X.K) hb);have l1:=rv1.length.symm.trans (Ax.len ts vs hr1);have l2:=rv2.length.symm.trans (Ax.len ts us hr2);have q:=SeqAt.RcAt.lists (A:=A) (s:=s) (e:=fun _=>true) p1.isList p2.isList (by simp[l1,l2]) (by omega) (fun j g1 g2=>GQ I ts A.in1 vs us its its2 (by show A.units+1+Tr.deps ts<cLine;omega) hr1 hr2 rv1 rv2 j (by simpa using g1) (by simpa using g2));have e:((List.range its.toArray.size).all (fun _=>true))=true:=by simp
  rw[e] at q;exact SeqAt.EqAt.of_refs hab q
theorem GQ (I:Inv X pins σ H s):∀(ts:List Tr) (A:Around) (vs us:List V) (its its2:List Value),A.units+Tr.deps ts<cLine->Ax F H ts vs->Ax G H ts us->Aw vs its->Aw us its2->∀(j:Nat) (g1:j<its.length) (g2:j<its2.length),SeqAt.EqAt A s its[j] its2[j] true
 |[],A,vs,us,its,its2,_,h1,h2,r1,r2=>fun j g1 g2=>by
  rw[show vs=[] from h1] at r1;cases r1;simp at g1
 |t::ts,A,vs,us,its,its2,hA,⟨v,vr,e1,a1,b1⟩,⟨u,ur,e2,a2,b2⟩,r1,r2=>by
  subst e1 e2;have hA':A.units+max (Tr.dep t) (Tr.deps ts)<cLine:=hA;cases r1 with
  |cons p1 q1=>
   cases r2 with
   |cons p2 q2=>
    intro j g1 g2;cases j with
    |zero=>exact U9 I t A v u _ _ (by omega) a1 a2 p1 p2
    |succ j=>exact GQ I ts A vr ur _ _ (by omega) b1 b2 q1 q2 j (by simpa using g1) (by simpa using g2)
end
end
section
variable {X:Cx}
def Wo:R2:=fun x y H Q=>∃t F G,t.dep<=100/\Rep F H t x/\Rep G H t y/\Q (.bl false) H
theorem NT (hu:X.A.units+150<cLine):Gi X (compareOp .NotEq) Wo:=by
 intro pins s σ H x y v u Q I rx ry h;obtain⟨t,F,G,hd,h1,h2,q⟩:=h;have N3:∀z:V,Q8 z=true\/(∃b,z=.bl b)->x=z->y=z->wpAny (model X.prog X.w) X.A (compareOp .NotEq v u) (EP X pins σ Q) X.xe s:=fun z hz e1 e2=>by
  refine JF pins s σ H x y v u Q I rx ry ⟨?_,?_⟩
  ·subst e1 e2;rcases hz with hz|⟨b,rfl⟩
   ·cases y<;>first|rfl|exact absurd (show false=true from hz) Bool.false_ne_true
   ·rfl
  ·rw[e1,e2];simpa using q
 cases t with
 |non=>exact N3 _ (.inl rfl) h1 h2
 |bl b=>exact N3 _ (.inr ⟨b,rfl⟩) h1 h2
 |int i=>exact N3 (.int i) (.inl rfl) h1 h2
 |str z=>exact N3 (.str z) (.inl rfl) h1 h2
 |tup ts=>
  obtain⟨a,vs,rfl,ha,hr1⟩:=h1;obtain⟨b,us,rfl,hb,hr2⟩:=h2;cases rx;cases ry;have hd':1+Tr.deps ts<=100:=hd;obtain⟨its,rv1,p1,_⟩:=I.tuple (A0.of (K:=X.K) ha);obtain⟨its2,rv2,p2,_⟩:=I.tuple (A0.of (K:=X.K) hb);have l1:=rv1.length.symm.trans (Ax.len ts vs hr1);have l2:=rv2.length.symm.trans (Ax.len ts us hr2);have q2:=SeqAt.RcNeAt.tuples (A:=X.A) (s:=s) (e:=fun _=>true) p1 p2 (by omega) (fun j g1 g2=>GQ I ts X.A.in1 vs us its its2 (by show X.A.units+1+Tr.deps ts<cLine;omega) hr1 hr2 rv1 rv2 j (by simpa using g1) (by simpa using g2));have e:(!((List.range (min its.toArray.size its2.toArray.size)).all (fun _=>true)&&its.toArray.size == its2.toArray.size))=false:=by
   simp[l1,l2]
  rw[e] at q2;exact q2 _ _ _ _ ⟨.bl _,H,I,rfl,q⟩
 |lst ts=>
  obtain⟨a,vs,rfl,_,ha,hr1⟩:=h1;obtain⟨b,us,rfl,_,hb,hr2⟩:=h2;cases rx;cases ry;have hd':1+Tr.deps ts<=100:=hd;obtain⟨its,rv1,p1,_⟩:=I.list (AW.of (K:=X.K) ha);obtain⟨its2,rv2,p2,_⟩:=I.list (AW.of (K:=X.K) hb);have l1:=rv1.length.symm.trans (Ax.len ts vs hr1);have l2:=rv2.length.symm.trans (Ax.len ts us hr2);have q2:=SeqAt.RcNeAt.lists (A:=X.A) (s:=s) (e:=fun _=>true) p1.isList p2.isList (by simp[l1,l2]) (by omega) (fun j g1 g2=>GQ I ts X.A.in1 vs us its its2 (by show X.A.units+1+Tr.deps ts<cLine;omega) hr1 hr2 rv1 rv2 j (by simpa using g1) (by simpa using g2));have e:(!(List.range its.toArray.size).all (fun _=>true))=false:=by simp
  rw[e] at q2;exact q2 _ _ _ _ ⟨.bl _,H,I,rfl,q⟩
end
mutual
theorem Rep.mono {F G:Addr->Prop}{H:Hp}(h:∀a,F a->G a):∀(t:Tr) (v:V),Rep F H t v->Rep G H t v
 | .non,_,q=>q
 | .bl _,_,q=>q
 | .int _,_,q=>q
 | .str _,_,q=>q
 | .tup ts,_,⟨a,vs,e,ha,hr⟩=>⟨a,vs,e,ha,Ax.mono h ts vs hr⟩
 | .lst ts,_,⟨a,vs,e,fa,ha,hr⟩=>⟨a,vs,e,h a fa,ha,Ax.mono h ts vs hr⟩
theorem Ax.mono {F G:Addr->Prop}{H:Hp}(h:∀a,F a->G a):∀(ts:List Tr) (vs:List V),Ax F H ts vs->Ax G H ts vs
 |[],_,q=>q
 |t::ts,_,⟨v,us,e,h1,h2⟩=>⟨v,us,e,Rep.mono h t v h1,Ax.mono h ts us h2⟩
end
mutual
theorem Rep.upd {F:Addr->Prop}{H:Hp}{l:Addr}{us us':List V}(hl:H l=some (.lst us))(nl:¬F l):∀(t:Tr) (v:V),Rep F H t v->Rep F (upd H l (.lst us')) t v
 | .non,_,q=>q
 | .bl _,_,q=>q
 | .int _,_,q=>q
 | .str _,_,q=>q
 | .tup ts,_,⟨a,vs,e,ha,hr⟩=>⟨a,vs,e,by rw[Ag (Ce ha hl (by intro z;cases z))];exact ha,Ax.upd hl nl ts vs hr⟩
 | .lst ts,_,⟨a,vs,e,fa,ha,hr⟩=>⟨a,vs,e,fa,by rw[Ag (show a≠l from fun z=>nl (by rw[<-z];exact fa))];exact ha,Ax.upd hl nl ts vs hr⟩
theorem Ax.upd {F:Addr->Prop}{H:Hp}{l:Addr}{us us':List V}(hl:H l=some (.lst us))(nl:¬F l):∀(ts:List Tr) (vs:List V),Ax F H ts vs->Ax F (L2.upd H l (.lst us')) ts vs
 |[],_,q=>q
 |t::ts,_,⟨v,ur,e,h1,h2⟩=>⟨v,ur,e,Rep.upd hl nl t v h1,Ax.upd hl nl ts ur h2⟩
end
theorem Eu {K:PySem.W.Frag}{a:Addr}{H:Hp}{xs:List V}(h:H a=some (.tup xs)):HF (Vy K a) H xs:=fun H' s i=>
 ⟨fun hi=>⟨xs,xs[i],A0.of (s.get h),by simp[hi]⟩,fun x H'' y=>⟨y.1,fun _=>y.2 xs (A0.of (s.get h))⟩,fun hi=>⟨xs,A0.of (s.get h),hi⟩⟩
def Tr.ty:Tr->String
 | .non=>"NoneType"
 | .bl _=>"bool"
 | .int _=>"int"
 | .str _=>"str"
 | .tup _=>"tuple"
 | .lst _=>"list"
theorem Rep.tyN {F:Addr->Prop}{H:Hp}:∀{t:Tr} {v:V},Rep F H t v->L2.Hj H v=t.ty
 | .non,_,h=>by rw[show _=V.non from h];rfl
 | .bl _,_,h=>by rw[show _=V.bl _ from h];rfl
 | .int _,_,h=>by rw[show _=V.int _ from h];rfl
 | .str z,_,h=>by rw[show _=V.str z from h];rfl
 | .tup ts,_,⟨a,vs,e,ha,_⟩=>by rw[e];simp only[L2.Hj,ha];rfl
 | .lst ts,_,⟨a,vs,e,_,ha,_⟩=>by rw[e];simp only[L2.Hj,ha];rfl
theorem GH {A:Around}{k:Nat}(hr:Room k A):A.units+150<cLine:=by have:=hr.un;omega
def CL (P:Program)(w:World)(K:PySem.W.Frag)(mg:Str->Option Value)(base:Heap)(k:Nat)(C:Addr)(m:Str)(ps:List Str)(sp:Sp):Prop:=
 ∃(f:Addr) (fd:FuncData),FnOk P w K mg base DD k f fd ps sp/\Meth K C m f/\Binds K fd ps []
def Oh (P:Program)(w:World)(K:PySem.W.Frag)(mg:Str->Option Value)(base:Heap)(k:Nat)(C:Addr)(x:Str)(ps:List Str)(sp:Sp):Prop:=
 ∃(f:Addr) (fd:FuncData),FnOk P w K mg base DD k f fd ps sp/\Mk K C f/\mg x=some (.ref C)/\Binds K fd ps []
section
variable {X:Cx}{k:Nat}{x m:Str}{C:Addr}{ps:List Str}{sp:Sp}{e o:Expr}{es:List Expr}{t:TA}{ta:TE}{p apos pos:Pos}
theorem NK (D:Oh X.prog X.w X.K X.mg X.base k C x ps sp) (hr:Room (k+1) X.A) (hg:Gl X x) (ha:PA X (e::es) t)
  (hdb:(x == ("__debug__":Str))=false:=by decide) (he:starEach (e::es) X.env=(false,eval e X.env)::starEach es X.env:=by rfl) (hpl:(backTo pos (starEach es X.env)).any (·.1)=false:=by rfl) :
  PE X (.Call (.Name x p) (e::es) [] pos) (Ut C sp [] E0 t):=by
 obtain⟨f,fd,F,M,hm,hb⟩:=D;exact S5 M F hr hg hm hb .nil MM ha hdb he hpl
theorem BG {pl:Sem Bool} (ho:PE X o ta) (c:Cls X.K C) (D:CL X.prog X.w X.K X.mg X.base k C m ps sp) (hr:Room k X.A) (ha:PA X (e::es) t)
  (hst:starEach (e::es) X.env=(false,eval e X.env)::starEach es X.env:=by rfl) (hpl:(backTo pos (starEach es X.env)).any (·.1)=false:=by rfl)
  (ht:eval (.Call (.Attribute o m apos) (e::es) [] pos) X.env=(do
   let ov <-eval o X.env
   standAt apos.atName
   let(f,first) <-holding [ov] (getMethod ov m pl)
   callWith pos f first (backTo pos (starEach (e::es) X.env)) (backToKw pos (keywordEach [] X.env))):=by rfl) :
  PE X (.Call (.Attribute o m apos) (e::es) [] pos) (O6 C m sp [] E0 ta t):=by
 obtain⟨f,fd,F,M,hb⟩:=D;exact Tn ho c M F hr hb .nil MM ha hst hpl ht
theorem Ts {pl:Sem Bool} (ho:PE X o ta) (c:Cls X.K C) (D:CL X.prog X.w X.K X.mg X.base k C m ps sp) (hr:Room k X.A)
  (ht:eval (.Call (.Attribute o m apos) [] [] pos) X.env=(do
   let ov <-eval o X.env
   standAt apos.atName
   let(f,first) <-holding [ov] (getMethod ov m pl)
   callWith pos f first (backTo pos (starEach [] X.env)) (backToKw pos (keywordEach [] X.env))):=by rfl) :
  PE X (.Call (.Attribute o m apos) [] [] pos) (O6 C m sp [] E0 ta LP):=by
 obtain⟨f,fd,F,M,hb⟩:=D;exact Rj ho c M F hr hb .nil MM ht
end
theorem Sg {P:Program}{w:World}{k:Key}{u:Value}(h:(AQ P w).is k u=true):RelV (kV k) u:=by
 rcases Bh h with⟨i,t,rfl,rfl⟩|⟨x,t,rfl,rfl⟩
 ·exact⟨t,rfl⟩
 ·exact⟨t,rfl⟩
theorem Dm.kf {H:Hp}{a:Addr}{o:Obj}{kvs:List (Key×V)}{k:Key}(e:H a=some (.frz o (.dK kvs))):Dm H a (kV k) (BJ kvs k):=.inl ⟨kvs,k,.inr ⟨o,e⟩,rfl,rfl⟩
section
variable {X:Cx}
structure M0 (X:Cx) (o:Expr) (m:Str) (apos cpos:Pos):Prop where
 base:attributeBase o m X.env (eval o X.env)=eval o X.env
 few:((backTo cpos (starEach [] X.env)).all (fun x=>!x.1)&&(backToKw cpos (keywordEach [] X.env)).all (fun x=>x.1.isSome)
  && decide (([]:List Expr).length+([]:List Keyword).length+(if([]:List Keyword).isEmpty then 0 else 1)<30))=true
 line:(apos.endLine == cpos.line)=true
 trees:backTo cpos (starEach [] X.env)=[]
end
theorem D0 {t u:TS}{D:Ends}{σ:St}{H:Hp}(M:St->Hp->Prop)(h1:∀N:St->Hp->Prop,(∀σ' H',M σ' H'->N σ' H')->t { D with nx:=N } σ H)(h2:∀σ' H',M σ' H'->u D σ' H'):IJ t u D σ H:=h1 (u D) h2
theorem Td {J:It} {xs:List V} {fr:List (Option Nat)} {k:Nat} {te:TE} {Q:VK} {σ:St} {H:Hp} (I:Nat->List V->Addr->Hp->Prop) (hn:xs.length<=1000000)
  (hJ:∀i ys l H',I i ys l H'->(i<xs.length->J.go i H')/\(∀x H'',J.yld i H' x H''->H''=H'/\(i<xs.length->xs[i]?=some x))/\(xs.length<=i->J.stop i H'))
  (h0:∀l,H l=none->I 0 [] l (upd H l (.lst [])))
  (step:∀(i:Nat) (x:V) (ys:List V) (l:Addr) (H':Hp) (R:VK),xs[i]?=some x->H l=none->H' l=some (.lst ys)->ys.length=i->I i ys l H'->(∀y H'',H'' l=some (.lst ys)->I (i+1) (ys++[y]) l (upd H'' l (.lst (ys++[y])))->R y H'')->te ((stC fr σ).set k (some x)) H' R)
  (hQ:∀l H' (ys:List V),H l=none->H' l=some (.lst ys)->ys.length=xs.length->I xs.length ys l H'->Q (.ref l) H'):Di fr (Au k) Qv te σ Q J H:=by
 intro l hl;refine⟨fun i m σ' H'=>m=xs.length-i/\i<=xs.length/\(∀y,σ'.set k y=(stC fr σ).set k y)/\∃ys:List V,H' l=some (.lst ys)/\ys.length=i/\I i ys l H',⟨xs.length,by simp,Nat.zero_le _,fun _=>rfl,[],Ac,rfl,h0 l hl⟩,?_⟩
 rintro i m σ' H' ⟨rfl,hi,hσ,ys,hl',hlen,hI⟩
 obtain⟨h1,h2,h3⟩:=hJ i ys l H' hI
 by_cases hlt:i<xs.length
 ·refine .inr ⟨h1 hlt,fun x H'' y=>?_⟩;obtain⟨rfl,hx⟩:=h2 x H'' y;have hx:=hx hlt;show te (σ'.set k (some x)) H'' _;rw[hσ];refine step i x ys l H'' _ hx hl hl' hlen hI fun y H4 hl4 hI4=>?_
  exact⟨ys,hl4,BF (by omega),xs.length-(i+1),by omega,rfl,hlt,fun y=>by rw[List.set_set],ys++[y],Ac,by rw[List.length_append,hlen];rfl,hI4⟩
 ·have e:i=xs.length:=by omega
  subst e;exact .inl ⟨h3 (Nat.le_refl _),hQ l H' ys hl hl' hlen hI⟩
theorem Va {lo:Int}{n i:Nat}{H:Hp}:(i<((List.range n).map fun(i:Nat)=>V.int (lo+(i:Int))).length->(Tx lo n).go i H)/\(∀x H'',(Tx lo n).yld i H x H''->H''=H/\(i<((List.range n).map fun(i:Nat)=>V.int (lo+(i:Int))).length->((List.range n).map fun(i:Nat)=>V.int (lo+(i:Int)))[i]?=some x))/\(((List.range n).map fun(i:Nat)=>V.int (lo+(i:Int))).length<=i->(Tx lo n).stop i H):=by
 rw[List.length_map,List.length_range];refine⟨fun h=>h,fun x H'' y=>⟨y.1,fun h=>?_⟩,fun h=>h⟩;rw[List.getElem?_map,List.getElem?_range h,y.2];rfl
end L2
namespace L2
section
open PySem
open Sem (wp wp_bind' wp_mono)
def JY (o:Obj):Prop:=∃vs,o.data=.fields vs/\vs[2]?=some .none
def DictAt (h:Heap)(e:Addr)(d:Option Addr):Prop:=∃o,h.objs[e]?=some o/\o.dict=d/\JY o
def DK {α:Type}(t:Sem α):Prop:=∀(M:Model) (Γ:Ctx) (Q:α->Pos->Shared->Prop) (E:Value->Pos->Shared->Prop) (p:Pos) (s:Shared) (e:Addr) (d:Option Addr),wp M Γ t Q E p s->DictAt s.heap e d->
 wp M Γ t (fun a p s'=>Q a p s'/\DictAt s'.heap e d) (fun v p s'=>E v p s'/\DictAt s'.heap e d) p s
variable {α β:Type}
theorem A9 (a:α):DK (pure a:Sem α):=fun _ _ _ _ _ _ _ _ h j=>⟨h,j⟩
theorem Cg (w:String):DK (PySem.unsupported w:Sem α):=fun _ _ _ _ _ _ _ _ h _=>False.elim h
theorem AO {m:Sem α}{f:α->Sem β}(h1:DK m)(h2:∀a,DK (f a)):DK (m >>= f):=by
 intro M Γ Q E p s e d h j;rw[wp_bind'] at h ⊢;exact wp_mono M Γ m (fun a p' s' q=>h2 a M Γ Q E p' s' e d q.1 q.2) (fun _ _ _ q=>q) p s (h1 M Γ _ E p s e d h j)
theorem LF (a:Addr):DK (load a):=fun M Γ Q E p s e d ⟨o,q,h⟩ j=>⟨o,q,h,j⟩
theorem Jd:DK stack:=fun M Γ Q E p s e d h j=>⟨h,j⟩
theorem Mv (o:Obj):DK (alloc o):=fun M Γ Q E p s e d h ⟨o1,q,hd⟩=>⟨h,o1,by
 show(s.heap.objs.push o)[e]?=some o1;have hlt:e<s.heap.objs.size:=(Array.getElem?_eq_some_iff.mp q).1;rw[Array.getElem?_push,if_neg (Nat.ne_of_lt hlt)];exact q,hd⟩
theorem K0 (a:Addr){f:Obj->Obj}(hf:∀o,(f o).dict=o.dict/\(JY o->JY (f o))):DK (update a f):=fun M Γ Q E p s e d ⟨q0,h⟩ ⟨o1,q,hd,h2⟩=>⟨q0,h,by
 by_cases ea:a=e
 ·subst ea;refine⟨f o1,?_,by rw[(hf o1).1];exact hd,(hf o1).2 h2⟩;show(s.heap.objs.modify a f)[a]?=some (f o1);rw[Array.getElem?_modify,if_pos rfl,q];rfl
 ·refine⟨o1,?_,hd,h2⟩;show(s.heap.objs.modify a f)[e]?=some o1;rw[Array.getElem?_modify,if_neg ea];exact q⟩
theorem FA {c:Prop}[Decidable c]{t u:Sem α}(h1:DK t)(h2:DK u):DK (if c then t else u):=by
 split
 ·exact h1
 ·exact h2
theorem JU {i:Nat}(hi:i≠2)(x:Value)(o:Obj):(Obj.mapFields (·.setIfInBounds i x) o).dict=o.dict/\(JY o->JY (Obj.mapFields (·.setIfInBounds i x) o)):=by
 constructor
 ·unfold Obj.mapFields
  split<;>rfl
 ·rintro⟨vs,h1,h2⟩
  obtain⟨c,d,dt,sl⟩:=o;dsimp only at h1;subst h1;exact⟨_,rfl,by rw[Array.getElem?_setIfInBounds_ne hi];exact h2⟩
theorem M7 (v:Value):DK (fieldsOf v):=by
 unfold fieldsOf
 split
 ·refine AO (LF _) fun o=>?_
  split
  ·exact A9 _
  ·exact Cg _
 ·exact Cg _
theorem Hn (v:Value)(i:Nat):DK (field v i):=by
 unfold field;refine AO (M7 v) fun vs=>?_
 split
 ·exact A9 _
 ·exact Cg _
theorem Fk (v:Value){i:Nat}(hi:i≠2)(x:Value):DK (setField v i x):=by
 unfold setField updateField
 split
 ·refine AO (LF _) fun o=>?_
  split
  ·exact FA (K0 _ (JU hi x)) (Cg _)
  ·exact Cg _
 ·exact Cg _
theorem LB (ty:String)(vs:List Value):DK (newFields ty vs):=by
 unfold newFields newObj newObjAsIs;dsimp only
 split
 ·exact AO (Cg _) fun _=>AO (Mv _) fun _=>A9 _
 ·exact AO (Mv _) fun _=>A9 _
theorem MD (a b c d e:Value)(l:List Value):DK (EntryCells.newEntry a b c d e l):=LB _ _
theorem LX:DK frameEnvs:=AO Jd fun _=>A9 _
theorem Nb (env:Env)(outer:List Env):DK (behindIsImport env outer):=by
 unfold behindIsImport;refine FA (A9 _) ?_;refine FA (A9 _) ?_;exact AO (Hn _ _) fun _=>A9 _
theorem Nw (env:Env)(i:Bool)(outer:List Env):DK (keptBack env i outer):=by
 unfold keptBack
 split
 ·refine FA (A9 _) ?_;refine AO (AO Jd fun _=>A9 _) fun _=>A9 _
 ·exact A9 _
theorem Nr:∀l:List Env,DK (readyFrames l)
 |[]=>A9 _
 |env::outer=>by
  unfold readyFrames
  split
  ·refine AO (LF _) fun o=>?_
   refine FA (A9 _) ?_;refine AO (Nb _ _) fun _=>AO (Nw _ _ _) fun _=>AO (K0 _ fun _=>⟨rfl,fun h=>h⟩) fun _=>Nr outer
  ·exact Cg _
theorem Os (env:Env):DK (frameOf env):=by
 unfold frameOf;refine AO LX fun l=>?_
 refine AO ?_ fun r=>?_
 ·unfold frameObject
  split
  ·exact A9 _
  ·exact AO (Nr _) fun _=>A9 _
 ·split
  ·exact A9 _
  ·exact Cg _
theorem Ks (f:Addr)(b:Bool):DK (entryPlaceOf f b):=by
 unfold entryPlaceOf;refine AO Jd fun l=>?_
 split<;>exact A9 _
theorem E2 (e:Value)(f:Option Addr):DK (setFlight e f):=by
 unfold setFlight;exact AO (Hn _ _) fun _=>FA (Fk _ (by decide) _) (A9 _)
theorem GY (e:Value)(env:Env):DK (noteFrame e env):=by
 unfold noteFrame
 split
 ·rename_i fa _
  refine AO (Hn _ _) fun head=>?_
  have rest:DK (do setField e 1 (<-EntryCells.newEntry head (<-frameOf env) .none (rawInt fa) .none (<-entryPlaceOf fa (head != .none)))):=
   AO (Os _) fun _=>AO (Ks _ _) fun _=>AO (MD _ _ _ _ _ _) fun _=>Fk _ (by decide) _
  refine FA ?_ rest;refine AO (Hn _ _) fun _=>?_
  refine FA (A9 _) ?_;exact AO (Fk _ (by decide) _) fun _=>rest
 ·exact Cg _
theorem Gn (env:Env)(e:Value):DK (leaving env e):=AO (GY _ _) fun _=>E2 _ _
theorem DK.also {t:Sem α}(k:DK t){M:Model}{A:Around}{Q:α->Shared->Prop}{E:Value->Shared->Prop}{s:Shared}{e:Addr}{d:Option Addr}(j:DictAt s.heap e d)(h:wpAny M A t (fun a s'=>DictAt s'.heap e d->Q a s') E s):wpAny M A t Q E s:=fun Γ p hΓ=>
 wp_mono M Γ t (fun _ _ _ q=>q.1 q.2) (fun _ _ _ q=>q.1) p s (k M Γ _ _ p s e d (h Γ p hΓ) j)
theorem ON {h:Heap}{e:Addr}{o:Obj}(q:h.get? e=some o)(f:JY o):DictAt h e o.dict:=by
 unfold Heap.get? at q
 split at q
 ·cases q
 ·exact⟨o,q,rfl,f⟩
theorem DictAt.get {h:Heap}{e:Addr}{d:Option Addr}{o:Obj}(j:DictAt h e d)(q:h.get? e=some o):o.dict=d/\JY o:=by
 obtain⟨o1,e1,h1⟩:=j;unfold Heap.get? at q;rw[e1] at q
 split at q
 ·cases q
 ·cases q;exact h1
end
end L2
namespace L2
open PySem PySem.Spec PyProof.Rows
theorem AN.get {P:Program}{w:World}{H:Hp}{h:Heap}{a:Addr}{o:HO}(x:AN P w H h a o):∃ob,h.get? a=some ob:=by
 cases o with
 |lst xs=>obtain⟨_,_,_,_,e⟩:=x;exact⟨_,e⟩
 |tup xs=>obtain⟨_,_,_,ob,e,_⟩:=x;exact⟨_,e⟩
 |dK kvs=>obtain⟨_,_,_,_,o,_,_,e,_⟩:=x;exact⟨_,e⟩
 |dT kvs=>obtain⟨_,_,_,_,o,_,_,e,_⟩:=x;exact⟨_,e⟩
 |set S n=>obtain⟨o,_,_,_,e,_⟩:=x;exact⟨_,e⟩
 |ins C dx fs=>obtain⟨_,_,_,e,_⟩:=x;exact⟨_,e⟩
 |own y=>obtain⟨_,e⟩:=x;exact⟨_,e⟩
 |xd fs=>obtain⟨_,⟨_,_,_,e,_⟩,_⟩:=x;exact⟨_,e⟩
 |rng lo hi=>obtain⟨_,_,_,e⟩:=x;exact⟨_,e⟩
 |frz ob u=>obtain⟨e,_⟩:=x;exact⟨_,e⟩
 |tbl ps=>exact⟨_,x⟩
 |met f y=>exact⟨_,x⟩
 |ext φ=>obtain⟨_,e,_⟩:=x;exact e
structure Fly (P:Program) (w:World) (outer:List Env) (H:Hp) (s:Shared) (ea:Addr) (cls:Value) (H':Hp) (B:Heap) (a0:Value) (s':Shared):Prop where
 os:s'.os=s.os
 bare:AllBare s'.gens
 un:Un (EH outer) [] H H' s.heap s'.heap
 hok:Gb P w H' B
 fl:Heap.FlyingW B outer ea cls a0 s'.heap
 kp:∀b o,s.heap.get? b=some o->H b=none->b∉EH outer->B.get? b=some o
 th:∀b o,s.heap.get? b=some o->b∉EH outer->∃o',B.get? b=some o'
 dj:∃d,DictAt s'.heap ea d
section
variable {P:Program}{w:World}{outer:List Env}{H H':Hp}{s s':Shared}{ea:Addr}{cls a0:Value}{B h' base:Heap}
theorem Fly.stay (F:Fly P w outer H s ea cls H' B a0 s')(hl:s.heap.FunFrames base outer)(hn:∀b∈EH outer,H b=none)(sB:B.StaysIn h')(up:s'.heap.UpToSlots h'):Un (EH outer) [] H H' s.heap h':=by
 have sl:∀b o,s.heap.get? b=some o->b∈EH outer->∃sl,h'.get? b=some { o with slots:=sl }:=fun b o q hb=>by
  obtain⟨z,e⟩:=F.un.slot b o q (hn b hb) hb (by simp);obtain⟨_,o',ho',hd⟩:=hl.mem hb;rw[q] at ho';cases ho';exact up b { o with slots:=z } e hd
 refine⟨fun b o q n hb _=>sB b o (F.kp b o q n hb),fun b o q _ hb _=>sl b o q hb,F.un.free,fun b o q _=>?_,F.un.tups,F.un.frzs,F.un.tbls⟩
 by_cases hb:b∈EH outer
 ·obtain⟨z,e⟩:=sl b o q hb;exact⟨_,e⟩
 ·obtain⟨o',e⟩:=F.th b o q hb;exact⟨o',sB b o' e⟩
theorem Fly.free (F:Fly P w outer H s ea cls H' B a0 s'):H' ea=none:=by
 cases e:H' ea with
 |none=>rfl
 |some u=>
  obtain⟨ob,q⟩:=(F.hok ea u e).get;rw[F.fl.2.1] at q;cases q
end
section
variable {X:Cx}{pins:List (Addr×Obj)}{σ:St}{H H':Hp}{s s':Shared}{ea:Addr}{cls a0:Value}{B h':Heap}
theorem Inv.landed (I:Inv X pins σ H s)(F:Fly X.prog X.w X.stack H s ea cls H' B a0 s')(sB:B.StaysIn h')(up:s'.heap.UpToSlots h'):Inv X pins σ H' { s' with heap:=h' }:=
 I.call' (s':={ s' with heap:=h' }) (ch:=[]) F.os (F.stay I.stack I.stkFree sB up) (F.hok.kept sB) F.bare (fun b z=>nomatch z)
theorem Inv.hid (I:Inv X pins σ H s):Gb X.prog X.w H (PySem.W.hideAll s.heap (EH X.stack)):=fun b u e=>by
 refine(I.hok b u e).stay (fun c v hc q=>PySem.W.hideAll_get _ q fun z=>?_) (fun _ q=>q) fun _ _ q=>q
 have:=I.stkFree c z;rcases hc with rfl|hc
 ·rw[e] at this;cases this
 ·rw[hc] at this;cases this
theorem Inv.hidFrames (I:Inv X pins σ H s):s.heap.FunFrames (PySem.W.hideAll s.heap (EH X.stack)) X.stack:=
 PySem.W.funFrames_hide I.stack fun env he a ha=>List.mem_filterMap.mpr ⟨env,he,ha⟩
theorem Inv.made1 {h1:Heap}{vs:List Value}{l:List Env}{t':Nat}(I:Inv X pins σ H s)(hx:Heap.MadeExcOf s.heap h1 ea cls vs)(fl:Heap.FlyingW (PySem.W.hideAll s.heap (EH X.stack)) l ea cls a0 h')(up:h1.UpToSlots h') :
  Un (EH X.stack) [] H H s.heap h':=by
 have sl:∀b o,s.heap.get? b=some o->b∈EH X.stack->∃sl,h'.get? b=some { o with slots:=sl }:=fun b o q hb=>by
  obtain⟨_,o',ho',hd⟩:=I.stack.mem hb;rw[q] at ho';cases ho';exact up b _ (hx.keeps b o q) hd
 refine⟨fun b o q _ hb _=>fl.1 b o (PySem.W.hideAll_get _ q hb),fun b o q _ hb _=>sl b o q hb,fun b o _ n _=>n,fun b o q _=>?_,fun _ _ e=>e,fun _ _ _ e=>e,fun b ps e=>⟨#[],by rw[e];simp⟩⟩
 by_cases hb:b∈EH X.stack
 ·obtain⟨z,e⟩:=sl b o q hb;exact⟨_,e⟩
 ·exact⟨o,fl.1 b o (PySem.W.hideAll_get _ q hb)⟩
end
def Xg (X:Cx)(E:XK):Prop:=∀(pins:List (Addr×Obj)) (σ:St) (H:Hp) (s:Shared) (cls:Value) (h1:Heap) (ea:Addr) (vs:List Value),Inv X pins σ H s->Heap.MadeExcOf s.heap h1 ea cls vs->E cls none H->X.xe (.ref ea) { s with heap:=h1 }
abbrev M8:List Value:=[.type "ValueError",.type "Exception",.type "BaseException",.type "object"]
theorem TC {K:PySem.W.Frag}{h:Heap}{C:Addr}(Kh:K.In h)(q:PySem.W.excIn K C M8 "ValueError.__new__"=true) :
  ∃bm N nm qn bs hd sn sub ab col dd k0 k1 k2 k3 k5 mN,h.get? C=some (excClassObj nm qn C N bs bm hd sn sub ab col dd k0 k1 k2 k3 k5 "ValueError.__new__")/\h.Ns N mN/\mN "__init__"=none/\OwnTail h M8 bm:=by
 unfold PySem.W.excIn at q
 split at q
 ·rename_i dx ck slots found
  split at q
  ·rename_i C0 tl p0 p1 p2 p3 made p5 em es
   rw[Bool.and_eq_true,Bool.and_eq_true,Bool.and_eq_true,Bool.and_eq_true,Bool.and_eq_true] at q;obtain⟨⟨⟨⟨⟨z1,z2⟩,z3⟩,z4⟩,z5⟩,z6⟩:=q;have y1:C0=C:=beq_iff_eq.mp z1;have y2:made="ValueError.__new__":=beq_iff_eq.mp z2;have y3:ck.hasDel=false:=by simpa using z3
   subst y1 y2;obtain⟨nm,bs,mro,ns,qn,hd,sn,sub,ab,col,del⟩:=ck;simp only at em y3 z5 z6;subst em y3;have es':slots = #[p0,p1,p2,p3,some (.builtin "ValueError.__new__"),p5]:=by
    obtain⟨l⟩:=slots;simp only at es;rw[es]
   subst es';exact⟨tl,ns,nm,qn,bs,hd,sn,sub,ab,col,dx,p0,p1,p2,p3,p5,_,Kh _ _ found,.of_isNs (PySem.W.isNs_of_in Kh z5),PySem.W.nsMap_none_of_in Kh z5 (beq_iff_eq.mp z6),PySem.W.tail_of_in Kh z4⟩
  ·cases q
 ·cases q
section
variable {X:Cx}{E:XK}{x:Str}{C:Addr}{np cpos pos:Pos}
theorem Qq (R:Xg X E)(hc:X.calm=true)(hm:X.mg x=some (.ref C))(hq:PySem.W.excIn X.K C M8 "ValueError.__new__"=true)(hg:Gl X x)(hd:(x == ("__debug__":Str))=false:=by decide) :
  PS X (.Raise (some (.Call (.Name x np) [] [] cpos)) none pos) (fun _ _ H=>E (.ref C) none H):=by
 intro pins s σ H D I h;obtain⟨tl,N,nm,q,bs,hdct,sn,sub,ab,col,dd,k0,k1,k2,k3,k5,mN,hC,hN,hni,T⟩:=TC I.kIn hq;refine wpAny_Raise_call_subT (C:=C) (nm:=nm) (q:=q) (N:=N) (bs:=bs) (bm:=tl) (hdct:=hdct) (sn:=sn) (sub:=sub) (ab:=ab) (col:=col) (dd:=dd) (k0:=k0) (k1:=k1) (k2:=k2) (k3:=k3) (k5:=k5)
  PySem.F.excBase_ValueError (mN:=mN) (T.hasType PySem.F.excBase_ValueError.hasBase) (I.ok.hd hc) rfl hni (DY I hg hm ⟨rfl,?_⟩ hd)
 exact evalArgs_empty ⟨rfl,Nat.zero_le _,hC,hN,T,fun h' e hx=>R pins σ H s (.ref C) h' e [] I hx h⟩
end
abbrev XS:=Value->St->Hp->Prop
abbrev TX:=Ends->XS->St->Hp->Prop
def XP (X:Cx)(pins:List (Addr×Obj))(Ex:XS)(e:Value)(s':Shared):Prop:=
 ∃(ea:Addr) (cls:Value) (σ':St) (H1 H':Hp) (s1:Shared) (B:Heap) (a0:Value),e=.ref ea/\Inv X pins σ' H1 s1/\Fly X.prog X.w X.stack H1 s1 ea cls H' B a0 s'/\Ex cls σ' H'
def PX (X:Cx)(st:Stmt)(t:TX):Prop:=
 ∀(pins:List (Addr×Obj)) (s:Shared) (σ:St) (H:Hp) (D:Ends) (Ex:XS),Inv X pins σ H s->t D Ex σ H->wpAny (model X.prog X.w) X.A (exec st X.env) (SP X pins D) (XP X pins Ex) s
def Xc (X:Cx)(st:List Stmt)(t:TX):Prop:=
 ∀(pins:List (Addr×Obj)) (s:Shared) (σ:St) (H:Hp) (D:Ends) (Ex:XS),Inv X pins σ H s->t D Ex σ H->wpAny (model X.prog X.w) X.A (execs st X.env) (SP X pins D) (XP X pins Ex) s
section
variable {X:Cx}{st:Stmt}{rest:List Stmt}{e:Expr}{pos:Pos}
theorem TN {t:TS}(h:PS X.nox st t):PX X st (fun D _=>t D):=fun pins s σ H D Ex I q=>
 wpAny_mono (h pins s σ H D (I.wish _) q) (fun _ _ z=>z.unwish) fun _ _ z=>False.elim z
theorem Ui {t:TX}(h1:PX X st t):Xc X [st] t:=by
 intro pins s σ H D Ex I h;refine wpAny_execs_cons (Ba (h1 pins s σ H D Ex I h) fun f s1 q=>?_);cases f with
 |next=>exact wpAny_execs_nil q
 |ret v=>exact q
 |brk=>exact q
 |cont=>exact q
end
def Cx.held (X:Cx)(e:Value):Cx:={ X with A:=X.A.mark (some e),calm:=false,xe:=fun _ _=>False }
section
variable {X:Cx}{pins:List (Addr×Obj)}{σ:St}{H:Hp}{s:Shared}{e:Value}
theorem Inv.held (I:Inv X pins σ H s)(e:Value):Inv (X.held e) pins σ H s:=
 ⟨⟨I.ok.mod,I.ok.kind,I.ok.glob,I.ok.blt,I.ok.above,I.ok.inj,I.ok.has,I.ok.cab,(fun z=>nomatch z),I.ok.frames,I.ok.stk,I.ok.exf,I.ok.bs,I.ok.bsz,I.ok.noex,I.ok.exfs,I.ok.funs,I.ok.frf⟩,I.os,I.bare,I.base,I.loc,I.cell,I.free,I.freeC,I.pin,I.hok,I.len⟩
theorem Inv.unheld (J:Inv X pins σ H s){σ':St}{H':Hp}{s':Shared}(I:Inv (X.held e) pins σ' H' s'):Inv X pins σ' H' s':=
 ⟨J.ok,I.os,I.bare,I.base,I.loc,I.cell,I.free,I.freeC,I.pin,I.hok,I.len⟩
theorem SP.unheld (J:Inv X pins σ H s){D:Ends}{f:Flow}{s':Shared}(h:SP (X.held e) pins D f s'):SP X pins D f s':=by
 cases f with
 |next=>obtain⟨σ',H',I,q⟩:=h;exact⟨σ',H',J.unheld I,q⟩
 |brk=>obtain⟨σ',H',I,q⟩:=h;exact⟨σ',H',J.unheld I,q⟩
 |cont=>obtain⟨σ',H',I,q⟩:=h;exact⟨σ',H',J.unheld I,q⟩
 |ret u=>obtain⟨v,σ',H',I,r,q⟩:=h;exact⟨v,σ',H',J.unheld I,r,q⟩
end
section
variable {X:Cx}{x:Str}{c:Value}{body orelse suite:List Stmt}{b₀:Stmt}{np hpos pos:Pos}
def W2 (K:PySem.W.Frag)(c:Value)(tb:TX)(te ts:TS):TS:=fun D σ H=>tb { D with nx:=te D } (fun cls σ' H'=>PySem.W.exmOne K cls c=some true/\ts D σ' H') σ H
theorem UB {tb:TX} {te ts:TS} (hst:X.stack=X.env::X.outer/\X.env.frame=some X.env.locals) (hm:X.mg x=some c) (hg:Gl X x) (hb:Xc X body tb) (he:Mf X orelse te) (hs:∀e,Mf (X.held e) (b₀::suite) ts)
  (hd:(x == ("__debug__":Str))=false:=by decide):PS X (.Try body [.ExceptHandler (some (.Name x np)) none (b₀::suite) hpos] orelse [] pos) (W2 X.K c tb te ts):=by
 intro pins s σ H D I h;refine wpAny_Try_except (wpAny_mono (hb pins s σ H _ _ I h) (fun f s1 q=>?_) fun e s1 q=>?_)
 ·cases f with
  |next=>
   obtain⟨σ',H',I',q⟩:=q;exact he pins s1 σ' H' D I' q
  |ret v=>exact q
  |brk=>exact q
  |cont=>exact q
 ·obtain⟨ea,cls,σ',H1,H',s2,B,a0,rfl,I2,F,hx,q⟩:=q;have hfr:=I.ok.frames;have fl:=F.fl;rw[hst.1] at hfr fl;refine wpAny_looks_onW hfr hst.2 fl fun h4 held4 up4=>?_
  refine wpAny_landsW held4 fun h5 fl5 up5=>?_
  have J5:=I2.landed F fl5.1 (up4.trans up5);refine wpAny_handleBy_cons (codeAny_handlers_test (DY (J5.held (.ref ea)) hg hm ?_ hd)) (by intro z;cases z);obtain⟨ob,hob,hcls⟩:=fl5.there;have LT:PySem.W.Looks (model X.prog X.w) h5 (typeOf (.ref ea)) cls:=by
   subst hcls;exact(PySem.W.Looks.ld hob).andThen .now
  refine(PySem.W.exm_one J5.kIn LT hx).here ?_;refine codeAny_handlers_suite (lands_againW fl5 fun h6 fl6 up6=>?_);have J6:=I2.landed F fl6.1 ((up4.trans up5).trans up6);exact wpAny_mono (hs (.ref ea) pins _ σ' H' D (J6.held (.ref ea)) q) (fun f s7 z=>z.unheld J6) fun _ _ z=>False.elim z
end
section
variable {prog:Program}{w:World}{A:Around}{E:Value->Shared->Prop}{s:Shared}{it t:Addr}{i:Nat}{its:Array Value}{Q:Value->Shared->Prop}
theorem Kw (a:s.heap.IsTupleIter it t i) (b:s.heap.IsTuple t its) (more:∀x,its[i]?=some x->∀h',h'.IsTupleIter it t (i+1)->Heap.SameBut it s.heap h'->Q x { s with heap:=h' })
  (over:its[i]?=none->A.handled=none/\∀h' e,Heap.ExtBut it s.heap h'->(∃o,h'.get? e=some o/\o.cls=.type "StopIteration")->E (.ref e) { s with heap:=h' }):wpAny (model prog w) A (Builtin.SmallTypes.nextOf (.ref it)) Q E s:=by
 have T:=a.typeIs;obtain⟨o,o1,o2,o3⟩:=id a;obtain⟨u,u1,_,n,u2⟩:=b;have two:∀g,(Obj.mapFields g o).isFreed=false:=fun g=>Obj.isFreed_of_fields (Obj.data_mapFields o3 g)
 unfold Builtin.SmallTypes.nextOf;refine wpAny_bind (wpAny_callSpecial?_slot T F.slot_tuple_iterator_next (wpAny_call_entry F.slot_tuple_iterator_next T F.entry_tuple_iterator_next ?_ (F.args_tuple_iterator_next_1 _)))
 wp_walk using (wpAny_field (s:=s) o1 o3 (x:=.ref t) rfl),(wpAny_field (s:=s) o1 o3 (x:=.int i 0) rfl),(wpAny_seqItems (s:=s) u1 u2)
 rw[Int.toNat_natCast];cases c:its[i]? with
 |some x=>
  refine wpAny_bind (wpAny_setField o1 o3 (by simp) ?_);refine wpAny_pure ⟨x,rfl,wpAny_pure (more x c _ ⟨_,Heap.get?_update_self _ o1 (two _),?_,?_⟩ (Heap.SameBut.update ..))⟩
  ·rw[Obj.cls_mapFields,o2]
  ·rw[Obj.data_mapFields o3];simp[rawInt]
 |none=>
  obtain⟨hh,q⟩:=over c;have h1:A.in1.handled=none:=hh;refine wpAny_bind (wpAny_rule (wpAny_bind (wpAny_setField o1 o3 (by simp) ?_)));unfold Builtin.SmallTypes.stopIteration
  wp_walk
  unfold raiseNew;refine wpAny_bind (wpAny_handled ?_);rw[h1];exact wpAny_bind (wpAny_pure (wpAny_throw (q _ _ (((Heap.SameBut.update ..).extBut.push _).push _) ⟨_,Heap.get?_push_size _ rfl,rfl⟩)))
end
theorem PZ {prog:Program}{w:World}{A:Around}(hh:A.handled=none)(it t:Addr)(hne:t≠it)(items:Array Value) :
  Draws prog w A it [it,t] items.size (fun i v=>items[i]?=some v) (fun i h=>h.IsTupleIter it t i/\h.IsTuple t items) where
 live:=fun i h ⟨⟨o,e,_⟩,_⟩=>⟨o,e⟩
 frame:=fun i h h' ⟨⟨o,e,c⟩,⟨o2,e2,c2⟩⟩ k=>⟨⟨o,k it (by simp) o e,c⟩,⟨o2,k t (by simp) o2 e2,c2⟩⟩
 item:=fun i s Q E hi ⟨a,b⟩ hQ=>Kw a b (fun x c h' a' sb=>hQ x h' s.toks c ⟨a',b.extBut sb.extBut hne⟩ sb) fun c=>by rw[Array.getElem?_eq_getElem hi] at c;cases c
 done:=fun s Q E ⟨a,b⟩ hE=>Kw a b (fun x c=>by simp at c) fun _=>⟨hh,fun h' e eb he=>hE h' e eb he⟩
structure ZA (z TI TO i1 i2:Addr) (f1 f2:List Addr):Prop where
 TIz:TI≠z
 TOz:TO≠z
 i1z:i1≠z
 i2z:i2≠z
 TITO:TI≠TO
 TIi1:TI≠i1
 TIi2:TI≠i2
 TOi1:TO≠i1
 TOi2:TO≠i2
 i12:i1≠i2
 z1:z∉f1
 o1:TO∉f1
 j1:i2∉f1
 z2:z∉f2
 o2:TO∉f2
 j2:i1∉f2
section
variable {X:Cx}{els:List Expr}{kk:Nat}{pp:Pos}
theorem UN:bootBuiltins "zip"=some (.type "zip"):=by decide +kernel
end
theorem Vl {X:Cx} {K:PySem.W.Frag} {T:String} {name:Str} {id:String} {r:V->List V->Hp->VK->Prop} {o e:Expr} {es:List Expr} {to:TE} {t:TA} {apos cpos:Pos} (hK:X.K=K) (pa:PlainAttrs T) (slot:Slot T name id) (hty:typeOf (.builtin id)=pure (.type "method_descriptor")) (hm:Tw X id r) (ho:PE X o to) (ha:PA X (e::es) t)
  (hbase:attributeBase o name X.env (eval o X.env)=eval o X.env:=by rfl)
  (hfew:((backTo cpos (starEach (e::es) X.env)).all (fun x=>!x.1)&&(backToKw cpos (keywordEach [] X.env)).all (fun x=>x.1.isSome)
   && decide ((e::es).length+([]:List Keyword).length+(if([]:List Keyword).isEmpty then 0 else 1)<30))=true:=by rfl)
  (hline:(apos.endLine == cpos.line)=true:=by rfl) (hs:starEach (e::es) X.env=(false,eval e X.env)::starEach es X.env:=by rfl) (hplain:(backTo cpos (starEach es X.env)).any (·.1)=false:=by rfl) :
  PE X (.Call (.Attribute o name apos) (e::es) [] cpos) (WN K T r to t):=by
 subst hK;exact Ew pa slot hty hm ho ha hbase hfew hline hs hplain
section
variable {M:Model}{A:Around}{E:Value->Shared->Prop}{s:Shared}{base:Heap}{env:Env}{outer l:List Env}{L e:Addr}{cls a0 fl:Value}
structure Retraced (base h h':Heap) (T:Addr) (ts:Array Value) (v:Value):Prop where
 here:∃o',h'.get? T=some o'/\o'.data=.fields (ts.setIfInBounds 3 v)
 rest:∀b o,b≠T->h.get? b=some o->h'.get? b=some o
 low:base.StaysIn h->base.StaysIn h'
 plain:∀b o,h.get? b=some o->(∀vs,o.data≠.fields vs)->h'.get? b=some o
end
end L2
namespace L2
section
open PySem PySem.Calls PyProof.Rows PySem.W Builtin Builtin.ObjectAttr Builtin.Getset_descriptor
section
variable {prog:Program}{w:World}{A:Around}{E:Value->Shared->Prop}{K:Frag}{e D:Addr}
structure IsExc (h:Heap) (e D:Addr):Prop where
 ob:∃o,h.get? e=some o/\o.cls=.ref D/\∃vs,o.data=.fields vs
theorem IsExc.ty {h:Heap}(z:IsExc h e D){M:Model}:Looks M h (typeOf (.ref e)) (.ref D):=by
 obtain⟨o,q,c,_⟩:=z.ob;rw[<-c];exact(Looks.ld q).andThen .now
theorem Qu {tp:Value}{s:Shared}{R:Result->Shared->Prop}(k:K.In s.heap)(z:IsExc s.heap e D)(hm:mroIn K D (.type "object")=some true)(q:R (.ok (.ret (.ref D))) s) :
  codeAny (model prog w) A (.call (.builtin "getset_descriptor.__get__") ⟨[.builtin "object.__class__",.ref e,tp],[]⟩) R s:=by
 obtain⟨h1,g1,d1,t1,o1⟩:=s;have T0:=z.ty (M:=model prog w);have T1:=looks_mroIn (M:=model prog w) k hm;have slot:=KF.slot_gs;refine codeAny_call_builtin slot.plain KF.entry_gs (slot.check _ _ _ _ _ _ _ _ KF.type_class (KF.args_gs _ _ _) ?_);simp only[Builtin.«getset_descriptor.__get__»,descrGet,dga_obj];refine wpAny_bind (wpAny_pure ?_);dsimp only[descrGetter,descrCheckInstance,descrNameAndClass,isInstance];rw[show descrOwnerAndName "object.__class__"=("object","__class__") from KF.owner_class]
 repeat lk
 refine⟨Code.quiet_builtin (id:="object.__class__") _ (by decide +kernel),codeAny_builtin KF.entry_class ?_⟩;simp only[Builtin.«object.__class__»,shownTypeOf]
 repeat lk
 exact q
theorem QO {h:Heap} {M:Model} (k:K.In h) (ha:findIn K (.ref D) "__class__"=some (some (.builtin "object.__class__")))
  (hn:specialIn K (.builtin "object.__class__") "__get__"=some (some (.builtin "getset_descriptor.__get__"))) (ht:takesIn K (.builtin "object.__class__")=some true) :
  Looks M h (find (.ref e) (.ref D) "__class__") (.bind (.builtin "getset_descriptor.__get__") (.builtin "object.__class__")):=
 (looks_findIn k ha).andThen ((show Looks M h (getOf (some (.builtin "object.__class__"))) (some (.builtin "getset_descriptor.__get__")) from looks_specialIn k hn).andThen
  ((show Looks M h (dataDescriptor? (some (.builtin "object.__class__")) (some (.builtin "getset_descriptor.__get__"))) (some (.builtin "getset_descriptor.__get__",.builtin "object.__class__")) from(looks_takesIn k ht).andThen .now).andThen (Looks.tag .now)))
theorem KS {nv:Value}{s:Shared}{Q:Unit->Shared->Prop}{M:Model}(k:K.In s.heap)(z:IsExc s.heap e D)(hb:mroIn K D (.type "BaseException")=some true)(q:Q () s) :
  wpAny M A (checkBuiltinCall "BaseException.__getattribute__" ⟨[.ref e,nv],[]⟩) Q E s:=by
 obtain⟨h1,g1,d1,t1,o1⟩:=s;have b1:builtinKind "BaseException.__getattribute__"=some .slot:=by decide +kernel
 have b2:splitId "BaseException.__getattribute__"=some ("BaseException","__getattribute__"):=by decide +kernel
 have b3:=F.args_bexc_ga (.ref e) nv;have T:Looks M h1 (isInstance (.ref e) (.type "BaseException")) true:=z.ty.andThen (looks_mroIn k hb);simp only[checkBuiltinCall,b1,b2];refine wpAny_bind (T.at ?_);rw[if_neg (by decide)]
 repeat wp_step
 exact q
theorem PH {tk:Tok} {s:Shared} {Q:Fin->Shared->Prop} (k:K.In s.heap) (z:IsExc s.heap e D) (ha:findIn K (.ref D) "__class__"=some (some (.builtin "object.__class__")))
  (hn:specialIn K (.builtin "object.__class__") "__get__"=some (some (.builtin "getset_descriptor.__get__"))) (ht:takesIn K (.builtin "object.__class__")=some true) (hm:mroIn K D (.type "object")=some true) (q:Q (.done (.ret (.ref D))) s) :
  wpAny (model prog w) A (Builtin.«object.__getattribute__» ⟨[.ref e,.str "__class__" tk],[]⟩) Q E s:=by
 obtain⟨h1,g1,d1,t1,o1⟩:=s;have T0:=z.ty (M:=model prog w);have T1:=QO (e:=e) (M:=model prog w) k ha hn ht;have s0:slotArgs "__getattribute__" 1 ⟨[.ref e,.str "__class__" tk],[]⟩=pure (Value.ref e,[Value.str "__class__" tk]):=by kernel_rfl
 have s1:attrName (.str "__class__" tk)=pure "__class__":=by kernel_rfl
 simp only[Builtin.«object.__getattribute__»,s0];refine wpAny_bind (wpAny_pure ?_);dsimp only;rw[s1];refine wpAny_bind (wpAny_pure (wpAny_bind (T0.at (wpAny_bind (T1.at ?_)))));dsimp only;unfold bindTo;dsimp only;refine wpAny_bind (wpAny_call (Qu (s:=⟨h1,g1,d1,t1,o1⟩) k z hm ?_));exact wpAny_pure q
theorem Pn {s:Shared} {Q:Option Value->Shared->Prop} (k:K.In s.heap) (z:IsExc s.heap e D) (hga:findIn K (.ref D) "__getattribute__"=some (some (.builtin "BaseException.__getattribute__"))) (hgg:findIn K (.ref D) "__getattr__"=some none)
  (ha:findIn K (.ref D) "__class__"=some (some (.builtin "object.__class__"))) (hn:specialIn K (.builtin "object.__class__") "__get__"=some (some (.builtin "getset_descriptor.__get__"))) (ht:takesIn K (.builtin "object.__class__")=some true)
  (hm:mroIn K D (.type "object")=some true) (hb:mroIn K D (.type "BaseException")=some true) (q:Q (some (.ref D)) { s with toks:=s.toks+1 }) :
  wpAny (model prog w) A (getAttr? (.ref e) "__class__") Q E s:=by
 obtain⟨h1,g1,d1,t1,o1⟩:=s;have T0:=z.ty (M:=model prog w);have T1:=looks_findIn (M:=model prog w) k hga;have T2:=looks_findIn (M:=model prog w) k hgg;have B:=F.excAttr_ValueError.ga.bind (.ref e);simp only[getAttr?,getAttrBy?,getAttrBy];refine wpAny_bind (wpAny_mkText (wpAny_bind (wpAny_attempt (wpAny_holding (wpAny_bind (T0.at (wpAny_bind (T1.at ?_))))))));have n0:(onTheHeap (Value.ref D)&&Value.builtin "BaseException.__getattribute__" == Value.builtin "object.__getattribute__")=false:=by
  have:(Value.builtin "BaseException.__getattribute__" == Value.builtin "object.__getattribute__")=false:=by decide +kernel
  rw[this];rfl
 dsimp only;rw[if_neg (by rw[n0];decide)];unfold getAttrByItsOwn hookBefore;rw[if_pos (by rfl)];refine wpAny_bind (T2.at (wpAny_bind (wpAny_attempt (wpAny_holding ?_))));unfold callGetattribute boundAndCalled;rw[if_neg (by decide),B];refine wpAny_bind (wpAny_pure ?_);dsimp only;refine wpAny_call (codeAny_call_builtin F.excAttr_ValueError.ga.plain F.entry_bexc_ga ?_);refine KS (s:=⟨h1,g1,d1,t1+1,o1⟩) k ⟨z.ob⟩ hb (PH (s:=⟨h1,g1,d1,t1+1,o1⟩) k ⟨z.ob⟩ ha hn ht hm ?_);dsimp only;exact handed_on rfl (wpAny_pure q)
structure ExcCls (K:Frag) (D:Addr):Prop where
 ga:findIn K (.ref D) "__getattribute__"=some (some (.builtin "BaseException.__getattribute__"))
 gg:findIn K (.ref D) "__getattr__"=some none
 cl:findIn K (.ref D) "__class__"=some (some (.builtin "object.__class__"))
 sp:specialIn K (.builtin "object.__class__") "__get__"=some (some (.builtin "getset_descriptor.__get__"))
 tk:takesIn K (.builtin "object.__class__")=some true
 mo:mroIn K D (.type "object")=some true
 mb:mroIn K D (.type "BaseException")=some true
theorem ExcCls.there (c:ExcCls K D):∃o,K.lookup D=some o/\∃cd,o.data=.cls cd:=by
 obtain⟨cd,h,_⟩:=Option.bind_eq_some_iff.mp c.mo;unfold clsIn at h
 split at h
 ·rename_i o d' cd' sl' ho
  exact⟨_,ho,_,rfl⟩
 ·cases h
theorem ExcCls.kit (c:ExcCls K D):KitX K (.ref e) (.ref D) (fun h=>IsExc h e D) where
 ty:=fun _ _ _ z=>z.ty
 it:=fun M h k _=>by
  obtain⟨⟨oc,od,oda,os⟩,h1,cd,h2⟩:=c.there;dsimp only at h2;subst h2;intro A1 Q1 E1 s1 st q;unfold isType loadHead;exact wpAny_bind (wpAny_loadPart (st _ _ (k _ _ h1)) (wpAny_pure q))
 ne:=fun h tp dd its n sl k ht=>by
  obtain⟨o,h1,cd,h2⟩:=c.there;cases q:(Value.ref D == Value.ref tp) with
  |false=>rfl
  |true=>
   cases Value.ref.inj (beq_iff_eq.mp q);rw[k _ _ h1] at ht;cases ht;cases h2
 ca:=fun k z q=>Pn k z c.ga c.gg c.cl c.sp c.tk c.mo c.mb q
end
end
open PySem PySem.Spec PyProof.Rows
theorem IsExc.stays {h1 h2:Heap}{e D:Addr}(z:IsExc h1 e D)(k:∀o,h1.get? e=some o->h2.get? e=some o):IsExc h2 e D:=by
 obtain⟨o,q,r⟩:=z.ob;exact⟨o,k o q,r⟩
section
variable {X:Cx}{pins:List (Addr×Obj)}{σ:St}{H:Hp}{s:Shared}
theorem Inv.know {e:Addr} {o:HO} (I:Inv X pins σ H s) (n0:e∉X.ex->X.s₀.heap.get? e=none) (nl:e≠X.env.locals) (nc:∀x c,X.env.cells.lookup x=some c->c≠e) (np:∀p∈X.pn++pins,p.1≠e) (hn:H e=none)
  (ho:AN X.prog X.w (upd H e o) s.heap e o):Inv X pins σ (upd H e o) s:=by
 have up:∀{b:Addr} {u:HO},H b=some u->upd H e o b=some u:=fun{b u} q=>by rw[Ag (A4 q hn)];exact q
 refine⟨I.ok,I.os,I.bare,⟨I.base.keep,I.base.slot,fun b ob q n x=>?_,I.base.there,fun b xs q=>up (I.base.tups b xs q),fun b ob u q=>up (I.base.frzs b ob u q),fun b ps q=>?_⟩,I.loc,I.cell,?_,fun x c q=>?_,fun p hp=>?_,fun b u q=>?_,I.len⟩
 ·rw[Ag (fun z=>by subst z;rw[n0 x] at q;cases q)];exact I.base.free b ob q n x
 ·obtain⟨more,z⟩:=I.base.tbls b ps q;exact⟨more,up z⟩
 ·rw[Ag nl.symm];exact I.free
 ·rw[Ag (nc x c q)];exact I.freeC x c q
 ·obtain⟨h1,h2,h3⟩:=I.pin p hp;exact⟨h1,by rw[Ag (np p hp)];exact h2,h3⟩
 ·by_cases hb:b=e
  ·subst hb;rw[Ac] at q;cases q;exact ho
  ·rw[Ag hb] at q;exact(I.hok b u q).stay (fun c v _ z=>z) (fun _ z=>up z) fun _ _ z=>up z
theorem IW {M:Model} {A:Around} {E:Value->Shared->Prop} {i:Nat} {x:Str} {pos:Pos} {Q:Unit->Shared->Prop} (I:Inv X pins σ H s) (hN:X.N.Nodup) (hi:X.N[i]?=some x) (hk:X.env.kindOf x=some .local)
  (h:∀s',Inv X pins (σ.set i none) H s'->Q () s'):wpAny M A (do bindName X.env x .none;unbindBehindTheSuite X.env x pos) Q E s:=by
 obtain⟨m,hn,hl⟩:=id I.loc;have hc:(X.env.scope.kind == .class||(X.env.scope.kind == .module&&X.env.locals != X.env.globals))=false:=by rw[I.ok.kind];rfl
 have hiσ:i<σ.length:=by rw[I.len];exact(List.getElem?_eq_some_iff.mp hi).1
 obtain⟨oL,_,_,hoL,_⟩:=id hn;refine wpAny_nameGoes_keeps hk hn hc fun h' v hn' hs=>?_
 have apart:∀b o,X.s₀.heap.get? b=some o->b≠X.env.locals:=fun b o q=>Nat.ne_of_lt (Nat.lt_of_lt_of_le (Heap.lt_size q) I.ok.above)
 refine h _ ⟨I.ok,I.os,I.bare,⟨fun b o q n hb hx=>(hs.2 b (apart b o q)).trans (I.base.keep b o q n hb hx),fun b o q n hb hx=>?_,I.base.free,fun b o q hx=>?_,I.base.tups,I.base.frzs,I.base.tbls⟩,
  ⟨_,hn',fun j y v' e1 e2 e3=>?_⟩,fun y c q=>?_,I.free,I.freeC,fun p hp=>?_,fun b u q=>?_,by simpa using I.len⟩
 ·obtain⟨sl,z⟩:=I.base.slot b o q n hb hx;exact⟨sl,(hs.2 b (apart b o q)).trans z⟩
 ·obtain⟨o',z⟩:=I.base.there b o q hx;exact⟨o',(hs.2 b (apart b o q)).trans z⟩
 ·by_cases hj:j=i
  ·subst hj;rw[List.getElem?_set_self hiσ] at e2;cases e2
  ·rw[List.getElem?_set_ne (Ne.symm hj)] at e2;obtain⟨u',r',q⟩:=hl j y v' e1 e2 e3;refine⟨u',r',?_⟩;rcases q with⟨k,z⟩|⟨k,c,z,z2⟩
   ·have ny:y≠x:=fun t=>hj (I0 hN e1 (t▸hi))
    exact .inl ⟨k,by simp[ny,z]⟩
   ·exact .inr ⟨k,c,z,z2.sameBut hs (I.cne y c z)⟩
 ·obtain⟨w',z⟩:=I.cell y c q;exact⟨w',z.sameBut hs (I.cne y c q)⟩
 ·obtain⟨q,n,ne,nf,d⟩:=I.pin p hp;exact⟨(hs.2 p.1 ne).trans q,n,ne,nf,d⟩
 ·have nb:∀{c:Addr} {v':HO},H c=some v'->c≠X.env.locals:=fun{c v'} z=>A4 z I.free
  refine(I.hok b u q).stay (fun c w' hc z=>(hs.2 c ?_).trans z) (fun _ z=>z) fun _ _ z=>z
  rcases hc with rfl|hc
  ·exact nb q
  ·exact nb hc
theorem Inv.flown {H':Hp}{s':Shared}{ea:Addr}{cls a0:Value}{B:Heap}(I:Inv X pins σ H s)(F:Fly X.prog X.w X.stack H s ea cls H' B a0 s'):s.heap.get? ea=none:=by
 cases q:s.heap.get? ea with
 |none=>rfl
 |some o=>
  by_cases hb:ea∈EH X.stack
  ·obtain⟨z,e⟩:=F.un.slot ea o q (I.stkFree ea hb) hb (by simp);obtain⟨_,o',ho',hd⟩:=I.stack.mem hb;rw[q] at ho';cases ho';obtain⟨_,_,_,oe,vs,_,_,_,he,_,hv,_⟩:=F.fl;rw[he] at e;cases e;exact absurd hv (hd vs)
  ·obtain⟨o',e⟩:=F.th ea o q hb;rw[F.fl.2.1] at e;cases e
end
theorem Gw {X:Cx}{x:Str}{C:Addr}{pos:Pos}(hg:Gl X x)(hm:X.mg x=some (.ref C))(hd:(x == ("__debug__":Str))=false:=by decide):PE X (.Name x pos) (tC (.ref C)):=Lv (v:=.ref C) hg hm rfl hd
theorem Ki:bootBuiltins "ValueError"=some (.type "ValueError"):=by decide +kernel
end L2
namespace L2
section
open PySem PySem.Calls PyProof.Rows
variable {prog:Program}{w:World}{A:Around}{E:Value->Shared->Prop}{s:Shared}
def HeldAt (h:Heap)(e:Addr):Prop:=∃o vs,h.get? e=some o/\o.data=.fields vs/\vs[2]?=some .none
theorem HeldAt.keeps {h h':Heap}{e:Addr}(z:HeldAt h e)(k:∀o,h.get? e=some o->h'.get? e=some o):HeldAt h' e:=by
 obtain⟨o,vs,q,r⟩:=z;exact⟨o,vs,k o q,r⟩
end
end L2
namespace L2
section
open PySem PySem.Calls PyProof.Rows PySem.W
structure IsExcD (h:Heap) (e D:Addr) (d:Option Addr):Prop where
 is:IsExc h e D
 dj:∃o,h.get? e=some o/\o.dict=d/\JY o
theorem IsExcD.stays {h1 h2:Heap}{e D:Addr}{d:Option Addr}(z:IsExcD h1 e D d)(k:∀o,h1.get? e=some o->h2.get? e=some o):IsExcD h2 e D d:=by
 obtain⟨a,o,q,hd⟩:=z;exact⟨a.stays k,o,k o q,hd⟩
end
section
open PySem PySem.Spec PyProof.Rows
def EJ (e D:Addr)(d:Option Addr):HO:=.ext fun h=>IsExcD h e D d
variable {X:Cx}{pins:List (Addr×Obj)}{σ:St}{H:Hp}{s:Shared}
theorem Inv.knowD {H':Hp}{s':Shared}{ea C:Addr}{a0:Value}{B h':Heap}{d:Option Addr}(I:Inv X pins σ H s)(F:Fly X.prog X.w X.stack H s ea (.ref C) H' B a0 s')(J:Inv X pins σ H' { s' with heap:=h' })(T:h'.TracedW B ea (.ref C) a0)(dj:DictAt h' ea d):Inv X pins σ (upd H' ea (EJ ea C d)) { s' with heap:=h' }:=by
 have n:=I.flown F;obtain⟨m,hn,_⟩:=id I.loc;obtain⟨oL,_,_,hoL,_⟩:=id hn;obtain⟨oe,vs,_,_,_,he,⟨hc,_⟩,hv,_⟩:=T;have ise:IsExcD h' ea C d:=⟨⟨oe,he,hc,vs,hv⟩,oe,he,dj.get he⟩
 refine J.know (fun x=>?_) (fun z=>?_) (fun x c q z=>?_) (fun p hp z=>?_) F.free ⟨ise,⟨oe,he⟩,fun h1 h2 z k=>z.stays k⟩
 ·cases q:X.s₀.heap.get? ea with
  |none=>rfl
  |some o=>
   obtain⟨o',z⟩:=I.base.there ea o q x;rw[n] at z;cases z
 ·rw[<-z,n] at hoL;cases hoL
 ·obtain⟨w',oc,e,_⟩:=I.cell x c q;rw[z,n] at e;cases e
 ·have:=(I.pin p hp).1;rw[z,n] at this;cases this
def VI (K:PySem.W.Frag):List V->Hp->VK->Prop:=fun xs H Q=>∃(e D:Addr) (d:Option Addr) (c:V) (cv:Value) (b:Bool),xs=[.ref e,c]/\H e=some (EJ e D d)/\ExcCls K D/\(∀u,RelV c u->u=cv)/\PySem.W.kitOne K (.ref D) cv=some b/\Q (.bl b) H
theorem Ey {K:PySem.W.Frag}(hK:X.K=K):CH X (.builtin "isinstance") (VI K):=by
 subst hK;intro pins s σ H xs us Q I r h;obtain⟨e,D,d,c,cv,b,rfl,he,hc,hv,hk,q⟩:=h;obtain⟨u,v,rfl,ru,rv⟩:=vals2 r;cases(show u=Value.ref e from ru);cases hv v rv;have z:AN X.prog X.w H s.heap e (EJ e D d):=I.hok e _ he;exact PySem.W.kia_one hc.kit I.kIn z.1.is hk (fun z=>nomatch z) fun tk=>⟨.bl b,H,I.tok _,rfl,q⟩
variable {x n:Str}{c:Value}{body orelse suite:List Stmt}{b₀:Stmt}{np hpos pos:Pos}{i:Nat}
def VZ (ea:Addr)(H:Hp):Prop:=∃C d,H ea=some (EJ ea C d)
theorem VZ.held {ea:Addr}(hx:VZ ea H)(I:Inv X pins σ H s):HeldAt s.heap ea:=by
 obtain⟨C,d,h⟩:=hx;obtain⟨⟨_,o,q,_,vs,h1,h2⟩,_,_⟩:AN X.prog X.w H s.heap ea (EJ ea C d):=I.hok ea _ h;exact⟨o,vs,q,h1,h2⟩
end
end L2
namespace L2
open PySem PySem.Spec PyProof.Rows
end L2
namespace L2
section
open PySem PySem.Calls PyProof.Rows PySem.W Builtin Builtin.ObjectAttr
def OB:List Value->Bool
 | .ref _::r=>OB r
 |l=>l == M8
theorem Le (self:Value):∀{l:List Value},OB l=true->refuseLoop self "__setattr__" l=pure ()
 |[],e=>by cases e
 | .ref a::r,e=>by rw[refuseLoop_ref];exact Le self (l:=r) e
 | .type n::r,e=>by
  have:(Value.type n::r)=M8:=beq_iff_eq.mp e;rw[this];exact PySem.F.store_ValueError.passes self
 | .none::_,e | .bool _::_,e | .int _ _::_,e | .float _ _::_,e | .str _ _::_,e | .builtin _::_,e | .notImplemented::_,e | .ellipsis::_,e=>by cases e
def Wn (K:Frag)(C:Addr):Bool:=(clsIn K C).any fun cd=>OB cd.mro
section
variable {prog:Program}{w:World}{A:Around}{E:Value->Shared->Prop}{s:Shared}{K:Frag}{x C:Addr}{vs:Array Value}{name:Str}{v:Value}
structure ExiCls (K:Frag) (C:Addr):Prop extends ExcCls K C where
 sa:findIn K (.ref C) "__setattr__"=some (some (.builtin "object.__setattr__"))
 ve:Wn K C=true
 hd:hasDictIn K C=true
theorem QN (hx:s.heap.get? x=some ⟨.ref C,none,.fields vs,#[]⟩):InstAt s.heap x ⟨.ref C,none,.fields vs,#[]⟩ C none:=⟨hx,rfl,rfl,trivial⟩
theorem Ql {Q:Unit->Shared->Prop} (X:K.In s.heap) (c:ExiCls K C) (hn:findIn K (.ref C) name=some none) (hx:s.heap.get? x=some ⟨.ref C,none,.fields vs,#[]⟩)
  (h:∀h',h'.get? x=some ⟨.ref C,some s.heap.objs.size,.fields vs,#[]⟩->h'.Ns1 s.heap.objs.size (fun y=>if y=name then some v else none)->(∀b o,b≠x->s.heap.get? b=some o->h'.get? b=some o)->Q () { s with heap:=h',toks:=s.toks+2 }) :
  wpAny (model prog w) A (setAttr (.ref x) name v) Q E s:=by
 have I:=QN hx;obtain⟨cd,hc,hm⟩:=any_some c.ve;obtain⟨cd2,hc2,hdd⟩:=any_some c.hd;rw[hc] at hc2;cases hc2;refine set_plain X I c.sa ?_;have inObj:Looks (model prog w) s.heap (isInstance (.ref x) (.type "object")) true:=I.type.andThen (looks_mroIn X c.mo);have G:=PySem.F.store_ValueError;refine codeAny_call_builtin G.slot.plain G.entry (@check_slot (model prog w) _ _ { s with toks:=s.toks+1 } "object.__setattr__" "object" "__setattr__" (.ref x) [.str name s.toks,v] [] _ G.kind G.split inObj (G.args (.ref x) (.str name s.toks) v) ?_);rw[osa_eq,refuse_eq];have own:Looks (model prog w) s.heap (mroOf (.ref C)) cd.mro:=(looks_clsIn X hc).andThen .now;refine wpAny_bind (wpAny_bind (Looks.here (s:={ s with toks:=s.toks+1 }) I.type (wpAny_bind (Looks.here (s:={ s with toks:=s.toks+1 }) own ?_))));rw[Le _ hm];refine wpAny_pure (wpAny_bind (Looks.here (s:={ s with toks:=s.toks+1 }) I.type (wpAny_bind (Looks.here (s:={ s with toks:=s.toks+1 }) (looks_findIn X hn) (wpAny_bind (wpAny_pure ?_))))));dsimp only;refine wpAny_bind (wpAny_pure (wpAny_bind (wpAny_bind (wpAny_loadPart hx (wpAny_bind (Looks.here (s:={ s with toks:=s.toks+1 }) (looks_clsIn X hc) ?_))))));rw[hdd];refine wpAny_bind (wpAny_alloc ?_);have n0:s.heap.get? s.heap.objs.size=none:=Heap.get?_none_of_le (Nat.le_refl _);have nx:s.heap.objs.size≠x:=fun z=>by rw[z,hx] at n0;cases n0
 have hx1:=Heap.get?_push_of_some { cls:=.type "dict",data:=.dict #[] } hx;refine wpAny_bind (wpAny_update hx1 ?_);have hx2:=Heap.get?_update_self (fun o:Obj=>{ o with dict:=some s.heap.objs.size }) hx1 rfl;have hd2:((s.heap.push { cls:=.type "dict",data:=.dict #[] }).update x (fun o:Obj=>{ o with dict:=some s.heap.objs.size })).get? s.heap.objs.size=some { cls:=.type "dict",data:=.dict #[] }:=by
  rw[Heap.get?_update_other _ _ (Ne.symm nx)];exact Heap.get?_push_size _ rfl
 have ns0:((s.heap.push { cls:=.type "dict",data:=.dict #[] }).update x (fun o:Obj=>{ o with dict:=some s.heap.objs.size })).Ns1 s.heap.objs.size (fun _=>none):=⟨_,_,_,hd2,rfl,(fun e he=>by simp at he),(by simp[UniqKeys]),fun _=>rfl⟩
 have keep:∀b o,b≠x->s.heap.get? b=some o->((s.heap.push { cls:=.type "dict",data:=.dict #[] }).update x (fun o:Obj=>{ o with dict:=some s.heap.objs.size })).get? b=some o:=fun b o nb q=>by
  rw[Heap.get?_update_other _ _ (Ne.symm nb)];exact Heap.get?_push_of_some _ q
 generalize (s.heap.push { cls:=.type "dict",data:=.dict #[] }).update x (fun o:Obj=>{ o with dict:=some s.heap.objs.size })=h1 at hx2 hd2 ns0 keep;refine wpAny_pure (a:=some s.heap.objs.size) (wpAny_bind (wpAny_pure (wpAny_bind ?_)));refine wpAny_nsSet1 (s:={ s with heap:=h1,toks:=s.toks+1 }) ns0 fun h2 ns2 but=>?_
 obtain⟨oD,esD,epD,hoD,hdD,hcD⟩:=ns2.count (PySem.Within.cons (ns:=[]) name v fun _ z=>absurd rfl z);refine wpAny_bind (wpAny_lookBehind hoD (by rw[hdD];exact pastItsLine_dict (Nat.le_trans hcD (by rw[sizeLine_eq];show 1<=_;decide))) ?_);refine wpAny_pure (h h2 ((but.2 x (Ne.symm nx)).trans hx2) ns2 fun b o nb q=>(but.2 b fun z=>?_).trans (keep b o nb q));rw[z,n0] at q;cases q
end
def MJ (K:Frag)(C:Addr):Bool:=(K.lookup C).any fun o=>match o with
 |⟨.type t,_,.cls cd,sl⟩=>t == "type" && !cd.hasDel&&(match cd.mro with | .ref D::tl=>D == C&&tailIn K M8 tl|_=>false)&&(match sl.toList with|[_,_,_,_,some (.builtin n),_]=>n == "ValueError.__new__"|_=>false)
 |_=>false
theorem OX {h:Heap}{K:Frag}{C:Addr}(X:K.In h)(q:MJ K C=true) :
  ∃tl N nm qn bs hd sn sub ab col dd k0 k1 k2 k3 k5,h.get? C=some (excClassObj nm qn C N bs tl hd sn sub ab col dd k0 k1 k2 k3 k5 "ValueError.__new__")/\OwnTail h M8 tl:=by
 obtain⟨o,found,z⟩:=any_some q
 split at z
 ·rename_i t dx ck sl
  rw[Bool.and_eq_true,Bool.and_eq_true,Bool.and_eq_true] at z;obtain⟨⟨⟨z1,z2⟩,z3⟩,z4⟩:=z;have y1:t="type":=beq_iff_eq.mp z1;have y2:ck.hasDel=false:=by simpa using z2
  split at z3
  ·rename_i D tl em
   rw[Bool.and_eq_true] at z3;have y3:D=C:=beq_iff_eq.mp z3.1
   split at z4
   ·rename_i p0 p1 p2 p3 made p5 es
    have y4:made="ValueError.__new__":=beq_iff_eq.mp z4;subst y1 y3 y4;obtain⟨nm,bs,mro,ns,qn,hd,sn,sub,ab,col,del⟩:=ck;simp only at em y2;subst em y2;obtain⟨l⟩:=sl;simp only at es;subst es;exact⟨tl,ns,nm,qn,bs,hd,sn,sub,ab,col,dx,p0,p1,p2,p3,p5,X _ _ found,tail_of_in X z3.2⟩
   ·cases z4
  ·cases z3
 ·cases z
section
variable {prog:Program}{w:World}{A:Around}{E:Value->Shared->Prop}{s:Shared}{K:Frag}{C f:Addr}{us:List Value}
def CZ (C t:Addr)(d:Option Addr):Obj:=⟨.ref C,d,.fields #[.ref t,.none,.none,.none,.bool false,.none],#[]⟩
theorem QJ {Q:Value->Shared->Prop} (X:K.In s.heap) (hq:MJ K C=true) (hi:findIn K (.ref C) "__init__"=some (some (.ref f))) (hf:typeIn K (.ref f)=some (.type "function")) (hl:us.length<=sizeLine)
  (h:∀h1,(∀b o,s.heap.get? b=some o->h1.get? b=some o)->h1.get? (s.heap.objs.size+1)=some (CZ C s.heap.objs.size none)->h1.objs.size=s.heap.objs.size+2->
   wpAny (model prog w) (A.under (.builtin "type.__call__" ⟨.ref C::us,[]⟩)) (call (.ref f) (.ref (s.heap.objs.size+1)::us)) (fun r s'=>r=.none/\Q (.ref (s.heap.objs.size+1)) s') E { s with heap:=h1 }) :
  wpAny (model prog w) A (call (.ref C) us) Q E s:=by
 obtain⟨tl,N,nm,qn,bs,hd,sn,sub,ab,col,dd,k0,k1,k2,k3,k5,oc,T⟩:=OX X hq;obtain⟨hp,g,d,t,os⟩:=s;have G:=PySem.F.excBase_ValueError;have l1:=tc_lookup;have l2:=tc_bind (.ref C);have hT:(⟨hp,g,d,t,os⟩:Shared).TypeIs (.ref C) "type":=⟨_,oc,rfl⟩
 refine wpAny_call (codeAny_of_tree ?_);show wpAny _ _ (callAny (.ref C) _) _ _ _
 repeat (any_goals (first|assumption|(with_reducible refine wpAny_loadPart_at oc ?_)|wp_step))
 refine⟨rfl,codeAny_call_builtin_at (Code.quiet_builtin _ (by decide +kernel)) entry_typeCall (wpAny_check_type_call_sub oc ?_)⟩
 change K.In hp at X
 change hp.get? C=_ at oc
 change OwnTail hp M8 tl at T
 dsimp only at h;generalize eA:A.under (Code.builtin "type.__call__" { pos:=[Value.ref C]++us })=A1;have h:∀h1,(∀b o,hp.get? b=some o->h1.get? b=some o)->h1.get? (hp.objs.size+1)=some (CZ C hp.objs.size none)->h1.objs.size=hp.objs.size+2->wpAny (model prog w) A1 (call (.ref f) (.ref (hp.objs.size+1)::us)) (fun r s'=>r=.none/\Q (.ref (hp.objs.size+1)) s') E ⟨h1,g,d,t,os⟩:=by
  rw[<-eA];exact h
 show wpAny (model prog w) A1 (Builtin.«type.__call__» ⟨.ref C::us,[]⟩) _ _ ⟨hp,g,d,t,os⟩
 repeat (first|(with_reducible refine wpAny_loadPart_at oc ?_)|(with_reducible refine wpAny_madeBy_exc oc ?_)|wp_step)
 refine codeAny_call_builtin_code (Code.quiet_builtin _ G.quiet) (wpAny_check_new_subT G T oc (codeAny_exc_new_subT G T oc ?_ hl));show wpAny _ _ _ _ _ _;have k1:∀b o,hp.get? b=some o->((hp.push { cls:=.type "tuple",data:=.seq us.toArray }).push (CZ C hp.objs.size none)).get? b=some o:=fun b o q=>Heap.get?_push_of_some _ (Heap.get?_push_of_some _ q)
 have z1:((hp.push { cls:=.type "tuple",data:=.seq us.toArray }).push (CZ C hp.objs.size none)).objs.size=hp.objs.size+2:=by rw[Heap.size_push,Heap.size_push]
 have e1:((hp.push { cls:=.type "tuple",data:=.seq us.toArray }).push (CZ C hp.objs.size none)).get? (hp.objs.size+1)=some (CZ C hp.objs.size none):=by
  have:=Heap.get?_push_size (hp.push { cls:=.type "tuple",data:=.seq us.toArray }) (o:=CZ C hp.objs.size none) rfl;rw[Heap.size_push] at this;exact this
 change wpAny (model prog w) A1 _ _ _ ⟨(hp.push { cls:=.type "tuple",data:=.seq us.toArray }).push (CZ C hp.objs.size none),g,d,t,os⟩
 generalize (hp.push { cls:=.type "tuple",data:=.seq us.toArray }).push (CZ C hp.objs.size none)=h1 at k1 z1 e1;have I:InstAt h1 (hp.objs.size+1) (CZ C hp.objs.size none) C none:=⟨e1,rfl,rfl,trivial⟩
 have X1:K.In h1:=fun b o q=>k1 b o (X b o q)
 have cC:(Value.ref C::tl).contains (.ref C)=true:=by simp
 refine wpAny_bind (wpAny_bind (Looks.here (s:=⟨h1,g,d,t,os⟩) I.type ?_));refine wpAny_isSubtype_exc (k1 _ _ oc) ?_;rw[cC];refine wpAny_bind (wpAny_holding (special_fn (s:=⟨h1,g,d,t,os⟩) X1 I hi hf (wpAny_mono (h h1 k1 e1 z1) (fun r s' q=>?_) fun _ _ q=>q)));obtain⟨rfl,q⟩:=q;exact wpAny_pure q
end
end
section
open PySem PySem.Spec PyProof.Rows
def Fh (x C:Addr)(d:Option Addr):HO:=.ext fun h=>∃t,h.get? x=some (CZ C t d)
theorem OS {P:Program}{w:World}{H:Hp}{h:Heap}{x C t:Addr}{d:Option Addr}(e:h.get? x=some (CZ C t d)):AN P w H h x (Fh x C d):=⟨⟨t,e⟩,⟨_,e⟩,fun _ _ ⟨t,z⟩ k=>⟨t,k _ z⟩⟩
variable {X:Cx}{pins:List (Addr×Obj)}{σ:St}{H:Hp}{s:Shared}
theorem Nd {A:Around} {E:Value->Shared->Prop} {Q:Unit->Shared->Prop} {e C:Addr} {f:Str} {y:V} {u:Value} (I:Inv X pins σ H s) (he:H e=some (Fh e C none)) (c:ExiCls X.K C) (n:PySem.W.findIn X.K (.ref C) f=some none) (ry:RelV y u)
  (h:∀dx s',H dx=none->Inv X pins σ (upd (upd H e (Fh e C (some dx))) dx (.xd [(f,y)])) s'->Q () s'):wpAny (model X.prog X.w) A (setAttr (.ref e) f u) Q E s:=by
 obtain⟨⟨t,ob⟩,_,_⟩:AN X.prog X.w H s.heap e (Fh e C none):=I.hok e _ he;refine Ql I.kIn c n ob fun h1 ob1 ns1 k1=>?_
 have hf:H s.heap.objs.size=none:=I.hok.fresh (Nat.le_refl _);have n0:s.heap.get? s.heap.objs.size=none:=Heap.get?_none_of_le (Nat.le_refl _);have ne:s.heap.objs.size≠e:=fun z=>by rw[z,ob] at n0;cases n0
 have J:=I.write (x:=e) (e:=e) (o:=Fh e C (some s.heap.objs.size)) (h':=h1) (t':=s.toks+2) (by rw[he];trivial) (.inl rfl) (fun b o nb q=>k1 b o nb q) ⟨_,ob1⟩ (OS ob1);obtain⟨m,hn,_⟩:=id I.loc;obtain⟨oL,_,_,hoL,_⟩:=id hn;refine h s.heap.objs.size _ hf (J.know (fun x=>?_) (fun z=>?_) (fun x c q z=>?_) (fun p hp z=>?_) (by rw[Ag ne];exact hf) ⟨_,ns1,fun g=>?_⟩)
 ·cases q:X.s₀.heap.get? s.heap.objs.size with
  |none=>rfl
  |some o=>
   obtain⟨o',z⟩:=I.base.there _ o q x;rw[n0] at z;cases z
 ·rw[<-z,n0] at hoL;cases hoL
 ·obtain⟨w',oc,e1,_⟩:=I.cell x c q;rw[z,n0] at e1;cases e1
 ·have:=(I.pin p hp).1;rw[z,n0] at this;cases this
 ·by_cases eg:g=f
  ·subst eg;rw[if_pos rfl,List.lookup_cons_self];exact ry
  ·rw[if_neg eg,List.lookup_cons,show(g == f)=false from beq_eq_false_iff_ne.mpr eg]
   trivial
def V4 (K:PySem.W.Frag)(ta tv:TE)(f:Str):TS:=fun D σ H=>tv σ H fun y H1=>ta σ H1 fun x H2=>∃e C,x=.ref e/\H2 e=some (Fh e C none)/\ExiCls K C/\PySem.W.findIn K (.ref C) f=some none/\
 ∀dx,H2 dx=none->D.nx σ (upd (upd H2 e (Fh e C (some dx))) dx (.xd [(f,y)]))
theorem Su {o value:Expr}{f:Str}{pos pos':Pos}{ta tv:TE}(ha:PE X o ta)(hv:PE X value tv)(hs:swapsWith value (some (.Attribute o f pos')) pos.line X.env=pure false):PS X (.Assign [.Attribute o f pos'] value pos) (V4 X.K ta tv f):=by
 intro pins s σ H D I h;refine plainObj_wpAny_Assign_Attribute (Ba (hv pins s σ H _ I h) fun u s1 ⟨y,H1,I1,ry,q⟩=>Ba (ha pins s1 σ H1 _ I1 q) fun ov s2 ⟨x,H2,I2,rx,e,C,ex,he,c,n,q2⟩=>?_) hs;subst ex;obtain rfl:ov=Value.ref e:=rx;exact Nd I2 he c n ry fun dx s3 hd I3=>⟨σ,_,I3,q2 dx hd⟩
structure MkX (K:PySem.W.Frag) (C f:Addr):Prop where
 ex:MJ K C=true
 init:PySem.W.findIn K (.ref C) "__init__"=some (some (.ref f))
 fn:PySem.W.isFn K (.ref f)=true
 kp:PySem.W.keepIn K (.ref C)=true
theorem Tz {CX:Nx} {k:Nat} {f C:Addr} {fd:FuncData} {ps:List Str} {sp:Sp} {Q:VK} {us:List Value} {vs:List V} (M:MkX X.K C f) (F:FnOk X.prog X.w X.K X.mg X.base CX k f fd ps sp) (hr:Room (k+1) X.A) (hb:Binds X.K fd ps []) (hx:DL CX X E0) (hl:us.length<=sizeLine)
  (I:Inv X pins σ H s) (r:Aw vs us) (hq:sp (.ref (s.heap.objs.size+1)::vs) (upd H (s.heap.objs.size+1) (Fh (s.heap.objs.size+1) C none)) (fun v H2=>v=.non/\Q (.ref (s.heap.objs.size+1)) H2) E0):wpAny (model X.prog X.w) X.A (call (.ref C) us) (EP X pins σ Q) X.xe s:=by
 refine QJ I.kIn M.ex M.init (beq_iff_eq.mp M.fn) hl fun h1 k1 e1 z1=>?_
 have I2:=I.laid (a:=s.heap.objs.size+1) (o:=Fh (s.heap.objs.size+1) C none) (h':=h1) (t':=s.toks) k1 (Nat.le_succ _) (OS e1);have r2:Aw (V.ref (s.heap.objs.size+1)::vs) (Value.ref (s.heap.objs.size+1)::us):=.cons rfl r;have hn:(Value.ref (s.heap.objs.size+1)::us).length=ps.length:=r2.length.symm.trans (F.len _ _ _ _ hq);have hb':=hb { s with heap:=h1 } (Value.ref (s.heap.objs.size+1)::us) I2.kIn (by rw[List.append_nil];exact hn);rw[List.append_nil] at hb';refine wpAny_call (codeAny_mono (F.run _ X.stack _ _ ⟨Value.ref (s.heap.objs.size+1)::us,[]⟩ (Value.ref (s.heap.objs.size+1)::us) _ _ _ (hr.make C us []) (I2.env0.make C us []) hb' r2 hq) fun r s' z=>?_)
 match r,z with
 | .error e,z=>exact hx pins σ _ _ e s' I2 z
 | .ok (.ret u),z=>
  obtain⟨v,H',I3,rv,ev,q3⟩:=I2.after z;subst ev;exact⟨rv,⟨V.ref (s.heap.objs.size+1),H',I3,rfl,q3⟩⟩
theorem PV {M:Model} {A:Around} {E:Value->Shared->Prop} {K:PySem.W.Frag} {env:Env} {y:Sem Value} {Q:Flow->Shared->Prop} {s:Shared} (hh:A.handled=none)
  (h:wpAny M A y (fun v s1=>∃e C t d,v=.ref e/\K.In s1.heap/\MJ K C=true/\s1.heap.get? e=some (CZ C t d)/\E (.ref e) s1) E s):wpAny M A (raiseStmt env (some y) none) Q E s:=by
 unfold raiseStmt;refine wpAny_bind (wpAny_mono h (fun v s1 z=>?_) fun _ _ z=>z);obtain⟨e,C,t,d,rfl,k,hq,he,hE⟩:=z;obtain⟨tl,N,nm,qn,bs,hd,sn,sub,ab,col,dd,k0,k1,k2,k3,k5,oc,T⟩:=OX k hq;obtain⟨hp,g,dr,tk,os⟩:=s1
 change hp.get? e=some ⟨.ref C,d,.fields #[.ref t,.none,.none,.none,.bool false,.none],#[]⟩ at he
 have Xd:(Value.ref C::tl).contains (.type "BaseException")=true:=by rw[List.contains_cons,T.hasType PySem.F.excBase_ValueError.hasBase,Bool.or_true]
 repeat (first|(with_reducible refine wpAny_loadPart_at he ?_)|(with_reducible refine wpAny_loadPart_at oc ?_)|((with_reducible refine wpAny_isSubtype_exc oc ?_);rw[Xd])|wp_step)
 exact wpAny_raiseNew_none hh hE
end
section
open PySem PySem.Spec PyProof.Rows
def del (H:Hp)(e:Addr):Hp:=fun b=>if b=e then none else H b
theorem MF {H:Hp}{e:Addr}:del H e e=none:=by unfold del;rw[if_pos rfl]
theorem NX {H:Hp}{b e:Addr}(h:b≠e):del H e b=H b:=by unfold del;rw[if_neg h]
def NN (P:Program)(w:World):Nx:=fun outer H s E e s'=>∃(ea:Addr) (cls:Value) (H':Hp) (B:Heap) (a0:Value) (d:Option Addr),e=.ref ea/\Fly P w outer H s ea cls H' B a0 s'/\DictAt s'.heap ea d/\E cls d H'
section
variable {P:Program}{w:World}{K:PySem.W.Frag}{mg:Str->Option Value}{base:Heap}{N:List Str}{qual:Str}{scope:Scope}{f:Addr}{cd:Value}{A:Around}{outer:List Env}{s:Shared}{H:Hp}{E:XK}
theorem Dz {CX:Nx}{pins:List (Addr×Obj)}{σ:St}{H1:Hp}{s1:Shared}(I:Inv (BB CX P w K mg base N qual scope f cd A outer s H E) pins σ H1 s1){b:Addr}{o:Obj}(q:s.heap.get? b=some o)(hb:b∉EH outer) :
  b∉EH (envOfC qual scope s.heap.objs.size f cd::outer):=fun z=>by
 rcases List.mem_cons.mp (I.stkSub b z) with e|e
 ·have h1:s.heap.objs.size<=b:=by rw[e];exact I.ok.above
  exact absurd (Nat.lt_of_lt_of_le (Heap.lt_size q) h1) (Nat.lt_irrefl _)
 ·exact hb e
theorem Hd:DL (NN P w) (BB (NN P w) P w K mg base N qual scope f cd A outer s H E) E:=by
 intro pins σ H1 s1 e s2 I h;obtain⟨ea,cls,H',B,a0,d,rfl,F,dj,q⟩:=h;have hfr:=I.ok.frames;refine(Gn _ _).also dj (wpAny_leaves_onW (L:=s.heap.objs.size) hfr rfl F.fl fun h' fl' up dj'=>?_);have un:=F.stay I.stack I.stkFree fl'.1 up;have J:=I.call' (s':={ s2 with heap:=h' }) (ch:=[]) F.os un (F.hok.kept fl'.1) F.bare (fun b z=>nomatch z);refine⟨ea,cls,H',B,a0,d,rfl,⟨J.os,F.bare,J.base,F.hok,fl',fun b o e n hb=>?_,fun b o e hb=>?_,⟨_,dj'⟩⟩,dj',q⟩
 ·exact F.kp b o (I.base.keep b o e n hb (by intro z;cases z)) (I.base.free b o e n (by intro z;cases z)) (Dz I e hb)
 ·obtain⟨o1,e1⟩:=I.base.there b o e (by intro z;cases z);exact F.th b o1 e1 (Dz I e hb)
theorem PL {pins:List (Addr×Obj)}{σ:St}{H1:Hp}{s1:Shared}{ea C:Addr}{d:Option Addr}(I:Inv (BB (NN P w) P w K mg base N qual scope f cd A outer s H E) pins σ H1 s1)(he:H1 ea=some (Fh ea C d))(hn:s.heap.objs.size<=ea)(q:E (.ref C) d (del H1 ea)) :
  (BB (NN P w) P w K mg base N qual scope f cd A outer s H E).xe (.ref ea) s1:=by
 have hfr:=I.ok.frames;obtain⟨⟨t,ob⟩,_,_⟩:AN P w H1 s1.heap ea (Fh ea C d):=I.hok ea _ he;have nf:ea∉EH (envOfC qual scope s.heap.objs.size f cd::outer):=fun z=>by
  have:=I.stkFree ea z;rw[he] at this;cases this
 have nofs:s.heap.get? ea=none:=Heap.get?_none_of_le hn;have hid:∀{b:Addr} {o:Obj},s1.heap.get? b=some o->b≠ea->b∉EH (envOfC qual scope s.heap.objs.size f cd::outer)->(PySem.W.hideAll s1.heap (ea::EH (envOfC qual scope s.heap.objs.size f cd::outer))).get? b=some o:=fun e n1 n2=>PySem.W.hideAll_get _ e fun z=>(List.mem_cons.mp z).elim n1 n2
 have ff:s1.heap.FunFrames (PySem.W.hideAll s1.heap (ea::EH (envOfC qual scope s.heap.objs.size f cd::outer))) (envOfC qual scope s.heap.objs.size f cd::outer):=PySem.W.funFrames_hide I.stack fun env he a ha=>List.mem_cons_of_mem _ (List.mem_filterMap.mpr ⟨env,he,ha⟩)
 have hen:(PySem.W.hideAll s1.heap (ea::EH (envOfC qual scope s.heap.objs.size f cd::outer))).get? ea=none:=PySem.W.hideAll_none _ List.mem_cons_self;refine(Gn _ _).also (ON ob ⟨_,rfl,rfl⟩) (wpAny_leaving_firstW (base:=PySem.W.hideAll s1.heap (ea::EH (envOfC qual scope s.heap.objs.size f cd::outer))) (a0:=.ref t) hfr ff rfl ob (fun b o e=>PySem.W.of_hideAll _ e) hen rfl rfl rfl fun h' hL dj=>?_);obtain⟨k1,⟨_,_,k2⟩,k3,k4⟩:=hL;generalize PySem.W.hideAll s1.heap (ea::EH (envOfC qual scope s.heap.objs.size f cd::outer))=B at hid ff hen k1 k2 k3;have nt:∀{b:Addr} {u:HO},H1 b=some u->(∀φ,u≠.ext φ)->del H1 ea b=some u:=fun{b u} e n=>by
  rw[NX (fun z=>by rw[z,he] at e;cases e;exact n _ rfl)];exact e
 have sl:∀b o,s1.heap.get? b=some o->b∈EH (envOfC qual scope s.heap.objs.size f cd::outer)->∃z,h'.get? b=some { o with slots:=z }:=fun b o e hb=>by
  obtain⟨_,o',ho',hd⟩:=I.stack.mem hb;rw[e] at ho';cases ho';exact k4 b o e hd
 have un:Un (EH (envOfC qual scope s.heap.objs.size f cd::outer)) [] H1 (del H1 ea) s1.heap h':=by
  refine⟨fun b o e n hb _=>k1 b o (hid e (fun z=>by rw[z,he] at n;cases n) hb),fun b o e _ hb _=>sl b o e hb,fun b o _ n _=>?_,fun b o e _=>?_,fun b xs e=>nt e (by intro _ z;cases z),fun b o u e=>nt e (by intro _ z;cases z),fun b ps e=>⟨#[],by rw[nt e (by intro _ z;cases z)];simp⟩⟩
  ·unfold del;split
   ·rfl
   ·exact n
  ·by_cases z:b=ea
   ·rw[z];obtain⟨oe,_,_,_,_,e1,_⟩:=k3;exact⟨_,e1⟩
   ·by_cases hb:b∈EH (envOfC qual scope s.heap.objs.size f cd::outer)
    ·obtain⟨z,e1⟩:=sl b o e hb;exact⟨_,e1⟩
    ·exact⟨o,k1 b o (hid e z hb)⟩
 have hok:Gb P w (del H1 ea) B:=fun b u e=>by
  have nb:b≠ea:=fun z=>by rw[z,MF] at e;cases e
  rw[NX nb] at e;refine(I.hok b u e).stay (fun c v hc z=>hid z (fun y=>?_) fun y=>?_) (fun c z=>nt z (by intro _ z;cases z)) fun c xs z=>nt z (by intro _ z;cases z)
  ·rcases hc with rfl|hc
   ·exact nb y
   ·rw[y,he] at hc;cases hc
  ·have:=I.stkFree c y;rcases hc with rfl|hc
   ·rw[e] at this;cases this
   ·rw[hc] at this;cases this
 have J:=I.call' (s':={ s1 with heap:=h' }) (ch:=[]) rfl un (hok.kept k1) I.bare (fun b z=>nomatch z);refine⟨ea,_,del H1 ea,B,.ref t,d,rfl,⟨J.os,I.bare,J.base,hok,⟨k1,hen,k2,k3⟩,fun b o e n hb=>?_,fun b o e hb=>?_,⟨_,dj⟩⟩,dj,q⟩
 ·exact hid (I.base.keep b o e n hb (by intro z;cases z)) (fun z=>by rw[z,nofs] at e;cases e) (Dz I e hb)
 ·obtain⟨o1,e1⟩:=I.base.there b o e (by intro z;cases z);exact⟨o1,hid e1 (fun z=>by rw[z,nofs] at e;cases e) (Dz I e hb)⟩
end
end
section
open PySem PySem.Spec PyProof.Rows
def Wh (X:Cx)(E:XK):Prop:=∀(pins:List (Addr×Obj)) (σ:St) (H:Hp) (s:Shared) (ea C:Addr) (d:Option Addr),Inv X pins σ H s->H ea=some (Fh ea C d)->X.s₀.heap.objs.size<=ea->E (.ref C) d (del H ea)->X.xe (.ref ea) s
theorem Gs {P:Program}{w:World}{K:PySem.W.Frag}{mg:Str->Option Value}{base:Heap}{N:List Str}{qual:Str}{scope:Scope}{f:Addr}{cd:Value}{A:Around}{outer:List Env}{s:Shared}{H:Hp}{E:XK}:Wh (BB (NN P w) P w K mg base N qual scope f cd A outer s H E) E:=
 fun _ _ _ _ _ _ _ I he hn q=>PL I he hn q
theorem UD {P:Program}{w:World}{X:Cx}:DL (NN P w) X E0:=fun _ _ _ _ _ _ _ ⟨_,_,_,_,_,_,_,_,_,z⟩=>False.elim z
def QS (C:Addr)(f:Str):Sp:=fun vs H Q _=>∃e y,vs=[.ref e,y]/\H e=some (Fh e C none)/\∀dx,H dx=none->Q .non (upd (upd H e (Fh e C (some dx))) dx (.xd [(f,y)]))
def RT (P:Program)(w:World)(K:PySem.W.Frag)(mg:Str->Option Value)(base:Heap)(k:Nat)(x:Str)(C:Addr)(f:Str)(ps:List Str):Prop:=
 ∃(fI:Addr) (fd:FuncData),MkX K C fI/\FnOk P w K mg base DD k fI fd ps (QS C f)/\mg x=some (.ref C)/\Binds K fd ps []
def TV (C:Addr)(f:Str)(E:XK)(t:TA):TS:=fun _ σ H=>t σ H fun vs H1=>∃y,vs=[y]/\∀dx,H1 dx=none->E (.ref C) (some dx) (upd H1 dx (.xd [(f,y)]))
variable {X:Cx}{E:XK}{x:Str}{C:Addr}{f:Str}{ps:List Str}{k:Nat}{e:Expr}{t:TA}{np cpos pos:Pos}
theorem Hs (R:Wh X E)(hc:X.calm=true)(D:RT X.prog X.w X.K X.mg X.base k x C f ps)(hr:Room (k+1) X.A)(hg:Gl X x)(ha:PA X [e] t)(hdb:(x == ("__debug__":Str))=false:=by decide)(he:starEach [e] X.env=[(false,eval e X.env)]:=by rfl) :
  PS X (.Raise (some (.Call (.Name x np) [e] [] cpos)) none pos) (TV C f E t):=by
 intro pins s σ H Dn I h;obtain⟨fI,fd,M,F,hm,hb⟩:=D;rw[arm_exec_Raise];refine wpAny_bind (wpAny_standAt (PV (K:=X.K) (I.ok.hd hc) (wpAny_bind ?_)));refine wpAny_Call_Name_kw (DY I hg hm ?_ hdb);refine PySem.W.callWith_K (h₀:=X.base) I.ok.mod.kin M.kp (Ba (ha cpos pins s σ H _ I h) fun us s1 ⟨vs,H1,I1,r,y,ev,q⟩=>⟨I1.kIn,?_⟩) he rfl;subst ev;have hl2:us.length<=sizeLine:=by rw[<-r.length,sizeLine_eq];show 1<=_;decide
 have h1:=I1.hok.fresh (Nat.le_succ s1.heap.objs.size);refine Ba (Tz (Q:=fun v H2=>v=.ref (s1.heap.objs.size+1)/\∃dx,H2 (s1.heap.objs.size+1)=some (Fh (s1.heap.objs.size+1) C (some dx))/\E (.ref C) (some dx) (del H2 (s1.heap.objs.size+1))) M F hr hb MM hl2 I1 r ⟨_,y,rfl,Ac,fun dx hd=>⟨rfl,rfl,dx,?_,?_⟩⟩) fun v s2 z=>?_
 ·have nd:s1.heap.objs.size+1≠dx:=fun z=>by rw[<-z,Ac] at hd;cases hd
  rw[Ag nd,Ac]
 ·have nd:dx≠s1.heap.objs.size+1:=fun z=>by rw[z,Ac] at hd;cases hd
  rw[Ag nd] at hd;have eq:del (upd (upd (upd H1 (s1.heap.objs.size+1) (Fh (s1.heap.objs.size+1) C none)) (s1.heap.objs.size+1) (Fh (s1.heap.objs.size+1) C (some dx))) dx (.xd [(f,y)])) (s1.heap.objs.size+1)=upd H1 dx (.xd [(f,y)]):=by
   funext b
   by_cases e1:b=s1.heap.objs.size+1
   ·rw[e1,MF,Ag (Ne.symm nd)];exact h1.symm
   ·rw[NX e1]
    by_cases e2:b=dx
    ·rw[e2,Ac,Ac]
    ·rw[Ag e2,Ag e1,Ag e1,Ag e2]
  rw[eq];exact q dx hd
 ·obtain⟨v',H2,I2,rv,ev,dx,h2,q2⟩:=z;subst ev;obtain rfl:v=.ref (s1.heap.objs.size+1):=rv;obtain⟨⟨t2,ob⟩,_,_⟩:AN X.prog X.w H2 s2.heap (s1.heap.objs.size+1) (Fh (s1.heap.objs.size+1) C (some dx)):=I2.hok _ _ h2;refine wpAny_bind (wpAny_standAt (wpAny_pure ⟨_,C,t2,some dx,rfl,I2.kIn,M.ex,ob,R pins σ H2 s2 _ C _ I2 h2 ?_ q2⟩));obtain⟨m,⟨oL,_,_,hoL,_⟩,_⟩:=id I1.loc;exact Nat.le_of_lt (Nat.lt_of_le_of_lt I1.ok.above (Nat.lt_succ_of_lt (Heap.lt_size hoL)))
def IP (P:Program)(w:World)(K:PySem.W.Frag)(mg:Str->Option Value)(base:Heap)(k:Nat)(x:Str)(ps:List Str)(sp:Sp):Prop:=
 ∃(f:Addr) (fd:FuncData),FnOk P w K mg base (NN P w) k f fd ps sp/\mg x=some (.ref f)/\PySem.W.keepIn K (.ref f)=true/\Binds K fd ps []
theorem Fun.okE {P:Program} {w:World} {K:PySem.W.Frag} {mg:Str->Option Value} {base:Heap} {x qual:Str} {st:Stmt} {f:Addr} {fd:FuncData} {N ps:List Str} {k:Nat} {sp:Sp} (F:Fun K x qual st f fd) (S:FnScope N ps (Aj st)) (len:∀vs H Q E,sp vs H Q E->vs.length=ps.length)
  (hbody:∀(cdv:Value) (A:Around) (outer:List Env) (s:Shared) (H:Hp) (vs:List V) (Q:VK) (E:XK),Room k (A.deeper (envOfC qual (Aj st) s.heap.objs.size f cdv))->sp vs H Q E->
   ∃t,Mf (BB (NN P w) P w K mg base N qual (Aj st) f cdv A outer s H E) (Ao st) t/\t { nx:=fun _ H'=>Q .non H',rt:=Q } (start N vs) H):FnOk P w K mg base (NN P w) (k+1) f fd ps sp:=by
 obtain⟨oc,od,kV,doc,pm,an,cdv,ct,osl,rfl,lk,hcd⟩:=F.ex;exact Uv lk hcd S len fun A outer s H vs Q E hr hsp=>hbody cdv A outer s H vs Q E hr hsp
end
section
open PySem PySem.Spec PyProof.Rows
variable {X:Cx}{k:Nat}{x:Str}{ps:List Str}{sp:Sp}{E:XK}{e:Expr}{es:List Expr}{t:TA}{p pos:Pos}
theorem Jc (D:IP X.prog X.w X.K X.mg X.base k x ps sp) (hr:Room k X.A) (hg:Gl X x) (hx:DL (NN X.prog X.w) X E) (ha:PA X (e::es) t)
  (hdb:(x == ("__debug__":Str))=false:=by decide) (he:starEach (e::es) X.env=(false,eval e X.env)::starEach es X.env:=by rfl) (hpl:(backTo pos (starEach es X.env)).any (·.1)=false:=by rfl) :
  PE X (.Call (.Name x p) (e::es) [] pos) (Mw sp [] E t):=by
 obtain⟨f,fd,F,hm,hk,hb⟩:=D;exact OP F hr hg hm hk hb .nil hx ha hdb he hpl
abbrev V8:=Value->Option Addr->St->Hp->Prop
abbrev VD:=Ends->V8->St->Hp->Prop
def VE (X:Cx)(pins:List (Addr×Obj))(Ex:V8)(e:Value)(s':Shared):Prop:=
 ∃(ea:Addr) (cls:Value) (σ':St) (H1 H':Hp) (s1:Shared) (B:Heap) (a0:Value) (d:Option Addr),e=.ref ea/\Inv X pins σ' H1 s1/\Fly X.prog X.w X.stack H1 s1 ea cls H' B a0 s'/\DictAt s'.heap ea d/\Ex cls d σ' H'
def Xa (X:Cx)(st:Stmt)(t:VD):Prop:=
 ∀(pins:List (Addr×Obj)) (s:Shared) (σ:St) (H:Hp) (D:Ends) (Ex:V8),Inv X pins σ H s->t D Ex σ H->wpAny (model X.prog X.w) X.A (exec st X.env) (SP X pins D) (VE X pins Ex) s
def Wk (X:Cx)(st:List Stmt)(t:VD):Prop:=
 ∀(pins:List (Addr×Obj)) (s:Shared) (σ:St) (H:Hp) (D:Ends) (Ex:V8),Inv X pins σ H s->t D Ex σ H->wpAny (model X.prog X.w) X.A (execs st X.env) (SP X pins D) (VE X pins Ex) s
def Wq (X:Cx)(e:Expr)(t:(Value->Option Addr->Hp->Prop)->TE):Prop:=
 ∀(pins:List (Addr×Obj)) (s:Shared) (σ:St) (H:Hp) (Q:VK) (Ex:Value->Option Addr->Hp->Prop),Inv X pins σ H s->t Ex σ H Q->wpAny (model X.prog X.w) X.A (eval e X.env) (EP X pins σ Q) (VE X pins fun cls d σ' H'=>σ'=σ/\Ex cls d H') s
theorem UC {pins:List (Addr×Obj)}{σ:St}{Ex:V8}{v:Value}{s:Shared}(h:VE X pins (fun cls d σ' H'=>σ'=σ/\Ex cls d σ H') v s):VE X pins Ex v s:=by
 obtain⟨ea,cls,σ',H1,H',s1,B,a0,d,h1,h2,h3,h4,h5,h6⟩:=h;subst h5;exact⟨ea,cls,_,H1,H',s1,B,a0,d,h1,h2,h3,h4,h6⟩
def VN (i:Nat)(te:(Value->Option Addr->Hp->Prop)->TE):VD:=fun D Ex σ H=>te (fun cls d H'=>Ex cls d σ H') σ H fun x H1=>D.nx (σ.set i (some x)) H1
theorem TM {i:Nat} {y:Str} {te:(Value->Option Addr->Hp->Prop)->TE} {pos':Pos} (hN:X.N.Nodup) (hi:X.N[i]?=some y) (hy:Loc X.env.scope y) (he:Wq X e te) (hs:swapsWith e (some (.Name y pos')) pos.line X.env=pure false:=by rfl)
  (hf:X.fn y=true\/X.env.scope.names.lookup y=some .local:=by first|exact .inl rfl|exact .inr rfl|assumption):Xa X (.Assign [.Name y pos'] e pos) (VN i te):=by
 intro pins s σ H D Ex I h;refine wpAny_Assign_Name (wpAny_mono (he pins s σ H _ _ I h) (fun v s1 ⟨y,H1,I1,r1,q1⟩=>?_) fun _ _ z=>UC z) hs;exact Fp I1 hN hi hy r1 (fun s2 I2=>⟨_,H1,I2,q1⟩) hf
theorem RW {st:Stmt}{u:VD}(h1:Xa X st u):Wk X [st] u:=by
 intro pins s σ H D Ex I h;refine wpAny_execs_cons (Ba (h1 pins s σ H D Ex I h) fun f s1 q=>?_);cases f with
 |next=>exact wpAny_execs_nil q
 |ret v=>exact q
 |brk=>exact q
 |cont=>exact q
theorem SH (D:IP X.prog X.w X.K X.mg X.base k x ps sp) (hr:Room k X.A) (hg:Gl X x) (ha:PA X.nox (e::es) t)
  (hdb:(x == ("__debug__":Str))=false:=by decide) (he:starEach (e::es) X.env=(false,eval e X.env)::starEach es X.env:=by rfl) (hpl:(backTo pos (starEach es X.env)).any (·.1)=false:=by rfl) :
  Wq X (.Call (.Name x p) (e::es) [] pos) (fun Ex=>Mw sp [] (fun cls d H'=>Ex cls d H') t):=by
 obtain⟨f,fd,F,hm,hk,hb⟩:=D;intro pins s σ H Q Ex I h;refine wpAny_Call_Name_kw (DY I hg hm ?_ hdb);refine PySem.W.callWith_K (h₀:=X.base) I.ok.mod.kin hk (wpAny_mono (ha pos pins s σ H _ (I.wish _) h) (fun us s1 ⟨vs,H1,I1,r,q⟩=>⟨I1.kIn,?_⟩) fun _ _ z=>False.elim z) he hpl;have J:=I1.unwish;have q':sp vs H1 Q fun cls d H'=>Ex cls d H':=by rw[<-List.append_nil vs];exact q
 have hl:us.length=ps.length:=by rw[<-r.length];exact F.len _ _ _ _ q'
 have hb':=hb s1 us J.kIn (by rw[List.append_nil];exact hl);rw[List.append_nil] at hb';refine wpAny_call (codeAny_mono (F.run X.A X.stack s1 H1 ⟨us,[]⟩ us vs Q _ hr J.env0 hb' r q') fun r s' z=>?_)
 match r,z with
 | .error e,⟨ea,cls,H',B,a0,d,he,Fl,dj,q⟩=>exact⟨ea,cls,σ,H1,H',s1,B,a0,d,he,J,Fl,dj,rfl,q⟩
 | .ok (.ret u),z=>exact J.after z
end
section
open PySem PySem.Spec PyProof.Rows
variable {X:Cx}{pins:List (Addr×Obj)}{σ:St}{H:Hp}{s:Shared}
variable {x n:Str}{c:Value}{body orelse suite:List Stmt}{b₀:Stmt}{np hpos pos:Pos}{i:Nat}
def TL (K:PySem.W.Frag)(c:Value)(i:Nat)(tb:VD)(te:TS)(ts:Addr->TS):TS:=fun D σ H=>tb { D with nx:=te D } (fun cls d σ' H'=>PySem.W.exmOne K cls c=some true/\∃C:Addr,cls=.ref C/\∀ea,H' ea=none->
 ts ea { nx:=fun σ H=>D.nx (σ.set i none) H,rt:=D.rt,bk:=fun σ H=>D.bk (σ.set i none) H,ct:=fun σ H=>D.ct (σ.set i none) H } (σ'.set i (some (.ref ea))) (upd H' ea (EJ ea C d))) σ H
theorem Qg {tb:VD} {te:TS} {ts:Addr->TS} (hst:X.stack=X.env::X.outer/\X.env.frame=some X.env.locals) (hm:X.mg x=some c) (hg:Gl X x) (hN:X.N.Nodup) (hi:X.N[i]?=some n) (hk:X.env.scope.names.lookup n=some .local) (hb:Wk X body tb) (he:Mf X orelse te) (hs:∀ea:Addr,Mf (X.held (.ref ea)) (b₀::suite) (ts ea))
  (hd:(x == ("__debug__":Str))=false:=by decide):PS X (.Try body [.ExceptHandler (some (.Name x np)) (some n) (b₀::suite) hpos] orelse [] pos) (TL X.K c i tb te ts):=by
 intro pins s σ H D I h;refine wpAny_Try_except (wpAny_mono (hb pins s σ H _ _ I h) (fun f s1 q=>?_) fun e s1 q=>?_)
 ·cases f with
  |next=>
   obtain⟨σ',H',I',q⟩:=q;exact he pins s1 σ' H' D I' q
  |ret v=>exact q
  |brk=>exact q
  |cont=>exact q
 ·obtain⟨ea,cls,σ',H1,H',s2,B,a0,d,rfl,I2,F,dj,hx,C,hC,q⟩:=q;subst hC;have hfr:=I.ok.frames;have fl:=F.fl;rw[hst.1] at hfr fl;refine(GY _ _).also dj (wpAny_looks_onW hfr hst.2 fl fun h4 held4 up4 dj4=>?_);refine(E2 _ _).also dj4 (wpAny_landsW held4 fun h5 fl5 up5 dj5=>?_);have J5:=I2.landed F fl5.1 (up4.trans up5);refine wpAny_handleBy_cons (codeAny_handlers_test (DY (J5.held (.ref ea)) hg hm ?_ hd)) (by intro z;cases z);obtain⟨ob,hob,hcls⟩:=fl5.there;have LT:PySem.W.Looks (model X.prog X.w) h5 (typeOf (.ref ea)) (.ref C):=by
   rw[<-hcls];exact(PySem.W.Looks.ld hob).andThen .now
  refine(PySem.W.exm_one J5.kIn LT hx).here ?_;refine codeAny_handlers_suite_as ((E2 _ _).also dj5 (lands_againW fl5 fun h6 fl6 up6 dj6=>?_));have J6:=I2.landed F fl6.1 ((up4.trans up5).trans up6);have J7:=I2.knowD F J6 fl6.2.2.2 dj6;refine Fp (v:=.ref ea) J7 hN hi (.inl hk) rfl (fun s8 I8=>?_) (.inr hk);refine wpAny_mono (hs ea pins s8 _ _ _ (I8.held (.ref ea)) (q ea F.free)) (fun f s9 z=>?_) fun _ _ z=>False.elim z
  have z':=z.unheld J7;cases f with
  |next=>
   obtain⟨σ9,H9,I9,q9⟩:=z';exact IW I9 hN hi hk fun s10 I10=>⟨_,_,I10,q9⟩
  |brk=>
   obtain⟨σ9,H9,I9,q9⟩:=z';exact IW I9 hN hi hk fun s10 I10=>⟨_,_,I10,q9⟩
  |cont=>
   obtain⟨σ9,H9,I9,q9⟩:=z';exact IW I9 hN hi hk fun s10 I10=>⟨_,_,I10,q9⟩
  |ret u=>
   obtain⟨v,σ9,H9,I9,r9,q9⟩:=z';exact IW I9 hN hi hk fun s10 I10=>⟨v,_,_,I10,r9,q9⟩
end
section
open PySem PySem.Calls PyProof.Rows PySem.W Builtin Builtin.ObjectAttr Builtin.Getset_descriptor
variable {prog:Program}{w:World}{A:Around}{E:Value->Shared->Prop}{K:Frag}{e D:Addr}{oe od:Obj}{name:Str}{v:Value}{s:Shared}
theorem P0 {tk:Tok}{Q:Fin->Shared->Prop}(k:K.In s.heap)(I:InstAt s.heap e oe D (some od))(hf:findObj K D (some od) name=some (.value v))(q:Q (.done (.ret v)) s) :
  wpAny (model prog w) A (Builtin.«object.__getattribute__» ⟨[.ref e,.str name tk],[]⟩) Q E s:=by
 have T0:=I.type (M:=model prog w);have T1:=looks_find (M:=model prog w) k I hf;have s0:slotArgs "__getattribute__" 1 ⟨[.ref e,.str name tk],[]⟩=pure (Value.ref e,[Value.str name tk]):=by kernel_rfl
 have s1:attrName (.str name tk)=pure name:=by kernel_rfl
 simp only[Builtin.«object.__getattribute__»,s0];refine wpAny_bind (wpAny_pure ?_);dsimp only;rw[s1];refine wpAny_bind (wpAny_pure (wpAny_bind (T0.here (wpAny_bind (T1.here ?_)))));exact wpAny_pure q
theorem Uh {expr:Bool}{Q:Value->Shared->Prop}(k:K.In s.heap)(I:InstAt s.heap e oe D (some od))(z:IsExc s.heap e D)(c:ExcCls K D)(hf:findObj K D (some od) name=some (.value v))(hh:handedIn v=true)(q:Q v { s with toks:=s.toks+1 }) :
  wpAny (model prog w) A (getAttr (.ref e) name expr) Q E s:=by
 obtain⟨h1,g1,d1,t1,o1⟩:=s;have T0:=I.type (M:=model prog w);have T1:=looks_findIn (M:=model prog w) k c.ga;have T2:=looks_findIn (M:=model prog w) k c.gg;have B:=F.excAttr_ValueError.ga.bind (.ref e);unfold getAttr getAttrBy;refine wpAny_bind (wpAny_mkText (wpAny_holding (wpAny_bind (T0.at (wpAny_bind (T1.at ?_))))));have n0:(onTheHeap (Value.ref D)&&Value.builtin "BaseException.__getattribute__" == Value.builtin "object.__getattribute__")=false:=by
  have:(Value.builtin "BaseException.__getattribute__" == Value.builtin "object.__getattribute__")=false:=by decide +kernel
  rw[this];rfl
 dsimp only;rw[if_neg (by rw[n0];decide)];unfold getAttrByItsOwn hookBefore;rw[if_pos (by rfl)];refine wpAny_bind (T2.at (wpAny_bind (wpAny_attempt (wpAny_holding ?_))));unfold callGetattribute boundAndCalled;rw[if_neg (by cases expr<;>decide),B];refine wpAny_bind (wpAny_pure ?_);dsimp only;refine wpAny_call (codeAny_call_builtin F.excAttr_ValueError.ga.plain F.entry_bexc_ga ?_);refine KS (s:=⟨h1,g1,d1,t1+1,o1⟩) k z c.mb (P0 (s:=⟨h1,g1,d1,t1+1,o1⟩) k I hf ?_);dsimp only;exact handed_on hh q
end
section
open PySem PySem.Spec PyProof.Rows
variable {X:Cx}{pins:List (Addr×Obj)}{σ:St}{H:Hp}{s:Shared}
def Wj (K:PySem.W.Frag)(ta:TE)(f:Str):TE:=fun σ H Q=>ta σ H fun x H1=>∃e D dx fs v,x=.ref e/\H1 e=some (EJ e D (some dx))/\ExiCls K D/\PySem.W.findIn K (.ref D) f=some none/\H1 dx=some (.xd fs)/\fs.lookup f=some v/\Q v H1
theorem TJ {K:PySem.W.Frag}(hK:X.K=K){o:Expr}{f:Str}{pos:Pos}{ta:TE}(he:PE X o ta)(hb:attributeBase o f X.env (eval o X.env)=eval o X.env):PE X (.Attribute o f pos) (Wj K ta f):=by
 subst hK;intro pins s σ H Q I h;refine OH hb (Ba (he pins s σ H _ I h) fun u s1 ⟨x,H1,I1,rx,e,D,dx,fs,v,ex,ee,c,n,hd,l,q⟩=>?_);subst ex;obtain rfl:u=Value.ref e:=rx;obtain⟨⟨z,oe,q1,hde,_⟩,_,_⟩:AN X.prog X.w H1 s1.heap e (EJ e D (some dx)):=I1.hok e _ ee;obtain⟨mA,ns,r⟩:AN X.prog X.w H1 s1.heap dx (.xd fs):=I1.hok dx _ hd;obtain⟨od,ho,hl⟩:=KP ns;obtain⟨u,hu,ru⟩:=Eb.some_of (v:=v) (o:=mA f) (by rw[<-l];exact r f);obtain⟨oe2,q2,hc,vs,hv⟩:=id z.ob;rw[q1] at q2;cases q2;have inst:PySem.W.InstAt s1.heap e oe D (some od):=⟨q1,hc,by unfold PySem.W.notCls;rw[hv],by rw[hde];exact ho⟩
 exact Uh I1.kIn inst z c.toExcCls (PySem.W.findObj_own c.hd n rfl (by rw[hl,hu])) (K3 ru) ⟨v,H1,I1.tok _,ru,q⟩
def UL (K:PySem.W.Frag):List V->Hp->VK->Prop:=fun xs H Q=>∃(e D tp:Addr) (d:Option Addr) (cs:List V) (its:List Value) (b:Bool),xs=[.ref e,.ref tp]/\H e=some (EJ e D d)/\ExcCls K D/\H tp=some (.tup cs)/\(∀us,Aw cs us->us=its)/\PySem.W.kitAny K (.ref D) its=some b/\Q (.bl b) H
theorem Oa {K:PySem.W.Frag}(hK:X.K=K):CH X (.builtin "isinstance") (UL K):=by
 subst hK;intro pins s σ H xs us Q I r h;obtain⟨e,D,tp,d,cs,its,b,rfl,he,hc,ht,hv,hk,q⟩:=h;obtain⟨u,v,rfl,ru,rv⟩:=vals2 r;cases(show u=Value.ref e from ru);cases(show v=Value.ref tp from rv);have z:AN X.prog X.w H s.heap e (EJ e D d):=I.hok e _ he;obtain⟨_,us,r1,⟨oc,od,oda,osl⟩,g1,g2,n,g3,_⟩:AN X.prog X.w H s.heap tp (.tup cs):=I.hok tp _ ht;dsimp only at g2 g3;subst g2 g3;cases hv us r1;exact PySem.W.kia_tup hc.kit I.kIn z.1.is g1 hk (fun z=>nomatch z) fun tk=>⟨.bl b,H,I.tok _,rfl,q⟩
end
end L2
namespace L2
open PySem PySem.Calls PySem.Spec PyProof.Rows PySem.Builtin.Str
section
variable {prog:Program}{w:World}{A:Around}{E:Value->Shared->Prop}{s:Shared}{x y:Str}{t u:Tok}{Q:Value->Shared->Prop}
theorem Qp (hz:x.length+2<=sizeLine):(PySem.Txt.split x y).length<=sizeLine:=by
 have:=StrLaws.occ_length_le x y 0 x.length (x.length+1);unfold PySem.Txt.split
 split
 ·show 1<=sizeLine;decide
 ·split
  ·show 1<=sizeLine;decide
  ·rw[length_partsBetween];omega
theorem Qw (hy:(y.length == 0)=false) (hz:x.length+2<=sizeLine)
  (h:∀(l:List (Str×Tok)) (k:Nat),l.map (·.1)=PySem.Txt.split x y->Q (.ref s.heap.objs.size) { s with heap:=s.heap.push { cls:=.type "list",data:=.seq (strValues l).toArray },toks:=k }) :
  wpAny (model prog w) A (call (.builtin "str.split") [.str x t,.str y u]) Q E s:=by
 have go:∀{S:PySem.Spec},Meets (Builtin.«str.split» ⟨[.str x t,.str y u],[]⟩) S->S A (wants Q E) s->wpAny (model prog w) A (call (.builtin "str.split") [.str x t,.str y u]) Q E s:=
  fun g z=>call_meets F.slot_str_split (typeIs_str _ _ _) F.entry_str_split (F.args_str_split_2 _ _) g z
 by_cases c1:(decide (x.length<y.length)||decide (strKind x<strKind y))=true
 ·exact go (meets_str_split_cannot_occur x y t u c1) (h [(x,t)] s.toks (by unfold PySem.Txt.split;rw[if_pos c1];rfl))
 have c1':=Bool.eq_false_iff.mpr c1
 by_cases c2:(occurrences x y 0 x.length (x.length+1)).isEmpty=true
 ·exact go (meets_str_split_not_found x y t u c1' hy c2) (h [(x,t)] s.toks (by unfold PySem.Txt.split;rw[if_neg c1,if_pos c2];rfl))
 have few:(partsBetween x (occurrences x y 0 x.length (x.length+1)) y.length).length<=sizeLine:=by
  have:=StrLaws.occ_length_le x y 0 x.length (x.length+1);rw[length_partsBetween];omega
 refine go (meets_str_split_sep x y t u c1' hy (Bool.eq_false_iff.mpr c2) (by omega) few) ?_;have z:=h (numbered s.toks (partsBetween x (occurrences x y 0 x.length (x.length+1)) y.length)) (s.toks+(partsBetween x (occurrences x y 0 x.length (x.length+1)) y.length).length) (by unfold PySem.Txt.split;rw[if_neg c1,if_neg c2];exact numbered_texts _ _);rw[<-strsFrom_eq] at z;exact z
end
section
variable {X:Cx}
def UJ:V->List V->Hp->VK->Prop:=fun x vs H Q=>∃z y,x=.str z/\vs=[.str y]/\(y.length == 0)=false/\z.length+2<=16777216/\∀p,H p=none->Q (.ref p) (upd H p (.lst ((PySem.Txt.split z y).map V.str)))
theorem Lf:∀(l:List (Str×Tok)),Aw ((l.map (·.1)).map V.str) (strValues l)
 |[]=>.nil
 |(z,t)::l=>.cons ⟨t,rfl⟩ (Lf l)
theorem Q2:Tw X "str.split" UJ:=by
 intro pins s σ H x vs v us Q I rx rv h;obtain⟨z,y,rfl,rfl,hy,hz,q⟩:=h;obtain⟨tk,rfl⟩:=rx;obtain⟨y',rfl,ry⟩:=rv.one;obtain⟨tk2,rfl⟩:=ry;refine Qw hy (by rw[sizeLine_eq];exact hz) fun l k e=>?_
 refine⟨.ref s.heap.objs.size,_,I.laid (fun b o e=>Heap.get?_push_of_some _ e) (Nat.le_refl _) (show AN X.prog X.w _ _ _ (.lst ((PySem.Txt.split z y).map V.str)) from⟨?_,strValues l,0,?_,Heap.get?_push_size _ rfl⟩),rfl,q _ I.fresh⟩
 ·rw[List.length_map];exact Qp (by rw[sizeLine_eq];exact hz)
 ·rw[<-e];exact Lf l
end
end L2
namespace L2
open PySem PySem.Spec PyProof.Rows
end L2
namespace L2
section
open PySem PySem.Spec PyProof.Rows
structure HeldS (X:Cx) (e:Addr) (oe:Obj):Prop where
 hd:X.A.handled=some (.ref e)
 at_:X.s₀.heap.get? e=some oe
 free:X.H₀ e=none
 nfs:e∉X.fs
 nex:e∉X.ex
 fl:JY oe
structure NowH (h:Heap) (e:Addr) (oe:Obj):Prop where
 at_:h.get? e=some oe
 fl:JY oe
theorem NowH.held {h:Heap}{e:Addr}{oe:Obj}(z:NowH h e oe):HeldAt h e:=by
 obtain⟨q,vs,a,b⟩:=z;exact⟨oe,vs,q,a,b⟩
theorem HeldS.now {X:Cx}{e:Addr}{oe:Obj}(h:HeldS X e oe){pins:List (Addr×Obj)}{σ:St}{H:Hp}{s:Shared}(I:Inv X pins σ H s):NowH s.heap e oe:=⟨I.base.keep e oe h.at_ h.free h.nfs h.nex,h.fl⟩
theorem HeldS.ne {X:Cx}{e it:Addr}{oe:Obj}(h:HeldS X e oe){pins:List (Addr×Obj)}{H:Hp}(f:HN X pins H it):e≠it:=fun z=>by
 rcases f.2.2.2.1 with q|q
 ·exact h.nex (by rw[z];exact q)
 ·exact absurd (Heap.lt_size h.at_) (Nat.not_lt.mpr (by rw[z];exact q))
structure TurnQ (P:Program) (w:World) (K:PySem.W.Frag) (tg:Expr) (J:It) (fp:List Addr) (it:Addr) (tn:Nat->Heap->Prop):Prop where
 mem:it∈fp
 obj:∀i h,tn i h->∀b∈fp,∃o,h.get? b=some o/\∀v,o.data≠.cell v
 keep:∀i h h',tn i h->(∀b∈fp,∀o,h.get? b=some o->h'.get? b=some o)->tn i h'
 item:∀(X:Cx),X.prog=P->X.w=w->X.K=K->∀(i:Nat) (pins:List (Addr×Obj)) (s:Shared) (σ:St) (H:Hp) (E:Value->Shared->Prop),Inv X pins σ H s->(∀b∈fp,HN X pins H b)->tn i s.heap->J.go i H->
  wpAny (model P w) X.A (pyNext (.ref it)) (fun r s1=>∃u,r=some u/\
   wpAny (model P w) X.A (letOwnedTupleGo tg (.ref it) u) (fun _ s2=>∃x H',Inv X pins σ H' s2/\RelV x u/\J.yld i H x H'/\tn (i+1) s2.heap/\∀b∈fp,H' b=none) E s1) E s
 done:∀(X:Cx),X.prog=P->X.w=w->X.K=K->∀(eh:Addr) (oh:Obj),HeldS X eh oh->∀(i:Nat) (pins:List (Addr×Obj)) (s:Shared) (σ:St) (H:Hp) (E:Value->Shared->Prop),Inv X pins σ H s->(∀b∈fp,HN X pins H b)->tn i s.heap->J.stop i H->
  wpAny (model P w) X.A (pyNext (.ref it)) (fun r s1=>r=none/\Inv X pins σ H s1) E s
 self:∀(A:Around) (i:Nat) (s:Shared) (Q:Value->Shared->Prop) (E:Value->Shared->Prop),tn i s.heap->Q (.ref it) s->wpAny (model P w) A (pyIter (.ref it)) Q E s
end
section
open PySem PySem.Spec PyProof.Rows
structure RoomH (k:Nat) (A:Around):Prop where
 dp:A.depth+3*k+5<recursionLimit
 un:A.units+16*k+200<cLine
theorem Room.h {k:Nat}{A:Around}(r:Room k A):RoomH k A:=⟨r.dp,r.un⟩
theorem RoomH.mono {j k:Nat}{A:Around}(r:RoomH k A)(h:j<=k):RoomH j A:=⟨by have:=r.dp;omega,by have:=r.un;omega⟩
theorem RoomH.deeper {k:Nat}{A:Around}(r:RoomH (k+1) A)(env:Env):RoomH k (A.deeper env):=
 ⟨by have:=r.dp;show A.depth+1+3*k+5<_;omega,by have:=r.un;show A.units+3+16*k+200<_;omega⟩
theorem RoomH.mark {k:Nat}{A:Around}(r:RoomH k A)(e:Option Value):RoomH k (A.mark e):=⟨r.dp,r.un⟩
theorem RoomH.depth {k:Nat}{A:Around}(r:RoomH k A):A.depth<recursionLimit:=by have:=r.dp;omega
structure FnOkH (P:Program) (w:World) (K:PySem.W.Frag) (mg:Str->Option Value) (base:Heap) (k:Nat) (f:Addr) (fd:FuncData) (ps:List Str) (sp:Sp):Prop where
 len:∀vs H Q E,sp vs H Q E->vs.length=ps.length
 run:∀(A:Around) (outer:List Env) (s:Shared) (H:Hp) (args:Args) (us:List Value) (vs:List V) (Q:VK) (E:XK) (eh:Addr) (oh:Obj),RoomH k A->Env0 P w K mg base A outer s H->A.handled=some (.ref eh)->s.heap.get? eh=some oh->H eh=none->eh∉EH outer->JY oh->BindsTo s fd args (ps.zip us)->Aw vs us->sp vs H Q E->
  codeAny (model P w) A (.call (.ref f) args) (CR DD outer P w H s Q E) s
def Wc (P:Program)(w:World)(K:PySem.W.Frag)(mg:Str->Option Value)(base:Heap)(k:Nat)(x:Str)(ps:List Str)(sp:Sp):Prop:=
 ∃(f:Addr) (fd:FuncData),FnOk P w K mg base DD k f fd ps sp/\FnOkH P w K mg base k f fd ps sp/\mg x=some (.ref f)/\PySem.W.keepIn K (.ref f)=true/\Binds K fd ps []
theorem Wc.def {P:Program}{w:World}{K:PySem.W.Frag}{mg:Str->Option Value}{base:Heap}{k:Nat}{x:Str}{ps:List Str}{sp:Sp}(D:Wc P w K mg base k x ps sp):Def P w K mg base k x ps sp:=by
 obtain⟨f,fd,F,_,r⟩:=D;exact⟨f,fd,F,r⟩
variable {X:Cx}{k:Nat}{x:Str}{ps:List Str}{sp:Sp}{e:Expr}{es:List Expr}{t:TA}{p pos:Pos}
end
end L2
namespace L2
section
open PySem PySem.Calls PyProof.Rows
variable {prog:Program}{w:World}{A:Around}{E:Value->Shared->Prop}{s:Shared}
def Vh (S:Addr)(Q:List Value->Shared->Prop)(r:Result)(s':Shared):Prop:=∃acc c,r=.ok (.ret (.ref S))/\s'.heap.get? S=some { cls:=.type "list",dict:=none,data:=.seq acc c,slots:=#[] }/\Q acc.toList s'
theorem MU {x:Value} {Q:List Value->Shared->Prop} (h:wpAny (model prog w) A.in1 (Builtin.List.listExtendWith (.ref s.heap.objs.size) x (.ref s.heap.objs.size))
   (fun fin s'=>match fin with | .done f=>Vh s.heap.objs.size Q (.ok f) s' | .again c'=>c'.quiet=true/\codeAny (model prog w) A c' (Vh s.heap.objs.size Q) s') (fun e s'=>Vh s.heap.objs.size Q (.error e) s')
   { s with heap:=s.heap.push { cls:=.type "list",data:=.seq #[] } }):wpAny (model prog w) A (collect x) Q E s:=by
 unfold collect;refine wpAny_bind (wpAny_runValue (codeAny_builtin PySem.F.entry_proto_collect ?_));rw[Around.under_plainId PySem.F.plain_proto_collect _];refine wpAny_bind (wpAny_newObj_type (wpAny_pure ⟨plainId_quiet PySem.F.plain_list_iadd _,codeAny_builtin PySem.F.entry_list_iadd ?_⟩));rw[Around.under_plainId PySem.F.plain_list_iadd _];refine wpAny_mono h (fun fin s' z=>?_) (fun e s' z=>?_)
 ·cases fin with
  |done f=>
   obtain⟨acc,c,e,hS,q⟩:=z;cases e;exact wpAny_bind (wpAny_load hS (wpAny_pure q))
  |again c'=>
   refine⟨z.1,codeAny_mono z.2 fun r s2 z2=>?_⟩;obtain⟨acc,c,rfl,hS,q⟩:=z2;exact wpAny_bind (wpAny_load hS (wpAny_pure q))
 ·obtain⟨acc,c,e,_⟩:=z;cases e
theorem Mz {T:String} {r d:Addr} {n:Nat} {P:Nat->Value->Prop} {OK:Heap->Prop} {Q:List Value->Shared->Prop} (S:PySem.W.KdlSrc prog w T r d n P OK) (hh:A.handled=none) (ok:OK s.heap) (hn:n<=sizeLine)
  (q:∀h' tk (vs:List Value),(∀b o,s.heap.get? b=some o->h'.get? b=some o)->vs.length=n->(∀j v,vs[j]?=some v->P j v)->Q vs { s with heap:=h',toks:=tk }):wpAny (model prog w) A (collect (.ref r)) Q E s:=by
 obtain⟨lr,ld⟩:=S.there _ ok;refine MU (PySem.W.kdl_extend S hh (S.keep _ _ ok fun b _ o e=>Heap.get?_push_of_some _ e) s.heap.objs.size (Nat.ne_of_gt lr) (Nat.ne_of_gt ld) (.ref s.heap.objs.size) 0 (Heap.get?_push_size _ rfl) (fun h' tk acc c k hS it=>?_) hn);refine⟨acc,c,rfl,hS,q h' tk acc.toList (fun b o e=>k b o (Nat.ne_of_lt (Heap.lt_size e)) (Heap.get?_push_of_some _ e)) (by rw[Array.length_toList];exact it.1) fun j v e=>it.2 j v (by rw[<-Array.getElem?_toList];exact e)⟩
theorem Pt:Manifest.owners.lookup (String.ofList "rotareti_tes".toList.reverse)=some Manifest.sig_set_iterator:=by kernel_rfl
theorem Ru:Slot "set_iterator" "__next__" "set_iterator.__next__":=
 .of (owner:="set_iterator") (n:="__next__") (by rw[typeLookup_type,builtinLookup_eq_fast];kernel_rfl) (by decide +kernel) (by decide +kernel) (by decide +kernel) (by first|exact .inl (by decide +kernel)|exact .inr (by decide +kernel)) (by rw[isSubtype_type];kernel_rfl)
theorem Gg:Slot "set_iterator" "__iter__" "set_iterator.__iter__":=
 .of (owner:="set_iterator") (n:="__iter__") (by rw[typeLookup_type,builtinLookup_eq_fast];kernel_rfl) (by decide +kernel) (by decide +kernel) (by decide +kernel) (by first|exact .inl (by decide +kernel)|exact .inr (by decide +kernel)) (by rw[isSubtype_type];kernel_rfl)
theorem Ju:entryFor table "set_iterator.__iter__"=some Builtin.«dict_keyiterator.__iter__»:=entryFor_alias (id':="dict_keyiterator.__iter__") (by kernel_rfl) rfl (by decide +kernel) (by kernel_rfl)
theorem Kl (a:Value):argsOk "set_iterator.__iter__" ⟨[a],[]⟩:=by
 unfold argsOk;rw[signature?_of (id:="set_iterator.__iter__") (n:="__reti__".toList) (o:="rotareti_tes".toList) (by kernel_rfl) Pt]
 kernel_rfl
def RG (h:Heap)(a:Addr)(es:Array (Int×Value))(ep:Nat)(t:SetTable):Prop:=∃o,h.get? a=some o/\o.cls=.type "set"/\o.data=.set es ep t
def Jj (h:Heap)(it a:Addr)(first:Value)(i n ep:Nat):Prop:=∃o,h.get? it=some o/\o.cls=.type "set_iterator"/\o.data=.fields #[first,rawInt i,.ref a,rawInt n,rawInt ep]
theorem RG.keep {h h':Heap}{a:Addr}{es:Array (Int×Value)}{ep:Nat}{t:SetTable}(x:RG h a es ep t)(k:∀o,h.get? a=some o->h'.get? a=some o):RG h' a es ep t:=let⟨o,e,r⟩:=x;⟨o,k o e,r⟩
theorem Jj.keep {h h':Heap}{it a:Addr}{f:Value}{i n ep:Nat}(x:Jj h it a f i n ep)(k:∀o,h.get? it=some o->h'.get? it=some o):Jj h' it a f i n ep:=let⟨o,e,r⟩:=x;⟨o,k o e,r⟩
theorem Jj.typeIs {it a:Addr}{f:Value}{i n ep:Nat}(x:Jj s.heap it a f i n ep):s.TypeIs (.ref it) "set_iterator":=let⟨o,e,c,_⟩:=x;⟨o,e,c⟩
theorem Jj.self {it a:Addr}{f:Value}{i n ep:Nat}{Q:Value->Shared->Prop}(x:Jj s.heap it a f i n ep)(q:Q (.ref it) s):wpAny (model prog w) A (pyIter (.ref it)) Q E s:=by
 refine wpAny_pyIter_slot x.typeIs Gg (wpAny_call_entry Gg x.typeIs Ju ?_ (Kl _));exact wpAny_pure ⟨_,rfl,"set_iterator",_,x.typeIs,Ru.lookup,q⟩
end
end L2
namespace L2
section
open PySem PySem.Calls PyProof.Rows
variable {prog:Program}{w:World}{A:Around}{E:Value->Shared->Prop}{s:Shared}
def TupAt (h:Heap)(tp:Addr)(vs:List Value):Prop:=∃o n,h.get? tp=some o/\o.data=.seq vs.toArray n
theorem TupAt.keep {h h':Heap}{tp:Addr}{vs:List Value}(x:TupAt h tp vs)(k:∀o,h.get? tp=some o->h'.get? tp=some o):TupAt h' tp vs:=let⟨o,n,e,r⟩:=x;⟨o,n,k o e,r⟩
def Lo (w:World):Bool:=w.params.followText "set-order"
end
end L2
namespace L2
section
open PySem PySem.Calls PyProof.Rows
variable {prog:Program}{w:World}{A:Around}{E:Value->Shared->Prop}{s:Shared}
def N7 (prog:Program)(w:World)(h:Heap)(a:Addr)(ks:List Str):Prop:=∃o es ep t ss,h.get? a=some o/\o.ExactSet/\o.data=.set es ep t/\ElemsOf (PySem.strKind prog w) es.toList/\t.fits es.size=true/\t.led=(!Lo w)/\(es.size≠0->t.plain=false)/\
 StrsAre (es.toList.map (·.2)) ss/\ss.Perm ks
theorem N7.keep {h h':Heap}{a:Addr}{ks:List Str}(S:N7 prog w h a ks)(k:∀o,h.get? a=some o->h'.get? a=some o):N7 prog w h' a ks:=let⟨o,es,ep,t,ss,e,r⟩:=S;⟨o,es,ep,t,ss,k o e,r⟩
end
end L2
namespace L2
end L2
namespace L2
section
open PySem PySem.Calls PyProof.Rows
variable {X:Cx}{pins:List (Addr×Obj)}{σ:St}{H:Hp}{s:Shared}
theorem Pa:∀{kvs:List (Key×V)} {vs:List (Key×Value)},KV kvs vs->vs.map (·.1)=kvs.map (·.1)
 |_,_,.nil=>rfl
 |_,_,.cons h t=>by rw[List.map_cons,List.map_cons,Pa t,h.1]
end
end L2
namespace L2
open PySem
end L2
namespace L2
open PySem PySem.Spec PyProof.Rows
theorem GP:∀{ns:List Int} {its:List Value},IntsAre its ns->Aw (ns.map V.int) its
 |[],_,.nil=>.nil
 |_::_,_,.cons n t h=>.cons ⟨_,rfl⟩ (GP h)
end L2
namespace L2
section
open PySem PySem.Calls PyProof.Rows
variable {prog:Program}{w:World}{A:Around}{E:Value->Shared->Prop}{s:Shared}{it d:Addr}{i ep:Nat}{es:Array DictEntry}
def N6 (h:Heap)(d:Addr)(es:Array DictEntry)(ep:Nat):Prop:=∃o,h.get? d=some o/\o.ExactDict/\o.data=.dict es ep
theorem N6.ty (x:N6 s.heap d es ep):s.TypeIs (.ref d) "dict":=let⟨o,ho,hc,_⟩:=x;⟨o,ho,hc.1⟩
theorem N6.at {h h':Heap}(x:N6 h d es ep)(k:∀o,h.get? d=some o->h'.get? d=some o):N6 h' d es ep:=let⟨o,ho,r⟩:=x;⟨o,k o ho,r⟩
end
section
open PySem PySem.Spec PyProof.Rows
variable {X:Cx}{tg:Expr}
theorem KC:∀bs:List Addr,Aw (bs.map V.ref) (bs.map Value.ref)
 |[]=>.nil
 |_::bs=>.cons rfl (KC bs)
end
end L2
namespace L2
section
open PySem PyProof.Rows
variable {prog:Program}{w:World}{A:Around}{E:Value->Shared->Prop}{s:Shared}{a₀:Array Keyed}
theorem Lg:∀(fuel n r:Nat),minRun' fuel n r<=n+r
 |0,_,_=>Nat.le_refl _
 |fuel+1,n,r=>by
  rw[minRun'_succ]
  by_cases h:n<64
  ·rw[if_pos h];exact Nat.le_refl _
  ·rw[if_neg h];have:=Lg fuel (n/2) (max r (n%2));omega
theorem Mm {st:SortSt}{Q:Option Nat->SortSt->Prop}(h0:IntKeys a₀)(h1:1<=a₀.size)(hB:SBase a₀ st)(up:SortedTo (arrOf st) a₀.size)(h:Q (some a₀.size) st) :
  wpS (model prog w) A E s (countRun' 0 a₀.size) Q st:=by
 rw[countRun0_eq];have one:SortedTo (arrOf st) 1:=fun i j hij hj=>by
  obtain rfl:i=j:=by omega
  exact Int.le_refl _
 refine wpS_bind (wpS_ascLoop h0 (Nat.le_refl _) (Nat.le_refl 1) h1 hB one fun n hn1 hn2 _ hor=>?_);have hn:n=a₀.size:=by
  rcases hor with e|lt
  ·exact e
  ·by_cases e:n=a₀.size
   ·exact e
   ·have:=up (n-1) n (by omega) (by omega);omega
 subst hn;dsimp only;rw[if_pos (by simp)];exact wpS_pure h
theorem N1 {st:SortSt} {Q:Unit->SortSt->Prop} (h0:IntKeys a₀) (hB:SBase a₀ st) (h2:2<=a₀.size) (up:SortedTo (arrOf st) a₀.size)
  (h:∀st',(arrOf st').Perm a₀->failedOf st'=none->SortedTo (arrOf st') a₀.size->Q () st'):wpS (model prog w) A E s sortRuns' Q st:=by
 rw[sortRuns'_eq];refine wpS_bind (wpS_get ?_);have hm:minRun' a₀.size a₀.size 0<=a₀.size:=Lg _ _ 0;simp only[hB.size];generalize minRun' a₀.size a₀.size 0=mr at hm;have D:=hB.done up;refine wpS_bind (wpS_mono (wpS_forRange (I:=fun x c st'=>(x=0/\c=(none,0)/\st'=st)\/(0<x/\c=(none,a₀.size)/\SDone a₀ st')) (Q:=fun c st'=>c=(none,a₀.size)/\SDone a₀ st') (fun x c st' _ hx hI=>?_) (fun c st' hI=>?_) (.inl ⟨rfl,rfl,rfl⟩)) fun c st' hc=>?_)
 ·rcases hI with⟨rfl,rfl,rfl⟩|⟨hx1,rfl,hD⟩
  ·dsimp only;rw[if_neg (by omega)];simp only[Nat.sub_zero,Nat.zero_add];refine wpS_bind (Mm h0 (by omega) hB up ?_);dsimp only;rw[if_neg (by omega)];refine wpS_bind (wpS_get ?_);have hb:(pendingOf st').back?=none:=by rw[hB.pend];rfl
   rw[hb];dsimp only;exact wpS_bind (wpS_modify (wpS_pure (.inr ⟨by omega,rfl,D⟩)))
  ·dsimp only;rw[if_pos (Nat.le_refl _)];exact wpS_pure ⟨rfl,hD⟩
 ·rcases hI with⟨hx,_⟩|⟨_,hc,hD⟩
  ·omega
  ·exact⟨hc,hD⟩
 ·obtain⟨rfl,hD⟩:=hc;dsimp only;refine wpS_bind (wpS_mono (wpS_forRange (I:=fun _ c st2=>c=(none,())/\st2=st') (Q:=fun c st2=>c=(none,())/\st2=st') (fun x c st2 _ _ hI=>?_) (fun _ _ hh=>hh) ⟨rfl,rfl⟩) fun c st2 hc=>?_)
  ·obtain⟨rfl,rfl⟩:=hI;refine wpS_bind (wpS_get ?_);rw[if_pos (by rw[hD.2.2.1];exact Nat.le_refl 1)];exact wpS_pure ⟨rfl,rfl⟩
  ·obtain⟨rfl,rfl⟩:=hc;exact wpS_pure (h _ hD.1 hD.2.1 hD.2.2.2)
theorem R8 {vs:List Value}{ns:List Int}(hI:IntsAre vs ns)(up:ns.Pairwise (·<=·)):SortedTo (pairsOf vs) (pairsOf vs).size:=by
 have en:=hI.nums;intro i j hij hj;have hjv:j<vs.length:=by rw[pairsOf_size] at hj;exact hj
 have kk:∀k,(hk:k<vs.length)->K (pairsOf vs) k=(vs.map numOf)[k]'(by rw[List.length_map];exact hk):=fun k hk=>by
  rw[K_eq (by rw[pairsOf_size];exact hk)];simp[pairsOf]
 rw[kk i (by omega),kk j hjv];subst en
 by_cases e:i=j
 ·subst e;exact Int.le_refl _
 ·exact List.pairwise_iff_getElem.mp up i j _ _ (by omega)
theorem SV {a:Addr} {vs:List Value} {ns:List Int} {n:Nat} {P:PySem.Fin->Shared->Prop} (ho:s.heap.get? a=some (seqObj "list" vs.toArray n)) (hI:IntsAre vs ns) (up:vs.length<64\/(vs.length<=sizeLine/\ns.Pairwise (·<=·)))
  (h:∀(out:Array Value) (ns':List Int),IntsAre out.toList ns'->ns'.Perm ns->ns'.Pairwise (·<=·)->P (.done (.ret .none)) { s with heap:=sortedHeap s.heap a vs out }) :
  wpAny (model prog w) A (Builtin.«list.sort» ⟨[.ref a],[]⟩) P E s:=by
 by_cases few:vs.length<64
 ·exact list_sort_tree ho hI few h
 have hz:=(up.resolve_left few).1;have up':=(up.resolve_left few).2;rw[list_sort_plain];have ha:a<s.heap.objs.size:=Heap.lt_size ho;refine wpAny_bind (listItems_at ho rfl (wpAny_bind (listUpdate_at ho rfl ?_)));obtain⟨e1,h1⟩:∃e,(s.heap.update a (Obj.mapSeq fun _=>#[])).get? a=some (seqObj "list" #[] e):=⟨_,get?_update_seq ho (fun _=>#[])⟩
 refine wpAny_bind (seqEpoch_at h1 rfl (wpAny_bind (wpAny_newTuple (wpAny_bind (wpAny_newList (wpAny_holding ?_))))));have n1:a≠(s.heap.update a (Obj.mapSeq fun _=>#[])).objs.size:=by rw[Heap.size_update];exact Nat.ne_of_lt ha
 have n2:a≠((s.heap.update a (Obj.mapSeq fun _=>#[])).push (seqObj "tuple" vs.toArray 0)).objs.size:=by rw[Heap.size_push,Heap.size_update];exact Nat.ne_of_lt (Nat.lt_succ_of_lt ha)
 have h2:(((s.heap.update a (Obj.mapSeq fun _=>#[])).push (seqObj "tuple" vs.toArray 0)).push (seqObj "list" #[] 0)).get? a=some (seqObj "list" #[] e1):=by
  rw[Heap.get?_push_ne _ _ _ n2,Heap.get?_push_ne _ _ _ n1];exact h1
 show wpAny (model prog w) A _ P E { s with heap:=((s.heap.update a (Obj.mapSeq fun _=>#[])).push (seqObj "tuple" vs.toArray 0)).push (seqObj "list" #[] 0) };dsimp only;have hs2:¬vs.toArray.size<2:=by simp;omega
 have ps:=pairsOf_size vs;rw[if_neg hs2,if_neg hs2];obtain⟨v1,v2,rest,rfl⟩:∃v1 v2 rest,vs=v1::v2::rest:=by
  match vs,few with
  |[],q=>exact absurd (by decide) q
  |[_],q=>exact absurd (by show 1<64;decide) q
  |v1::v2::rest,_=>exact⟨v1,v2,rest,rfl⟩
 rw[keyKind_ints hI];refine wpAny_bind (wpAny_pure (wpAny_bind (wpAny_mono (N1 (a₀:=pairsOf (v1::v2::rest)) (st:=SortSt.mk' oneType' ((v1::v2::rest).toArray.zip (v1::v2::rest).toArray) #[] 7 none)
  (Q:=fun _ st'=>(arrOf st').Perm (pairsOf (v1::v2::rest))/\failedOf st'=none/\SortedTo (arrOf st') (pairsOf (v1::v2::rest)).size)
  hI.intKeys ⟨Array.Perm.refl _,rfl,rfl,rfl⟩ (by rw[ps];simp) (R8 hI up') fun st' a1 a2 a3=>⟨a1,a2,a3⟩) (fun r s' hr=>?_) fun _ _ e=>e)))
 obtain⟨⟨⟩,st'⟩:=r;obtain⟨rfl,hp,hf,hs⟩:=hr;dsimp only;refine wpAny_bind (seqEpoch_at h2 rfl (wpAny_bind (listUpdate_at h2 rfl ?_ (hsz2:=?_))))
 ·rw[hf];simp only[bne_self_eq_false,Bool.false_eq_true,if_false];obtain⟨ns',g1,g2,g3⟩:=sorted_out hI hp hs;exact wpAny_pure (h _ ns' g1 g2 g3)
 ·rw[Array.size_map,hp.size_eq,ps];exact Nat.le_succ_of_le hz
end
end L2
namespace L2
section
open PySem PySem.Calls PyProof.Rows
variable {prog:Program}{w:World}{A:Around}{E:Value->Shared->Prop}{s:Shared}
def Rk (Q:Value->Shared->Prop)(vs:List Value)(s1:Shared):Prop:=∃ns,IntsAre vs ns/\(vs.length<64\/(vs.length<=sizeLine/\ns.Pairwise (·<=·)))/\
 ∀h' p (out:List Value) ns' c,IntsAre out ns'->ns'.Perm ns->ns'.Pairwise (·<=·)->s1.heap.objs.size<=p->(∀b o,s1.heap.get? b=some o->h'.get? b=some o)->
  h'.get? p=some (seqObj "list" out.toArray c)->Q (.ref p) { s1 with heap:=h' }
theorem JO {x:Value}{Q:Value->Shared->Prop}(hc:wpAny (model prog w) A.in1 (collect x) (Rk Q) E s):wpAny (model prog w) A (call (.builtin "sorted") [x]) Q E s:=by
 refine Calls.call_function_entry kind_sorted plain_sorted entry_sorted (args_sorted1 x) ?_;unfold Builtin.«sorted»;refine wpAny_bind (m:=checkCount "sorted" 1 1 _) (wpAny_pure (wpAny_bind (wpAny_mono hc (fun vs s1 z=>?_) fun _ _ e=>e)));obtain⟨ns,hI,few,q⟩:=z;have there:(s1.heap.push (seqObj "list" vs.toArray 0)).get? s1.heap.objs.size=some (seqObj "list" vs.toArray 0):=Heap.get?_push_size _ rfl;refine wpAny_bind (wpAny_newList (wpAny_bind (wpAny_holding (wpAny_call_entry slot_list_sort ⟨_,there,rfl⟩ entry_list_sort (SV there hI few fun out ns' a1 a2 a3=>⟨_,rfl,?_⟩) (args_list_sort _)))));obtain⟨c,hp⟩:=sortedHeap_at (out:=out) there;refine wpAny_pure ⟨_,rfl,q _ _ out.toList ns' c a1 a2 a3 (Nat.le_refl _) (fun b o e=>?_) (by rw[Array.toArray_toList];exact hp)⟩;have lt:=Heap.lt_size e;show Heap.get? _ b=some o;rw[sortedHeap_old (Nat.ne_of_lt lt) (by rw[Heap.size_push];exact Nat.lt_succ_of_lt lt)];exact Heap.get?_push_of_some _ e
end
section
open PySem PySem.Spec PyProof.Rows
variable {X:Cx}
theorem O0:∀{vs:List Value} {ns:List Int},vs.length=ns.length->(∀(j:Nat) v,vs[j]?=some v->∃n t,ns[j]?=some n/\v=.int n t)->IntsAre vs ns
 |[],[],_,_=>.nil
 |[],_::_,h,_=>by cases h
 |_::_,[],h,_=>by cases h
 |v::vs,n::ns,h,k=>by
  obtain⟨n',t,e,rfl⟩:=k 0 v rfl;cases e;exact .cons _ _ (O0 (by simpa using h) fun j v e=>k (j+1) v (by simpa using e))
def Uc:List V->Hp->VK->Prop:=fun xs H Q=>∃(d:Addr) (kvs:List (Key×V)) (ns:List Int),xs=[.ref d]/\H d=some (.dK kvs)/\kvs.map (·.1)=ns.map .inl/\(ns.length<64\/(ns.length<=100000/\ns.Pairwise (·<=·)))/\∀(ms:List Int) (p:Addr),ms.Perm ns->ms.Pairwise (·<=·)->H p=none->Q (.ref p) (upd H p (.lst (ms.map V.int)))
theorem MI (hc:X.calm=true):CH X (.builtin "sorted") Uc:=by
 intro pins s σ H xs us Q I r h;obtain⟨d,kvs,ns,rfl,h1,hk,few,q⟩:=h;obtain⟨u,rfl,ru⟩:=vals1 r;cases ru;obtain⟨_,lo,vs,rv,o,es,ep,ho,h2,h3,h4⟩:AN X.prog X.w H s.heap d (.dK kvs):=I.hok d _ h1;have D:s.heap.DictAt (AQ X.prog X.w) d vs ep:=⟨o,es,ho,h2,h3,h4⟩
 have ln:vs.length=ns.length:=by
  have:=congrArg List.length hk;rw[List.length_map,List.length_map] at this;rw[<-this];exact rv.length.symm
 refine JO (Mz (PySem.W.kdl_dict (knd:=AQ X.prog X.w) (kvs:=vs) (ep:=ep) lo) (by simpa using I.ok.hd hc) D (by rw[ln,sizeLine_eq];omega) fun h' tk us k lu it=>?_);have hs:IntsAre us ns:=by
  refine O0 (by rw[lu,ln]) fun j v e=>?_
  obtain⟨ky,x,e1,e2⟩:=it j v e;have e3:(kvs.map (·.1))[j]?=some ky:=by rw[<-Pa rv,List.getElem?_map,e1];rfl
  rw[hk,List.getElem?_map] at e3;cases z:ns[j]? with
  |none=>rw[z] at e3;cases e3
  |some y=>
   rw[z] at e3;injection e3 with e3
   subst e3;obtain⟨t,rfl⟩:=Sg e2;exact⟨_,t,rfl,rfl⟩
 have I1:Inv X pins σ H { s with heap:=h',toks:=tk }:=I.kept (t':=tk) k;refine⟨ns,hs,by rw[lu,ln];exact few.imp id fun z=>⟨by rw[sizeLine_eq];omega,z.2⟩,fun h2 p out ns' c a1 a2 a3 lp k2 hp=>⟨.ref p,_,I1.laid (t':=tk) k2 lp (?_:AN X.prog X.w _ h2 p (.lst (ns'.map V.int))),rfl,q ns' p a2 a3 (I1.hok.fresh lp)⟩⟩;refine⟨?_,out,c,GP a1,hp⟩;rw[List.length_map,a2.length_eq,sizeLine_eq];omega
theorem Sh {pins:List (Addr×Obj)} {σ:St} {H:Hp} {s:Shared} {a:Addr} {kvs:List (Key×V)} {k:Key} {u r:Value} {z:V} {A:Around} {E:Value->Shared->Prop} {Q:Value->Shared->Prop} (I:Inv X pins σ H s) (e:H a=some (.dK kvs)) (ry:RelV (kV k) u) (rz:RelV z r) (hl:kvs.length<sizeLine)
  (h1:∀v w' s',BJ kvs k=some v->Inv X pins σ H s'->RelV v w'->Q w' s') (h2:BJ kvs k=none->∀s',Inv X pins σ (upd H a (.dK (putK kvs k z))) s'->Q r s'):wpAny (model X.prog X.w) A (call (.builtin "dict.setdefault") [.ref a,u,r]) Q E s:=by
 obtain⟨z0,hd,vs,rel,dd⟩:=Ur I.hok e;have ki:=JQ (P:=X.prog) (w:=X.w) ry;cases hv:BJ kvs k with
 |some v=>
  obtain⟨w',hw,rw'⟩:=Eb.some_of (v:=v) (o:=valueAt vs k) (by rw[<-hv];exact rel.val k);refine call_meetsIn PySem.F.slot_dict_setdefault dd.typeIs PySem.F.entry_dict_setdefault (PySem.F.args_dict_setdefault_3 _ _ _) (meets_dict_setdefault (AQ X.prog X.w) a ki hd r) ⟨_,dd.mapOf,?_,fun v' e'=>?_,fun e'=>?_⟩
  ·obtain⟨o,es,ep,ho,_,hx,_,hp,_⟩:=id dd;intro o' es' ep' g1 g2;rw[ho] at g1;cases g1;rw[hx] at g2;cases g2;have:=hp.length;rw[Array.length_toList] at this;rw[this,<-rel.length];exact z0
  ·rw[hw] at e';cases e';exact h1 v _ _ hv (I.tok _) rw'
  ·rw[hw] at e';cases e'
 |none=>
  have hn:valueAt vs k=none:=Eb.none_of (by rw[<-hv];exact rel.val k);obtain⟨o,es,ep,ho,hc,hx,hk,hp,nd⟩:=id dd;refine wpAny_call_entry PySem.F.slot_dict_setdefault dd.typeIs PySem.F.entry_dict_setdefault ?_ (PySem.F.args_dict_setdefault_3 _ _ _);refine wpAny_bind (wpAny_bind (wpAny_notOrdered_dict dd.typeIs (wpAny_pure ?_)))
  change wpAny _ _ (if(a == sysModules)=true then _ else(dictSetDefault a u r >>= _)) _ _ s
  rw[if_neg (by rw[hd];exact Bool.false_ne_true)];have le:es.size<=sizeLine:=by
   have:=hp.length;rw[Array.length_toList] at this;rw[this,<-rel.length];exact z0
  have nk:∀kv∈vs,decide (kv.1=k)=false:=fun kv hkv=>by
   cases q:decide (kv.1=k) with
   |false=>rfl
   |true=>
    unfold valueAt at hn;rw[Option.map_eq_none_iff,List.find?_eq_none] at hn;exact absurd q (hn kv hkv)
  have fi:(es.findIdx? fun e=>(AQ X.prog X.w).is k e.key)=none:=by
   have h3:(es.toList.findIdx? fun e=>(AQ X.prog X.w).is k e.key)=none:=by rw[hp.findIdx k];exact List.findIdx?_eq_none_iff.mpr nk
   obtain⟨l⟩:=es;simpa using h3
  unfold dictSetDefault;refine wpAny_bind (wpAny_holding (wpAny_bind ((AQ X.prog X.w).pyHash ki (wpAny_bind (wpAny_dictFind_of (s:={ s with toks:=s.toks+1 }) ki ho hx hk ?_)))));rw[fi];have est:stored vs k r=vs++[(k,r)]:=by
   unfold stored;rw[if_neg fun q=>by obtain⟨kv,h3,h4⟩:=List.any_eq_true.mp q;rw[nk kv h3] at h4;cases h4]
  refine wpAny_bind (wpAny_rule (wpAny_bind (wpAny_updateDictKeys (hz:=le) (s:={ s with toks:=s.toks+1 }) ho hx (wpAny_pure (wpAny_pure ⟨r,rfl,h2 hv _ ?_⟩)))));have hlp:(putK kvs k z).length<=sizeLine:=by have:=FP kvs k z;omega
  refine LC (I.tok _) (by rw[e];exact True.intro) (Heap.SameBut.update ..) ⟨_,Heap.get?_update_self _ ho (Obj.isFreed_of_dict (Obj.data_mapDictKeys hx _))⟩ (RI hlp hd (rel.put k rz) ?_);rw[est];refine⟨_,_,ep+1,Heap.get?_update_self _ ho (Obj.isFreed_of_dict (Obj.data_mapDictKeys hx _)),hc.mapDictKeys _,Obj.data_mapDictKeys hx _,hk.push ki _,?_,?_⟩
  ·have:=hp.append ki ((AQ X.prog X.w).hash k) r;obtain⟨l⟩:=es;simpa using this
  ·rw[List.map_append];refine List.nodup_append.mpr ⟨nd,by simp,fun x hx y hy h5=>?_⟩;obtain⟨kv,h3,rfl⟩:=List.mem_map.mp hx;have h6:=nk kv h3;rw[decide_eq_false_iff_not] at h6;rw[List.map_cons,List.map_nil,List.mem_singleton] at hy;exact h6 (h5.trans hy)
def Ve (td ty tx:TE):TE:=fun σ H Q=>td σ H fun x H1=>∃a,x=.ref a/\W6 H1 a/\ty σ H1 fun y H2=>tx σ H2 fun z H3=>∃kvs k,H3 a=some (.dK kvs)/\y=kV k/\kvs.length<sizeLine/\(∀v,BJ kvs k=some v->Q v H3)/\(BJ kvs k=none->Q z (upd H3 a (.dK (putK kvs k z))))
theorem RQ {o e f:Expr}{td ty tx:TE}{apos cpos:Pos}(ho:PE X o td)(he:PE X e ty)(hf:PE X f tx)(m:M2 X o "setdefault" apos e f cpos):PE X (.Call (.Attribute o "setdefault" apos) [e,f] [] cpos) (Ve td ty tx):=by
 intro pins s σ H Q I h;refine wpAny_Call_method m.base m.few m.line PySem.F.plainAttrs_dict PySem.F.slot_dict_setdefault PySem.F.type_dict_setdefault (Ba (ho pins s σ H _ I h) fun u s1 ⟨x,H1,I1,rx,a,ex,d,q1⟩=>?_);subst ex;obtain rfl:u=Value.ref a:=rx;obtain⟨t1,t2,_⟩:=QV I1 d;refine⟨t1,t2,?_⟩;rw[m.trees];refine Calls.callWith_builtin rfl (Calls.evalArgs_plain (Calls.spliced_cons (Ba (he pins s1 σ H1 _ I1 q1) fun iv s2 ⟨y,H2,I2,ry,q2⟩=>Calls.spliced_cons (Ba (hf pins s2 σ H2 _ I2 q2) fun r s3 ⟨z,H3,I3,rz,kvs,k,hd,ey,hl,q3,q4⟩=>Calls.spliced_nil ?_))));subst ey;exact Sh I3 hd ry rz hl (fun v w' s' hv I' rw'=>⟨v,H3,I',rw',q3 v hv⟩) fun hv s' I'=>⟨z,_,I',rz,q4 hv⟩
end
section
open PySem PySem.Calls PyProof.Rows
variable {prog:Program}{w:World}{A:Around}{E:Value->Shared->Prop}{I S:Addr}{fp wr:List Addr}{n:Nat}{P:Nat->Value->Prop}{St:Nat->Heap->Prop}{bt:Nat->Nat->Bool}{d:Value}{R:Result->Shared->Prop}
def Vk (P:Nat->Value->Prop)(bt:Nat->Nat->Bool)(i:Nat)(arr:List Value):Prop:=(arr=[]/\i=0)\/∃v,arr=[v,v]/\0<i/\P (argBest bt (i-1)) v
theorem Pu (W:Walks prog w A.in1 I fp wr n P St)(hcmp:CmpOf prog w A.in1 .Gt P bt)(hSf:S∉fp):∀(k i:Nat) (s:Shared) (arr:List Value) (c:Nat),i+k=n->St i s.heap->s.heap.get? S=some { cls:=.type "list",dict:=none,data:=.seq arr.toArray c,slots:=#[] }->Vk P bt i arr->
  (∀r h' tk,(n=0/\r=d\/0<n/\P (argBest bt (n-1)) r)->(∀b o,b∉wr->b≠S->s.heap.get? b=some o->h'.get? b=some o)->R (.ok (.ret r)) { s with heap:=h',toks:=tk })->
  codeAny (model prog w) A (.builtin "max.loop" ⟨[.ref I,.none,.ref S],[("default",d)]⟩) R s:=by
 have hSw:S∉wr:=fun h=>hSf (W.sub _ h)
 intro k
 induction k with
 |zero=>
  intro i s arr c hk hst hS hb hR;cases(show i=n by omega);refine codeAny_builtin PySem.F.entry_max_loop ?_;rw[Around.under_plainId PySem.F.plain_max_loop _];refine wpAny_bind (m:=seqItems? (.ref S)) (wpAny_seqItems hS rfl (wpAny_bind (wpAny_tryCatch (W.done s _ _ hst fun h' tk k'=>?_))));rcases hb with⟨rfl,i0⟩|⟨v,rfl,i0,hv⟩
  ·exact wpAny_bind (wpAny_rule (wpAny_pure (hR d h' tk (.inl ⟨i0,rfl⟩) fun b o hb _ e=>k' b o hb e)))
  ·exact wpAny_bind (wpAny_updateSeq (k' S _ hSw hS) rfl (wpAny_bind (wpAny_letGo (wpAny_pure (hR v _ tk (.inr ⟨i0,hv⟩) fun b o hb hS e=>(Heap.get?_update_other _ _ (Ne.symm hS)).trans (k' b o hb e))))))
 |succ k ih=>
  intro i s arr c hk hst hS hb hR;refine codeAny_builtin PySem.F.entry_max_loop ?_;rw[Around.under_plainId PySem.F.plain_max_loop _];refine wpAny_bind (m:=seqItems? (.ref S)) (wpAny_seqItems hS rfl (wpAny_bind (wpAny_tryCatch (W.item i s _ _ (by omega) hst fun x h' tk hP st' k'=>?_))));have hS':=k' S _ hSw hS;have nm:(toString "max"++toString ".loop":String)="max.loop":=by decide
  have la:arr.toArray.size<=sizeLine:=by
   rw[sizeLine_eq];rcases hb with⟨rfl,_⟩|⟨v,rfl,_⟩
   ·exact Nat.zero_le _
   ·show 2<=_;omega
  have put:∀(tk':Nat),P (argBest bt i) x->wpAny (model prog w) A.in1 (updateSeq S (fun _=>#[x,x])) (fun _ s'=>codeAny (model prog w) A (.builtin "max.loop" ⟨[.ref I,.none,.ref S],[("default",d)]⟩) R s') (fun e s'=>R (.error e) s') { s with heap:=h',toks:=tk' }:=fun tk' hx=>by
   refine wpAny_updateSeq (hz:=la) (s:={ s with heap:=h',toks:=tk' }) hS' rfl (ih (i+1) _ [x,x] _ (by omega) (W.frame _ _ _ st' fun b hb o e=>?_) (Heap.get?_update_self _ hS' rfl) (.inr ⟨x,rfl,Nat.succ_pos _,hx⟩) fun r h2 tk2 hr k2=>?_)
   ·exact(Heap.get?_update_other _ _ (fun z:S=b=>hSf (by rw[z];exact hb))).trans e
   ·exact hR r h2 tk2 hr fun b o hb hbS e=>k2 b o hb hbS ((Heap.get?_update_other _ _ (Ne.symm hbS)).trans (k' b o hb e))
  rcases hb with⟨rfl,i0⟩|⟨v,rfl,i0,hv⟩
  ·subst i0;refine wpAny_bind (wpAny_pure (wpAny_bind (wpAny_mono (put tk hP) (fun _ s' q=>?_) fun _ _ q=>q)));rw[nm];exact wpAny_pure ⟨plainId_quiet PySem.F.plain_max_loop _,q⟩
  ·refine wpAny_bind (wpAny_pure (wpAny_bind (wpAny_tryCatch (wpAny_holding (wpAny_bind (hcmp i (argBest bt (i-1)) x v _ _ _ hP hv (wpAny_bind (wpAny_holding (wpAny_truthy_bool (wpAny_bind (wpAny_letGo (wpAny_pure ?_))))))))))));have ea:argBest bt i=if bt i (argBest bt (i-1)) then i else argBest bt (i-1):=by
    obtain⟨j,rfl⟩:∃j,i=j+1:=⟨i-1,by omega⟩
    rfl
   cases q:bt i (argBest bt (i-1)) with
   |true=>
    rw[q,if_pos rfl] at ea;rw[if_pos rfl];refine wpAny_bind (wpAny_mono (put tk (by rw[ea];exact hP)) (fun _ s' z=>wpAny_bind (wpAny_letGo ?_)) fun _ _ z=>z);rw[nm];exact wpAny_pure ⟨plainId_quiet PySem.F.plain_max_loop _,z⟩
   |false=>
    rw[q,if_neg Bool.false_ne_true] at ea;rw[if_neg Bool.false_ne_true];refine wpAny_bind (wpAny_letGo ?_);rw[nm];refine wpAny_pure ⟨plainId_quiet PySem.F.plain_max_loop _,ih (i+1) _ [v,v] _ (by omega) st' hS' (.inr ⟨v,rfl,Nat.succ_pos _,?_⟩) fun r h2 tk2 hr k2=>hR r h2 tk2 hr fun b o hb hbS e=>k2 b o hb hbS (k' b o hb e)⟩;show P (argBest bt i) v;rw[ea];exact hv
theorem SA (l:Addr)(d:Value):checkBuiltinCall "max" ⟨[.ref l],[("default",d)]⟩=pure ():=by kernel_rfl
theorem P9 {l:Addr} {items:Array Value} {Q:Value->Shared->Prop} {s:Shared} (hh:A.handled=none) (hl:s.heap.IsList l items) (val:Nat->Int) (hval:∀i v,items[i]?=some v->∃t,v=Value.int (val i) t)
  (q:∀r h' tk,(items.size=0/\r=d\/0<items.size/\items[argBest (fun i j=>decide (val j<val i)) (items.size-1)]?=some r)->(∀b o,s.heap.get? b=some o->h'.get? b=some o)->Q r { s with heap:=h',toks:=tk }):wpAny (model prog w) A (call (.builtin "max") [.ref l] [("default",d)]) Q E s:=by
 refine wpAny_call (codeAny_call_builtin PySem.F.plain_max PySem.F.entry_max ?_);rw[SA];refine wpAny_pure ?_;have nm:(toString "max"++toString ".loop":String)="max.loop":=by decide
 change wpAny _ A.in1 (Builtin.Builtins.bindParams "max" ["key","default"] 0 ⟨[],[("default",d)]⟩ >>= _) _ _ s
 refine wpAny_bind (wpAny_of_eq (show Builtin.Builtins.bindParams "max" ["key","default"] 0 ⟨[],[("default",d)]⟩=pure [none,some d] from rfl) (wpAny_bind (wpAny_pure (wpAny_bind (wpAny_pyIter_list hl ?_)))));refine wpAny_bind (wpAny_newObj_type ?_);rw[nm];have ll:l<s.heap.objs.size:=let⟨_,ho,_⟩:=hl;Heap.lt_size ho;have sz:(s.heap.push { cls:=.type "list_iterator",data:=.fields #[.ref l,.int 0 0] }).objs.size=s.heap.objs.size+1:=Heap.size_push ..;refine wpAny_pure ⟨plainId_quiet PySem.F.plain_max_loop _,Pu (P:=fun i v=>items[i]?=some v) (Walks.list (A:=A.in1) (show A.in1.handled=none from hh) s.heap.objs.size l (Nat.ne_of_lt ll) items) (CmpOf.ints_gt val hval) (S:=(s.heap.push { cls:=.type "list_iterator",data:=.fields #[.ref l,.int 0 0] }).objs.size) ?_ items.size 0 _ [] 0 (Nat.zero_add _) ?_ ?_ (.inl ⟨rfl,rfl⟩) fun r h' tk hr k=>?_⟩
 ·rw[sz];intro z;rcases List.mem_cons.mp z with z|z
  ·exact Nat.succ_ne_self _ z
  ·exact Nat.ne_of_gt (Nat.lt_succ_of_lt ll) (List.mem_singleton.mp z)
 ·refine⟨⟨_,Heap.get?_push_of_some _ (Heap.get?_push_size _ rfl),rfl,rfl⟩,hl.at fun o e=>Heap.get?_push_of_some _ (Heap.get?_push_of_some _ e)⟩
 ·exact Heap.get?_push_size _ rfl
 ·refine q r h' tk hr fun b o e=>k b o ?_ ?_ (Heap.get?_push_of_some _ (Heap.get?_push_of_some _ e))
  ·exact fun z=>Nat.ne_of_lt (Heap.lt_size e) (List.mem_singleton.mp z)
  ·rw[sz];exact Nat.ne_of_lt (Nat.lt_succ_of_lt (Heap.lt_size e))
theorem QP {M:Model} {A:Around} {E:Value->Shared->Prop} {s:Shared} {pos:Pos} {id:String} {args:List (Bool×Sem Value)} {kws:List (Option Str×Sem Value)} {Q:Value->Shared->Prop} (hp:args.any (·.1)=false) (hk:kws.any (·.1.isNone)=false)
  (h:wpAny M A (evalArgs (.builtin id) true args kws) (fun z sz=>wpAny M A (call (.builtin id) z.pos z.kw) Q E sz) E s):wpAny M A (callWith pos (.builtin id) [] args kws) Q E s:=by
 unfold callWith;refine wpAny_bind (wpAny_holding (wpAny_mono h (fun z sz hz=>wpAny_bind (wpAny_standAt ?_)) fun _ _ y=>y));simp only[hp,hk,Bool.or_false];refine wpAny_bind (wpAny_pure (wpAny_bind (wpAny_mono hz (fun v sv hv=>wpAny_bind (wpAny_holding (wpAny_point (wpAny_pure hv)))) fun _ _ y=>y)))
end
section
open PySem PySem.Spec PyProof.Rows PySem.Calls
variable {X:Cx}
def Im:List Int->Int
 |[]=>0
 |x::l=>l.foldl (fun a b=>if a<b then b else a) x
theorem Qi {l:List Int}(h:l≠[])(x:Int):Im (l++[x])=if Im l<x then x else Im l:=by
 cases l with
 |nil=>exact absurd rfl h
 |cons y l=>
  show(l++[x]).foldl (fun a b=>if a<b then b else a) y=_;rw[List.foldl_append];rfl
theorem KM (ns:List Int):∀k,k<ns.length->argBest (fun i j=>decide (ns.getD j 0<ns.getD i 0)) k<ns.length/\Im (ns.take (k+1))=ns.getD (argBest (fun i j=>decide (ns.getD j 0<ns.getD i 0)) k) 0
 |0,h=>by
  cases ns with
  |nil=>exact absurd h (Nat.not_lt_zero _)
  |cons x l=>exact⟨h,rfl⟩
 |k+1,h=>by
  obtain⟨h1,h2⟩:=KM ns k (by omega);have e:ns.take (k+1+1)=ns.take (k+1)++[ns.getD (k+1) 0]:=by
   rw[List.take_add_one,List.getD_eq_getElem?_getD,List.getElem?_eq_getElem h];rfl
  have ne:ns.take (k+1)≠[]:=fun z=>by
   have:=congrArg List.length z;rw[List.length_take,List.length_nil] at this;omega
  rw[e,Qi ne,h2];show(if decide (_<_)=true then k+1 else _)<_/\_=ns.getD (if decide (_<_)=true then k+1 else _) 0
  by_cases q:ns.getD (argBest (fun i j=>decide (ns.getD j 0<ns.getD i 0)) k) 0<ns.getD (k+1) 0
  ·rw[if_pos q,if_pos (decide_eq_true q)];exact⟨h,rfl⟩
  ·rw[if_neg q,if_neg (by rw[decide_eq_false q];exact Bool.false_ne_true)];exact⟨h1,rfl⟩
theorem JZ:∀{its:List Value} {ns:List Int},IntsAre its ns->∀{i:Nat} {v:Value},its[i]?=some v->∃t,v=Value.int (ns.getD i 0) t
 |_,_,.nil,i,v,h=>by simp at h
 |_,_,.cons n t r,0,v,h=>by simp at h;exact⟨t,h.symm⟩
 |_,_,.cons n t r,i+1,v,h=>JZ r (by simpa using h)
def VH (K:PySem.W.Frag)(ta:TA):TE:=fun σ H Q=>ta σ H fun vs H1=>∃(a:Addr) (ns:List Int),vs=[.ref a]/\AW K H1 a (ns.map V.int)/\Q (.int (Im ns)) H1
theorem SU {l:Expr} {ta:TA} {p pos kp cp:Pos} {j} (hc:X.calm=true) (hg:Gl X "max") (hm:X.mg "max"=none) (ha:PA X [l] ta)
  (he:backTo pos (starEach [l] X.env)=(false,eval l X.env)::backTo pos (starEach [] X.env):=by rfl)
  (hpl:(backTo pos (starEach [l] X.env)).any (·.1)=false:=by rfl) :
  PE X (.Call (.Name "max" p) [l] [⟨some "default",.Constant (.int 0) j cp,kp⟩] pos) (VH X.K ta):=by
 intro pins s σ H Q I h;refine wpAny_Call_Name_kw (Fz I hg hm UG (QP hpl rfl ?_));have hsp:=ha pos pins s σ H _ I h;rw[he] at hsp ⊢;refine evalArgs_kwB rfl (Ba hsp fun us s1 ⟨vs,H1,I1,r1,q1⟩=>?_);refine kws_cons (wpAny_Constant_int (kws_nil ?_));obtain⟨a,ns,rfl,hq,q⟩:=q1;obtain⟨u,rfl,ru⟩:=vals1 r1;cases ru;have I2:=I1.tok (s1.toks+1);obtain⟨its,rv,p1,hz⟩:=I2.list hq;have hi:=intsAre_of rv;have ln:its.length=ns.length:=IntsAre.length hi;refine P9 (items:=its.toArray) (d:=.int 0 s1.toks) (I2.ok.hd hc) p1.isList (fun i=>ns.getD i 0) (fun i v e=>JZ hi (by simpa using e)) fun r h' tk hr k=>?_
 obtain⟨t,rfl⟩:∃t,r=Value.int (Im ns) t:=by
  rcases hr with⟨h0,rfl⟩|⟨h0,h1⟩
  ·have:ns=[]:=List.eq_nil_of_length_eq_zero (by rw[<-ln];simpa using h0);subst this;exact⟨_,rfl⟩
  ·have h2:0<ns.length:=by rw[<-ln];simpa using h0
   obtain⟨t,e⟩:=JZ hi (i:=argBest (fun i j=>decide (ns.getD j 0<ns.getD i 0)) (ns.length-1)) (v:=r) (by rw[<-ln];simpa using h1);have:=(KM ns (ns.length-1) (by omega)).2;rw[show ns.length-1+1=ns.length by omega,List.take_length] at this;exact⟨t,by rw[e,this]⟩
 exact⟨.int (Im ns),H1,I2.kept (t':=tk) k,⟨t,rfl⟩,q⟩
end
end L2
namespace L2
end L2
namespace L2
section
open PySem PySem.W PyProof.Rows
variable {n:Nat}{lt:Nat->Nat->Bool}{cmp:Nat->Nat->(Bool->Shared->Prop)->Shared->Prop}{s:Shared}
structure Ordr (n:Nat) (lt:Nat->Nat->Bool) (cmp:Nat->Nat->(Bool->Shared->Prop)->Shared->Prop) (s:Shared):Prop where
 ask:∀(i j:Nat) (C:Bool->Shared->Prop),i<n->j<n->i≠j->C (lt i j) s->cmp i j C s
 tr:∀i j k,i<n->j<n->k<n->lt i j=true->lt j k=true->lt i k=true
 tot:∀i j,i<n->j<n->i≠j->lt i j=false->lt j i=true
def KE (n:Nat)(p:Array Nat):Prop:=p.size=n/\p.toList.Perm (List.range n)
theorem KE.lo {p:Array Nat}(h:KE n p){i:Nat}(hi:i<n):p.getD i 0<n:=by
 have hs:i<p.size:=by rw[h.1];exact hi
 have e:p.getD i 0=p[i]:=by simp[Array.getD,hs]
 rw[e];exact List.mem_range.mp (h.2.mem_iff.mp (by simp))
theorem KE.ne {p:Array Nat}(h:KE n p){i j:Nat}(hi:i<n)(hj:j<n)(hij:i≠j):p.getD i 0≠p.getD j 0:=by
 have hs:i<p.size:=by rw[h.1];exact hi
 have ht:j<p.size:=by rw[h.1];exact hj
 have nd:p.toList.Nodup:=h.2.nodup_iff.mpr List.nodup_range;have e1:p.getD i 0=p.toList[i]'(by simpa using hs):=by simp[Array.getD,hs]
 have e2:p.getD j 0=p.toList[j]'(by simpa using ht):=by simp[Array.getD,ht]
 rw[e1,e2];intro z;have pw:=List.pairwise_iff_getElem.mp nd;rcases Nat.lt_or_gt_of_ne hij with g|g
 ·exact pw i j (by simpa using hs) (by simpa using ht) g z
 ·exact pw j i (by simpa using ht) (by simpa using hs) g z.symm
def IL (lt:Nat->Nat->Bool)(p:Array Nat)(k:Nat):Prop:=∀i j,i<j->j<k->lt (p.getD i 0) (p.getD j 0)=true
def Vv (lt:Nat->Nat->Bool)(p:Array Nat)(k:Nat):Prop:=∀i j,i<j->j<k->lt (p.getD j 0) (p.getD i 0)=true
theorem Oj (O:Ordr n lt cmp s){p:Array Nat}(hp:KE n p){G:Nat->Shared->Prop}:∀(f m:Nat),1<=m->m+f<=n->IL lt p m->
  (∀m',m<=m'->m'<=m+f->IL lt p m'->(m'=m+f\/lt (p.getD m' 0) (p.getD (m'-1) 0)=true)->G m' s)->(kas_asc p f m).kasWp cmp G s
 |0,m,_,_,up,h=>h m (Nat.le_refl _) (Nat.le_refl _) up (.inl rfl)
 |f+1,m,h1,h2,up,h=>by
  refine O.ask _ _ _ (hp.lo (by omega)) (hp.lo (by omega)) (hp.ne (by omega) (by omega) (by omega)) ?_;cases hl:lt (p.getD m 0) (p.getD (m-1) 0) with
  |true=>exact h m (Nat.le_refl _) (by omega) up (.inr hl)
  |false=>
   have hl':=O.tot _ _ (hp.lo (by omega)) (hp.lo (by omega)) (hp.ne (by omega) (by omega) (by omega)) hl;show(kas_asc p f (m+1)).kasWp cmp G s;refine Oj O hp f (m+1) (by omega) (by omega) (fun i j hij hj=>?_) fun m' a b c d=>h m' (by omega) (by omega) c (d.imp (by omega) id)
   by_cases e:j=m
   ·subst e
    by_cases e2:i=j-1
    ·rw[e2];exact hl'
    ·exact O.tr _ _ _ (hp.lo (by omega)) (hp.lo (by omega)) (hp.lo (by omega)) (up i (j-1) (by omega) (by omega)) hl'
   ·exact up i j hij (by omega)
theorem Pf (O:Ordr n lt cmp s){p:Array Nat}(hp:KE n p){G:Array Nat×Nat×Nat->Shared->Prop}:∀(f m:Nat),1<=m->m+f<=n->Vv lt p m->
  (∀m',m<=m'->m'<=m+f->Vv lt p m'->G (p,m',0) s)->(kas_desc f p m 0).kasWp cmp G s
 |0,m,_,_,dn,h=>h m (Nat.le_refl _) (Nat.le_refl _) dn
 |f+1,m,h1,h2,dn,h=>by
  refine O.ask _ _ _ (hp.lo (by omega)) (hp.lo (by omega)) (hp.ne (by omega) (by omega) (by omega)) ?_;cases hl:lt (p.getD m 0) (p.getD (m-1) 0) with
  |true=>
   show(kas_desc f p (m+1) 0).kasWp cmp G s;refine Pf O hp f (m+1) (by omega) (by omega) (fun i j hij hj=>?_) fun m' a b c=>h m' (by omega) (by omega) c
   by_cases e:j=m
   ·subst e
    by_cases e2:i=j-1
    ·rw[e2];exact hl
    ·exact O.tr _ _ _ (hp.lo (by omega)) (hp.lo (by omega)) (hp.lo (by omega)) hl (dn i (j-1) (by omega) (by omega))
   ·exact dn i j hij (by omega)
  |false=>
   have hl':=O.tot _ _ (hp.lo (by omega)) (hp.lo (by omega)) (hp.ne (by omega) (by omega) (by omega)) hl;refine O.ask _ _ _ (hp.lo (by omega)) (hp.lo (by omega)) (hp.ne (by omega) (by omega) (by omega)) ?_;rw[hl'];exact h m (Nat.le_refl _) (by omega) dn
theorem DT (p:Array Nat)(i:Nat):p.getD i 0=(p[i]?).getD 0:=by
 by_cases h:i<p.size
 ·simp[Array.getD,h]
 ·simp[Array.getD,h]
theorem QQ {p:Array Nat}{m:Nat}(hm:m<=p.size)(k:Nat):(kas_rev p 0 m).getD k 0=if k<m then p.getD (m-1-k) 0 else p.getD k 0:=by
 rw[DT];unfold kas_rev;rw[getElem?_mirror_all hm]
 by_cases h:k<m
 ·rw[if_pos ⟨Nat.zero_le _,h⟩,if_pos h,DT,Nat.zero_add]
 ·rw[if_neg (fun z=>h z.2),if_neg h,DT]
theorem T9 {p:Array Nat}(hp:KE n p)(m:Nat):KE n (kas_rev p 0 m):=⟨(mirror_size ..).trans hp.1,(Array.perm_iff_toList_perm.mp (mirror_perm ..)).trans hp.2⟩
theorem Sa (O:Ordr n lt cmp s) {p:Array Nat} (hp:KE n p) {m:Nat} (h1:1<=m) (hm:m<=n) (dn:Vv lt p m) {G:Nat×Array Nat->Shared->Prop}
  (h:∀m' p',KE n p'->IL lt p' m'->1<=m'->m'<=n->G (m',p') s):(kas_tail3 m n p).kasWp cmp G s:=by
 unfold kas_tail3;rw[KasT.kasWp_bind];have hr:=T9 hp m;refine Oj O hr (n-m) m h1 (by omega) (fun i j hij hj=>?_) fun m' a b c _=>h m' _ hr c (by omega) (by omega)
 rw[QQ (by rw[hp.1];exact hm),QQ (by rw[hp.1];exact hm),if_pos (by omega),if_pos hj];exact dn _ _ (by omega) (by omega)
theorem Q6 (O:Ordr n lt cmp s) (hn:1<=n) {p:Array Nat} (hp:KE n p) {G:Nat×Array Nat->Shared->Prop}
  (h:∀m' p',KE n p'->IL lt p' m'->1<=m'->m'<=n->G (m',p') s):(kas_count n p).kasWp cmp G s:=by
 unfold kas_count;rw[KasT.kasWp_bind];refine Oj O hp (n-1) 1 (Nat.le_refl _) (by omega) (fun i j hij hj=>by omega) fun m a b up d=>?_
 by_cases e:m=n
 ·subst e;rw[if_pos (by simp)];exact h _ _ hp up a (Nat.le_refl _)
 ·rw[if_neg (by simpa using e)]
  by_cases g:m>1
  ·rw[if_pos g];refine O.ask _ _ _ (hp.lo (by omega)) (hp.lo (by omega)) (hp.ne (by omega) (by omega) (by omega)) ?_;rw[up 0 (m-1) (by omega) (by omega)];exact h _ _ hp up a (by omega)
  ·rw[if_neg g];have e1:m=1:=by omega
   subst e1;have hl:=d.resolve_left (by omega);unfold kas_descPart;rw[KasT.kasWp_bind];refine Pf O hp (n-(1+1)) (1+1) (by omega) (by omega) (fun i j hij hj=>?_) fun m' a' b' dn=>?_
   ·obtain⟨rfl,rfl⟩:i=0/\j=1:=by omega
    exact hl
   ·rw[if_neg (by simp)];exact Sa O hp (by omega) (by omega) dn h
theorem JA (O:Ordr n lt cmp s) {p:Array Nat} (hp:KE n p) {k:Nat} (hk:k<n) (up:IL lt p k) {G:Nat->Shared->Prop}
  (h:∀l,l<=k->(∀i,i<l->lt (p.getD i 0) (p.getD k 0)=true)->(∀i,l<=i->i<k->lt (p.getD k 0) (p.getD i 0)=true)->G l s) :
  ∀(f l r:Nat),l<=r->r<=k->r-l<=f->(∀i,i<l->lt (p.getD i 0) (p.getD k 0)=true)->(∀i,r<=i->i<k->lt (p.getD k 0) (p.getD i 0)=true)->(kas_place p k f l r).kasWp cmp G s
 |0,l,r,h1,h2,h3,a,b=>h l (by omega) a fun i hi=>b i (by omega)
 |f+1,l,r,h1,h2,h3,a,b=>by
  unfold kas_place
  by_cases g:l≥r
  ·rw[if_pos g];exact h l (by omega) a fun i hi=>b i (by omega)
  ·rw[if_neg g];refine O.ask _ _ _ (hp.lo hk) (hp.lo (by omega)) (hp.ne hk (by omega) (by omega)) ?_;cases hl:lt (p.getD k 0) (p.getD ((l+r)/2) 0) with
   |true=>
    show(kas_place p k f l ((l+r)/2)).kasWp cmp G s;refine JA O hp hk up h f l ((l+r)/2) (by omega) (by omega) (by omega) a fun i hi hik=>?_
    by_cases e:i=(l+r)/2
    ·rw[e];exact hl
    ·exact O.tr _ _ _ (hp.lo hk) (hp.lo (by omega)) (hp.lo (by omega)) hl (up _ _ (by omega) hik)
   |false=>
    have hl':=O.tot _ _ (hp.lo hk) (hp.lo (by omega)) (hp.ne hk (by omega) (by omega)) hl;show(kas_place p k f ((l+r)/2+1) r).kasWp cmp G s;refine JA O hp hk up h f ((l+r)/2+1) r (by omega) (by omega) (by omega) (fun i hi=>?_) b
    by_cases e:i=(l+r)/2
    ·rw[e];exact hl'
    ·exact O.tr _ _ _ (hp.lo (by omega)) (hp.lo (by omega)) (hp.lo hk) (up _ _ (by omega) (by omega)) hl'
theorem Rr {p:Array Nat}{k l:Nat}(hk:k<p.size)(hl:l<=k)(i:Nat):(bubble p k (k-l)).getD i 0=if i=l then p.getD k 0 else if l<i/\i<=k then p.getD (i-1) 0 else p.getD i 0:=by
 rw[DT,getElem?_bubble hk _ (by omega),show k-(k-l)=l by omega]
 by_cases h:i=l
 ·rw[if_pos h,if_pos h,DT]
 ·rw[if_neg h,if_neg h]
  by_cases g:l<i/\i<=k
  ·rw[if_pos g,if_pos g,DT]
  ·rw[if_neg g,if_neg g,DT]
theorem Sj (O:Ordr n lt cmp s){G:Array Nat->Shared->Prop}(h:∀p,KE n p->IL lt p n->G p s):∀(f:Nat) (p:Array Nat) (k:Nat),k+f=n->KE n p->IL lt p k->(kas_bin f p k).kasWp cmp G s
 |0,p,k,e,hp,up=>h p hp (by rw[<-e];exact up)
 |f+1,p,k,e,hp,up=>by
  unfold kas_bin;rw[KasT.kasWp_bind];refine JA O hp (by omega) up (fun l hl a b=>?_) k 0 k (Nat.zero_le _) (Nat.le_refl _) (by omega) (fun i hi=>by omega) (fun i h1 h2=>by omega);have hs:k<p.size:=by rw[hp.1];omega
  refine Sj O h f _ (k+1) (by omega) ⟨(bubble_size ..).trans hp.1,(Array.perm_iff_toList_perm.mp (bubble_perm ..)).trans hp.2⟩ fun i j hij hj=>?_
  rw[Rr hs hl,Rr hs hl]
  by_cases i1:i=l
  ·rw[if_pos i1,if_neg (by omega),if_pos (by omega)];exact b _ (by omega) (by omega)
  ·rw[if_neg i1]
   by_cases j1:j=l
   ·rw[if_neg (by omega),if_pos j1];exact a _ (by omega)
   ·rw[if_neg j1]
    by_cases i2:l<i/\i<=k
    ·rw[if_pos i2,if_pos (by omega)];exact up _ _ (by omega) (by omega)
    ·rw[if_neg i2]
     by_cases j2:l<j/\j<=k
     ·rw[if_pos j2];exact up _ _ (by omega) (by omega)
     ·rw[if_neg j2];exact up _ _ (by omega) (by omega)
theorem Sv (O:Ordr n lt cmp s)(hn:1<=n){G:Array Nat->Shared->Prop}(h:∀p,KE n p->IL lt p n->G p s):(kas_sort n).kasWp cmp G s:=by
 unfold kas_sort;rw[KasT.kasWp_bind];refine Q6 O hn ⟨by simp,by simp⟩ fun m p hp up h1 h2=>?_
 by_cases e:m<n
 ·rw[if_pos e];exact Sj O h _ _ _ (by omega) hp (by rw[show max m 1=m by omega];exact up)
 ·rw[if_neg e];obtain rfl:m=n:=by omega
  exact h p hp up
end
end L2
namespace L2
section
open PySem PySem.W PySem.Calls PyProof.Rows
variable {prog:Program}{w:World}{A:Around}{E:Value->Shared->Prop}{s:Shared}
def G9 (vs:List Value)(p:Array Nat):List Value:=p.toList.map fun i=>vs.getD i Value.none
theorem Nv (vs:List Value):G9 vs (List.range vs.length).toArray=vs:=by
 unfold G9;refine List.ext_getElem? fun i=>?_
 rw[List.getElem?_map]
 by_cases h:i<vs.length
 ·simp[h]
 ·simp[h]
theorem TB {a:Addr} {vs:List Value} {n:Nat} {lt:Nat->Nat->Bool} {P:PySem.Fin->Shared->Prop} (ho:s.heap.get? a=some (seqObj "list" vs.toArray n)) (few:vs.length<64)
  (hk:∀h',(∀b o,b≠a->s.heap.get? b=some o->h'.get? b=some o)->2<=vs.length->wpAny (model prog w) A (keyKind' vs.toArray) (fun κ s'=>s'={ s with heap:=h' }/\Ordr vs.length lt (kas_ask prog w A κ vs) s') (fun _ _=>False) { s with heap:=h' })
  (h:∀p,KE vs.length p->IL lt p vs.length->P (.done (.ret .none)) { s with heap:=sortedHeap s.heap a vs (G9 vs p).toArray }) :
  wpAny (model prog w) A (Builtin.«list.sort» ⟨[.ref a],[]⟩) P E s:=by
 rw[list_sort_plain];have ha:a<s.heap.objs.size:=Heap.lt_size ho;refine wpAny_bind (listItems_at ho rfl (wpAny_bind (listUpdate_at ho rfl ?_)));obtain⟨e1,h1⟩:∃e,(s.heap.update a (Obj.mapSeq fun _=>#[])).get? a=some (seqObj "list" #[] e):=⟨_,get?_update_seq ho (fun _=>#[])⟩
 refine wpAny_bind (seqEpoch_at h1 rfl (wpAny_bind (wpAny_newTuple (wpAny_bind (wpAny_newList (wpAny_holding ?_))))));have n1:a≠(s.heap.update a (Obj.mapSeq fun _=>#[])).objs.size:=by rw[Heap.size_update];exact Nat.ne_of_lt ha
 have n2:a≠((s.heap.update a (Obj.mapSeq fun _=>#[])).push (seqObj "tuple" vs.toArray 0)).objs.size:=by rw[Heap.size_push,Heap.size_update];exact Nat.ne_of_lt (Nat.lt_succ_of_lt ha)
 have h2:(((s.heap.update a (Obj.mapSeq fun _=>#[])).push (seqObj "tuple" vs.toArray 0)).push (seqObj "list" #[] 0)).get? a=some (seqObj "list" #[] e1):=by
  rw[Heap.get?_push_ne _ _ _ n2,Heap.get?_push_ne _ _ _ n1];exact h1
 have old:∀b o,b≠a->s.heap.get? b=some o->(((s.heap.update a (Obj.mapSeq fun _=>#[])).push (seqObj "tuple" vs.toArray 0)).push (seqObj "list" #[] 0)).get? b=some o:=fun b o nb e=>
  Heap.get?_push_of_some _ (Heap.get?_push_of_some _ ((Heap.get?_update_other _ _ (Ne.symm nb)).trans e))
 show wpAny (model prog w) A _ P E { s with heap:=((s.heap.update a (Obj.mapSeq fun _=>#[])).push (seqObj "tuple" vs.toArray 0)).push (seqObj "list" #[] 0) };dsimp only;have ez:vs.toArray.size=vs.length:=by simp
 by_cases hs2:vs.toArray.size<2
 ·rw[if_pos hs2,if_pos hs2];refine wpAny_bind (wpAny_pure ?_);rw[StateT.run_pure];refine wpAny_bind (wpAny_pure ?_);dsimp only;refine wpAny_bind (seqEpoch_at h2 rfl (wpAny_bind (listUpdate_at h2 rfl ?_ (hsz2:=?_))))
  ·simp only[bne_self_eq_false,Bool.false_eq_true,if_false];have hq:=h (List.range vs.length).toArray ⟨by simp,by simp⟩ (fun i j hij hj=>by omega);rw[Nv] at hq;have e:(vs.toArray.zip vs.toArray).map (·.2)=vs.toArray:=by
    apply Array.toList_inj.mp;simp;exact List.map_snd_zip (Nat.le_refl _)
   refine wpAny_pure ?_;show P _ { s with heap:=sortedHeap s.heap a vs ((vs.toArray.zip vs.toArray).map (·.2)) };rw[e];exact hq
  ·show((vs.toArray.zip vs.toArray).map (·.2)).size<=_;rw[Array.size_map];simp;rw[sizeLine_eq];omega
 ·rw[if_neg hs2,if_neg hs2];refine wpAny_bind (wpAny_mono (hk _ old (by omega)) (fun κ s' hs'=>?_) fun _ _ z=>z.elim);obtain⟨rfl,O⟩:=hs';refine wpAny_bind (wpAny_mono (kat_run (ks:=vs) (E:=E) (Q:=fun st' s'=>s'={ s with heap:=((s.heap.update a (Obj.mapSeq fun _=>#[])).push (seqObj "tuple" vs.toArray 0)).push (seqObj "list" #[] 0) }/\∃p,KE vs.length p/\IL lt p vs.length/\(arrOf st').map (·.2)=(G9 vs p).toArray/\failedOf st'=none)
   (G:=fun p s'=>s'={ s with heap:=((s.heap.update a (Obj.mapSeq fun _=>#[])).push (seqObj "tuple" vs.toArray 0)).push (seqObj "list" #[] 0) }/\KE vs.length p/\IL lt p vs.length) rfl (by omega) few
   (fun p st' s' _ ea ef hg=>⟨hg.1,p,hg.2.1,hg.2.2,kat_snds rfl ea,ef⟩) (Sv O (by omega) fun p hp up=>⟨rfl,hp,up⟩)) (fun r s' hr=>?_) fun _ _ z=>z)
  obtain⟨⟨⟩,st'⟩:=r;obtain⟨rfl,p,hp,up,ea,ef⟩:=hr;dsimp only;refine wpAny_bind (seqEpoch_at h2 rfl (wpAny_bind (listUpdate_at h2 rfl ?_ (hsz2:=?_))))
  ·rw[ef];simp only[bne_self_eq_false,Bool.false_eq_true,if_false];rw[ea];exact wpAny_pure (h p hp up)
  ·rw[ea];unfold G9;simp only[List.size_toArray,List.length_map,Array.length_toList,hp.1];rw[sizeLine_eq];omega
theorem OA {vs:List Value}{ss:List Str}(nd:ss.Nodup)(hl:vs.length=ss.length)(hv:∀(i:Nat) x,ss[i]?=some x->∃(a:Addr) (o:Obj) (t:Tok) (xs:Array Value) (n:Nat),vs[i]?=some (.ref a)/\s.heap.get? a=some o/\o.data=.seq xs n/\xs[0]?=some (.str x t)) :
  Ordr vs.length (fun i j=>decide ((ss.getD i ⟨#[]⟩).cps.toList<(ss.getD j ⟨#[]⟩).cps.toList)) (kas_ask prog w A (tuples' true) vs) s:=by
 have get:∀i,i<vs.length->ss[i]?=some (ss.getD i ⟨#[]⟩):=fun i hi=>by
  rw[hl] at hi;simp[hi]
 refine⟨fun i j C hi hj hij hC=>?_,fun i j k _ _ _ h1 h2=>?_,fun i j hi hj hij h1=>?_⟩
 ·obtain⟨a,o,t,xs,n,e1,e2,e3,e4⟩:=hv i _ (get i hi);obtain⟨a',o',t',xs',n',f1,f2,f3,f4⟩:=hv j _ (get j hj);have g1:vs.getD i Value.none=.ref a:=by simp[e1]
  have g2:vs.getD j Value.none=.ref a':=by simp[f1]
  unfold kas_ask;rw[g1,g2];have z1:0<xs.size:=(Array.getElem?_eq_some_iff.mp e4).1;have z2:0<xs'.size:=(Array.getElem?_eq_some_iff.mp f4).1;obtain⟨r,er⟩:∃r,xs.toList=.str (ss.getD i ⟨#[]⟩) t::r:=by
   cases hx:xs.toList with
   |nil=>rw[<-Array.length_toList,hx] at z1;exact absurd z1 (by simp)
   |cons y r=>
    have:=e4;rw[<-Array.getElem?_toList,hx] at this;exact⟨r,by rw[show y=_ from Option.some.inj this]⟩
  obtain⟨r',er'⟩:∃r,xs'.toList=.str (ss.getD j ⟨#[]⟩) t'::r:=by
   cases hx:xs'.toList with
   |nil=>rw[<-Array.length_toList,hx] at z2;exact absurd z2 (by simp)
   |cons y r=>
    have:=f4;rw[<-Array.getElem?_toList,hx] at this;exact⟨r,by rw[show y=_ from Option.some.inj this]⟩
  refine kat_lt e2 e3 f2 f3 ?_;rw[er,er',List.zip_cons_cons];refine kat_cons (eqBool_str ?_);have ne:((ss.getD i ⟨#[]⟩) == (ss.getD j ⟨#[]⟩))=false:=by
   rw[beq_eq_false_iff_ne];intro z;have hi':i<ss.length:=by omega
   have hj':j<ss.length:=by omega
   have pw:=List.pairwise_iff_getElem.mp nd;have z':ss[i]=ss[j]:=by simpa [hi',hj'] using z
   rcases Nat.lt_or_gt_of_ne hij with q|q
   ·exact pw i j hi' hj' q z'
   ·exact pw j i hj' hi' q z'.symm
  rw[ne];exact kat_no (oneLt_str hC)
 ·rw[decide_eq_true_eq] at *;exact List.lt_trans h1 h2
 ·rw[decide_eq_false_iff_not] at h1;rw[decide_eq_true_eq];have hle:=List.not_lt.mp h1;rcases Classical.em ((ss.getD j ⟨#[]⟩).cps.toList<(ss.getD i ⟨#[]⟩).cps.toList) with h|h
  ·exact h
  ·exfalso;have e:=List.le_antisymm hle (List.not_lt.mp h);have e2:ss.getD j ⟨#[]⟩=ss.getD i ⟨#[]⟩:=by
    cases hx:ss.getD j ⟨#[]⟩ with
    |mk c1=>
     cases hy:ss.getD i ⟨#[]⟩ with
     |mk c2=>
      rw[hx,hy] at e;have e3:c1=c2:=Array.toList_inj.mp e;rw[e3]
   have hi':i<ss.length:=by omega
   have hj':j<ss.length:=by omega
   have pw:=List.pairwise_iff_getElem.mp nd;have z':ss[j]=ss[i]:=by simpa [hi',hj'] using e2
   rcases Nat.lt_or_gt_of_ne hij with q|q
   ·exact pw i j hi' hj' q z'.symm
   ·exact pw j i hj' hi' q z'
end
end L2
namespace L2
section
open PySem PySem.W PySem.Calls PyProof.Rows
variable {prog:Program}{w:World}{A:Around}{E:Value->Shared->Prop}{s:Shared}
def Tp (prog:Program)(w:World)(Q:Value->Shared->Prop)(vs:List Value)(s1:Shared):Prop:=∃lt,vs.length<64/\
 (∀(A':Around) h',(∀b o,s1.heap.get? b=some o->h'.get? b=some o)->2<=vs.length->wpAny (model prog w) A' (keyKind' vs.toArray) (fun κ s'=>s'={ s1 with heap:=h' }/\Ordr vs.length lt (kas_ask prog w A' κ vs) s') (fun _ _=>False) { s1 with heap:=h' })/\
 ∀h' p idx c,KE vs.length idx->IL lt idx vs.length->s1.heap.objs.size<=p->(∀b o,s1.heap.get? b=some o->h'.get? b=some o)->h'.get? p=some (seqObj "list" (G9 vs idx).toArray c)->Q (.ref p) { s1 with heap:=h' }
theorem P8 {x:Value}{Q:Value->Shared->Prop}(hc:wpAny (model prog w) A.in1 (collect x) (Tp prog w Q) E s):wpAny (model prog w) A (call (.builtin "sorted") [x]) Q E s:=by
 refine Calls.call_function_entry kind_sorted plain_sorted entry_sorted (args_sorted1 x) ?_;unfold Builtin.«sorted»;refine wpAny_bind (m:=checkCount "sorted" 1 1 _) (wpAny_pure (wpAny_bind (wpAny_mono hc (fun vs s1 z=>?_) fun _ _ e=>e)));obtain⟨lt,few,hk,q⟩:=z;refine wpAny_bind (wpAny_newList ?_);have there:(s1.heap.push (seqObj "list" vs.toArray 0)).get? s1.heap.objs.size=some (seqObj "list" vs.toArray 0):=Heap.get?_push_size _ rfl;refine wpAny_bind (wpAny_holding (wpAny_call_entry slot_list_sort ⟨_,there,rfl⟩ entry_list_sort (TB (lt:=lt) there few (fun h' old h2=>?_) fun idx hp up=>⟨_,rfl,?_⟩) (args_list_sort _)))
 ·have k':∀b o,s1.heap.get? b=some o->h'.get? b=some o:=fun b o e=>old b o (Nat.ne_of_lt (Heap.lt_size e)) (Heap.get?_push_of_some _ e)
  exact hk _ h' k' h2
 ·obtain⟨c,hp'⟩:=sortedHeap_at (out:=(G9 vs idx).toArray) there;refine wpAny_pure ⟨_,rfl,q _ _ idx c hp up (Nat.le_refl _) (fun b o e=>?_) hp'⟩;have lt:=Heap.lt_size e;show Heap.get? _ b=some o;rw[sortedHeap_old (Nat.ne_of_lt lt) (by rw[Heap.size_push];exact Nat.lt_succ_of_lt lt)];exact Heap.get?_push_of_some _ e
end
end L2
namespace L2
section
open PySem PySem.W PySem.Calls PyProof.Rows
variable {X:Cx}
def S7 (H:Hp)(ts:List (Addr×Str))(Q:VK):Prop:=∀(us:List (Addr×Str)) (p:Addr),us.Perm ts->sortedS (us.map (·.2))=true->H p=none->Q (.ref p) (upd H p (.lst (us.map fun t=>V.ref t.1)))
def Pe (K:PySem.W.Frag):List V->Hp->VK->Prop:=fun xs H Q=>∃(a:Addr) (ts:List (Addr×Str)),xs=[.ref a]/\AW K H a (ts.map fun t=>V.ref t.1)/\ts.length<64/\(∀t∈ts,∃r,A0 K H t.1 (.str t.2::r))/\(ts.map (·.2)).Nodup/\S7 H ts Q
theorem MW:∀{ts:List (Addr×Str)} {its:List Value},Aw (ts.map fun t=>V.ref t.1) its->its=ts.map fun t=>Value.ref t.1
 |[],_,.nil=>rfl
 |t::ts,_,.cons r h=>by
  cases r;rw[List.map_cons,MW h]
theorem Hg:∀(ts:List (Addr×Str)),Aw (ts.map fun t=>V.ref t.1) (ts.map fun t=>Value.ref t.1)
 |[]=>.nil
 |t::ts=>.cons rfl (Hg ts)
theorem D8 {K:PySem.W.Frag}(hK:X.K=K):CH X (.builtin "sorted") (Pe K):=by
 subst hK;intro pins s σ H xs us Q I r h;obtain⟨a,ts,rfl,h1,few,ht,nd,q⟩:=h;obtain⟨u,rfl,ru⟩:=vals1 r;cases ru;obtain⟨its,r1,p1,_⟩:=I.list h1;have ei:=MW r1;have li:its.length=ts.length:=by rw[ei,List.length_map]
 refine P8 (collect_list p1.isList ?_ (by rw[li,sizeLine_eq];omega));have old:∀b o,s.heap.get? b=some o->((s.heap.push (seqObj "list" #[] 0)).update s.heap.objs.size (Obj.mapSeq fun x=>x++its.toArray)).get? b=some o:=fun b o e=>(Heap.get?_update_other _ _ (Nat.ne_of_gt (Heap.lt_size e))).trans (Heap.get?_push_of_some _ e)
 have hsz:s.heap.objs.size<=((s.heap.push (seqObj "list" #[] 0)).update s.heap.objs.size (Obj.mapSeq fun x=>x++its.toArray)).objs.size:=by rw[Heap.size_update,Heap.size_push];exact Nat.le_succ _
 generalize (s.heap.push (seqObj "list" #[] 0)).update s.heap.objs.size (Obj.mapSeq fun x=>x++its.toArray)=h1 at old hsz ⊢;have tup:∀(i:Nat) x,(ts.map fun t=>t.2)[i]?=some x->∃(b:Addr) (o:Obj) (t:Tok) (xs:Array Value) (n:Nat),its[i]?=some (.ref b)/\s.heap.get? b=some o/\o.cls=.type "tuple"/\o.data=.seq xs n/\xs[0]?=some (.str x t):=fun i x hx=>by
  rw[List.getElem?_map] at hx;cases hi:ts[i]? with
  |none=>rw[hi] at hx;cases hx
  |some y=>
   rw[hi] at hx;cases hx;obtain⟨r,hr⟩:=ht y (List.mem_of_getElem? hi);obtain⟨ys,rv,⟨o,e1,e2,n,e3⟩,_⟩:=I.tuple hr;cases rv with
   |cons rv _=>
    obtain⟨t,rfl⟩:=rv;exact⟨y.1,o,t,_,n,by rw[ei,List.getElem?_map,hi];rfl,e1,e2,e3,by simp⟩
 refine⟨fun i j=>decide (((ts.map fun t:Addr×Str=>t.2).getD i (⟨#[]⟩:Str)).cps.toList<((ts.map fun t:Addr×Str=>t.2).getD j (⟨#[]⟩:Str)).cps.toList),by rw[li];exact few,fun A' h' k h2=>?_,fun h' p idx c hp up lp k e=>?_⟩
 ·obtain⟨fs,kt,kf⟩:∃fs,KatTups h' its fs/\fs.length=its.length/\∀v∈fs,∃x t,v=Value.str x t:=by
   have go:∀(l:List Value),(∀v∈l,∃(b:Addr) (o:Obj) (x:Str) (t:Tok) (xs:Array Value) (n:Nat),v=.ref b/\h'.get? b=some o/\o.cls=.type "tuple"/\o.data=.seq xs n/\xs[0]?=some (.str x t))->∃fs,KatTups h' l fs/\fs.length=l.length/\∀v∈fs,∃x t,v=Value.str x t:=by
    intro l
    induction l with
    |nil=>exact fun _=>⟨[],.nil,rfl,fun _ h=>nomatch h⟩
    |cons v l ih=>
     intro hl;obtain⟨fs,a1,a2,a3⟩:=ih fun u hu=>hl u (List.mem_cons_of_mem _ hu)
     obtain⟨b,o,x,t,xs,n,rfl,e1,e2,e3,e4⟩:=hl v List.mem_cons_self;refine⟨.str x t::fs,.cons e1 e2 e3 e4 a1,by rw[List.length_cons,List.length_cons,a2],fun u hu=>?_⟩;rcases List.mem_cons.mp hu with rfl|hu
     ·exact⟨x,t,rfl⟩
     ·exact a3 u hu
   refine go its fun v hv=>?_
   obtain⟨i,hi⟩:=List.getElem?_of_mem hv;have lt:i<ts.length:=by rw[<-li];exact(List.getElem?_eq_some_iff.mp hi).1
   obtain⟨b,o,t,xs,n,e1,e2,e3,e4,e5⟩:=tup i _ (List.getElem?_eq_getElem (by rw[List.length_map];exact lt));rw[hi] at e1;cases e1;exact⟨b,o,_,t,xs,n,rfl,k _ _ (old _ _ e2),e3,e4,e5⟩
  refine kat_kind (T:=.type "str") kt (by rw[kf.1];omega) (fun v hv=>?_) (by decide) ?_
  ·obtain⟨x,t,rfl⟩:=kf.2 v hv;exact .now
  ·refine⟨rfl,?_⟩;refine OA nd (by rw[li,List.length_map]) fun i x hx=>?_
   obtain⟨b,o,t,xs,n,e1,e2,_,e4,e5⟩:=tup i x hx;exact⟨b,o,t,xs,n,e1,k _ _ (old _ _ e2),e4,e5⟩
 ·have I1:Inv X pins σ H { s with heap:=h' }:=I.kept (t':=s.toks) fun b o e=>k b o (old b o e)
  have ln:∀i,i<ts.length->∃t,ts[i]?=some t:=fun i hi=>⟨_,List.getElem?_eq_getElem hi⟩
  have g0:(0:Nat)<ts.length\/ts=[]:=by
   cases ts with
   |nil=>exact .inr rfl
   |cons _ _=>exact .inl (by simp)
  obtain⟨d,ed⟩:∃d:Addr×Str,True:=⟨(0,⟨#[]⟩),trivial⟩
  have lt:∀i∈idx.toList,i<ts.length:=fun i hi=>by
   have:=List.mem_range.mp (hp.2.mem_iff.mp hi);omega
  have eo:G9 its idx=(idx.toList.map fun i=>ts.getD i d).map fun t=>Value.ref t.1:=by
   unfold G9;rw[List.map_map];refine List.map_congr_left fun i hi=>?_
   have hl:=lt i hi;rw[ei];simp[hl]
  have pm:(idx.toList.map fun i=>ts.getD i d).Perm ts:=by
   have h3:=hp.2.map fun i=>ts.getD i d
   have e3:(List.range its.length).map (fun i=>ts.getD i d)=ts:=by
    refine List.ext_getElem? fun i=>?_
    rw[List.getElem?_map,li]
    by_cases hi:i<ts.length
    ·simp[hi]
    ·simp[hi]
   rw[e3] at h3;exact h3
  have so:sortedS ((idx.toList.map fun i=>ts.getD i d).map (·.2))=true:=by
   apply sortedS_of_pairwise;rw[List.pairwise_iff_getElem];intro i j hi hj hij;have hi':i<idx.size:=by simpa using hi
   have hj':j<idx.size:=by simpa using hj
   have h4:=up i j hij (by rw[<-hp.1];exact hj');have li':=lt idx[i] (by simp);have lj':=lt idx[j] (by simp);simp only[List.getElem_map,Array.getElem_toList];rw[ltCps_eq];have e5:idx.getD i 0=idx[i]:=by simp[Array.getD,hi']
   have e6:idx.getD j 0=idx[j]:=by simp[Array.getD,hj']
   rw[e5,e6,decide_eq_true_eq] at h4;have e7:(ts.map fun t:Addr×Str=>t.2).getD idx[i] (⟨#[]⟩:Str)=(ts.getD idx[i] d).2:=by simp[li']
   have e8:(ts.map fun t:Addr×Str=>t.2).getD idx[j] (⟨#[]⟩:Str)=(ts.getD idx[j] d).2:=by simp[lj']
   rw[e7,e8] at h4;exact decide_eq_false fun z=>absurd (List.lt_trans h4 z) (List.lt_irrefl _)
  rw[eo] at e;have lp':s.heap.objs.size<=p:=Nat.le_trans (by
   rcases Nat.lt_or_ge s.heap.objs.size h1.objs.size with g|g
   ·exact Nat.le_of_lt g
   ·exact Nat.le_of_eq (Nat.le_antisymm hsz g)) lp
  refine⟨.ref p,_,I.laid (t':=s.toks) (o:=.lst ((idx.toList.map fun i=>ts.getD i d).map fun t=>V.ref t.1)) (fun b o e=>k b o (old b o e)) lp' ?_,rfl,q _ _ pm so (I.hok.fresh lp')⟩;refine⟨?_,_,c,Hg _,e⟩;rw[List.length_map,pm.length_eq,sizeLine_eq];omega
end
end L2
namespace L2
section
open PySem PySem.Calls PyProof.Rows
variable {prog:Program}{w:World}{A:Around}{E:Value->Shared->Prop}{s:Shared}
structure KeyFits (prog:Program) (w:World) (A:Around) (s:Shared) (es:Array DictEntry) (key:Value) (h:Int) (eq:Nat->Bool):Prop where
 same:∀(i:Nat) (e:DictEntry) (Q:Bool->Shared->Prop) (E:Value->Shared->Prop),es[i]?=some e->e.hash=h->Q (eq i) s->wpAny (model prog w) A (eqBool e.key key) Q E s
 hash:∀(i:Nat) (e:DictEntry),es[i]?=some e->eq i=true->e.hash=h
 one:∀i j,i<es.size->j<es.size->eq i=true->eq j=true->i=j
 text:∀x t,key=.str x t->∀(i:Nat) (e:DictEntry),es[i]?=some e->e.key.isStr x=eq i
 quiet:∀(Q:Bool->Shared->Prop) (E:Value->Shared->Prop),Q true s->wpAny (model prog w) A (eqIsQuiet 8 key) Q E s
 quiets:∀e∈es,∀(Q:Bool->Shared->Prop) (E:Value->Shared->Prop),Q true s->wpAny (model prog w) A (eqIsQuiet 8 e.key) Q E s
 own:∀e∈es,e.key=key->e.hash=h
 form:(∃x t,key=.str x t)\/∃a,key=.ref a
end
end L2
namespace L2
section
open PySem PySem.Calls PySem.SeqAt PyProof.Rows
abbrev MK:=Sum Str (List Key)
def SF (H:Hp):MK->Value->Prop
 | .inl x,u=>∃t,u=.str x t
 | .inr ks,u=>∃b,u=.ref b/\H b=some (.tup (ks.map kV))
def UP (P:Program)(w:World):MK->Int
 | .inl x=>hashStr w x
 | .inr ks=>(tupleKind (AQ P w)).hash ks
def DM (d:Addr)(es:Array DictEntry)(ep:Nat):HO:=.ext fun h=>N6 h d es ep
def Xo (P:Program)(w:World)(H:Hp)(p:MK×V)(e:DictEntry):Prop:=SF H p.1 e.key/\e.hash=UP P w p.1/\RelV p.2 e.val
structure Mx (P:Program) (w:World) (H:Hp) (d:Addr) (kvs:List (MK×V)) (es:Array DictEntry) (ep:Nat):Prop where
 o:H d=some (DM d es ep)
 m:(d == sysModules)=false
 z:es.size<=sizeLine
 r:Paired (Xo P w H) kvs es.toList
 n:(kvs.map (·.1)).Nodup
variable {X:Cx}{pins:List (Addr×Obj)}{σ:St}{H:Hp}{s:Shared}{d:Addr}{kvs:List (MK×V)}{es:Array DictEntry}{ep:Nat}{A:Around}{E:Value->Shared->Prop}{k:MK}{u:Value}
theorem Mx.len {P:Program}{w:World}(M:Mx P w H d kvs es ep):es.size=kvs.length:=by
 rw[<-Array.length_toList];exact(Paired.length M.r).symm
end
end L2
namespace L2
section
open PySem PySem.Calls PySem.SeqAt PyProof.Rows
variable {X:Cx}{pins:List (Addr×Obj)}{σ:St}{H:Hp}{s:Shared}{d:Addr}{kvs:List (MK×V)}{es:Array DictEntry}{ep:Nat}{A:Around}{E:Value->Shared->Prop}{k:MK}{u:Value}
theorem Mx.at (I:Inv X pins σ H s)(M:Mx X.prog X.w H d kvs es ep):N6 s.heap d es ep:=(show AN X.prog X.w H s.heap d (DM d es ep) from I.hok d _ M.o).1
end
end L2
namespace L2
section
open PySem PySem.Calls PySem.Spec PySem.SeqAt PyProof.Rows
variable {X:Cx}{pins:List (Addr×Obj)}{σ:St}{H:Hp}{s:Shared}{d:Addr}{kvs:List (MK×V)}{es:Array DictEntry}{ep:Nat}{A:Around}{E:Value->Shared->Prop}{k:MK}{u:Value}
def WW (H:Hp):MK->V->Prop
 | .inl z,x=>x=.str z
 | .inr ks,x=>∃b,x=.ref b/\H b=some (.tup (ks.map kV))
theorem WW.is {y:V}(h:WW H k y)(r:RelV y u):SF H k u:=by
 cases k with
 |inl z=>
  cases(show y=.str z from h);obtain⟨t,rfl⟩:=r;exact⟨t,rfl⟩
 |inr ks=>
  obtain⟨b,rfl,hb⟩:=h;cases(show u=Value.ref b from r);exact⟨b,rfl,hb⟩
theorem SF.x (h:SF H k u):∃y,WW H k y/\RelV y u:=by
 cases k with
 |inl z=>obtain⟨t,rfl⟩:=h;exact⟨.str z,rfl,t,rfl⟩
 |inr ks=>obtain⟨b,rfl,hb⟩:=h;exact⟨.ref b,⟨b,rfl,hb⟩,rfl⟩
theorem Mx.keep {P:Program}{w:World}{H':Hp}(M:Mx P w H d kvs es ep)(ho:H' d=some (DM d es ep))(ht:∀c ys,H c=some (.tup ys)->H' c=some (.tup ys)):Mx P w H' d kvs es ep:=by
 refine{ M with o:=ho,r:=Paired.mapP M.r fun p e hpe=>⟨?_,hpe.2⟩ };obtain⟨k1,v⟩:=p;cases k1 with
 |inl x=>exact hpe.1
 |inr ks=>obtain⟨b,e1,hb⟩:=hpe.1;exact⟨b,e1,ht _ _ hb⟩
theorem Mx.same {P:Program}{w:World}{H':Hp}(M:Mx P w H d kvs es ep)(s:Am H H'):Mx P w H' d kvs es ep:=M.keep (s.get M.o) fun c ys e=>s.get e
end
end L2
namespace L2
end L2
namespace L2
end L2
namespace L2
open PySem PySem.Spec PyProof.Rows
abbrev Ct (h:Heap)(z TI TO:Addr)(f0:Value):Prop:=
 h.get? z=some { cls:=.type "zip",dict:=none,data:=.fields #[f0,.bool false,.bool true,.ref TI,.ref TO],slots:=#[] }
section
variable {prog:Program}{w:World}{A:Around}{E:Value->Shared->Prop}{s:Shared}{it:Addr}{fp:List Addr}{n i:Nat}{P:Nat->Value->Prop}{St:Nat->Heap->Prop}
theorem GV (D:Draws prog w A it fp n P St)(hi:i<n)(st:St i s.heap){Q:Option Value->Shared->Prop}(h:∀x h' tk,P i x->St (i+1) h'->Heap.SameBut it s.heap h'->Q (some x) { s with heap:=h',toks:=tk }) :
  wpAny (model prog w) A (Builtin.SmallTypes.nextOrEnd (.ref it)) Q E s:=by
 unfold Builtin.SmallTypes.nextOrEnd;exact wpAny_bind (wpAny_attempt (D.item i s _ _ hi st fun x h' tk p q r=>wpAny_pure (h x h' tk p q r)))
theorem G6 (D:Draws prog w A it fp n P St)(st:St n s.heap){Q:Option Value->Shared->Prop}(h:∀h',Heap.ExtBut it s.heap h'->Q none { s with heap:=h' }) :
  wpAny (model prog w) A (Builtin.SmallTypes.nextOrEnd (.ref it)) Q E s:=by
 unfold Builtin.SmallTypes.nextOrEnd;exact wpAny_bind (wpAny_attempt (D.done s _ _ st fun h' e k ⟨o,ho,hc⟩=>wpAny_bind (wpAny_isInstance (T:="StopIteration") (b:=true) ⟨o,ho,hc⟩ isSubtype_stop (wpAny_pure (h h' k)))))
theorem IA (hh:A.handled=none){Q:Fin->Shared->Prop}(h:∀h' e,(∀c o,s.heap.get? c=some o->h'.get? c=some o)->(∃o,h'.get? e=some o/\o.cls=.type "StopIteration")->E (.ref e) { s with heap:=h' }) :
  wpAny (model prog w) A Builtin.SmallTypes.stopIteration Q E s:=by
 unfold Builtin.SmallTypes.stopIteration
 wp_walk
 unfold raiseNew;refine wpAny_bind (wpAny_handled ?_);rw[hh];exact wpAny_bind (wpAny_pure (wpAny_throw (h _ _ (fun c o e=>Heap.get?_push_of_some _ (Heap.get?_push_of_some _ e)) ⟨_,Heap.get?_push_size _ rfl,rfl⟩)))
end
section
variable {prog:Program}{w:World}{A:Around}{E:Value->Shared->Prop}{s:Shared}{z TI TO i1 i2:Addr}{f1 f2:List Addr}{n i:Nat}{P1 P2:Nat->Value->Prop}{St1 St2:Nat->Heap->Prop}{a b:Value}
theorem Rv (D1:Draws prog w A i1 f1 n P1 St1) (D2:Draws prog w A i2 f2 n P2 St2) (Z:ZA z TI TO i1 i2 f1 f2) (hz:Ct s.heap z TI TO .none) (hTI:IsPair s.heap TI (.ref i1) (.ref i2)) (hTO:IsPair s.heap TO a b) (s1:St1 i s.heap) (s2:St2 i s.heap)
  {Q:Value->Shared->Prop} (hi:i<n\/i=n) (more:i<n->∀h' x y tk,P1 i x->P2 i y->Ct h' z TI TO (rawInt s.heap.objs.size)->IsPair h' TI (.ref i1) (.ref i2)->IsPair h' TO x y->St1 (i+1) h'->St2 (i+1) h'->IsPair h' s.heap.objs.size x y->
   (∀c o,c≠z->c≠TO->c≠i1->c≠i2->s.heap.get? c=some o->h'.get? c=some o)->Q (.ref s.heap.objs.size) { s with heap:=h',toks:=tk })
  (hh:A.handled=none) (over:i=n->∀h' e,(∀c o,c≠z->c≠i1->c≠i2->s.heap.get? c=some o->h'.get? c=some o)->(∃o,h'.get? e=some o/\o.cls=.type "StopIteration")->E (.ref e) { s with heap:=h' }) :
  wpAny (model prog w) A (Builtin.«zip.__next__» ⟨[.ref z],[]⟩) (fun fin s'=>∃v,fin=.done (.ret v)/\Q v s') E s:=by
 change wpAny _ _ (field (.ref z) 2 >>= _) _ _ _
 refine wpAny_bind (wpAny_field hz rfl (x:=.bool true) rfl ?_)
 change wpAny _ _ (field (.ref z) 3 >>= _) _ _ _
 refine wpAny_bind (wpAny_field hz rfl (x:=.ref TI) rfl ?_);refine wpAny_bind (wpAny_seqItems hTI rfl ?_)
 change wpAny _ _ (Builtin.SmallTypes.ownedTupleIsFree (.ref z) >>= _) _ _ _
 refine wpAny_bind (m:=Builtin.SmallTypes.ownedTupleIsFree (.ref z)) ?_;unfold Builtin.SmallTypes.ownedTupleIsFree;refine wpAny_bind (wpAny_field hz rfl (x:=.none) rfl (wpAny_pure ?_));rw[if_pos rfl];refine wpAny_bind (wpAny_rule ?_);refine wpAny_bind (wpAny_field hz rfl (x:=.ref TO) rfl ?_);refine wpAny_bind (wpAny_setField_rec hz (by simp) fun g1 y1 k1=>wpAny_bind ?_);have y1':Ct g1 z TI TO .ellipsis:=y1;have u1:St1 i g1:=D1.frame i _ _ s1 fun c hc o e=>k1.extBut c o (fun q=>Z.z1 (q▸hc)) e
 simp only[List.zipIdx_cons,List.zipIdx_nil,List.forIn_cons,List.forIn_nil];refine wpAny_bind (wpAny_bind (wpAny_onRaise ?_))
 change wpAny _ _ (Builtin.SmallTypes.nextOrEnd (.ref i1)) _ _ _
 rcases hi with hi|hi
 ·
  refine GV D1 hi u1 fun x g2 tk2 px v2 k2=>?_
  have p2:IsPair g2 TO a b:=k2.extBut _ _ Z.TOi1 (k1.extBut _ _ Z.TOz hTO);refine wpAny_bind (wpAny_seqItems p2 rfl (wpAny_bind (wpAny_updateSeq_pair p2 fun g3 p3 k3=>wpAny_bind (wpAny_letGo (wpAny_pure ?_)))));have p3':IsPair g3 TO x b:=p3;have w3:St2 i g3:=D2.frame i _ _ s2 fun c hc o e=>k3.extBut c o (fun q=>Z.o2 (q▸hc)) (k2.extBut c o (fun q=>Z.j2 (q▸hc)) (k1.extBut c o (fun q=>Z.z2 (q▸hc)) e))
  refine wpAny_bind (wpAny_bind (wpAny_onRaise ?_))
  change wpAny _ _ (Builtin.SmallTypes.nextOrEnd (.ref i2)) _ _ _
  refine GV D2 hi w3 fun y g4 tk4 py v4 k4=>?_
  have p4:IsPair g4 TO x b:=k4.extBut _ _ Z.TOi2 p3';refine wpAny_bind (wpAny_seqItems p4 rfl (wpAny_bind (wpAny_updateSeq_pair p4 fun g5 p5 k5=>wpAny_bind (wpAny_letGo (wpAny_pure (wpAny_pure ?_))))));have p5':IsPair g5 TO x y:=p5;refine wpAny_bind (wpAny_seqItems p5' rfl (wpAny_bind (wpAny_newTuple ?_)));have size:g5.objs.size=s.heap.objs.size:=k5.1.trans (k4.1.trans (k3.1.trans (k2.1.trans k1.1)));have keep:∀c o,c≠z->c≠TO->c≠i1->c≠i2->s.heap.get? c=some o->g5.get? c=some o:=fun c o c1 c2 c3 c4 e=>
   k5.extBut _ _ c2 (k4.extBut _ _ c4 (k3.extBut _ _ c2 (k2.extBut _ _ c3 (k1.extBut _ _ c1 e))))
  have y5:Ct g5 z TI TO .ellipsis:=k5.extBut _ _ Z.TOz.symm (k4.extBut _ _ Z.i2z.symm (k3.extBut _ _ Z.TOz.symm (k2.extBut _ _ Z.i1z.symm y1')));have v5:St1 (i+1) g5:=D1.frame _ _ _ v2 fun c hc o e=>k5.extBut c o (fun q=>Z.o1 (q▸hc)) (k4.extBut c o (fun q=>Z.j1 (q▸hc)) (k3.extBut c o (fun q=>Z.o1 (q▸hc)) e))
  have w5:St2 (i+1) g5:=D2.frame _ _ _ v4 fun c hc o e=>k5.extBut c o (fun q=>Z.o2 (q▸hc)) e
  have below:=Heap.lt_size y5;refine wpAny_bind (m:=Builtin.SmallTypes.ownedTupleHandOut (.ref z) (.ref g5.objs.size)) ?_;have y6:Ct (g5.push { cls:=.type "tuple",data:=.seq #[x,y] }) z TI TO .ellipsis:=Heap.get?_push_of_some _ y5;refine wpAny_bind (wpAny_setField_rec y6 (by simp) fun g7 y7 k7=>?_);have y7':Ct g7 z TI TO (rawInt g5.objs.size):=y7;refine wpAny_setField_rec y7' (by simp) fun g8 y8 k8=>?_
  have y8':Ct g8 z TI TO (rawInt g5.objs.size):=y8;have up:∀c o,c≠z->g5.get? c=some o->g8.get? c=some o:=fun c o c1 e=>k8.extBut _ _ c1 (k7.extBut _ _ c1 (Heap.get?_push_of_some _ e))
  have pr:IsPair g8 g5.objs.size x y:=k8.extBut _ _ (Nat.ne_of_gt below) (k7.extBut _ _ (Nat.ne_of_gt below) (Heap.get?_push_size _ rfl));rw[size] at y8' pr;refine wpAny_pure ⟨.ref g5.objs.size,rfl,?_⟩;rw[size];exact more hi g8 x y tk4 px py y8' (up _ _ Z.TIz (keep _ _ Z.TIz Z.TITO Z.TIi1 Z.TIi2 hTI)) (up _ _ Z.TOz p5') (D1.frame _ _ _ v5 fun c hc o e=>up c o (fun q=>Z.z1 (q▸hc)) e) (D2.frame _ _ _ w5 fun c hc o e=>up c o (fun q=>Z.z2 (q▸hc)) e)
   pr fun c o c1 c2 c3 c4 e=>up c o c1 (keep c o c1 c2 c3 c4 e)
 ·
  have u1':St1 n g1:=hi▸u1;refine G6 D1 u1' fun g2 k2=>?_
  have y2:Ct g2 z TI TO .ellipsis:=k2 _ _ Z.i1z.symm y1';refine wpAny_bind (wpAny_setField_rec y2 (by simp) fun g3 y3 k3=>?_);have w3:St2 n g3:=D2.frame n _ _ (hi▸s2) fun c hc o e=>k3.extBut c o (fun q=>Z.z2 (q▸hc)) (k2 c o (fun q=>Z.j2 (q▸hc)) (k1.extBut c o (fun q=>Z.z2 (q▸hc)) e))
  refine wpAny_bind ?_
  change wpAny _ _ (Bind.bind (Bind.bind (Bind.bind (Builtin.SmallTypes.nextOrEnd (.ref i2)) _) _) _) _ _ _
  refine wpAny_bind (wpAny_bind (wpAny_bind (G6 (s:={ s with heap:=g3 }) D2 w3 fun g4 k4=>?_)));refine wpAny_pure (wpAny_pure (wpAny_bind (wpAny_rule ?_)));exact IA hh fun h' e k5 he=>over hi h' e (fun c o c1 c3 c4 q=>k5 _ _ (k4 _ _ c4 (k3.extBut _ _ c1 (k2 _ _ c3 (k1.extBut _ _ c1 q))))) he
end
section
variable {prog:Program}{w:World}{A:Around}{E:Value->Shared->Prop}{s:Shared}{z TI TO i1 i2:Addr}{f1 f2:List Addr}{n i:Nat}{P1 P2:Nat->Value->Prop}{St1 St2:Nat->Heap->Prop}{a b:Value}
theorem K8 (D1:Draws prog w A.in1 i1 f1 n P1 St1) (D2:Draws prog w A.in1 i2 f2 n P2 St2) (Z:ZA z TI TO i1 i2 f1 f2) (hi:i<n\/i=n) (hz:Ct s.heap z TI TO .none) (hTI:IsPair s.heap TI (.ref i1) (.ref i2)) (hTO:IsPair s.heap TO a b) (s1:St1 i s.heap) (s2:St2 i s.heap)
  {Q:Option Value->Shared->Prop} (more:i<n->∀h' x y tk,P1 i x->P2 i y->Ct h' z TI TO (rawInt s.heap.objs.size)->IsPair h' TI (.ref i1) (.ref i2)->IsPair h' TO x y->St1 (i+1) h'->St2 (i+1) h'->IsPair h' s.heap.objs.size x y->
   (∀c o,c≠z->c≠TO->c≠i1->c≠i2->s.heap.get? c=some o->h'.get? c=some o)->Q (some (.ref s.heap.objs.size)) { s with heap:=h',toks:=tk })
  (hh:A.handled=none) (over:i=n->∀h',(∀c o,c≠z->c≠i1->c≠i2->s.heap.get? c=some o->h'.get? c=some o)->Q none { s with heap:=h' }) :
  wpAny (model prog w) A (pyNext (.ref z)) Q E s:=by
 have T:s.TypeIs (.ref z) "zip":=⟨_,hz,rfl⟩
 unfold pyNext;refine wpAny_bind (wpAny_attempt (wpAny_callSpecial?_slot T F.slot_zip_next (wpAny_call_entry F.slot_zip_next T F.entry_zip_next (Rv D1 D2 Z hz hTI hTO s1 s2 hi ?_ hh ?_) (F.args_zip_next_1 _))))
 ·exact fun hl h' x y tk a0 a1 a2 a3 a4 a5 a6 a7 a8=>wpAny_pure (more hl h' x y tk a0 a1 a2 a3 a4 a5 a6 a7 a8)
 ·exact fun hn h' e hk ⟨o,ho,hc⟩=>wpAny_bind (wpAny_isInstance (T:="StopIteration") (b:=true) ⟨o,ho,hc⟩ isSubtype_stop (wpAny_pure (over hn _ hk)))
end
def Uo:Bool->String
 |true=>"list_iterator"
 |false=>"tuple_iterator"
def Gh (k:Bool)(h:Heap)(it a:Addr)(i:Nat):Prop:=∃o,h.get? it=some o/\o.cls=.type (Uo k)/\o.data=.fields #[.ref a,.int i 0]
def Src:Bool->Heap->Addr->Array Value->Prop
 |true,h,a,its=>h.IsList a its
 |false,h,a,its=>h.IsTuple a its
def VR (K:PySem.W.Frag):Bool->Hp->Addr->List V->Prop
 |true,H,a,xs=>AW K H a xs
 |false,H,a,xs=>A0 K H a xs
theorem K9 {prog:Program}{w:World}{A:Around}(hh:A.handled=none)(it t:Addr)(hne:t≠it)(items:Array Value):(k:Bool)->
  Draws prog w A it [it,t] items.size (fun i v=>items[i]?=some v) (fun i h=>Gh k h it t i/\Src k h t items)
 |true=>Draws.list hh it t hne items
 |false=>PZ hh it t hne items
abbrev O3 (k:Bool)(a:Addr):Obj:={ cls:=.type (Uo k),data:=.fields #[.ref a,.int 0 0] }
theorem MY {prog:Program}{w:World}{A:Around}{E:Value->Shared->Prop}{s:Shared}{a:Addr}{its:Array Value}{Q:Value->Shared->Prop}:(k:Bool)->Src k s.heap a its->Q (.ref s.heap.objs.size) { s with heap:=s.heap.push (O3 k a) }->wpAny (model prog w) A (pyIter (.ref a)) Q E s
 |true,h,q=>wpAny_pyIter_list h q
 |false,h,q=>wpAny_pyIter_tuple h q
theorem Src.push {h:Heap}{a:Addr}{its:Array Value}(o:Obj):(k:Bool)->Src k h a its->Src k (h.push o) a its
 |true,⟨x,e,r⟩=>⟨x,Heap.get?_push_of_some _ e,r⟩
 |false,⟨x,e,r⟩=>⟨x,Heap.get?_push_of_some _ e,r⟩
theorem Ud (a b v:Value):checkTypeCall "zip" ⟨[a,b],[("strict",v)]⟩=pure ():=by kernel_rfl
theorem SN (a b v:Value):checkBuiltinCall "zip.__new__" ⟨[.type "zip",a,b],[("strict",v)]⟩=pure ():=by kernel_rfl
theorem S9 (obj a b v:Value):argsOk "object.__init__" ⟨[obj,a,b],[("strict",v)]⟩:=by kernel_rfl
theorem Th {self a b v:Value}:Meets (Builtin.«object.__init__» ⟨[self,a,b],[("strict",v)]⟩) fun _ R s=>s.TypeIs self "zip"/\R (.ok (.ret .none)) s:=by
 have hl:=F.called_zip.init.lookup;have hm:=F.called_zip.made;have hne:(some "zip.__new__" != some "object.__new__")=true:=by decide
 refine .of_wp fun prog w A R s h=>?_
 obtain⟨hT,hq⟩:=h
 repeat (any_goals (first|wp_step|assumption))
 all_goals exact⟨_,rfl,hq⟩
abbrev Ww (k:Bool)(h:Heap)(a:Addr):Heap:=h.push (O3 k a)
abbrev WA (k j:Bool)(h:Heap)(a b:Addr):Heap:=(Ww k h a).push (O3 j b)
abbrev Wr (k j:Bool)(h:Heap)(a b:Addr):Heap:=(WA k j h a b).push { cls:=.type "tuple",data:=.seq #[.ref h.objs.size,.ref (Ww k h a).objs.size] }
abbrev Sr (k j:Bool)(h:Heap)(a b:Addr):Heap:=(Wr k j h a b).push { cls:=.type "tuple",data:=.seq #[.none,.none] }
abbrev Ue (k j:Bool)(h:Heap)(a b:Addr):Heap:=(Sr k j h a b).push { cls:=.type "zip",data:=.fields #[.none,.bool false,.bool true,.ref (WA k j h a b).objs.size,.ref (Wr k j h a b).objs.size] }
theorem OD (k j:Bool)(a b:Addr)(xs ys:Array Value):Meets (Builtin.«zip.__new__» ⟨[.type "zip",.ref a,.ref b],[("strict",.bool true)]⟩) (fun _ R s=>Src k s.heap a xs/\Src j s.heap b ys/\R (.ok (.ret (.ref (Sr k j s.heap a b).objs.size))) { s with heap:=Ue k j s.heap a b }):=
 .of_wp fun prog w A R s h=>by
  obtain⟨hp,g,d,tk,os⟩:=s;obtain⟨ha,hb,h⟩:=h;have hsub:=sub_zip;have h1:Src k (Shared.heap ⟨hp,g,d,tk,os⟩) a xs:=ha;have h2:Src j (Shared.heap ⟨hp.push (O3 k a),g,d,tk,os⟩) b ys:=Src.push _ j hb
  wp_walk using MY k h1,MY j h2
  exact⟨_,rfl,h⟩
section
variable {prog:Program}{w:World}{A:Around}{E:Value->Shared->Prop}{s:Shared}
theorem PD (k j:Bool) {a b:Addr} {xs ys:Array Value} {Q:Value->Shared->Prop} (ha:Src k s.heap a xs) (hb:Src j s.heap b ys)
  (h:∀h',Ct h' (s.heap.objs.size+4) (s.heap.objs.size+2) (s.heap.objs.size+3) .none->IsPair h' (s.heap.objs.size+2) (.ref s.heap.objs.size) (.ref (s.heap.objs.size+1))->IsPair h' (s.heap.objs.size+3) .none .none->
   Gh k h' s.heap.objs.size a 0->Gh j h' (s.heap.objs.size+1) b 0->(∀c o,s.heap.get? c=some o->h'.get? c=some o)->Q (.ref (s.heap.objs.size+4)) { s with heap:=h' }) :
  wpAny (model prog w) A (call (.type "zip") [.ref a,.ref b] [("strict",.bool true)]) Q E s:=by
 have z1:(Ww k s.heap a).objs.size=s.heap.objs.size+1:=Heap.size_push ..;have z2:(WA k j s.heap a b).objs.size=s.heap.objs.size+2:=by rw[Heap.size_push,z1]
 have z3:(Wr k j s.heap a b).objs.size=s.heap.objs.size+3:=by rw[Heap.size_push,z2]
 have z4:(Sr k j s.heap a b).objs.size=s.heap.objs.size+4:=by rw[Heap.size_push,z3]
 have g5:(Ue k j s.heap a b).get? (Sr k j s.heap a b).objs.size=some _:=Heap.get?_push_size _ rfl;have g4:(Ue k j s.heap a b).get? (Wr k j s.heap a b).objs.size=some _:=Heap.get?_push_of_some _ (Heap.get?_push_size _ rfl);have g3:(Ue k j s.heap a b).get? (WA k j s.heap a b).objs.size=some _:=Heap.get?_push_of_some _ (Heap.get?_push_of_some _ (Heap.get?_push_size _ rfl));have g2:(Ue k j s.heap a b).get? (Ww k s.heap a).objs.size=some _:=Heap.get?_push_of_some _ (Heap.get?_push_of_some _ (Heap.get?_push_of_some _ (Heap.get?_push_size _ rfl)));have g1:(Ue k j s.heap a b).get? s.heap.objs.size=some _:=Heap.get?_push_of_some _ (Heap.get?_push_of_some _ (Heap.get?_push_of_some _ (Heap.get?_push_of_some _ (Heap.get?_push_size _ rfl))));have q:Q (.ref (s.heap.objs.size+4)) { s with heap:=Ue k j s.heap a b }:=by
  rw[z2,z3,z4] at g5;rw[z1,z2] at g3;rw[z3] at g4;rw[z1] at g2;exact h _ g5 g3 g4 ⟨_,g1,rfl,rfl⟩ ⟨_,g2,rfl,rfl⟩ fun c o x=>
   Heap.get?_push_of_some _ (Heap.get?_push_of_some _ (Heap.get?_push_of_some _ (Heap.get?_push_of_some _ (Heap.get?_push_of_some _ x))))
 have ft:=F.called_zip;obtain⟨c,tl,hmro⟩:=ft.mro;have hmade:=ft.made;have hsub:=ft.sub;have hct:=Ud (.ref a) (.ref b) (.bool true);refine wpAny_call (codeAny_of_tree (wpAny_pure (?_:_/\_)));refine⟨Code.quiet_builtin _ (by decide +kernel),codeAny_builtin F.entry_type_call ?_⟩;rw[Around.under_plain (weight_type_call_type "zip" _ _) (units_type_call_type "zip" _ _)];have h1:=ft.notType;have h2:=ft.canCreate
 repeat (any_goals (first|wp_step|assumption))
 rw[<-z4] at q;have hT:Shared.TypeIs { s with heap:=Ue k j s.heap a b } (.ref (Sr k j s.heap a b).objs.size) "zip":=⟨_,g5,rfl⟩
 let s':Shared:={ s with heap:=Ue k j s.heap a b }
 have key:codeAny (model prog w) A.in1 (.call (.builtin "zip.__new__") ⟨[.type "zip",.ref a,.ref b],[("strict",.bool true)]⟩) (fun r s1=>r=.ok (.ret (.ref (Sr k j s.heap a b).objs.size))/\s1=s') s:=
  codeAny_call_builtin ft.plain F.entry_zip_new (wpAny_of_eq (SN _ _ _) (OD k j a b xs ys prog w A.in1 (fun r s1=>r=.ok (.ret (.ref (Sr k j s.heap a b).objs.size))/\s1=s') s ⟨ha,hb,rfl,rfl⟩))
 refine codeAny_mono key fun r s₁ hr=>?_
 obtain⟨rfl,rfl⟩:=hr;have hT:s'.TypeIs (.ref (Sr k j s.heap a b).objs.size) "zip":=hT;have hq:Q (.ref (Sr k j s.heap a b).objs.size) s':=q
 clear_value s'
 generalize (Sr k j s.heap a b).objs.size=zz at hT hq ⊢;have hli:=ft.init.lookup;have hbi:=ft.init.bind (.ref zz);show wpAny _ _ _ _ _ _
 repeat (any_goals (first|wp_step|assumption))
 have key2:codeAny (model prog w) A.in1 (.call (.builtin "object.__init__") ⟨[.ref zz,.ref a,.ref b],[("strict",.bool true)]⟩) (fun r s1=>r=.ok (.ret .none)/\s1=s') s':=
  codeAny_call_builtin ft.init.plain F.entry_object_init (ft.init.check _ _ _ _ _ _ _ _ hT (S9 _ _ _ _) (Th prog w A.in1 (fun r s1=>r=.ok (.ret .none)/\s1=s') s' ⟨hT,rfl,rfl⟩))
 refine codeAny_mono key2 fun r s₂ hr=>?_
 obtain⟨rfl,rfl⟩:=hr;show wpAny _ _ _ _ _ _
 repeat (any_goals (first|wp_step|assumption))
theorem SC {z TI TO:Addr}{f0:Value}{Q:Value->Shared->Prop}(hz:Ct s.heap z TI TO f0)(h:Q (.ref z) s):wpAny (model prog w) A (pyIter (.ref z)) Q E s:=by
 have hT:s.TypeIs (.ref z) "zip":=⟨_,hz,rfl⟩
 refine wpAny_pyIter_slot hT F.slot_zip_iter (wpAny_call_entry F.slot_zip_iter hT F.entry_zip_iter ?_ (F.args_zip_iter_1 _));show wpAny _ _ (ret (.ref z)) _ _ s;exact wpAny_pure ⟨_,rfl,"zip",_,hT,F.slot_zip_next.lookup,h⟩
end
section
variable {X:Cx}{pins:List (Addr×Obj)}{σ:St}{H:Hp}{s:Shared}{a:Addr}{xs ys:List V}
theorem Inv.src (I:Inv X pins σ H s):(k:Bool)->VR X.K k H a xs->∃its:List Value,Aw xs its/\Src k s.heap a its.toArray
 |true,h=>let⟨its,r,p,_⟩:=I.list h;⟨its,r,p.isList⟩
 |false,h=>let⟨its,r,p,_⟩:=I.tuple h;⟨its,r,p⟩
theorem Am.src {K:PySem.W.Frag}{H H':Hp}(e:Am H H'):(k:Bool)->VR K k H a xs->VR K k H' a xs
 |true,h=>e.seq h
 |false,h=>by
  rcases h with(h|⟨o,h⟩)|h
  ·exact .inl (.inl (e _ _ h))
  ·exact .inl (.inr ⟨o,e _ _ h⟩)
  ·exact .inr h
end
theorem Gh.extBut {k:Bool}{h h':Heap}{a b l:Addr}{i:Nat}(x:Gh k h a l i)(hs:Heap.ExtBut b h h')(hab:a≠b):Gh k h' a l i:=let⟨o,e,r⟩:=x;⟨o,hs _ _ hab e,r⟩
end L2
namespace L2
section
open PySem PySem.Calls PySem.Spec PyProof.Rows
def W7 (K:PySem.W.Frag)(a:Addr)(ks:List Str):Prop:=∃(o:Obj) (its:Array Value) (n:Nat),K.lookup a=some o/\o.cls=.type "tuple"/\o.data=.seq its n/\its.size<=sizeLine/\Aw (ks.map V.str) its.toList
inductive TabRows (w:World) (K:PySem.W.Frag):List (Str×List Str)->List DictEntry->Prop
 |nil:TabRows w K [] []
 |cons {x:Str} {ks:List Str} {t:Tok} {hv:Int} {a:Addr} {tb:List (Str×List Str)} {es:List DictEntry}:hv=V7 w (.inr x)->W7 K a ks->TabRows w K tb es->TabRows w K ((x,ks)::tb) (⟨hv,.str x t,.ref a⟩::es)
variable {X:Cx}
end
end L2
namespace L2
section
open PySem PySem.Builtin.Str
def BA (c:Nat):List Nat->List Nat
 |[]=>[]
 |x::l=>if x=c then 0::(BA c l).map (· + 1) else(BA c l).map (· + 1)
def Iu (c:Nat):List Str->Str->List Nat
 |[],t=>Ap t
 |w::ws,t=>Ap w++c::Iu c ws t
theorem FW {c:Nat}:∀{l:List Nat},c∉l->BA c l=[]
 |[],_=>rfl
 |x::l,h=>by
  have h1:x≠c:=fun e=>h (by rw[e];exact List.mem_cons_self)
  show(if x=c then _ else _)=_;rw[if_neg h1,FW fun z=>h (List.mem_cons_of_mem _ z)];rfl
theorem Jm {c:Nat}{r:List Nat}:∀{l:List Nat},c∉l->BA c (l++c::r)=l.length::(BA c r).map (· + (l.length+1))
 |[],_=>by
  show(if c=c then _ else _)=_;rw[if_pos rfl];rfl
 |x::l,h=>by
  have h1:x≠c:=fun e=>h (by rw[e];exact List.mem_cons_self)
  show(if x=c then _ else(BA c (l++c::r)).map (· + 1))=_;rw[if_neg h1,Jm (l:=l) fun z=>h (List.mem_cons_of_mem _ z),List.map_cons,List.map_map];show(l.length+1)::_=(l.length+1)::_;rfl
theorem Fx (c:Nat):∀(l:List Nat) (a:Nat),(BA c l).map (· + a)=(List.range' a l.length).filter fun i=>decide (l[i-a]?=some c)
 |[],a=>rfl
 |x::l,a=>by
  have ih:=Fx c l (a+1);have e:(List.range' (a+1) l.length).filter (fun i=>decide ((x::l)[i-a]?=some c))=(List.range' (a+1) l.length).filter fun i=>decide (l[i-(a+1)]?=some c):=by
   refine List.filter_congr fun i hi=>?_
   have:=(List.mem_range'_1.mp hi).1;have e1:i-a=(i-(a+1))+1:=by omega
   rw[e1,List.getElem?_cons_succ]
  show _=(List.range' a (l.length+1)).filter _;rw[List.range'_succ,List.filter_cons,e,<-ih];have e0:(decide ((x::l)[a-a]?=some c))=decide (x=c):=by
   rw[Nat.sub_self,List.getElem?_cons_zero]
   by_cases h:x=c
   ·rw[h];simp
   ·rw[decide_eq_false h,decide_eq_false fun q=>h (Option.some.inj q)]
  rw[e0];have e2:∀m:List Nat,(m.map (· + 1)).map (· + a)=m.map (· + (a+1)):=fun m=>by
   rw[List.map_map];exact List.map_congr_left fun k _=>by show k+1+a=k+(a+1);omega
  by_cases h:x=c
  ·rw[decide_eq_true h,if_pos rfl];show((if x=c then 0::(BA c l).map (· + 1) else _).map (· + a))=_;rw[if_pos h,List.map_cons,e2,Nat.zero_add]
  ·rw[decide_eq_false h,if_neg Bool.false_ne_true];show((if x=c then _ else(BA c l).map (· + 1)).map (· + a))=_;rw[if_neg h,e2]
theorem L3 {x:Str}{c i:Nat}:(i+(⟨#[c]⟩:Str).length<=x.length/\subAt x ⟨#[c]⟩ i=true)↔(Ap x)[i]?=some c:=StrLaws.subAt_one x c i
theorem IT (x:Str)(c limit:Nat):∀(l:List Nat) (st:Array Nat×Nat),l.Pairwise (· < ·)->(∀i∈l,st.snd<=i)->
  (forIn l st (StrLaws.occBody x ⟨#[c]⟩ x.length limit)).run.fst.toList=st.fst.toList++(l.filter fun i=>decide ((Ap x)[i]?=some c)).take (limit-st.fst.size)
 |[],st,_,_=>by simp[Id.run,pure,forIn]
 |a::l,st,hp,hs=>by
  rw[List.forIn_cons];unfold StrLaws.occBody;obtain⟨h1,h2⟩:=List.pairwise_cons.mp hp
  by_cases h:(Ap x)[a]?=some c
  ·have g:=L3.mpr h
   by_cases hl:st.fst.size<limit
   ·rw[if_pos ⟨⟨⟨hl,hs a List.mem_cons_self⟩,g.1⟩,g.2⟩];have ih:=IT x c limit l (st.fst.push a,a+(⟨#[c]⟩:Str).length) h2 (fun i hi=>by have:=h1 i hi;show a+1<=i;omega);refine ih.trans ?_;rw[Array.toList_push,Array.size_push,List.append_assoc,List.filter_cons,if_pos (decide_eq_true h)];have e:limit-st.fst.size=(limit-(st.fst.size+1))+1:=by omega
    rw[e,List.take_succ_cons];rfl
   ·rw[if_neg fun q=>hl q.1.1.1];have ih:=IT x c limit l st h2 (fun i hi=>hs i (List.mem_cons_of_mem _ hi));refine ih.trans ?_;have e:limit-st.fst.size=0:=by omega
    rw[e,List.take_zero,List.take_zero]
  ·rw[if_neg fun q=>h (L3.mp ⟨q.1.2,q.2⟩)];have ih:=IT x c limit l st h2 (fun i hi=>hs i (List.mem_cons_of_mem _ hi));refine ih.trans ?_;rw[List.filter_cons,if_neg (by rw[decide_eq_false h];exact Bool.false_ne_true)]
theorem SK (x:Str)(c limit:Nat):occurrences x ⟨#[c]⟩ 0 x.length limit=(BA c (Ap x)).take limit:=by
 rw[StrLaws.occ_eq];have h:=IT x c limit (List.range' 0 (x.length+1-0)) (#[],0) List.pairwise_lt_range' (fun i _=>Nat.zero_le i);refine h.trans ?_;have e:=Fx c (Ap x) 0;have e1:(BA c (Ap x)).map (· + 0)=BA c (Ap x):=by
  have:(fun k:Nat=>k+0)=id:=rfl;rw[this,List.map_id]
 rw[e1,Az] at e;rw[e];show[]++List.take (limit-0) _=_;rw[List.nil_append,Nat.sub_zero,Nat.sub_zero,List.range'_concat,List.filter_append];have e2:List.filter (fun i=>decide ((Ap x)[i]?=some c)) [0+1*x.length]=[]:=by
  rw[List.filter_cons,if_neg,List.filter_nil];rw[List.getElem?_eq_none (by rw[Az];omega)];simp
 rw[e2,List.append_nil];rfl
theorem Pg (c:Nat):∀(ws:List Str) (t:Str),ws.length<=(Iu c ws t).length
 |[],_=>Nat.zero_le _
 |w::ws,t=>by
  have:=Pg c ws t;show ws.length+1<=(Ap w++c::Iu c ws t).length;rw[List.length_append,List.length_cons];omega
theorem OG {c:Nat}:∀{ws:List Str} {t:Str},(∀w∈ws,c∉Ap w)->∃r,BA c (Iu c ws t)=r++(BA c (Ap t)).map (· + ((Iu c ws t).length-(Ap t).length))/\r.length=ws.length
 |[],t,_=>⟨[],by
   show BA c (Ap t)=[]++(BA c (Ap t)).map (· + ((Ap t).length-(Ap t).length));rw[Nat.sub_self,List.nil_append];exact(List.map_id _).symm,rfl⟩
 |w::ws,t,h=>by
  obtain⟨r,e,l⟩:=OG (ws:=ws) (t:=t) fun y hy=>h y (List.mem_cons_of_mem _ hy)
  refine⟨(Ap w).length::r.map (· + ((Ap w).length+1)),?_,by rw[List.length_cons,List.length_map,l];rfl⟩;show BA c (Ap w++c::Iu c ws t)=_;rw[Jm (h w List.mem_cons_self),e,List.map_append,List.cons_append,List.map_map]
  congr 2
  refine List.map_congr_left fun k _=>?_
  have g:∀(ws:List Str),(Ap t).length<=(Iu c ws t).length:=fun ws=>by
   induction ws with
   |nil=>exact Nat.le_refl _
   |cons y ys ih=>
    show _<=(Ap y++c::Iu c ys t).length;rw[List.length_append,List.length_cons];omega
  have:=g ws;show k+((Iu c ws t).length-(Ap t).length)+((Ap w).length+1)=k+((Ap w++c::Iu c ws t).length-(Ap t).length);rw[List.length_append,List.length_cons];omega
theorem KA {c:Nat}{x:Str}{t:Str}:∀(ws:List Str) (pre:List Nat),Ap x=pre++Iu c ws t->(∀w∈ws,c∉Ap w)->
  StrLaws.partsFrom x 1 pre.length (((BA c (Iu c ws t)).take ws.length).map (· + pre.length))=ws++[t]
 |[],pre,h,_=>by
  rw[List.length_nil,List.take_zero];show[strSub x pre.length x.length]=[t]
  congr 1
  refine D4 ?_;show(strSub x pre.length x.length).cps.toList=_;rw[StrLaws.strSub_toList];have hx:x.cps.toList=pre++Ap t:=h;have hl:x.length=pre.length+(Ap t).length:=by rw[<-Az,h,List.length_append];rfl
  rw[hx,List.drop_left',List.take_of_length_le (by rw[hl];omega)];rfl
 |w::ws,pre,h,hf=>by
  have hw:=hf w List.mem_cons_self;have ih:=KA (x:=x) (t:=t) ws (pre++Ap w++[c]) (by rw[h];show pre++(Ap w++c::Iu c ws t)=_;simp) fun y hy=>hf y (List.mem_cons_of_mem _ hy)
  show StrLaws.partsFrom x 1 pre.length (((BA c (Ap w++c::Iu c ws t)).take (ws.length+1)).map (· + pre.length))=w::(ws++[t]);rw[Jm hw,List.take_succ_cons,List.map_cons,<-List.map_take,List.map_map];show strSub x pre.length ((Ap w).length+pre.length)::StrLaws.partsFrom x 1 ((Ap w).length+pre.length+1) _=_
  congr 1
  ·refine D4 ?_;show(strSub x pre.length _).cps.toList=_;rw[StrLaws.strSub_toList];have hx:x.cps.toList=pre++(Ap w++c::Iu c ws t):=h;rw[hx,List.drop_left',Nat.add_sub_cancel,List.take_left']
   ·rfl
   ·rfl
  ·rw[<-ih];have el:(pre++Ap w++[c]).length=(Ap w).length+pre.length+1:=by simp;omega
   rw[el]
   congr 1
   refine List.map_congr_left fun k _=>?_
   show k+((Ap w).length+1)+pre.length=k+((Ap w).length+pre.length+1);omega
theorem RP (c:Nat):(⟨#[c]⟩:Str).length=1:=rfl
theorem UU {c:Nat}{x t:Str}{ws:List Str}(h:Ap x=Iu c ws t)(hf:∀w∈ws,c∉Ap w){l:List Nat}(hl:l=(BA c (Ap x)).take ws.length):partsBetween x l 1=ws++[t]:=by
 have:=KA (x:=x) (t:=t) ws [] h hf;rw[StrLaws.partsBetween_eq,hl,h];have e:∀l:List Nat,l.map (· + ([]:List Nat).length)=l:=fun l=>List.map_id l
 rw[e] at this;exact this
theorem Vg {x:Str}{c:Nat}(h:(decide (x.length<(⟨#[c]⟩:Str).length)||decide (strKind x<strKind ⟨#[c]⟩))=true):c∉Ap x:=by
 rw[Bool.or_eq_true,decide_eq_true_eq,decide_eq_true_eq] at h;rcases h with h|h
 ·intro hm;have:0<(Ap x).length:=List.length_pos_of_mem hm;rw[Az] at this;rw[RP] at h;omega
 ·exact StrLaws.kind_free x c h
theorem Q4 {c:Nat}{x t:Str}{ws:List Str}(h:Ap x=Iu c ws t)(hn:c∉Ap x):ws=[]/\x=t:=by
 cases ws with
 |nil=>exact⟨rfl,D4 h⟩
 |cons w ws=>
  rw[h] at hn;exact absurd (show c∈Ap w++c::Iu c ws t by simp) hn
theorem Qh {c:Nat}{x t:Str}{ws:List Str}(h:Ap x=Iu c ws t)(hf:∀w∈ws,c∉Ap w)(ht:c∉Ap t):PySem.Txt.split x ⟨#[c]⟩=ws++[t]:=by
 obtain⟨r,e,l⟩:=OG (c:=c) (ws:=ws) (t:=t) hf;rw[FW ht,List.map_nil,List.append_nil] at e;have hw:=Pg c ws t;rw[<-h,Az] at hw;have ho:occurrences x ⟨#[c]⟩ 0 x.length (x.length+1)=(BA c (Ap x)).take ws.length:=by
  rw[SK,h,e,List.take_of_length_le (by omega),List.take_of_length_le (by omega)]
 unfold PySem.Txt.split
 split
 ·rename_i hc
  obtain⟨rfl,rfl⟩:=Q4 h (Vg hc);rfl
 ·split
  ·rename_i he
   rw[ho,h,e,List.isEmpty_iff] at he;cases ws with
   |nil=>rw[show x=t from D4 h];rfl
   |cons w ws=>
    cases r with
    |nil=>cases l
    |cons a r=>cases he
  ·rw[ho];exact UU h hf rfl
end
end L2
namespace L2
end L2
namespace L2
end L2
namespace L2
end L2
namespace L2
section
open PySem PySem.Spec PyProof.Rows
variable {X:Cx}{pins:List (Addr×Obj)}{σ:St}{H:Hp}{s:Shared}
def V5 (c:Addr)(qual:Str):HO:=.ext fun h=>h.CodeRec (.ref c) qual
def NU (P:Addr)(qual:Str)(pos:Pos)(H:Hp):Prop:=H P=some (.tbl #[])\/∃c,H P=some (.tbl #[rawInt pos.line,rawInt pos.col,.ref c])/\H c=some (V5 c qual)
def Ft (P:Addr)(H H':Hp):Prop:=∀b o,b≠P->H b=some o->H' b=some o
theorem Ft.refl (P:Addr)(H:Hp):Ft P H H:=fun _ _ _ h=>h
theorem Ft.trans {P:Addr}{H H1 H2:Hp}(a:Ft P H H1)(b:Ft P H1 H2):Ft P H H2:=fun c o n h=>b c o n (a c o n h)
theorem Am.t {H H':Hp}(a:Am H H')(P:Addr):Ft P H H':=fun b o _ h=>a b o h
theorem NU.some {P:Addr}{qual:Str}{pos:Pos}{H:Hp}(t:NU P qual pos H):∃ps,H P=some (.tbl ps):=by
 rcases t with h|⟨c,h,_⟩
 ·exact⟨_,h⟩
 ·exact⟨_,h⟩
theorem NU.same {P:Addr}{qual:Str}{pos:Pos}{H H':Hp}(t:NU P qual pos H)(e:Am H H'):NU P qual pos H':=by
 rcases t with h|⟨c,h,h2⟩
 ·exact .inl (e _ _ h)
 ·exact .inr ⟨c,e _ _ h,e _ _ h2⟩
theorem Ft.free {P:Addr}{qual:Str}{pos:Pos}{H H':Hp}(e:Ft P H H')(t:NU P qual pos H'){l:Addr}(h:H' l=none):H l=none:=by
 cases q:H l with
 |none=>rfl
 |some o=>
  by_cases z:l=P
  ·obtain⟨ps,hp⟩:=t.some;rw[z,hp] at h;cases h
  ·rw[e l o z q] at h;cases h
theorem Ft.get {P:Addr}{qual:Str}{pos:Pos}{H H':Hp}(e:Ft P H H')(t:NU P qual pos H){b:Addr}{o:HO}(h:H b=some o)(n:∀ps,o≠.tbl ps):H' b=some o:=by
 refine e b o (fun z=>?_) h;obtain⟨ps,hp⟩:=t.some;rw[z,hp] at h;exact n ps (Option.some.inj h).symm
theorem NR {α:Type}{d:α}{l:List α}(nd:l.Nodup){i j:Nat}(hi:i<l.length)(hj:j<l.length)(hij:i≠j):l.getD i d≠l.getD j d:=by
 have e1:l.getD i d=l[i]:=by simp[hi]
 have e2:l.getD j d=l[j]:=by simp[hj]
 rw[e1,e2];have pw:=List.pairwise_iff_getElem.mp nd;intro z;rcases Nat.lt_or_gt_of_ne hij with q|q
 ·exact pw i j hi hj q z
 ·exact pw j i hj hi q z.symm
end
end L2
namespace L2
section
open PySem PySem.Spec PyProof.Rows PySem.Calls
variable {X:Cx}
structure LamAt (K:PySem.W.Frag) (mg:Str->Option Value) (base:Heap) (cdv:Value) (P:Addr):Prop where
 code:∃c,cdv=.ref c/\PySem.W.codeHdIn K c P=true
 bm:∃bm ob,mg "__builtins__"=some (.ref bm)/\bm≠builtinsNs/\bm≠mainGlobals/\base.get? bm=some ob/\ob.cls=.type "module"/\ob.dict=some builtinsNs/\ob.data=.plain
structure LamTx (x:Str) (params:Arguments) (scope:Scope):Prop where
 bind:∀(qual:Str) (body:Expr) (pm cv ctv u:Value),bindArgs (PySem.W.kla_fn "<lambda>" qual params body scope [] pm cv ctv) ⟨[u],[]⟩=pure [(x,u)]
 dflt:∀env,defaultsOf params env=([],[])
 clos:∀env,closureFor scope env=pure []
 loc:scope.names.lookup x=some .local
 kind:scope.kind=.function
 co:scope.isCoroutine=false
 ge:scope.isGenerator=false
 ce:∀y∈scope.names,y.2≠.cell
 db:(x == ("__debug__":Str))=false
end
end L2
namespace L2
end L2
namespace L2
end L2
namespace L2
end L2
namespace L2
section
open PySem
variable {α:Type}
theorem HB {J:It} {ps:List α} {g:α->V} {fr:List (Option Nat)} {k:Nat} {tt:TT} {te:TE} {Q:VK} {σ:St} {H:Hp} (p:α->Bool) (P:α->V->Hp->Prop) (hP:∀x y H1 H2,P x y H1->Am H1 H2->P x y H2)
  (hU:∀x y H1 l us us',P x y H1->H1 l=some (.lst us)->P x y (upd H1 l (.lst us'))) (hJ:HF J H (ps.map g)) (hn:ps.length<=1000000)
  (htest:∀x∈ps,∀(H':Hp) (R:Bool->Hp->Prop),Am H H'->(∀H'',Am H' H''->R (p x) H'')->tt ((stC fr σ).set k (some (g x))) H' R)
  (helt:∀x∈ps,p x=true->∀(H':Hp) (R:VK),Am H H'->(∀y H'',Am H' H''->P x y H''->R y H'')->te ((stC fr σ).set k (some (g x))) H' R)
  (hQ:∀l H' (ys:List (α×V)),H l=none->Am H H'->H' l=some (.lst (ys.map (·.2)))->ys.map (·.1)=ps.filter p->(∀q∈ys,P q.1 q.2 H')->Q (.ref l) H'):Di fr (Au k) tt te σ Q J H:=by
 intro l hl;refine⟨fun i m σ' H'=>m=ps.length-i/\i<=ps.length/\(∀y,σ'.set k y=(stC fr σ).set k y)/\Am H H'/\∃ys:List (α×V),H' l=some (.lst (ys.map (·.2)))/\ys.map (·.1)=(ps.take i).filter p/\∀q∈ys,P q.1 q.2 H',
  ⟨ps.length,by simp,Nat.zero_le _,fun _=>rfl,Ai hl _,[],by rw[Ac];rfl,rfl,fun _ h=>nomatch h⟩,?_⟩
 rintro i m σ' H' ⟨rfl,hi,hσ,hs,ys,hl',e1,hys⟩
 obtain⟨h1,h2,h3⟩:=hJ H' hs i;rw[List.length_map] at h1 h2 h3
 by_cases hlt:i<ps.length
 ·refine .inr ⟨h1 hlt,fun x H'' y=>?_⟩;obtain⟨rfl,hx⟩:=h2 x H'' y;have hx:=hx hlt;rw[List.getElem?_map,List.getElem?_eq_getElem hlt] at hx;cases hx;have hm:ps[i]∈ps:=List.getElem_mem hlt;have et:(ps.take (i+1)).filter p=(ps.take i).filter p++(if p ps[i]=true then[ps[i]] else[]):=by
   rw[List.take_add_one,List.getElem?_eq_getElem hlt,List.filter_append];cases q:p ps[i]<;>simp[q]
  have le:ys.length<=i:=by
   have a:=congrArg List.length e1;have b:=List.length_filter_le p (ps.take i);rw[List.length_map] at a;rw[List.length_take] at b;omega
  show tt (σ'.set k (some (g ps[i]))) H'' _;rw[hσ];refine htest _ hm H'' _ hs fun H0 s0=>?_
  have hs0:=hs.trans s0;refine C8 (fun c=>?_) (fun c=>?_)
  ·refine helt _ hm c H0 _ hs0 fun v H4 s4' hv=>?_
   have s4:=s0.trans s4';have hl4:=s4.get hl';refine⟨_,hl4,BF (by rw[List.length_map];omega),ps.length-(i+1),by omega,rfl,hlt,fun y=>by rw[List.set_set],AU (hs.trans s4) hl _,ys++[(ps[i],v)],?_,?_,fun q hq=>?_⟩
   ·rw[Ac,List.map_append];rfl
   ·rw[et,if_pos c,List.map_append,e1];rfl
   ·rcases List.mem_append.mp hq with h|h
    ·exact hU _ _ _ _ _ _ (hP _ _ _ _ (hys q h) s4) hl4
    ·rw[List.mem_singleton.mp h];exact hU _ _ _ _ _ _ hv hl4
  ·exact⟨ps.length-(i+1),by omega,rfl,hlt,fun y=>by rw[List.set_set],hs0,ys,s0.get hl',by rw[et,if_neg c,List.append_nil];exact e1,fun q hq=>hP _ _ _ _ (hys q hq) s0⟩
 ·have e:i=ps.length:=by omega
  subst e;exact .inl ⟨h3 (Nat.le_refl _),hQ l H' ys hl hs hl' (by rw[e1,List.take_of_length_le (Nat.le_refl _)]) hys⟩
theorem Tt {ys:List (α×V)}{f:α->V}(h:∀q∈ys,q.2=f q.1):ys.map (·.2)=(ys.map (·.1)).map f:=by
 rw[List.map_map];exact List.map_congr_left fun q hq=>h q hq
theorem Pp {J:It} {ps:List α} {g:α->V} {fr:List (Option Nat)} {k:Nat} {tt:TT} {te:TE} {Q:VK} {σ:St} {H:Hp} (p:α->Bool) (f:α->V) (hJ:HF J H (ps.map g)) (hn:ps.length<=1000000)
  (htest:∀x∈ps,∀(H':Hp) (R:Bool->Hp->Prop),Am H H'->(∀H'',Am H' H''->R (p x) H'')->tt ((stC fr σ).set k (some (g x))) H' R)
  (helt:∀x∈ps,p x=true->∀(H':Hp) (R:VK),Am H H'->(∀H'',Am H' H''->R (f x) H'')->te ((stC fr σ).set k (some (g x))) H' R)
  (hQ:∀l H',H l=none->Am H H'->H' l=some (.lst ((ps.filter p).map f))->Q (.ref l) H'):Di fr (Au k) tt te σ Q J H:=by
 refine HB p (fun x y _=>y=f x) (fun _ _ _ _ h _=>h) (fun _ _ _ _ _ _ h _=>h) hJ hn htest (fun x hx hp H' R s' hR=>helt x hx hp H' R s' fun H'' s''=>hR _ H'' s'' rfl) fun l H' ys nl s' h' e hq=>hQ l H' nl s' ?_
 rw[<-e,<-Tt hq];exact h'
theorem PK {J:It} {ps:List α} {g:α->V} {fr:List (Option Nat)} {k:Nat} {tt:TT} {te:TE} {Q:VK} {σ:St} {H:Hp} (p:α->Bool) (f:α->V) (hJ:HF J H (ps.map g)) (hn:ps.length<=1000000)
  (htest:∀x∈ps,∀(H':Hp) (R:Bool->Hp->Prop),Am H H'->R (p x) H'->tt ((stC fr σ).set k (some (g x))) H' R)
  (helt:∀x∈ps,p x=true->∀(H':Hp) (R:VK),Am H H'->(∀H'',Am H' H''->R (f x) H'')->te ((stC fr σ).set k (some (g x))) H' R)
  (hQ:∀l H',H l=none->Am H H'->H' l=some (.lst ((ps.filter p).map f))->Q (.ref l) H'):Di fr (Au k) tt te σ Q J H:=
 Pp p f hJ hn (fun x hx H' R s' hR=>htest x hx H' R s' (hR H' (Am.refl _))) helt hQ
end
end L2
namespace L2
end L2
namespace L2
end L2
namespace L2
end L2
namespace L2
end L2
namespace L2
end L2
namespace L2
end L2
namespace L2
end L2
namespace L2
end L2
namespace L2
end L2
namespace L2
open PySem
end L2
namespace L2
end L2
namespace L2
end L2
namespace L2
section
open PySem PySem.Calls PyProof.Rows
variable {prog:Program}{w:World}{A:Around}{E:Value->Shared->Prop}{s:Shared}
def RF (h:Heap)(it l:Addr)(i:Int):Prop:=∃o,h.get? it=some o/\o.cls=.type "reversed"/\o.data=.fields #[.ref l,rawInt i]
theorem RF.typeIs {it l:Addr}{i:Int}(x:RF s.heap it l i):s.TypeIs (.ref it) "reversed":=let⟨o,e,c,_⟩:=x;⟨o,e,c⟩
theorem RF.keep {h h':Heap}{it l:Addr}{i:Int}(x:RF h it l i)(k:∀o,h.get? it=some o->h'.get? it=some o):RF h' it l i:=let⟨o,e,r⟩:=x;⟨o,k o e,r⟩
theorem RO {x:Value} {Q:Value->Shared->Prop} (h:∀(S:Addr) (c:Nat) (h₁:Heap),S=s.heap.objs.size->h₁.get? S=some { cls:=.type "list",data:=.seq #[] c }->(∀b o,s.heap.get? b=some o->h₁.get? b=some o)->
   ∀R:Result->Shared->Prop,(∀s',Q (.ref S) s'->R (.ok (.ret .none)) s')->wpAny (model prog w) A.in1.in1 (Builtin.List.listExtendWith (.ref S) x .none)
   (fun fin s'=>match fin with | .done f=>R (.ok f) s' | .again c'=>c'.quiet=true/\codeAny (model prog w) A.in1 c' R s') (fun e s'=>R (.error e) s') { s with heap:=h₁ }) :
  wpAny (model prog w) A (call (.type "list") [x]) Q E s:=by
 refine callType_codes (Q₁:=fun obj s₁=>obj=.ref s.heap.objs.size/\s₁={ s with heap:=s.heap.push { cls:=.type "list",data:=.seq #[] } }) PySem.F.called_list (PySem.F.typeCall_list_1 _) PySem.F.entry_list_init (code_list_new _ ⟨rfl,rfl⟩) ?_
 rintro obj s₁ ⟨rfl,rfl⟩
 have hS:(s.heap.push { cls:=.type "list",data:=.seq #[] }).get? s.heap.objs.size=some { cls:=.type "list",data:=.seq #[] }:=Heap.get?_push_size _ rfl;refine⟨⟨_,hS,rfl⟩,PySem.F.args_list_init_2 _ _,?_⟩
 change wpAny _ _ (Builtin.List.listItems (.ref s.heap.objs.size) >>= _) _ _ _
 refine wpAny_bind ?_;unfold Builtin.List.listItems;refine wpAny_bind (wpAny_seqItems hS rfl (wpAny_pure ?_))
 change wpAny _ _ (updateSeq s.heap.objs.size (fun _=>#[]) >>= _) _ _ _
 refine wpAny_bind (wpAny_updateSeq hS rfl ?_);have hS2:=Heap.get?_update_self (Obj.mapSeq (fun _=>(#[]:Array Value))) hS rfl
 change wpAny _ _ (letGo (#[]:Array Value).toList.reverse >>= _) _ _ _
 refine wpAny_bind (wpAny_letGo ?_);refine h _ _ _ rfl hS2 (fun b o e=>?_) _ fun s' q=>⟨rfl,q⟩
 exact(Heap.get?_update_other _ _ (Nat.ne_of_gt (Heap.lt_size e))).trans (Heap.get?_push_of_some _ e)
end
section
open PySem PySem.Spec PyProof.Rows
variable {X:Cx}
theorem MC:bootBuiltins "reversed"=some (.type "reversed"):=by kernel_rfl
end
end L2
namespace L2
end L2
namespace L2
end L2
namespace L2
section
open PySem PySem.Calls PyProof.Rows
variable {X:Cx}
def hT:Nat->Tr->Bool
 |_+1,.int _=>true
 |_+1,.str _=>true
 |n+1,.tup ts=>ts.all (hT n)
 |_,_=>false
end
section
open PySem PySem.Calls PyProof.Rows
variable {prog:Program}{w:World}{A:Around}{E:Value->Shared->Prop}{s:Shared}
def Jk (w:World)(h:Heap)(a:Addr)(us:List Value):Prop:=∃o es ep t,h.get? a=some o/\o.ExactSet/\o.data=.set es ep t/\t.fits es.size=true/\t.led=(!Lo w)/\es.toList.map (·.2)=us
theorem Jk.keep {h h':Heap}{a:Addr}{us:List Value}(S:Jk w h a us)(k:∀o,h.get? a=some o->h'.get? a=some o):Jk w h' a us:=let⟨o,es,ep,t,e,r⟩:=S;⟨o,es,ep,t,k o e,r⟩
theorem Mu (led:Bool)(f:Nat->Int)(h:Int)(p:SetTable.Probe):(SetTable.fresh 0 0 led).probe f h p=some (.empty p.j p.dummy):=by
 rfl
abbrev Np (j:Nat)(led plain:Bool):SetTable:={ mask:=7,place:=#[j],dummies:=#[],finger:=0,led:=led,moves:=0,plain:=plain }
theorem Qt (led:Bool)(j:Nat):(SetTable.fresh 0 0 led).put j=(Np j led true,0):=by
 simp[SetTable.put,SetTable.fresh,SetTable.below,SetTable.below.go,SetTable.has,SetTable.insertAt]
theorem S6 {a:Addr}{o:Obj}{ep:Nat}{t0:SetTable}{es0:Array (Int×Value)}{hx:Int}{v:Value}{j:Nat}{led plain:Bool}(hl:led = !Lo w)(e:s.heap.get? a=some o)(ex:o.ExactSet)(d:o.data=.set es0 ep t0) :
  Jk w (s.heap.update a (Obj.putSet #[(hx,v)] (Np j led plain))) a [v]:=by
 have z:=Heap.get?_update_self (Obj.putSet #[(hx,v)] (Np j led plain)) e (by rw[putSet_of _ _ d];rfl);rw[putSet_of _ _ d] at z;refine⟨_,#[(hx,v)],ep+1,Np j led plain,z,ex,rfl,?_,hl,rfl⟩;simp[SetTable.fits,SetTable.fill]
theorem Qa (led:Bool)(hx:Int)(v:Value):∃j,layNew (SetTable.fresh 0 0 led) #[] hx v=(#[(hx,v)],Np j led true,false,false):=by
 unfold layNew SetTable.freeSlot;rw[Mu];refine⟨((SetTable.fresh 0 0 led).probeStart hx).j,?_⟩;have ei:SetTable.insertAt (#[]:Array (Int×Value)) 0 (hx,v) = #[(hx,v)]:=by simp[SetTable.insertAt]
 have f1:(Np ((SetTable.fresh 0 0 led).probeStart hx).j led true).fits 1=true:=by simp[SetTable.fits,SetTable.fill]
 simp only[show((SetTable.fresh 0 0 led).probeStart hx).dummy=none from rfl,Option.getD_none,Option.isSome_none,Qt,ei];show(_,SetTable.orStandIn _ 1,false,!SetTable.fits _ 1)=_;rw[SetTable.orStandIn,if_pos f1,f1];rfl
theorem add_int {a:Addr} {i:Int} {ti:Tok} {Q:Bool->Shared->Prop} {led:Bool} (hl:led = !Lo w)
  (e:s.heap.get? a=some { cls:=.type "set",dict:=none,data:=.set #[] 0 (.fresh 0 0 led) })
  (q:∀b h' tk,Heap.SameBut a s.heap h'->Jk w h' a [.int i ti]->Q b { s with heap:=h',toks:=tk }):wpAny (model prog w) A (setAdd a (.int i ti)) Q E s:=by
 have f0:(SetTable.fresh 0 0 led).fits (#[]:Array (Int×Value)).size=true:=rfl;have ex:Obj.ExactSet { cls:=.type "set",dict:=none,data:=.set #[] 0 (.fresh 0 0 led) }:=⟨rfl,rfl,rfl⟩
 unfold setAdd;refine wpAny_holding (wpAny_bind ((AQ prog w).pyHash (k:=.inl i) (JQ (k:=.inl i) ⟨ti,rfl⟩) ?_));generalize (AQ prog w).hash (.inl i)=hx;unfold setAddHashed;unfold setAddHashedIn;refine wpAny_holding (wpAny_bind (wpAny_setState_of (s:={ s with toks:=s.toks+1 }) e rfl f0 ?_));dsimp only;rw[show byScan (.int i ti) #[]=true by simp[byScan,Value.scannable,scanBound]];simp only[↓reduceIte];unfold setAddByScan;refine wpAny_bind (wpAny_bind (wpAny_rule (wpAny_bind (m:=setScan a (.int i ti) hx true #[]) (wpAny_of_eq (show setScan a (.int i ti) hx true #[]=pure .absent from rfl) ?_))));obtain⟨j,el⟩:=Qa led hx (.int i ti);dsimp only;rw[el];dsimp only;refine wpAny_bind (wpAny_pure ?_);rw[if_pos rfl,hashByValue_scannable 8 rfl];refine wpAny_bind (wpAny_pure ?_)
 change wpAny _ _ (storeSet a #[(hx,Value.int i ti)] (Np j led true) >>= fun _=>if(!false&&(Np j led true).tooFull)=true then _ else pure (some true)) _ _ _
 refine wpAny_bind (wpAny_storeSet_of (s:={ s with toks:=s.toks+1 }) e rfl ?_ (by show 1<=sizeLine;rw[sizeLine_eq];decide));rw[if_neg (by simp[SetTable.tooFull,SetTable.fill])];exact wpAny_pure (wpAny_pure (q true _ _ (Heap.SameBut.update ..) (S6 hl e ex rfl)))
end
end L2
namespace L2
end L2
namespace L2
section
open PySem PySem.Spec PyProof.Rows PySem.Calls
structure LamTc (x y:Str) (params:Arguments) (scope:Scope):Prop where
 bind:∀(qual:Str) (body:Expr) (cl:List (Str×Addr)) (pm cv ctv u:Value),bindArgs (PySem.W.kla_fn "<lambda>" qual params body scope cl pm cv ctv) ⟨[u],[]⟩=pure [(x,u)]
 dflt:∀env,defaultsOf params env=([],[])
 names:scope.names=[(x,.local),(y,.free)]
 kind:scope.kind=.function
 co:scope.isCoroutine=false
 ge:scope.isGenerator=false
 dx:(x == ("__debug__":Str))=false
 dy:(y == ("__debug__":Str))=false
 cy:(y == ("__classdict__":Str))=false
 ne:(y == x)=false
theorem LamTc.loc {x y:Str}{params:Arguments}{scope:Scope}(L:LamTc x y params scope):scope.names.lookup x=some .local:=by rw[L.names];simp[List.lookup]
theorem LamTc.free {x y:Str}{params:Arguments}{scope:Scope}(L:LamTc x y params scope):scope.names.lookup y=some .free:=by rw[L.names];simp[List.lookup,L.ne]
theorem LamTc.clos {x y:Str}{params:Arguments}{scope:Scope}(L:LamTc x y params scope){env:Env}{c:Addr}(h:env.cells.lookup y=some c):closureFor scope env=pure [(y,c)]:=by
 unfold closureFor;rw[L.names];simp[cellOf,h]
variable {X:Cx}{pins:List (Addr×Obj)}{σ:St}{H:Hp}{s:Shared}{A:Around}
def VC (K:PySem.W.Frag)(a:Addr)(xs:List V):It:=⟨fun i H=>AW K H a xs/\i<xs.length,fun i H x H'=>H'=H/\xs[xs.length-1-i]?=some x,fun i H=>AW K H a xs/\xs.length=i⟩
theorem R7 {P:Program}{w:World}{K:PySem.W.Frag}{tg:Expr}(a it:Addr)(xs:List V):Turn P w K tg (VC K a xs) [it] it (fun i h=>h.IsRevIter it a ((xs.length:Int)-1-(i:Int))) where
 mem:=by simp
 obj:=fun i h st b hb=>by
  have e:b=it:=by simpa using hb
  subst e;obtain⟨o,e,c,d⟩:=st;exact⟨o,e,fun v z=>by rw[d] at z;cases z⟩
 keep:=fun i h h' st k=>st.at fun o e=>k it (by simp) o e
 item:=by
  intro X hP hw hK hc i pins s σ H E I hf st hg;subst hP hw hK;obtain⟨hq,hi⟩:=hg;obtain⟨its,rv,p,hz⟩:=I.list hq;have hx:xs[xs.length-1-i]?=some (xs[xs.length-1-i]'(by omega)):=List.getElem?_eq_getElem (by omega);obtain⟨u,hu,ru⟩:=rv.get hx;obtain⟨f0,f1,f2,f3,f4,f5⟩:=hf it (by simp);rw[show(xs.length:Int)-1-(i:Int)=((xs.length-1-i:Nat):Int) by omega] at st;refine wpAny_pyNext_rev_item st p.isList (x:=u) (by simpa using hu) fun h' st' sb=>?_
  rw[show((xs.length-1-i:Nat):Int)-1=(xs.length:Int)-1-((i+1:Nat):Int) by omega] at st';have I1:Inv X pins σ H { s with heap:=h' }:=I.turned (t':=s.toks) (fun b o hb e=>(sb.2 b hb).trans e) f0 f1 f3 f4 f5;obtain⟨o,e,c,d⟩:=id st';exact⟨u,rfl,KN (s:={ s with heap:=h' }) e c d (by decide) ⟨_,H,I1,ru,⟨rfl,hx⟩,st',fun b hb=>(hf b hb).1⟩⟩
 done:=by
  intro X hP hw hK hc i pins s σ H E I hf st hg;subst hP hw hK;obtain⟨hq,hx⟩:=hg;obtain⟨f0,f1,f2,f3,f4,f5⟩:=hf it (by simp);rw[show(xs.length:Int)-1-(i:Int) = -1 by omega] at st;exact wpAny_pyNext_rev_end (I.ok.hd hc) st fun h' eb=>⟨rfl,I.turned (t':=s.toks) (fun b o hb e=>eb b o hb e) f0 f1 f3 f4 f5⟩
 self:=fun _ _ _ _ _ st h=>wpAny_pyIter_revIter st h
def WY (K:PySem.W.Frag)(ta:TA):TI:=fun σ H R=>ta σ H fun vs H1=>∃a xs,vs=[.ref a]/\AW K H1 a xs/\R (VC K a xs) H1
theorem UX {tg l:Expr}{ta:TA}{p pos:Pos}(hg:Gl X "reversed")(hm:X.mg "reversed"=none)(ha:PA X [l] ta)(hs:starEach [l] X.env=[(false,eval l X.env)]:=by rfl):PI X tg (.Call (.Name "reversed" p) [l] [] pos) (WY X.K ta):=by
 intro pins s σ H R I h;refine Call_ (Fz I hg hm MC (PyProof.Rows.callWith_type1 (Ba (ha pos pins s σ H _ I h) fun us s1 ⟨vs,H1,I1,r1,q1⟩=>?_) hs rfl));obtain⟨a,xs,rfl,hq,q⟩:=q1;obtain⟨u,rfl,ru⟩:=vals1 r1;cases ru;obtain⟨its,rv,pl,hz⟩:=I1.list hq;have ln:=rv.length;refine call_reversed_list pl.isList ?_;have hit:(s1.heap.push (revObj a ((its.toArray.size:Int)-1))).IsRevIter s1.heap.objs.size a ((xs.length:Int)-1-((0:Nat):Int)):=⟨_,Heap.get?_push_size _ rfl,rfl,by rw[ln];simp[revObj]⟩
 refine wpAny_pyIter_revIter hit ?_;refine⟨s1.heap.objs.size,[s1.heap.objs.size],_,VC X.K a xs,H1,rfl,I1.kept (t':=s1.toks) fun b o e=>Heap.get?_push_of_some _ e,R7 a _ xs,hit,fun b hb=>?_,q⟩;have e:b=s1.heap.objs.size:=by simpa using hb
 subst e;exact I1.fpOk (Nat.le_refl _) (I1.hok.fresh (Nat.le_refl _))
end
end L2
namespace L2
open PySem PySem.Spec PyProof.Rows
abbrev Fo (h:Heap)(z TI TO:Addr)(f0 f1:Value):Prop:=
 h.get? z=some { cls:=.type "zip",dict:=none,data:=.fields #[f0,f1,.bool true,.ref TI,.ref TO],slots:=#[] }
theorem Mn {M:Model}{A:Around}{E:Value->Shared->Prop}{s:Shared}{a:Addr}{Q:Option Obj->Shared->Prop}(h:Q (s.heap.get? a) s):wpAny M A (loadIfAlive a) Q E s:=fun _ _ _=>h
section
variable {prog:Program}{w:World}{A:Around}{E:Value->Shared->Prop}{s:Shared}{z TI TO i1 i2 T:Addr}{f1 f2:List Addr}{n i:Nat}{P1 P2:Nat->Value->Prop}{St1 St2:Nat->Heap->Prop}{fl:Value}{oT:Obj}
theorem Qy (D1:Draws prog w A i1 f1 n P1 St1) (D2:Draws prog w A i2 f2 n P2 St2) (Z:ZA z TI TO i1 i2 f1 f2) (hz:Fo s.heap z TI TO (rawInt T) fl) (hfl:fl=.bool false\/fl=.bool true) (hT:s.heap.get? T=some oT) (hTI:IsPair s.heap TI (.ref i1) (.ref i2)) (s1:St1 i s.heap) (s2:St2 i s.heap)
  {Q:Value->Shared->Prop} (hi:i<n\/i=n) (more:i<n->∀h' x y tk,P1 i x->P2 i y->Fo h' z TI TO (rawInt T) (.bool true)->IsPair h' TI (.ref i1) (.ref i2)->St1 (i+1) h'->St2 (i+1) h'->IsPair h' s.heap.objs.size x y->
   (∀c o,c≠z->c≠i1->c≠i2->s.heap.get? c=some o->h'.get? c=some o)->Q (.ref s.heap.objs.size) { s with heap:=h',toks:=tk })
  (hh:A.handled=none) (over:i=n->∀h' e,(∀c o,c≠z->c≠i1->c≠i2->s.heap.get? c=some o->h'.get? c=some o)->(∃o,h'.get? e=some o/\o.cls=.type "StopIteration")->E (.ref e) { s with heap:=h' }) :
  wpAny (model prog w) A (Builtin.«zip.__next__» ⟨[.ref z],[]⟩) (fun fin s'=>∃v,fin=.done (.ret v)/\Q v s') E s:=by
 change wpAny _ _ (field (.ref z) 2 >>= _) _ _ _
 refine wpAny_bind (wpAny_field hz rfl (x:=.bool true) rfl ?_)
 change wpAny _ _ (field (.ref z) 3 >>= _) _ _ _
 refine wpAny_bind (wpAny_field hz rfl (x:=.ref TI) rfl ?_);refine wpAny_bind (wpAny_seqItems hTI rfl ?_)
 change wpAny _ _ (Builtin.SmallTypes.ownedTupleIsFree (.ref z) >>= _) _ _ _
 refine wpAny_bind (m:=Builtin.SmallTypes.ownedTupleIsFree (.ref z)) ?_;unfold Builtin.SmallTypes.ownedTupleIsFree;refine wpAny_bind (wpAny_field hz rfl (x:=rawInt T) rfl ?_)
 change wpAny _ _ (loadIfAlive ((T:Int)).toNat >>= _) _ _ _
 rw[Int.toNat_natCast];refine wpAny_bind (Mn ?_);rw[hT,if_neg (show ¬((some oT).isNone=true) from Bool.false_ne_true)];refine wpAny_bind (wpAny_field hz rfl (x:=fl) rfl ?_);refine wpAny_mono (Q:=fun a s'=>a=false/\∃g1,s'={ s with heap:=g1 }/\Fo g1 z TI TO (rawInt T) (.bool true)/\Heap.SameBut z s.heap g1) (E:=E) ?first (fun a s' hs'=>?_) fun _ _ e=>e
 case first=>
  rcases hfl with rfl|rfl
  ·rw[if_pos (by decide)];exact wpAny_bind (wpAny_setField_rec hz (by simp) fun g1 y1 k1=>wpAny_pure ⟨rfl,g1,rfl,y1,k1⟩)
  ·rw[if_neg (by decide)];exact wpAny_pure ⟨rfl,s.heap,rfl,hz,⟨rfl,fun _ _=>rfl⟩⟩
 obtain⟨rfl,g1,rfl,y1,k1⟩:=hs';dsimp only;rw[if_neg Bool.false_ne_true];have u1:St1 i g1:=D1.frame i _ _ s1 fun c hc o e=>k1.extBut c o (fun q=>Z.z1 (q▸hc)) e
 rw[show(#[Value.ref i1,Value.ref i2]:Array Value)=[Value.ref i1,Value.ref i2].toArray from rfl,List.forIn_toArray];simp only[List.forIn_cons,List.forIn_nil];refine wpAny_bind (wpAny_bind (wpAny_bind (wpAny_holding ?_)))
 change wpAny _ _ (Builtin.SmallTypes.nextOrEnd (.ref i1)) _ _ _
 rcases hi with hi|hi
 ·refine GV D1 hi u1 fun x g2 tk2 px v2 k2=>?_
  refine wpAny_pure ?_;dsimp only;have w2:St2 i g2:=D2.frame i _ _ s2 fun c hc o e=>k2.extBut c o (fun q=>Z.j2 (q▸hc)) (k1.extBut c o (fun q=>Z.z2 (q▸hc)) e)
  refine wpAny_bind (wpAny_bind (wpAny_holding ?_))
  change wpAny _ _ (Builtin.SmallTypes.nextOrEnd (.ref i2)) _ _ _
  refine GV D2 hi w2 fun y g4 tk4 py v4 k4=>?_
  refine wpAny_pure (wpAny_pure ?_);dsimp only;refine wpAny_bind (wpAny_newTuple (hsz:=by show 2<=sizeLine;decide) ?_);have size:g4.objs.size=s.heap.objs.size:=k4.1.trans (k2.1.trans k1.1);have keep:∀c o,c≠z->c≠i1->c≠i2->s.heap.get? c=some o->g4.get? c=some o:=fun c o c1 c3 c4 e=>k4.extBut _ _ c4 (k2.extBut _ _ c3 (k1.extBut _ _ c1 e))
  have y4:Fo g4 z TI TO (rawInt T) (.bool true):=k4.extBut _ _ Z.i2z.symm (k2.extBut _ _ Z.i1z.symm y1);have v4':St1 (i+1) g4:=D1.frame _ _ _ v2 fun c hc o e=>k4.extBut c o (fun q=>Z.j1 (q▸hc)) e
  refine wpAny_pure ⟨_,rfl,?_⟩;have pr:IsPair (g4.push { cls:=.type "tuple",data:=.seq #[x,y] }) g4.objs.size x y:=Heap.get?_push_size _ rfl;have up:∀c o,g4.get? c=some o->(g4.push { cls:=.type "tuple",data:=.seq #[x,y] }).get? c=some o:=fun c o e=>Heap.get?_push_of_some _ e
  rw[size] at pr;show Q (.ref g4.objs.size) _;rw[size];exact more hi _ x y tk4 px py (up _ _ y4) (up _ _ (keep _ _ Z.TIz Z.TIi1 Z.TIi2 hTI)) (D1.frame _ _ _ v4' fun c _ o e=>up c o e) (D2.frame _ _ _ v4 fun c _ o e=>up c o e) pr fun c o c1 c3 c4 e=>up c o (keep c o c1 c3 c4 e)
 ·have u1':St1 n g1:=hi▸u1;refine G6 D1 u1' fun g2 k2=>?_
  have w2:St2 n g2:=D2.frame n _ _ (hi▸s2) fun c hc o e=>k2 c o (fun q=>Z.j2 (q▸hc)) (k1.extBut c o (fun q=>Z.z2 (q▸hc)) e)
  refine wpAny_bind ?_
  change wpAny _ _ (Bind.bind (Bind.bind (Bind.bind (Builtin.SmallTypes.nextOrEnd (.ref i2)) _) _) _) _ _ _
  refine wpAny_bind (wpAny_bind (wpAny_bind (G6 (s:={ s with heap:=g2 }) D2 w2 fun g4 k4=>?_)));refine wpAny_pure (wpAny_pure (wpAny_bind (wpAny_rule ?_)));exact IA hh fun h' e k5 he=>over hi h' e (fun c o c1 c3 c4 q=>k5 _ _ (k4 _ _ c4 (k2 _ _ c3 (k1.extBut _ _ c1 q)))) he
theorem KJ (D1:Draws prog w A.in1 i1 f1 n P1 St1) (D2:Draws prog w A.in1 i2 f2 n P2 St2) (Z:ZA z TI TO i1 i2 f1 f2) (hz:Fo s.heap z TI TO (rawInt T) fl) (hfl:fl=.bool false\/fl=.bool true) (hT:s.heap.get? T=some oT) (hTI:IsPair s.heap TI (.ref i1) (.ref i2)) (s1:St1 i s.heap) (s2:St2 i s.heap)
  {Q:Option Value->Shared->Prop} (hi:i<n\/i=n) (more:i<n->∀h' x y tk,P1 i x->P2 i y->Fo h' z TI TO (rawInt T) (.bool true)->IsPair h' TI (.ref i1) (.ref i2)->St1 (i+1) h'->St2 (i+1) h'->IsPair h' s.heap.objs.size x y->
   (∀c o,c≠z->c≠i1->c≠i2->s.heap.get? c=some o->h'.get? c=some o)->Q (some (.ref s.heap.objs.size)) { s with heap:=h',toks:=tk })
  (hh:A.handled=none) (over:i=n->∀h',(∀c o,c≠z->c≠i1->c≠i2->s.heap.get? c=some o->h'.get? c=some o)->Q none { s with heap:=h' }) :
  wpAny (model prog w) A (pyNext (.ref z)) Q E s:=by
 have Ty:s.TypeIs (.ref z) "zip":=⟨_,hz,rfl⟩
 unfold pyNext;refine wpAny_bind (wpAny_attempt (wpAny_callSpecial?_slot Ty F.slot_zip_next (wpAny_call_entry F.slot_zip_next Ty F.entry_zip_next (Qy D1 D2 Z hz hfl hT hTI s1 s2 hi ?_ hh ?_) (F.args_zip_next_1 _))))
 ·exact fun hl h' x y tk a0 a1 a2 a3 a4 a5 a6 a7=>wpAny_pure (more hl h' x y tk a0 a1 a2 a3 a4 a5 a6 a7)
 ·exact fun hn h' e hk ⟨o,ho,hc⟩=>wpAny_bind (wpAny_isInstance (T:="StopIteration") (b:=true) ⟨o,ho,hc⟩ isSubtype_stop (wpAny_pure (over hn _ hk)))
end
structure ZF (z TI TO i1 i2 S:Addr) (B:Nat) (P1 P2:Nat->Value->Prop) (St1 St2:Nat->Heap->Prop) (i:Nat) (h:Heap) (ts:List Addr):Prop where
 zp:(∃a b,Ct h z TI TO .none/\IsPair h TO a b/\i=0)\/∃(T:Addr) (fl:Value),Fo h z TI TO (rawInt T) fl/\(fl=.bool false\/fl=.bool true)/\T∈ts
 ti:IsPair h TI (.ref i1) (.ref i2)
 to:∃o,h.get? TO=some o
 s1:St1 i h
 s2:St2 i h
 ln:ts.length=i
 nd:ts.Nodup
 tp:∀(j:Nat) t,ts[j]?=some t->B<=t/\t≠S/\t≠z/\t≠TO/\t≠i1/\t≠i2/\∃x y,P1 j x/\P2 j y/\IsPair h t x y
section
variable {prog:Program}{w:World}{A:Around}{z TI TO i1 i2 S:Addr}{B:Nat}{f1 f2:List Addr}{n:Nat}{P1 P2:Nat->Value->Prop}{St1 St2:Nat->Heap->Prop}{R:Result->Shared->Prop}
theorem QC (hh:A.handled=none)(D1:Draws prog w A.in1.in1 i1 f1 n P1 St1)(D2:Draws prog w A.in1.in1 i2 f2 n P2 St2)(Z:ZA z TI TO i1 i2 f1 f2)(hn:n<=sizeLine)(Sz:S≠z)(ST:S≠TI)(SO:S≠TO)(S1:S∉f1)(S2:S∉f2)(Si1:S≠i1)(Si2:S≠i2)(low1:∀i h,St1 i h->∃o,h.get? i1=some o)(low2:∀i h,St2 i h->∃o,h.get? i2=some o)(res:Value) :
  ∀(k i:Nat) (s:Shared) (ts:List Addr) (c:Nat),n-i=k->i<=n->B<=s.heap.objs.size->ZF z TI TO i1 i2 S B P1 P2 St1 St2 i s.heap ts->s.heap.get? S=some { cls:=.type "list",dict:=none,data:=.seq (ts.map Value.ref).toArray c,slots:=#[] }->
  (∀(h':Heap) (tk:Nat) (ts':List Addr) (c':Nat),ts'.Nodup->ts'.length=n->(∀(j:Nat) t,ts'[j]?=some t->B<=t/\t≠S/\∃x y,P1 j x/\P2 j y/\IsPair h' t x y)->(∀b o,b≠S->b≠z->b≠TO->b≠i1->b≠i2->s.heap.get? b=some o->h'.get? b=some o)->h'.get? S=some { cls:=.type "list",dict:=none,data:=.seq (ts'.map Value.ref).toArray c',slots:=#[] }->R (.ok (.ret res)) { s with heap:=h',toks:=tk })->
  codeAny (model prog w) A (.builtin "list.extend.loop" ⟨[.ref S,.ref z,res],[]⟩) R s:=by
 intro k
 induction k with
 |zero=>
  intro i s ts c hk hi hB z0 hS hR;have hin:i=n:=by omega
  refine codeAny_builtin F.entry_extend_loop ?_;rw[Around.under_plainId F.plain_extend_loop _];show wpAny _ A.in1 (pyNext (.ref z) >>= _) _ _ s;have fin:∀h',(∀b o,b≠z->b≠i1->b≠i2->s.heap.get? b=some o->h'.get? b=some o)->R (.ok (.ret res)) { s with heap:=h' }:=fun h' kp=>by
   refine hR h' s.toks ts c z0.nd (z0.ln.trans hin) (fun j t e=>?_) (fun b o _ b2 _ b4 b5 e=>kp b o b2 b4 b5 e) (kp _ _ Sz Si1 Si2 hS);obtain⟨t1,t2,t3,t4,t5,t6,x,y,px,py,pp⟩:=z0.tp j t e;exact⟨t1,t2,x,y,px,py,kp _ _ t3 t5 t6 pp⟩
  rcases z0.zp with⟨a,b,hz,hTO,_⟩|⟨T,fl,hz,hfl,hTs⟩
  ·exact wpAny_bind (K8 (A:=A.in1) D1 D2 Z (.inr hin) hz z0.ti hTO z0.s1 z0.s2 (fun q=>absurd q (by omega)) hh fun _ h' kp=>wpAny_pure (fin h' kp))
  ·obtain⟨jT,eT⟩:=List.getElem?_of_mem hTs;obtain⟨_,_,_,_,_,_,_,_,_,_,hT⟩:=z0.tp jT T eT;exact wpAny_bind (KJ (A:=A.in1) D1 D2 Z hz hfl hT z0.ti z0.s1 z0.s2 (.inr hin) (fun q=>absurd q (by omega)) hh fun _ h' kp=>wpAny_pure (fin h' kp))
 |succ k ih=>
  intro i s ts c hk hi hB z0 hS hR;have hlt:i<n:=by omega
  refine codeAny_builtin F.entry_extend_loop ?_;rw[Around.under_plainId F.plain_extend_loop _];show wpAny _ A.in1 (pyNext (.ref z) >>= _) _ _ s;have lS:=Heap.lt_size hS;have EH:s.heap.objs.size≠z/\s.heap.objs.size≠TO/\s.heap.objs.size≠i1/\s.heap.objs.size≠i2:=by
   obtain⟨_,e1⟩:=low1 _ _ z0.s1;obtain⟨_,e2⟩:=low2 _ _ z0.s2;obtain⟨_,e3⟩:=z0.to;obtain⟨_,e4⟩:∃o,s.heap.get? z=some o:=by rcases z0.zp with⟨_,_,h,_⟩|⟨_,_,h,_⟩<;>exact⟨_,h⟩
   exact⟨Nat.ne_of_gt (Heap.lt_size e4),Nat.ne_of_gt (Heap.lt_size e3),Nat.ne_of_gt (Heap.lt_size e1),Nat.ne_of_gt (Heap.lt_size e2)⟩
  have go:∀(h':Heap) (x y:Value) (tk:Nat) (T:Addr) (fl:Value),P1 i x->P2 i y->Fo h' z TI TO (rawInt T) fl->(fl=.bool false\/fl=.bool true)->T∈ts++[s.heap.objs.size]->IsPair h' TI (.ref i1) (.ref i2)->(∃o,h'.get? TO=some o)->St1 (i+1) h'->St2 (i+1) h'->IsPair h' s.heap.objs.size x y->(∀c o,c≠z->c≠TO->c≠i1->c≠i2->s.heap.get? c=some o->h'.get? c=some o)->
    wpAny (model prog w) A.in1 (updateSeq S (·.push (.ref s.heap.objs.size)) >>= fun _=>again (.builtin "list.extend.loop" ⟨[.ref S,.ref z,res],[]⟩)) (fun fin s'=>match fin with | .done f=>R (.ok f) s' | .again c'=>c'.quiet=true/\codeAny (model prog w) A c' R s') (fun e s'=>R (.error e) s') { s with heap:=h',toks:=tk }:=by
   intro h' x y tk T fl px py hz hfl hT hTI hTO' u1 u2 pp kp;have hS':=kp _ _ Sz SO Si1 Si2 hS;have sz:(ts.map Value.ref).toArray.size=i:=by rw[List.size_toArray,List.length_map,z0.ln]
   refine wpAny_bind (wpAny_updateSeq hS' rfl (wpAny_pure ⟨plainId_quiet F.plain_extend_loop _,?_⟩) (by rw[sz];omega) (by show((ts.map Value.ref).toArray.push _).size<=sizeLine+1;rw[Array.size_push,sz];omega));have hS2:=Heap.get?_update_self (Obj.mapSeq (·.push (Value.ref s.heap.objs.size))) hS' rfl;have up:∀b o,b≠S->h'.get? b=some o->(h'.update S (Obj.mapSeq (·.push (Value.ref s.heap.objs.size)))).get? b=some o:=fun b o nb e=>(Heap.get?_update_other _ _ (Ne.symm nb)).trans e
   have nS:s.heap.objs.size≠S:=Nat.ne_of_gt lS;have lt:∀{b o},s.heap.get? b=some o->s.heap.objs.size≠b:=fun e=>Nat.ne_of_gt (Heap.lt_size e)
   have hB':B<=(h'.update S (Obj.mapSeq (·.push (Value.ref s.heap.objs.size)))).objs.size:=by
    rw[Heap.size_update];exact Nat.le_trans hB (Nat.le_of_lt (Heap.lt_size pp))
   have sizes:s.heap.objs.size≠z/\s.heap.objs.size≠TO/\s.heap.objs.size≠i1/\s.heap.objs.size≠i2:=EH;refine ih (i+1) { s with heap:=h'.update S (Obj.mapSeq (·.push (Value.ref s.heap.objs.size))),toks:=tk } (ts++[s.heap.objs.size]) (c+1) (by omega) hlt hB' ⟨.inr ⟨T,fl,up _ _ (Ne.symm Sz) hz,hfl,hT⟩,up _ _ (Ne.symm ST) hTI,(let⟨o,e⟩:=hTO';⟨o,up _ _ (Ne.symm SO) e⟩),D1.frame _ _ _ u1 fun b hb o e=>up b o (fun q=>S1 (q▸hb)) e,D2.frame _ _ _ u2 fun b hb o e=>up b o (fun q=>S2 (q▸hb)) e,by rw[List.length_append,z0.ln];rfl,?_,fun j t e=>?_⟩ (by rw[hS2,List.map_append];simp[Obj.mapSeq]) fun h2 tk2 ts' c' nd' l' t' k' hS3=>?_
   ·refine List.nodup_append.mpr ⟨z0.nd,List.pairwise_singleton _ _,fun u hu v hv e=>?_⟩;rw[List.mem_singleton.mp hv] at e;obtain⟨jT,eT⟩:=List.getElem?_of_mem hu;obtain⟨_,_,_,_,_,_,_,_,_,_,hp⟩:=z0.tp jT u eT;exact absurd e (Nat.ne_of_lt (Heap.lt_size hp))
   ·by_cases hj:j<ts.length
    ·rw[List.getElem?_append_left hj] at e;obtain⟨t1,t2,t3,t4,t5,t6,x',y',px',py',pp'⟩:=z0.tp j t e;exact⟨t1,t2,t3,t4,t5,t6,x',y',px',py',up _ _ t2 (kp _ _ t3 t4 t5 t6 pp')⟩
    ·rw[List.getElem?_append_right (by omega)] at e;have j0:j=i:=by
      have:=(List.getElem?_eq_some_iff.mp e).1;have:=z0.ln;simp at *;omega
     subst j0;rw[z0.ln,Nat.sub_self] at e;cases e;exact⟨hB,nS,sizes.1,sizes.2.1,sizes.2.2.1,sizes.2.2.2,x,y,px,py,up _ _ nS pp⟩
   ·exact hR h2 tk2 ts' c' nd' l' t' (fun b o b1 b2 b3 b4 b5 e=>k' b o b1 b2 b3 b4 b5 (up b o b1 (kp b o b2 b3 b4 b5 e))) hS3
  rcases z0.zp with⟨a,b,hz,hTO,_⟩|⟨T,fl,hz,hfl,hTs⟩
  ·refine wpAny_bind (K8 (A:=A.in1) D1 D2 Z (.inl hlt) hz z0.ti hTO z0.s1 z0.s2 (fun _ h' x y tk px py hz' ti' to' u1 u2 pp kp=>?_) hh fun q=>absurd q (by omega));exact go h' x y tk _ _ px py hz' (.inl rfl) (List.mem_append_right _ (List.mem_singleton.mpr rfl)) ti' ⟨_,to'⟩ u1 u2 pp kp
  ·obtain⟨jT,eT⟩:=List.getElem?_of_mem hTs;obtain⟨_,_,_,_,_,_,_,_,_,_,hT⟩:=z0.tp jT T eT;refine wpAny_bind (KJ (A:=A.in1) D1 D2 Z hz hfl hT z0.ti z0.s1 z0.s2 (.inl hlt) (fun _ h' x y tk px py hz' ti' u1 u2 pp kp=>?_) hh fun q=>absurd q (by omega));exact go h' x y tk _ _ px py hz' (.inr rfl) (List.mem_append_left _ hTs) ti' (let⟨o,e⟩:=z0.to;⟨o,kp _ _ Z.TOz Z.TOi1 Z.TOi2 e⟩) u1 u2 pp fun c o c1 _ c3 c4 e=>kp c o c1 c3 c4 e
end
theorem Qe:typeLookup (.type "zip") "__len__"=pure none:=by rw[typeLookup_type,builtinLookup_eq_fast];kernel_rfl
theorem Ou:typeLookup (.type "zip") "__length_hint__"=pure none:=by rw[typeLookup_type,builtinLookup_eq_fast];kernel_rfl
section
variable {prog:Program}{w:World}{A:Around}{E:Value->Shared->Prop}{s:Shared}{z TI TO i1 i2:Addr}
theorem JV {Q:Value->Shared->Prop} (hh:A.handled=none) (k j:Bool) {a b:Addr} {xs ys:Array Value} {p0 q0:Value} (hl:ys.size=xs.size) (hn:xs.size<=sizeLine) (hz:Ct s.heap z TI TO .none) (hTI:IsPair s.heap TI (.ref i1) (.ref i2)) (hTO:IsPair s.heap TO p0 q0) (at1:Gh k s.heap i1 a 0) (at2:Gh j s.heap i2 b 0) (ha:Src k s.heap a xs) (hb:Src j s.heap b ys)
  (Z:ZA z TI TO i1 i2 [i1,a] [i2,b]) (na:a≠i1) (nb:b≠i2)
  (q:∀(h':Heap) (tk:Nat) (S:Addr) (c:Nat) (ts:List Addr),s.heap.objs.size<=S->ts.Nodup->ts.length=xs.size->(∀(j:Nat) t,ts[j]?=some t->s.heap.objs.size<=t/\t≠S/\∃x y,xs[j]?=some x/\ys[j]?=some y/\IsPair h' t x y)->(∀b o,b≠z->b≠TO->b≠i1->b≠i2->s.heap.get? b=some o->h'.get? b=some o)->h'.get? S=some { cls:=.type "list",dict:=none,data:=.seq (ts.map Value.ref).toArray c,slots:=#[] }->Q (.ref S) { s with heap:=h',toks:=tk }) :
  wpAny (model prog w) A (call (.type "list") [.ref z]) Q E s:=by
 refine RO fun S c h₁ eS hS kp R hR=>?_
 have lt:∀{b o},s.heap.get? b=some o->b≠S:=fun e=>by rw[eS];exact Nat.ne_of_lt (Heap.lt_size e)
 have nz:=lt hz;have hz1:Ct h₁ z TI TO .none:=kp _ _ hz;have Ty:({ s with heap:=h₁ }:Shared).TypeIs (.ref z) "zip":=⟨_,hz1,rfl⟩
 unfold Builtin.List.listExtendWith;refine wpAny_bind (wpAny_typeOf (T:="zip") (s:={ s with heap:=h₁ }) Ty ?_);have e1:Builtin.List.listSameRef (.ref S) (.ref z)=false:=by simp[Builtin.List.listSameRef,nz.symm]
 rw[if_neg (by rw[e1];decide)];refine wpAny_bind (SC (s:={ s with heap:=h₁ }) hz1 ?_);refine wpAny_bind (wpAny_holding ?_);unfold Builtin.List.listLengthHint;refine wpAny_bind (wpAny_specialOf Ty Qe ?_)
 change wpAny _ _ (specialOf (.ref z) (Str.ofString "__length_hint__") >>= _) _ _ _
 refine wpAny_bind (wpAny_specialOf Ty Ou ?_);refine wpAny_pure ?_
 change wpAny _ _ (rule "list.extend.makes-room" >>= fun _=>Builtin.List.listTouch (.ref S) >>= fun _=>again (.builtin "list.extend.loop" ⟨[.ref S,.ref z,.none],[]⟩)) _ _ _
 refine wpAny_bind (wpAny_rule ?_);refine wpAny_bind ?_
 change wpAny _ _ (updateSeq S (·.push .none) >>= fun _=>updateSeq S (·.pop)) _ _ _
 refine wpAny_bind (wpAny_updateSeq (s:={ s with heap:=h₁ }) hS rfl ?_);have hS3:=Heap.get?_update_self (Obj.mapSeq (·.push Value.none)) hS rfl;refine wpAny_updateSeq (hz:=by seq_fits) hS3 rfl ?_;have hS4:=Heap.get?_update_self (Obj.mapSeq (·.pop)) hS3 rfl;have oth:∀b o,b≠S->h₁.get? b=some o->((h₁.update S (Obj.mapSeq (·.push Value.none))).update S (Obj.mapSeq (·.pop))).get? b=some o:=fun b o nb e=>(Heap.get?_update_other _ _ (Ne.symm nb)).trans ((Heap.get?_update_other _ _ (Ne.symm nb)).trans e)
 have hsz:s.heap.objs.size<=((h₁.update S (Obj.mapSeq (·.push Value.none))).update S (Obj.mapSeq (·.pop))).objs.size:=by
  rw[Heap.size_update,Heap.size_update,<-eS];exact Nat.le_of_lt (Heap.lt_size hS)
 generalize (h₁.update S (Obj.mapSeq (·.push Value.none))).update S (Obj.mapSeq (·.pop))=h2 at hS4 oth hsz;have old:∀b o,s.heap.get? b=some o->h2.get? b=some o:=fun b o e=>oth b o (lt e) (kp b o e)
 obtain⟨oa,ea⟩:∃o,s.heap.get? a=some o:=by cases k<;>exact(let⟨o,e,_⟩:=ha;⟨o,e⟩)
 obtain⟨ob,eb⟩:∃o,s.heap.get? b=some o:=by cases j<;>exact(let⟨o,e,_⟩:=hb;⟨o,e⟩)
 obtain⟨o1,e1',_⟩:=id at1;obtain⟨o2,e2',_⟩:=id at2;have D1:=K9 (prog:=prog) (w:=w) (A:=A.in1.in1.in1) hh i1 a na xs k;have D2:=K9 (prog:=prog) (w:=w) (A:=A.in1.in1.in1) hh i2 b nb ys j;rw[hl] at D2;have f1:Gh k h2 i1 a 0/\Src k h2 a xs:=D1.frame 0 _ _ ⟨at1,ha⟩ fun c _ o e=>old c o e
 have f2:Gh j h2 i2 b 0/\Src j h2 b ys:=D2.frame 0 _ _ ⟨at2,hb⟩ fun c _ o e=>old c o e
 refine wpAny_pure ⟨plainId_quiet F.plain_extend_loop _,QC (A:=A.in1) (B:=s.heap.objs.size) (s:={ s with heap:=h2 }) hh D1 D2 Z hn (Ne.symm nz) (Ne.symm (lt hTI)) (Ne.symm (lt hTO)) ?_ ?_ (Ne.symm (lt e1')) (Ne.symm (lt e2')) (fun i h z=>let⟨⟨o,e,_⟩,_⟩:=z;⟨o,e⟩) (fun i h z=>let⟨⟨o,e,_⟩,_⟩:=z;⟨o,e⟩) .none xs.size 0 [] _ rfl (Nat.zero_le _) hsz ⟨.inl ⟨p0,q0,old _ _ hz,old _ _ hTO,rfl⟩,old _ _ hTI,⟨_,old _ _ hTO⟩,f1,f2,rfl,List.nodup_nil,fun j t e=>by simp at e⟩ hS4 fun h' tk ts' c' nd' l' t' k' hS'=>hR _ (q h' tk S c' ts' (Nat.le_of_eq eS.symm) nd' l' t' (fun b o b1 b2 b3 b4 e=>k' b o (lt e) b1 b2 b3 b4 (old b o e)) hS')⟩
 ·intro z;rcases List.mem_cons.mp z with z|z
  ·exact lt e1' z.symm
  ·exact lt ea (List.mem_singleton.mp z).symm
 ·intro z;rcases List.mem_cons.mp z with z|z
  ·exact lt e2' z.symm
  ·exact lt eb (List.mem_singleton.mp z).symm
end
section
variable {X:Cx}{pins:List (Addr×Obj)}{σ:St}
theorem Inv.know_new {H H2:Hp}{s s2:Shared}(I:Inv X pins σ H s)(J:Inv X pins σ H2 s2){e:Addr}{o:HO}(he:s.heap.objs.size<=e)(hn:H2 e=none)(ho:AN X.prog X.w (upd H2 e o) s2.heap e o):Inv X pins σ (upd H2 e o) s2:=by
 have n0:s.heap.get? e=none:=Heap.get?_none_of_le he;obtain⟨m,hm,_⟩:=id I.loc;obtain⟨oL,_,_,hoL,_⟩:=id hm;exact J.know (fun xx=>by
   cases q:X.s₀.heap.get? e with
   |none=>rfl
   |some o=>
    obtain⟨o',z⟩:=I.base.there e o q xx;rw[n0] at z;cases z) (fun z=>by rw[<-z,n0] at hoL;cases hoL) (fun x c q z=>by
   obtain⟨w',oc,e1,_⟩:=I.cell x c q;rw[z,n0] at e1;cases e1) (fun p hp z=>by
   have:=(I.pin p hp).1;rw[z,n0] at this;cases this) hn ho
theorem JD {H:Hp}{s s2:Shared}(I:Inv X pins σ H s):∀(ts:List Addr) (xs ys:List V) (H2:Hp),Inv X pins σ H2 s2->ts.Nodup->ts.length=xs.length->ts.length=ys.length->(∀(j:Nat) t x y,ts[j]?=some t->xs[j]?=some x->ys[j]?=some y->s.heap.objs.size<=t/\H2 t=none/\∃u v,RelV x u/\RelV y v/\IsPair s2.heap t u v)->
  ∃H3,Inv X pins σ H3 s2/\Am H2 H3/\(∀(j:Nat) t x y,ts[j]?=some t->xs[j]?=some x->ys[j]?=some y->H3 t=some (.tup [x,y]))/\∀b,H2 b=none->b∉ts->H3 b=none
 |[],_,_,H2,J,_,_,_,_=>⟨H2,J,Am.refl _,fun j t x y e=>by simp at e,fun b h _=>h⟩
 |t::ts,[],_,_,_,_,l,_,_=>by cases l
 |t::ts,_::_,[],_,_,_,_,l,_=>by cases l
 |t::ts,x::xs,y::ys,H2,J,nd,l1,l2,hp=>by
  obtain⟨g1,g2,u,v,ru,rv,pp⟩:=hp 0 t x y rfl rfl rfl;have nd':=List.nodup_cons.mp nd;have J2:=I.know_new J g1 g2 (o:=.tup [x,y]) ⟨by show 2<=sizeLine;decide,[u,v],.cons ru (.cons rv .nil),⟨_,pp,rfl,_,rfl,fun _=>rfl⟩⟩;have s2':=Ai g2 (.tup [x,y]);obtain⟨H3,J3,s3,h3,f3⟩:=JD I ts xs ys _ J2 nd'.2 (by simpa using l1) (by simpa using l2) fun j t' x' y' e1 e2 e3=>by
   obtain⟨q1,q2,q3⟩:=hp (j+1) t' x' y' (by simpa using e1) (by simpa using e2) (by simpa using e3);exact⟨q1,by rw[Ag fun z=>nd'.1 (by rw[<-z];exact List.mem_of_getElem? e1)];exact q2,q3⟩
  refine⟨H3,J3,s2'.trans s3,fun j t' x' y' e1 e2 e3=>?_,fun b hb nb=>?_⟩
  ·cases j with
   |zero=>cases e1;cases e2;cases e3;exact s3.get Ac
   |succ j=>exact h3 j t' x' y' (by simpa using e1) (by simpa using e2) (by simpa using e3)
  ·exact f3 b (by rw[Ag fun z=>nb (by rw[z];exact List.mem_cons_self)];exact hb) fun z=>nb (List.mem_cons_of_mem _ z)
theorem U4 (n a b:Nat)(la:a<n)(lb:b<n):(n+2≠n+4/\n+3≠n+4/\n≠n+4/\n+1≠n+4/\n+2≠n+3/\n+2≠n/\n+2≠n+1/\n+3≠n/\n+3≠n+1/\n≠n+1)/\(n+4∉[n,a]/\n+3∉[n,a]/\n+1∉[n,a]/\n+4∉[n+1,b]/\n+3∉[n+1,b]/\n∉[n+1,b])/\a≠n/\b≠n+1:=by
 refine⟨by omega,?_,by omega⟩;simp;omega
theorem Vf (n b:Nat)(h:b<n):b≠n+4/\b≠n+3/\b≠n/\b≠n+1:=by omega
def VF (K:PySem.W.Frag)(k j:Bool)(ta:TA):TE:=fun σ H Q=>ta σ H fun vs H1=>∃(a b:Addr) (xs ys:List V),vs=[.ref a,.ref b]/\VR K k H1 a xs/\VR K j H1 b ys/\ys.length=xs.length/\xs.length<=1000000/\
 ∀(l:Addr) (ts:List Addr) (H':Hp),ts.length=xs.length->(∀(i:Nat) t x y,ts[i]?=some t->xs[i]?=some x->ys[i]?=some y->H' t=some (.tup [x,y]))->Am H1 H'->H1 l=none->H' l=some (.lst (ts.map V.ref))->Q (.ref l) H'
theorem NM {l m:Expr} {ta:TA} {p p' pos pos' kp cp:Pos} {jj} (k j:Bool) (hc:X.calm=true) (hg':Gl X "list") (hm':X.mg "list"=none) (hg:Gl X "zip") (hm:X.mg "zip"=none) (ha:PA X [l,m] ta)
  (he:backTo pos (starEach [l,m] X.env)=(false,eval l X.env)::backTo pos (starEach [m] X.env):=by rfl)
  (hpl:(backTo pos (starEach [l,m] X.env)).any (·.1)=false:=by rfl) :
  PE X (.Call (.Name "list" p') [.Call (.Name "zip" p) [l,m] [⟨some "strict",.Constant (.bool true) jj cp,kp⟩] pos] [] pos') (VF X.K k j ta):=by
 intro pins s σ H Q I h;refine wpAny_Call_Name_kw (Fz I hg' hm' OW ?_);refine PyProof.Rows.callWith_type1 ?_ rfl rfl;refine Calls.spliced_cons (wpAny_Call_Name_kw (Fz I hg hm UN (NI hpl rfl ?_)));have hsp:=ha pos pins s σ H _ I h;rw[he] at hsp ⊢;refine evalArgs_kwB rfl (Ba hsp fun us s1 ⟨vs,H1,I1,r1,q1⟩=>?_);refine kws_cons (wpAny_Constant_bool (kws_nil ?_));obtain⟨a,b,xs,ys,rfl,h1,h2,le,few,q⟩:=q1;obtain⟨u,v,rfl,ru,rv⟩:=vals2 r1;cases ru;cases rv;obtain⟨its,rx,p1⟩:=I1.src k h1;obtain⟨its2,ry,p2⟩:=I1.src j h2;refine PD k j p1 p2 fun h' f1 f2 f3 f4 f5 hk=>Calls.spliced_nil ?_
 have la:a<s1.heap.objs.size:=by cases k<;>exact(let⟨o,e,_⟩:=p1;Heap.lt_size e)
 have lb:b<s1.heap.objs.size:=by cases j<;>exact(let⟨o,e,_⟩:=p2;Heap.lt_size e)
 have p1':Src k h' a its.toArray:=by cases k<;>exact(let⟨o,e,r⟩:=p1;⟨o,hk _ _ e,r⟩)
 have p2':Src j h' b its2.toArray:=by cases j<;>exact(let⟨o,e,r⟩:=p2;⟨o,hk _ _ e,r⟩)
 have lx:=rx.length;have ly:=ry.length;have big:=Heap.lt_size f1;obtain⟨⟨z1,z2,z3,z4,z5,z6,z7,z8,z9,z10⟩,⟨w1,w2,w3,w4,w5,w6⟩,na,nb⟩:=U4 s1.heap.objs.size a b la lb;refine JV (s:={ s1 with heap:=h' }) (I1.ok.hd hc) k j (by simp;omega) (by rw[List.size_toArray,<-lx,sizeLine_eq];omega) f1 f2 f3 f4 f5 p1' p2' ⟨z1,z2,z3,z4,z5,z6,z7,z8,z9,z10,w1,w2,w3,w4,w5,w6⟩ na nb fun h2 tk S c ts leS nd lt tp kp hS=>?_
 have lo:s1.heap.objs.size<=h'.objs.size:=Nat.le_of_lt (Nat.lt_of_le_of_lt (Nat.le_add_right _ 4) big);have leS':s1.heap.objs.size<=S:=Nat.le_trans lo leS;have I2:Inv X pins σ H1 { s1 with heap:=h2,toks:=tk }:=I1.kept (t':=tk) fun b o e=>by
  obtain⟨n1,n2,n3,n4⟩:=Vf _ _ (Heap.lt_size e);exact kp b o n1 n2 n3 n4 (hk b o e)
 have lts:ts.length=xs.length:=by rw[lt,List.size_toArray,lx]
 obtain⟨H3,J3,s3,h3,f3'⟩:=JD I1 ts xs ys H1 I2 nd lts (by rw[lts,le]) fun i t x y e1 e2 e3=>by
  obtain⟨g1,g2,u,v,g3,g4,g5⟩:=tp i t e1;have gt:s1.heap.objs.size<=t:=Nat.le_trans lo g1;obtain⟨u',e4,r4⟩:=rx.get e2;obtain⟨v',e5,r5⟩:=ry.get e3;have eu:u=u':=Option.some.inj (g3.symm.trans (by simpa using e4));have ev:v=v':=Option.some.inj (g4.symm.trans (by simpa using e5));subst eu ev;exact⟨gt,I1.hok.fresh gt,u,v,r4,r5,g5⟩
 have nS:H3 S=none:=f3' S (I1.hok.fresh leS') fun z=>by
  obtain⟨i,e⟩:=List.getElem?_of_mem z;exact(tp i S e).2.1 rfl
 have J4:=I1.know_new J3 leS' nS (o:=.lst (ts.map V.ref)) ⟨by rw[List.length_map,lts,sizeLine_eq];omega,ts.map Value.ref,c,KC ts,hS⟩;have s4:=Ai nS (.lst (ts.map V.ref));exact⟨.ref S,_,J4,rfl,q S ts _ lts (fun i t x y e1 e2 e3=>s4.get (h3 i t x y e1 e2 e3)) (s3.trans s4) (I1.hok.fresh leS') Ac⟩
end
section
variable {P:Program}{w:World}{K:PySem.W.Frag}{mg:Str->Option Value}{base:Heap}{N:List Str}{qual:Str}{scope:Scope}{f:Addr}{cd:Value}{A:Around}{outer:List Env}{s:Shared}{H:Hp}{E:XK}
theorem PB:Xg (BB (NN P w) P w K mg base N qual scope f cd A outer s H E) E:=by
 intro pins σ H1 s1 cls h1 ea vs I hx q;have hfr:=I.ok.frames;obtain⟨t0,ob,_⟩:=hx.there;refine(Gn _ _).also (s:={ s1 with heap:=h1 }) (ON ob ⟨_,rfl,rfl⟩) (wpAny_leaves_madeW (base:=PySem.W.hideAll s1.heap (EH (envOfC qual scope s.heap.objs.size f cd::outer))) (h:=s1.heap) (L:=s.heap.objs.size) hfr rfl (fun b o e=>PySem.W.of_hideAll _ e) I.hidFrames hx fun h' t fl' _ _ up dj'=>?_);have un:=I.made1 (t':=s1.toks) hx fl' up;have J:=I.call' (s':={ s1 with heap:=h' }) (ch:=[]) rfl un (I.hid.kept fl'.1) I.bare (fun b z=>nomatch z);refine⟨ea,cls,H1,_,_,none,rfl,⟨J.os,I.bare,J.base,I.hid,fl',fun b o e n hb=>?_,fun b o e hb=>?_,⟨_,dj'⟩⟩,dj',q⟩
 ·exact PySem.W.hideAll_get _ (I.base.keep b o e n hb (by intro z;cases z)) (Dz I e hb)
 ·obtain⟨o1,e1⟩:=I.base.there b o e (by intro z;cases z);exact⟨o1,PySem.W.hideAll_get _ e1 (Dz I e hb)⟩
end
section
variable {X:Cx}
def Ej (z y:Str):List Str:=match PySem.Builtin.Str.lastOccurrence z y 0 z.length with
 |some i=>[PySem.Builtin.Str.strSub z 0 i,y,PySem.Builtin.Str.strSub z (i+y.length) z.length]
 |none=>[PySem.Str.empty,PySem.Str.empty,z]
def RS:V->List V->Hp->VK->Prop:=fun x vs H Q=>∃z y,x=.str z/\vs=[.str y]/\(y.length == 0)=false/\z.length<=100000/\∀p,H p=none->Q (.ref p) (upd H p (.tup ((Ej z y).map V.str)))
theorem Km:Tw X "str.rpartition" RS:=by
 intro pins s σ H x vs v us Q I rx rv h;obtain⟨z,y,rfl,rfl,hy,hz,q⟩:=h;obtain⟨tk,rfl⟩:=rx;obtain⟨y',rfl,ry⟩:=rv.one;obtain⟨tk2,rfl⟩:=ry;refine call_meets F.slot_str_rpartition (typeIs_str _ _ _) F.entry_str_rpartition (F.args_str_rpartition_2 _ _) (meets_str_rpartition z y tk tk2 hy (small (by omega))) ?_;show EP X pins σ Q _ _;refine⟨.ref s.heap.objs.size,upd H s.heap.objs.size (.tup ((Ej z y).map V.str)),?_,rfl,q _ I.fresh⟩;unfold Ej;cases PySem.Builtin.Str.lastOccurrence z y 0 z.length with
 |none=>exact I.laid (fun b o e=>Heap.get?_push_of_some _ e) (Nat.le_refl _) ⟨by show 3<=sizeLine;decide,_,.cons ⟨_,rfl⟩ (.cons ⟨_,rfl⟩ (.cons ⟨_,rfl⟩ .nil)),⟨_,Heap.get?_push_size _ rfl,rfl,_,rfl,fun _=>rfl⟩⟩
 |some i=>exact I.laid (fun b o e=>Heap.get?_push_of_some _ e) (Nat.le_refl _) ⟨by show 3<=sizeLine;decide,_,.cons ⟨_,rfl⟩ (.cons ⟨_,rfl⟩ (.cons ⟨_,rfl⟩ .nil)),⟨_,Heap.get?_push_size _ rfl,rfl,_,rfl,fun _=>rfl⟩⟩
end
end L2
namespace M06
def wsum:Nat->List Int->Int
 |_,[]=>0
 |k,x::xs=>x*((k:Int)+1)+wsum (k+1) xs
def mk (ns:List Int):Int:=wsum 0 ns%2147483647
def Xd (x:Int):Bool:=decide (0<=x)&&decide (x<=2147483646)
def co (r:List Int)(i:Nat):Int:=if i+1=r.length then -1 else(i:Int)+1
end M06
set_option maxHeartbeats 4000000
namespace K35
local macro_rules | `(!$x) => do
  let (f, a) ← match x with | `($f:ident $a*) => pure (f, a) | `($f:ident) => pure (f, #[]) | _ => Lean.Macro.throwUnsupported
  let some (n, m, t) := ([([`Ae, `AB, `Bp, `Ds, `IU], 1, 0, ""), ([`G4, `EG], 2, 0, ""), ([`Al, `Ek, `JG, `TN, `Ui, `JW, `FV, `RW], 3, 0, ""), ([`UH, `Ar, `JH, `Gk, `K7, `Jn, `Ak, `Bm, `E4, `AG, `Ck, `Ly], 4, 0, ""), ([`Cn], 4, 2, "r"), ([`JJ, `AK, `Gw], 4, 3, "d"), ([`MP], 4, 5, "dd"), ([`Om, `Af, `RN, `OI, `AR, `NC], 5, 0, ""), ([`BU], 5, 2, "f"), ([`Ab, `AF], 5, 3, "r"), ([`G7, `GE, `MQ, `Um], 6, 0, ""), ([`Il, `UX], 6, 4, "r"), ([`Kd], 6, 4, "rr"), ([`OE, `Iw, `AD, `Oo], 7, 0, ""), ([`Qq], 7, 6, "fd"), ([`A7, `Ay, `CW, `Nh], 8, 0, ""), ([`Su, `Cd], 8, 3, "f"), ([`Lh, `AA], 8, 4, "f"), ([`SU], 8, 6, "rr"), ([`QH, `RQ], 9, 0, ""), ([`Lm], 9, 5, "f"), ([`Av, `Dy], 9, 9, "ddrr"), ([`KL, `Fq], 10, 0, ""), ([`BD, `SH], 10, 7, "drr"), ([`Ts], 11, 5, "tr"), ([`NK], 11, 7, "drr"), ([`Jc], 11, 8, "drr"), ([`NM], 11, 10, "rr"), ([`RC, `QL], 12, 0, ""), ([`Hs], 12, 8, "dr"), ([`Ew], 12, 11, "rrrrr"), ([`UB], 13, 7, "d"), ([`BG], 14, 8, "rrr")] : List (List Lean.Name × Nat × Nat × String)).findSome? (fun (l, n) => if l.contains f.getId then some n else none) | Lean.Macro.throwUnsupported
  let u ← `(_)
  let us := Array.replicate n u
  let mut p := #[]
  for c in t.toList.drop (t.length + a.size - m) do
    let v ← if c == 'r' then `(by rfl) else if c == 'd' then `(by decide) else if c == 'f' then `(rfl) else `(by trivial)
    p := p.push v
  `(@$f $us* $a* $p*)
set_option hygiene false
local macro_rules | `(tactic| exists $t) => `(tactic| refine F.ok $t (fun vs H Q E h => ?_) (fun cdv A outer s H vs Q E hr h => ?_))
set_option hygiene true
local macro_rules | `(tactic| trivial) => `(tactic| first | exact .inl rfl | exact .inr rfl | assumption | exact ⟨rfl, rfl, rfl, by decide +kernel, rfl, by decide +kernel, by decide +kernel⟩ | exact L2.Room.mono (by assumption) (by decide))
open PySem L2 M06
theorem LK : 0 <= sizeLine := small (by decide)
theorem Vi : 1 <= sizeLine := small (by decide)
theorem DV : 2 <= sizeLine := small (by decide)
theorem Ge : 3 <= sizeLine := small (by decide)
theorem V0 : 4 <= sizeLine := small (by decide)
def top (i:Nat):Stmt:=PySem.Challenge.pw_stemshelf_k35_trees_refused.main.body.getD i (.Pass ⟨0,0,0,0⟩)
abbrev CO:Stmt:=top 2
theorem Mt:FnScope ["thing"] ["thing"] (Aj CO):=by trivial
abbrev B2:Stmt:=top 3
theorem Ku:FnScope ["thing","least","most"] ["thing","least","most"] (Aj B2):=by trivial
abbrev Cz:Stmt:=top 7
theorem Ls:FnScope ["sign"] ["sign"] (Aj Cz):=by trivial
abbrev DE:Stmt:=top 9
theorem NA:FnScope ["thing","least","most"] ["thing","least","most"] (Aj DE):=by trivial
abbrev BQ:Stmt:=inClass (top 19) 0
theorem Js:FnScope ["self","path"] ["self","path"] (Aj BQ):=by trivial
abbrev BS:Stmt:=top 28
theorem D3:FnScope ["thing","words","part"] ["thing"] (Aj BS):=by trivial
abbrev DB:Stmt:=top 48
theorem Ob:FnScope ["thing"] ["thing"] (Aj DB):=by trivial
abbrev EF:Stmt:=top 54
theorem FU:FnScope ["block","total","number"] ["block"] (Aj EF):=by trivial
abbrev Bz:Stmt:=top 55
theorem BI:FnScope ["block","told","name","kind","tag"] ["block"] (Aj Bz):=by trivial
abbrev Dv:Stmt:=top 56
theorem NW:FnScope ["block"] ["block"] (Aj Dv):=by trivial
abbrev DA:Stmt:=top 57
theorem Oy:FnScope ["block"] ["block"] (Aj DA):=by trivial
abbrev CQ:Stmt:=top 60
theorem IB:FnScope ["path","steps"] ["path"] (Aj CQ):=by trivial
abbrev Dw:Stmt:=top 61
theorem NG:FnScope ["folder","name"] ["folder","name"] (Aj Dw):=by trivial
abbrev CN:Stmt:=top 63
theorem D7:FnScope ["pool","root","path","entry","step"] ["pool","root","path"] (Aj CN):=by trivial
abbrev Bx:Stmt:=top 64
theorem Cm:FnScope ["folder","name","called","kind","tag"] ["folder","name"] (Aj Bx):=by trivial
abbrev B9:Stmt:=top 65
theorem BM:FnScope ["pool","root","path","entry","birth","steps","folders","folder","step"] ["pool","root","path","entry","birth"] (Aj B9):=by trivial
abbrev Bo:Stmt:=top 66
theorem B3:FnScope ["pool","root","path","folders","step","entry"] ["pool","root","path"] (Aj Bo):=by trivial
abbrev BO:Stmt:=top 67
theorem FN:FnScope ["folder","name","entry","entries"] ["folder","name","entry"] (Aj BO):=by trivial
abbrev ED:Stmt:=top 68
theorem Cu:FnScope ["pool","root","found","layer","beneath","path","kind","tag"] ["pool","root"] (Aj ED):=by trivial
abbrev BN:Stmt:=inClass (top 72) 0
theorem JP:FnScope ["self","many"] ["self","many"] (Aj BN):=by trivial
abbrev Bi:Stmt:=inClass (top 82) 0
theorem G1:FnScope ["self","own_tag","block"] ["self","own_tag","block"] (Aj Bi):=by trivial
abbrev Cw:Stmt:=inClass (top 83) 0
theorem Li:FnScope ["self","boards"] ["self","boards"] (Aj Cw):=by trivial
abbrev C2:Stmt:=inClass (top 83) 1
theorem FE:FnScope ["self","block","birth","found","tag"] ["self","block","birth"] (Aj C2):=by trivial
abbrev B8:Stmt:=inClass (top 83) 2
theorem C4:FnScope ["self","block","unread","number","found"] ["self","block"] (Aj B8):=by trivial
abbrev A2:Stmt:=inClass (top 83) 3
theorem Gd:FnScope ["self"] ["self"] (Aj A2):=by trivial
abbrev CC:Stmt:=inClass (top 83) 4
theorem Dt:FnScope ["self","tag","block","cell","same_sum","named"] ["self","tag","block"] (Aj CC):=by trivial
abbrev A8:Stmt:=inClass (top 83) 5
theorem Gy:FnScope ["self","folder"] ["self","folder"] (Aj A8):=by trivial
abbrev Bn:Stmt:=inClass (top 83) 6
theorem EA:FnScope ["self","folder","steps"] ["self","folder"] (Aj Bn):=by trivial
abbrev BY:Stmt:=inClass (top 83) 7
theorem Kk:FnScope ["self","tag"] ["self","tag"] (Aj BY):=by trivial
abbrev CA:Stmt:=inClass (top 83) 8
theorem G2:FnScope ["self","tag","cell"] ["self","tag"] (Aj CA):=by trivial
abbrev CM:Stmt:=inClass (top 83) 14
theorem My:FnScope ["self","number"] ["self","number"] (Aj CM):=by trivial
abbrev Bv:Stmt:=inClass (top 83) 18
theorem IG:FnScope ["self","number"] ["self","number"] (Aj Bv):=by trivial
abbrev CB:Stmt:=inClass (top 83) 19
theorem Ll:FnScope ["self","number"] ["self","number"] (Aj CB):=by trivial
abbrev Bu:Stmt:=top 85
theorem II:FnScope ["_law_script","_law_k"] ["_law_script","_law_k"] (Aj Bu):=by trivial
abbrev CU:Stmt:=top 86
theorem BV:FnScope ["_law_cell","_law_many","_law_found","_law_number","_law_k"] ["_law_cell","_law_many"] (Aj CU):=by trivial
abbrev B0:Stmt:=top 87
theorem Eo:FnScope ["_law_cell","_law_many","_law_names_here","_law_k"] ["_law_cell","_law_many"] (Aj B0):=by trivial
abbrev BZ:Stmt:=top 88
theorem Er:FnScope ["_law_pool","_law_root","_law_path","_law_entry","_law_found","e"] ["_law_pool","_law_root","_law_path","_law_entry"] (Aj BZ):=by trivial
abbrev GW:Stmt:=top 89
theorem A3:FnScope ["_law_script","_law_cell","_law_pool","_law_file","_law_names_here","_law_many","_law_full","_law_inner","_law_rows","_law_root","_law_ahead","_law_row_here","_law_place","_law_name","_law_good","_law_bad","_law_path","_law_entry","_law_paths","_law_there","_law_due","_law_found"] ["_law_script"] (Aj GW):=by trivial
structure Txt (K:W.Frag) (mg:Str->Option Value) (Ah:Addr) (Aa:Addr) (Ad:Addr) (XC:Nat->Addr):Prop where
 cl_Boards:Cls K Ah
 n_Boards_shelves:Bq K Ah "shelves"
 n_Boards_writes:Bq K Ah "writes"
 n_Boards_writes_left:Bq K Ah "writes_left"
 cl_TakenCell:Cls K Aa
 n_TakenCell_own_tag:Bq K Aa "own_tag"
 n_TakenCell_own_size:Bq K Aa "own_size"
 n_TakenCell_named:Bq K Aa "named"
 n_TakenCell_times_named:Bq K Aa "times_named"
 n_TakenCell_entries_beneath:Bq K Aa "entries_beneath"
 n_TakenCell_steps_beneath:Bq K Aa "steps_beneath"
 cl_Pool:Cls K Ad
 n_Pool_boards:Bq K Ad "boards"
 n_Pool_taken:Bq K Ad "taken"
 n_Pool_by_sums:Bq K Ad "by_sums"
 n_Pool_draft:Bq K Ad "draft"
 n_Pool_first_maybe_free:Bq K Ad "first_maybe_free"
 x_NoPath:mg "NoPath"=some (.ref (XC 0))
 x_Lost:mg "Lost"=some (.ref (XC 1))
 x_StemError:mg "StemError"=some (.ref (XC 2))
 x_NoName:mg "NoName"=some (.ref (XC 3))
 x_TooMany:mg "TooMany"=some (.ref (XC 4))
 x_Twice:mg "Twice"=some (.ref (XC 5))
 q_TooMany:W.excIn K (XC 4) [.type "ValueError",.type "Exception",.type "BaseException",.type "object"] "ValueError.__new__"=true
 m_NoPath_StemError:W.exmOne K (.ref (XC 0)) (.ref (XC 2))=some true
 m_TooMany_StemError:W.exmOne K (.ref (XC 4)) (.ref (XC 2))=some true
 e_TooMany:ExcCls K (XC 4)
 i_NoPath:ExiCls K (XC 0)
 f_NoPath:W.findIn K (.ref (XC 0)) "path"=some none
 k_NoPath_NoPath:W.kitOne K (.ref (XC 0)) (.ref (XC 0))=some true
 k_NoPath_ValueError:W.kitOne K (.ref (XC 0)) (.type "ValueError")=some true
 k_NoPath_Lost:W.kitOne K (.ref (XC 0)) (.ref (XC 1))=some false
 k_NoPath_NoName:W.kitOne K (.ref (XC 0)) (.ref (XC 3))=some false
 k_NoPath_TooMany:W.kitOne K (.ref (XC 0)) (.ref (XC 4))=some false
 k_NoPath_Twice:W.kitOne K (.ref (XC 0)) (.ref (XC 5))=some false
 k_TooMany_NoPath:W.kitOne K (.ref (XC 4)) (.ref (XC 0))=some false
 k_TooMany_ValueError:W.kitOne K (.ref (XC 4)) (.type "ValueError")=some true
 k_TooMany_Lost:W.kitOne K (.ref (XC 4)) (.ref (XC 1))=some false
 k_TooMany_NoName:W.kitOne K (.ref (XC 4)) (.ref (XC 3))=some false
 k_TooMany_TooMany:W.kitOne K (.ref (XC 4)) (.ref (XC 4))=some true
 k_TooMany_Twice:W.kitOne K (.ref (XC 4)) (.ref (XC 5))=some false
 b_ValueError:mg "ValueError"=none
 b_abs:mg "abs"=none
 b_all:mg "all"=none
 b_bool:mg "bool"=none
 b_int:mg "int"=none
 b_isinstance:mg "isinstance"=none
 b_len:mg "len"=none
 b_list:mg "list"=none
 b_max:mg "max"=none
 b_range:mg "range"=none
 b_reversed:mg "reversed"=none
 b_sorted:mg "sorted"=none
 b_str:mg "str"=none
 b_sum:mg "sum"=none
 b_tuple:mg "tuple"=none
 b_zip:mg "zip"=none
 c_SIGNS:∃t,mg "SIGNS"=some (.str (PySem.Str.ofString " !\"#$&'()*+,-./0123456789:;<=>?@ABCDEFGHIJKLMNOPQRSTUVWXYZ[\\]^_`abcdefghijklmnopqrstuvwxyz{|}~") t)
 c_NUMBER_WORD:∃t,mg "NUMBER_WORD"=some (.int 0 t)
 c_TEXT_WORD:∃t,mg "TEXT_WORD"=some (.int 1 t)
 c_TUPLE_WORD:∃t,mg "TUPLE_WORD"=some (.int 2 t)
 c_PIECE:∃t,mg "PIECE"=some (.int 0 t)
 c_ROW:∃t,mg "ROW"=some (.int 1 t)
 c_FOLDER:∃t,mg "FOLDER"=some (.int 2 t)
 c_FOLDER_ENTRY:∃t,mg "FOLDER_ENTRY"=some (.int 2 t)
 c_NAME_SIGNS:∃t,mg "NAME_SIGNS"=some (.str (PySem.Str.ofString "0123456789abcdefghijklmnopqrstuvwxyz") t)
 c_MOST_NAME_SIGNS:∃t,mg "MOST_NAME_SIGNS"=some (.int 8 t)
 c_SUM_RESTS:∃t,mg "SUM_RESTS"=some (.int 997 t)
 c_MOST_ENTRIES:∃t,mg "MOST_ENTRIES"=some (.int 16 t)
 c_MOST_STEPS:∃t,mg "MOST_STEPS"=some (.int 8 t)
 c_LEAST_BOARDS:∃t,mg "LEAST_BOARDS"=some (.int 2 t)
 c_MOST_BOARDS:∃t,mg "MOST_BOARDS"=some (.int 4 t)
abbrev SG:Str:=PySem.Str.ofString " !\"#$&'()*+,-./0123456789:;<=>?@ABCDEFGHIJKLMNOPQRSTUVWXYZ[\\]^_`abcdefghijklmnopqrstuvwxyz{|}~"
theorem UO:SG.cps.toList.length=94:=by decide +kernel
theorem SE:∀k:Nat,k<94->PySem.Txt.find SG ⟨#[SG.cps.toList.getD k 0]⟩=(k:Int):=by decide +kernel
section
variable {P:Program}{w:World}{K:W.Frag}{mg:Str->Option Value}{base:Heap}{f Ah Aa Ad:Addr}{XC:Nat->Addr}{fd:FuncData}
def Cv (K:W.Frag):Sp:=fun vs H Q _=>∃v,vs=[v]/\Ok H v/\Q (.bl (Fv H v)) H
theorem MS (T:Txt K mg Ah Aa Ad XC)(F:Fun K "is_whole" "is_whole" CO f fd):FnOk P w K mg base DD 1 f fd ["thing"] (Cv K):=by
 exists Mt
 ·obtain⟨c,rfl,_⟩:=h;rfl
 obtain⟨v,rfl,ok,q⟩:=h;refine⟨_,(!Al (!Ar (!OE (!Av D5 (by rfl) T.b_isinstance AY (!Ab (pv 0) (!Ab (!MP rfl T.b_int On) (!Ae)))) (!Om (!UH (!Av D5 (by rfl) T.b_isinstance AY (!Ab (pv 0) (!Ab (!MP rfl T.b_bool Tc) (!Ae))))))))),?_⟩;exact OU _ _ (fun R q=>⟨_,rfl,_,_,_,_,rfl,ok.ty K,ok.kit K,q⟩) (fun _ R q=>⟨_,rfl,_,_,_,_,rfl,ok.ty K,ok.kit K,_,rfl,q⟩) q
def Ef (K:W.Frag):Sp:=fun vs H Q _=>∃v a b,vs=[v,.int a,.int b]/\Ok H v/\Q (.bl (Sk a b v)) H
theorem Kp (T:Txt K mg Ah Aa Ad XC)(F:Fun K "is_between" "is_between" B2 f fd)(Bl:Def P w K mg base 1 "is_whole" ["thing"] (Cv K)):FnOk P w K mg base DD 2 f fd ["thing","least","most"] (Ef K):=by
 exists Ku
 ·obtain⟨v,a,b,rfl,_⟩:=h;rfl
 obtain⟨v,a,b,rfl,ok,q⟩:=h;refine⟨_,(!Al (!Ar (!OE (!BD Bl (by trivial) rfl (!Ab (pv 0) (!Ae))) (!Om (!RC OR OR (pv 1) (pv 0) (pv 2) (by with_unfolding_all rfl)))))),?_⟩;refine OU (Fv H v) (Sk a b v) (fun R q=>⟨_,rfl,v,rfl,ok,q⟩) (fun hw R q=>?_) ?_
 ·obtain⟨i,rfl⟩:=Ri ok hw;refine⟨_,rfl,_,rfl,_,_,rfl,rfl,_,rfl,?_⟩;refine C8 (fun c=>?_) (fun c=>?_)
  ·have e:Sk a b (.int i)=decide (i<=b):=by show(decide (a<=i)&&decide (i<=b))=_;rw[c];rfl
   rw[e] at q;exact⟨_,rfl,_,_,rfl,rfl,q⟩
  ·have e:Sk a b (.int i)=false:=by show(decide (a<=i)&&decide (i<=b))=_;rw[Bool.eq_false_iff.mpr c];rfl
   rw[e] at q;exact q
 ·cases hw:Fv H v with
  |true=>exact q
  |false=>rw[T5 hw] at q;exact q
def Bg (t:Str)(z:Str):Bool:=(Ap z).all fun c=>decide (c∈Ap t)
def Hh (a b:Int):V->Bool
 | .str z=>decide (a<=(z.length:Int))&&decide ((z.length:Int)<=b)&&Bg SG z
 |_=>false
theorem Rh {H:Hp}{v:V}{a b:Int}(h:isA (Hj H v) "str"=false):Hh a b v=false:=by
 cases v with
 |str z=>exact absurd (show isA "str" "str"=false from h) (by decide)
 |_=>rfl
def GJ (K:W.Frag):Sp:=fun vs H Q _=>∃v a b,vs=[v,.int a,.int b]/\Ok H v/\∀H',Am H H'->Q (.bl (Hh a b v)) H'
theorem KB (t z:Str):((Ap z).map fun c=>V.str ⟨#[c]⟩).map (fun v=>match v with|V.str y=>V.bl (!(Builtin.Str.occurrences t y 0 t.length 1).isEmpty)|_=>V.non)=((Ap z).map fun c=>decide (c∈Ap t)).map V.bl:=by
 rw[List.map_map,List.map_map];refine List.map_congr_left fun c _=>?_
 show V.bl (!(Builtin.Str.occurrences t ⟨#[c]⟩ 0 t.length 1).isEmpty)=V.bl (decide (c∈Ap t));rw[PySem.StrLaws.found_one]
theorem Oz (T:Txt K mg Ah Aa Ad XC)(F:Fun K "is_text" "is_text" DE f fd):FnOk P w K mg base DD 1 f fd ["thing","least","most"] (GJ K):=by
 exists NA
 ·obtain⟨v,a,b,rfl,_⟩:=h;rfl
 obtain⟨v,a,b,rfl,ok,q⟩:=h;refine⟨_,(!Af (!A7 (@PW.pt _ _ _ (!Iw (!JH (!Ek (!Av D5 (by rfl) T.b_isinstance AY (!Ab (pv 0) (!Ab (!MP rfl T.b_str QY) (!Ae)))) (by intro _;rfl))) (!Gk (!JH (!QL OR OR (pv 1) (!Av GS (by rfl) T.b_len DP (!Ab (pv 0) (!Ae))) (pv 2) (by with_unfolding_all rfl)))))) (!Al (!Ar (!K7))) (!AB)) (!Al (!Ar (!Av (Jb rfl) (by rfl) T.b_all NH (!Ab (@CJ _ ["sign"] _ _ _ _ _ _ _ _ _ _ rfl (!Jn (pv 0)) (by decide +kernel) (fun C s H fp=>⟨(@An _ _ (0) _ (show(["sign"]:List Str).Nodup by decide +kernel) rfl (by trivial) (by trivial)),(!Bp),(!Lh KI (pv 0) (!JJ rfl T.c_SIGNS))⟩) (by intro _;rfl)) (!Ae)))))),?_⟩;refine⟨_,rfl,_,_,_,_,rfl,ok.ty K,ok.kit K,_,rfl,?_⟩;cases hw:isA (Hj H v) "str" with
 |false=>
  refine BW rfl ?_;have:=q H (Am.refl _);rw[Rh hw] at this;exact this
 |true=>
  refine AX rfl ?_;obtain⟨z,rfl,hz⟩:=U7 ok hw;have zl:=Az z;refine⟨_,rfl,_,rfl,_,rfl,small (by omega),_,_,rfl,rfl,_,rfl,?_⟩;refine C8 (fun c=>?_) (fun c=>?_)
  ·refine⟨_,rfl,_,_,rfl,rfl,_,rfl,?_⟩;refine C8 (fun d=>?_) (fun d=>?_)
   ·have d':decide ((z.length:Int)<=b)=false:=by simpa using d
    have e:Hh a b (.str z)=false:=by show(decide (a<=(z.length:Int))&&decide ((z.length:Int)<=b)&&Bg SG z)=_;rw[d',Bool.and_false];rfl
    have:=q H (Am.refl _);rw[e] at this;exact this
   ·have d':decide ((z.length:Int)<=b)=true:=by simpa using d
    refine⟨_,rfl,z,rfl,?_⟩;refine comp_map (fun v=>match v with | .str y=>.bl (!(Builtin.Str.occurrences SG y 0 SG.length 1).isEmpty)|_=>.non) FB (by rw[List.length_map];exact Nat.le_trans (Nat.le_of_eq zl) (by omega)) (fun x H' R hx s' hR=>?_) fun l H7 n7 s7 h7=>?_
    ·obtain⟨u,_,rfl⟩:=List.mem_map.mp hx;exact⟨_,rfl,_,_,rfl,rfl,hR H' (Am.refl _)⟩
    rw[KB] at h7;refine⟨l,_,rfl,AW.of h7,?_⟩;have e:Hh a b (.str z)=((Ap z).map fun c=>decide (c∈Ap SG)).all id:=by
     show(decide (a<=(z.length:Int))&&decide ((z.length:Int)<=b)&&Bg SG z)=_;unfold Bg;rw[c,d',List.all_map];rfl
    have:=q H7 s7;rw[e] at this;exact this
  ·have c':decide (a<=(z.length:Int))=false:=Bool.eq_false_iff.mpr c;have e:Hh a b (.str z)=false:=by show(decide (a<=(z.length:Int))&&decide ((z.length:Int)<=b)&&Bg SG z)=_;rw[c',Bool.false_and];rfl
   have:=q H (Am.refl _);rw[e] at this;exact⟨_,rfl,this⟩
abbrev NS:Str:=PySem.Str.ofString "0123456789abcdefghijklmnopqrstuvwxyz"
abbrev LN:Str:=PySem.Str.ofString "abcdefghijklmnopqrstuvwxyz0123456789"
theorem Ra:(∀c∈Ap NS,c∈Ap LN)/\∀c∈Ap LN,c∈Ap NS/\c∈Ap SG:=by decide +kernel
def Bf:V->Bool
 | .str z=>decide ((1:Int)<=z.length)&&decide ((z.length:Int)<=8)&&Bg LN z
 |_=>false
theorem Ld (z:Str):(Bg SG z&&Bg NS z)=Bg LN z:=by
 unfold Bg;rw[Bool.eq_iff_iff,Bool.and_eq_true,List.all_eq_true,List.all_eq_true,List.all_eq_true];simp only[decide_eq_true_eq];exact⟨fun h c hc=>Ra.1 c (h.2 c hc),fun h=>⟨fun c hc=>(Ra.2 c (h c hc)).2,fun c hc=>(Ra.2 c (h c hc)).1⟩⟩
theorem Qx (v:V):Bf v=match v with | .str z=>Hh 1 8 v&&Bg NS z|_=>false:=by
 cases v with
 |str z=>
  show(decide ((1:Int)<=z.length)&&decide ((z.length:Int)<=8)&&Bg LN z)=((decide ((1:Int)<=(z.length:Int))&&decide ((z.length:Int)<=8)&&Bg SG z)&&Bg NS z);rw[<-Ld z];simp only[Bool.and_assoc]
 |_=>rfl
def Gq (K:W.Frag):Sp:=fun vs H Q _=>∃v,vs=[v]/\Ok H v/\∀H',Am H H'->Q (.bl (Bf v)) H'
theorem Nz (T:Txt K mg Ah Aa Ad XC)(F:Fun K "is_name" "is_name" DB f fd)(HS:Def P w K mg base 1 "is_text" ["thing","least","most"] (GJ K)):FnOk P w K mg base DD 2 f fd ["thing"] (Gq K):=by
 exists Ob
 ·obtain⟨v,rfl,_⟩:=h;rfl
 obtain⟨v,rfl,ok,q⟩:=h;refine⟨_,(!Al (!Ar (!OE (!BD HS (by trivial) rfl (!Ab (pv 0) (!Ab (!Ak) (!Ab (!AK rfl T.c_MOST_NAME_SIGNS) (!Ae))))) (!Om (!Av (Jb rfl) (by rfl) T.b_all NH (!Ab (@CJ _ ["sign"] _ _ _ _ _ _ _ _ _ _ rfl (!Jn (pv 0)) (by decide +kernel) (fun C s H fp=>⟨(@An _ _ (0) _ (show(["sign"]:List Str).Nodup by decide +kernel) rfl (by trivial) (by trivial)),(!Bp),(!Lh KI (pv 0) (!JJ rfl T.c_NAME_SIGNS))⟩) (by intro _;rfl)) (!Ae))))))),?_⟩;refine⟨_,rfl,v,1,8,rfl,ok,fun H1 s1=>⟨_,rfl,?_⟩⟩;have en:=Qx v;refine C8 (fun c=>?_) (fun c=>?_)
 ·cases v with
  |str z=>
   have hz:z.length<=1000:=ok;have zl:=Az z;refine⟨_,rfl,z,rfl,?_⟩;refine comp_map (fun v=>match v with | .str y=>.bl (!(Builtin.Str.occurrences NS y 0 NS.length 1).isEmpty)|_=>.non) FB (by rw[List.length_map];exact Nat.le_trans (Nat.le_of_eq zl) (by omega)) (fun x H' R hx s' hR=>?_) fun l H7 n7 s7 h7=>?_
   ·obtain⟨u,_,rfl⟩:=List.mem_map.mp hx;exact⟨_,rfl,_,_,rfl,rfl,hR H' (Am.refl _)⟩
   rw[KB] at h7;refine⟨l,_,rfl,AW.of h7,?_⟩;have e:Bf (.str z)=((Ap z).map fun c=>decide (c∈Ap NS)).all id:=by
    rw[en];show(Hh 1 8 (.str z)&&Bg NS z)=_;rw[c];unfold Bg;rw[List.all_map];rfl
   have:=q H7 (s1.trans s7);rw[e] at this;exact this
  |_=>exact absurd (show false=true from c) Bool.false_ne_true
 ·have e:Bf v=false:=by
   rw[en];cases v with
   |str z=>show(Hh 1 8 (.str z)&&Bg NS z)=false;rw[Bool.eq_false_iff.mpr c];rfl
   |_=>rfl
  have:=q H1 s1;rw[e] at this;exact this
def Dp (K:W.Frag):Sp:=fun vs H Q _=>∃(a:Addr) (ns:List Int) (k:Int),vs=[.ref a,.int k]/\0<=k/\AW K H a (ns.map V.int)/\∀z:Int,Q (.int z) H
theorem IK (T:Txt K mg Ah Aa Ad XC)(F:Fun K "_law_cell_at" "_law_cell_at" Bu f fd):FnOk P w K mg base DD 1 f fd ["_law_script","_law_k"] (Dp K):=by
 exists II
 ·obtain⟨a,ns,k,rfl,_⟩:=h;rfl
 obtain⟨a,ns,k,rfl,hk,hS,q⟩:=h;refine⟨_,(!Af (!A7 (!AA Pc (pv 1) (!Av Be (by rfl) T.b_len DP (!Ab (pv 0) (!Ae))) (AL _)) (!Al (!Ar (!AD Ci (pv 0) (pv 1) (fun _ _=>rfl)))) (!AB)) (!Al (!Ar (!Ak)))),?_⟩;refine⟨_,rfl,_,rfl,a,_,rfl,.inl hS,_,_,rfl,rfl,_,rfl,C8 (fun c=>?_) (fun c=>q 0)⟩;have c':=dec_true c;rw[List.length_map] at c';exact⟨_,rfl,_,rfl,a,_,_,_,rfl,rfl,hS,Vc hk c',q _⟩
def Ca (K:W.Frag):Sp:=fun vs H Q _=>∃u:Str,vs=[.str u]/\0<=PySem.Txt.find SG u/\Q (.int (PySem.Txt.find SG u)) H
theorem LR (T:Txt K mg Ah Aa Ad XC)(F:Fun K "number_of" "number_of" Cz f fd):FnOk P w K mg base DD 1 f fd ["sign"] (Ca K):=by
 exists Ls
 ·obtain⟨u,rfl,_⟩:=h;rfl
 obtain⟨u,rfl,h0,q⟩:=h;refine⟨_,(!Al (!Ar (!Ew PySem.F.plainAttrs_str PySem.F.slot_str_index PySem.F.type_str_index (QE rfl) (!JJ rfl T.c_SIGNS) (!Ab (pv 0) (!Ae))))),?_⟩;exact⟨rfl,_,rfl,_,_,rfl,rfl,h0,q⟩
def FQ:Nat->Tr->Bool
 |0,_=>false
 |_+1,.int i=>decide (0<=i)&&decide (i<=999999999)
 |_+1,.str z=>decide ((z.length:Int)<=400)&&Bg SG z
 |n+1,.tup ts=>decide (ts.length<=100)&&ts.all (FQ n)
 |_+1,_=>false
def All:Addr->Prop:=fun _=>True
def NL:Addr->Prop:=fun _=>False
mutual
theorem Cp {H H':Hp}(k:∀c xs,H c=some (.tup xs)->H' c=some (.tup xs)):∀(t:Tr) (v:V),Rep NL H t v->Rep NL H' t v
 | .non,_,h=>h
 | .bl _,_,h=>h
 | .int _,_,h=>h
 | .str _,_,h=>h
 | .tup ts,_,⟨a,vs,e,ha,hr⟩=>⟨a,vs,e,k a _ ha,Da k ts vs hr⟩
 | .lst _,_,⟨_,_,_,fa,_⟩=>fa.elim
theorem Da {H H':Hp}(k:∀c xs,H c=some (.tup xs)->H' c=some (.tup xs)):∀(ts:List Tr) (vs:List V),Ax NL H ts vs->Ax NL H' ts vs
 |[],_,h=>h
 |t::ts,_,⟨v,us,e,h1,h2⟩=>⟨v,us,e,Cp k t v h1,Da k ts us h2⟩
end
theorem Pj {H:Hp}{t:Tr}{v:V}(h:Rep NL H t v):Rep All H t v:=Rep.mono (fun _ z=>z.elim) t v h
mutual
theorem RB:∀(n:Nat) (t:Tr),FQ n t=true->t.ok
 |0,_,h=>nomatch h
 |n+1,.non,h=>nomatch h
 |n+1,.bl _,h=>nomatch h
 |n+1,.int _,_=>trivial
 |n+1,.str z,h=>by
  have h':(decide ((z.length:Int)<=400)&&Bg SG z)=true:=h;rw[Bool.and_eq_true,decide_eq_true_eq] at h';show z.length<=1000;omega
 |n+1,.tup ts,h=>by
  have h':(decide (ts.length<=100)&&ts.all (FQ n))=true:=h;rw[Bool.and_eq_true,decide_eq_true_eq] at h';exact⟨by omega,OV n ts h'.2⟩
 |n+1,.lst _,h=>nomatch h
theorem OV:∀(n:Nat) (ts:List Tr),ts.all (FQ n)=true->Tr.oks ts
 |_,[],_=>trivial
 |n,t::ts,h=>by
  rw[List.all_cons,Bool.and_eq_true] at h;exact⟨RB n t h.1,OV n ts h.2⟩
end
def idx (c:Nat):Int:=PySem.Txt.find SG ⟨#[c]⟩
theorem JE {c:Nat}(h:c∈Ap SG):0<=idx c/\idx c<94/\SG.cps.toList.getD (idx c).toNat 0=c:=by
 obtain⟨k,hk,e⟩:=List.getElem_of_mem (show c∈SG.cps.toList from h);have hk':k<94:=by rw[UO] at hk;exact hk
 have eg:SG.cps.toList.getD k 0=c:=by simp only[List.getD,List.getElem?_eq_getElem hk,Option.getD_some];exact e
 have:=SE k hk';rw[eg] at this;have ei:idx c=(k:Int):=this;rw[ei];exact⟨by omega,by omega,eg⟩
mutual
def wT:Tr->List Int
 | .int i=>[0,i]
 | .str z=>1::(z.length:Int)::(Ap z).map idx
 | .tup ts=>2::(ts.length:Int)::wTs ts
 |_=>[]
def wTs:List Tr->List Int
 |[]=>[]
 |t::ts=>wT t++wTs ts
end
theorem Lx:∀(a b:List Tr),wTs (a++b)=wTs a++wTs b
 |[],_=>rfl
 |t::a,b=>by
  show wT t++wTs (a++b)=(wT t++wTs a)++wTs b;rw[Lx a b,List.append_assoc]
theorem MR {ts:List Tr}{i:Nat}{t:Tr}(h:ts[i]?=some t):wTs (ts.take (i+1))=wTs (ts.take i)++wT t:=by
 rw[List.take_add_one,h,Lx];show wTs (ts.take i)++(wT t++[])=_;rw[List.append_nil]
theorem UE {ts:List Tr}(i:Nat):(wTs (ts.take i)).length<=(wTs ts).length:=by
 have:=congrArg List.length (Lx (ts.take i) (ts.drop i));rw[List.take_append_drop,List.length_append] at this;omega
theorem Ss {ts:List Tr}{i:Nat}{t:Tr}(h:ts[i]?=some t):(wTs (ts.take i)).length+(wT t).length<=(wTs ts).length:=by
 have:=UE (ts:=ts) (i+1);rw[MR h,List.length_append] at this;exact this
theorem O2 {n:Nat}{z:Str}(h:FQ n (.str z)=true):z.length<=400/\∀c∈Ap z,c∈Ap SG:=by
 cases n with
 |zero=>cases h
 |succ n=>
  have h':(decide ((z.length:Int)<=400)&&Bg SG z)=true:=h;rw[Bool.and_eq_true,decide_eq_true_eq] at h';refine⟨by omega,fun c hc=>?_⟩;have:=List.all_eq_true.mp h'.2 c hc;simpa using this
theorem C3 {n:Nat}{ts:List Tr}(h:FQ (n+1) (.tup ts)=true):ts.length<=100/\∀(i:Nat) t,ts[i]?=some t->FQ n t=true:=by
 have h':(decide (ts.length<=100)&&ts.all (FQ n))=true:=h;rw[Bool.and_eq_true,decide_eq_true_eq] at h';exact⟨h'.1,fun i t ht=>List.all_eq_true.mp h'.2 t (List.mem_of_getElem? ht)⟩
theorem UF (ts:List Tr):wT (.tup ts)=2::(ts.length:Int)::wTs ts:=rfl
def OJ (n:Nat)(K:W.Frag):Sp:=fun vs H Q _=>∃(v:V) (t:Tr),vs=[v]/\Rep NL H t v/\FQ n t=true/\(wT t).length<=900000/\∀l H',Am H H'->H l=none->H' l=some (.lst ((wT t).map V.int))->Q (.ref l) H'
def FJ (K:W.Frag):Sp:=OJ 8 K
theorem Sy (T:Txt K mg Ah Aa Ad XC)(F:Fun K "words_of" "words_of" BS f fd)(Bl:Def P w K mg base 1 "is_whole" ["thing"] (Cv K))(AZ:Def P w K mg base 1 "number_of" ["sign"] (Ca K))(n:Nat)(DQ:Def P w K mg base (1+n) "words_of" ["thing"] (OJ n K)):FnOk P w K mg base DD (1+n+1) f fd ["thing"] (OJ (n+1) K):=by
 exists D3
 ·obtain⟨v,t,rfl,_⟩:=h;rfl
 obtain⟨v,t,rfl,hv,ht,hw,q⟩:=h;have ok:=RB _ _ ht;have okv:=(Pj hv).ok ok;have ety:=(Pj hv).tyN;refine⟨_,(!Af (!A7 (!Ek (!BD Bl (hr.mono (by omega)) rfl (!Ab (pv 0) (!Ae))) (by intro _;rfl)) (!Al (!Ar (!Bm (!Ab (!AK rfl T.c_NUMBER_WORD) (!Ab (pv 0) (!Ae)))))) (!AB)) (!Af (!A7 (!Ek (!Av D5 (by rfl) T.b_isinstance AY (!Ab (pv 0) (!Ab (!MP rfl T.b_str QY) (!Ae)))) (by intro _;rfl)) (!Al (!Ar (!Ay He (!Bm (!Ab (!AK rfl T.c_TEXT_WORD) (!Ab (!Av GS (by rfl) T.b_len DP (!Ab (pv 0) (!Ae))) (!Ae)))) (@CJ _ ["sign"] _ _ _ _ _ _ _ _ _ _ rfl (!Jn (pv 0)) (by decide +kernel) (fun C s H fp=>⟨(@An _ _ (0) _ (show(["sign"]:List Str).Nodup by decide +kernel) rfl (by trivial) (by trivial)),(!Bp),(!BD AZ (hr.mono (by omega)) rfl (!Ab (pv 0) (!Ae)))⟩) (by intro _;rfl))))) (!AB)) (!Af (@As _ _ (1) _ _ _ _ D3.nd rfl (by trivial) (!Bm (!Ab (!AK rfl T.c_TUPLE_WORD) (!Ab (!Av Be (by rfl) T.b_len DP (!Ab (pv 0) (!Ae))) (!Ae)))) (by rfl) (by trivial)) (!Af (!CW PassesOwn.never rfl (!E4 (pv 0)) (@An _ _ (2) _ D3.nd rfl (by trivial) (by trivial)) (!Al (!Cn (!Ew PySem.F.plainAttrs_list PySem.F.slot_list_extend PySem.F.type_list_extend EB (pv 1) (!Ab (!BD DQ (hr.mono (by omega)) rfl (!Ab (pv 2) (!Ae))) (!Ae))))) (by intro _;rfl)) (!Al (!Ar (pv 1))))))),?_⟩;refine⟨_,rfl,v,rfl,okv,_,rfl,?_⟩;cases t with
 |int i=>
  cases(show v=V.int i from hv);refine BW rfl ?_;exact⟨_,rfl,DV,fun l hl=>q l _ (Ai hl _) hl Ac⟩
 |str z=>
  cases(show v=V.str z from hv);obtain⟨zl,zs⟩:=O2 ht;have zc:=Az z;refine AX rfl ?_;refine⟨_,rfl,_,_,_,_,rfl,okv.ty K,okv.kit K,_,rfl,BW (by rw[ety];show isA "str" "str"=true;decide) ?_⟩;refine⟨_,rfl,_,rfl,small (by omega),DV,fun p1 hp1=>?_⟩;refine⟨_,rfl,z,rfl,?_⟩;refine comp_map (fun v=>match v with | .str y=>.int (PySem.Txt.find SG y)|_=>.non) FB (by rw[List.length_map];exact Nat.le_trans (Nat.le_of_eq zc) (by omega)) (fun x H' R hx s' hR=>?_) fun l H7 n7 s7 h7=>?_
  ·obtain⟨u,hu,rfl⟩:=List.mem_map.mp hx;exact⟨_,rfl,_,rfl,(JE (zs u hu)).1,hR H' (Am.refl _)⟩
  have e7:((z.cps.toList.map fun c=>V.str ⟨#[c]⟩).map fun v=>match v with|V.str y=>V.int (PySem.Txt.find SG y)|_=>V.non)=((Ap z).map idx).map V.int:=by
   rw[List.map_map,List.map_map];rfl
  rw[e7] at h7;have s1:=Ai hp1 (.lst [V.int 1,V.int (z.length:Int)]);refine⟨p1,l,_,_,rfl,rfl,AW.of (s7.get Ac),AW.of h7,small (by rw[List.length_map,List.length_map];show 2+_<=_;omega),fun p hp=>?_⟩;exact q p _ ((s1.trans s7).trans (Ai hp _)) ((s1.trans s7).free hp) Ac
 |tup ts=>
  obtain⟨a,vs,rfl,ha,hr'⟩:=hv;have lv:=Ax.len ts vs hr';obtain⟨tl,tt⟩:=C3 ht;rw[UF] at hw q;have hw2:(wTs ts).length<=899998:=by simp only[List.length_cons] at hw;omega
  refine AX (by unfold Fv;rw[ety];rfl) ?_;refine⟨_,rfl,_,_,_,_,rfl,okv.ty K,okv.kit K,_,rfl,AX (by rw[ety];show isA "tuple" "str"=false;decide) ?_⟩;refine⟨_,rfl,a,_,rfl,.inr (A0.of ha),DV,fun g hg=>?_⟩;rw[lv];refine⟨_,rfl,a,rfl,⟨_,A0.of ((Ai hg _).get ha)⟩,L1 (K:=K) (a:=a) (xs:=vs) (fun i σ H2=>∃(v2:Option V),σ=[some (.ref a),some (.ref g),v2]/\Am H H2/\H2 g=some (.lst ((2::(ts.length:Int)::wTs (ts.take i)).map V.int)))
   ⟨none,rfl,Ai hg _,Ac⟩ (fun i σ H2 _ ⟨_,_,s2,_⟩=>A0.of (s2.get ha)) ?_ ?_⟩
  ·rintro i y σ H2 hi ⟨v2,rfl,s2,hg2⟩
   obtain⟨ty,et,ry⟩:=Ax.get hr' hi;have b1:=Ss et;refine⟨_,rfl,.inl ⟨rfl,_,AW.of hg2⟩,_,rfl,y,ty,rfl,Rep.same s2 _ _ ry,tt i ty et,by omega,fun l3 H3 s3 n3 h3=>?_⟩;refine⟨g,l3,_,_,rfl,rfl,s3.get hg2,h3,small (by simp only[List.length_map,List.length_cons];omega),?_⟩;refine⟨_,rfl,AU (s2.trans s3) hg _,?_⟩;rw[Ac,<-List.map_append,MR et];rfl
  ·rintro σ H2 ⟨v2,rfl,s2,hg2⟩
   rw[lv,List.take_of_length_le (Nat.le_refl _)] at hg2;exact⟨_,rfl,q g H2 s2 hg hg2⟩
 |non=>cases n<;>cases ht
 |bl b=>cases n<;>cases ht
 |lst ts=>cases n<;>cases ht
theorem Sq (T:Txt K mg Ah Aa Ad XC)(F:Fun K "words_of" "words_of" BS f fd)(Bl:Def P w K mg base 1 "is_whole" ["thing"] (Cv K))(AZ:Def P w K mg base 1 "number_of" ["sign"] (Ca K))(hm:mg "words_of"=some (.ref f))(hk:W.keepIn K (.ref f)=true)(hb:Binds K fd ["thing"] []):∀n,FnOk P w K mg base DD (1+n) f fd ["thing"] (OJ n K)
 |0=>by
  exists D3
  ·obtain⟨v,t,rfl,_,ht,_⟩:=h;cases ht
  ·obtain⟨v,t,rfl,_,ht,_⟩:=h;cases ht
 |n+1=>Sy T F Bl AZ n ⟨f,fd,Sq T F Bl AZ hm hk hb n,hm,hk,hb⟩
theorem Nl (T:Txt K mg Ah Aa Ad XC)(F:Fun K "words_of" "words_of" BS f fd)(Bl:Def P w K mg base 1 "is_whole" ["thing"] (Cv K))(AZ:Def P w K mg base 1 "number_of" ["sign"] (Ca K))(hm:mg "words_of"=some (.ref f))(hk:W.keepIn K (.ref f)=true)(hb:Binds K fd ["thing"] []):FnOk P w K mg base DD 9 f fd ["thing"] (FJ K):=
 Sq T F Bl AZ hm hk hb 8
def Wz (g:List Int->Option (Tr×List Int)):Nat->List Int->Option (List Tr×List Int)
 |0,ws=>some ([],ws)
 |i+1,ws=>match Wz g i ws with
  |none=>none
  |some (ts,r)=>match g r with
   |none=>none
   |some (t,r')=>some (ts++[t],r')
def RD (x:Int):Nat:=SG.cps.toList.getD x.toNat 0
def Wu:Nat->List Int->Option (List Nat×List Int)
 |0,ws=>some ([],ws)
 |i+1,ws=>match Wu i ws with
  |some (cs,x::r)=>if 0<=x/\x<=93 then some (cs++[RD x],r) else none
  |_=>none
def rd:Nat->List Int->Option (Tr×List Int)
 |0,_=>none
 |n+1,ws=>match ws with
  |[]=>none
  |x::ws1=>if 0<=x/\x<=2 then match ws1 with
    |[]=>none
    |m::r=>if x=0 then(if 0<=m/\m<=999999999 then some (.int m,r) else none)
     else if x=1 then(if 0<=m/\m<=400 then(match Wu m.toNat r with|some (cs,r')=>some (.str ⟨cs.toArray⟩,r')|none=>none) else none)
     else(if 0<=m/\m<=100 then(match Wz (rd n) m.toNat r with|some (ts,r')=>some (.tup ts,r')|none=>none) else none)
   else none
theorem NV {c:Nat}(h:c∈Ap SG):RD (idx c)=c:=(JE h).2.2
theorem Nc:∀(cs:List Nat) (r:List Int),(∀c∈cs,c∈Ap SG)->∀i,i<=cs.length->Wu i (cs.map idx++r)=some (cs.take i,(cs.drop i).map idx++r)
 |cs,r,h,0,_=>rfl
 |cs,r,h,i+1,hi=>by
  have ih:=Nc cs r h i (by omega);obtain⟨c,hc⟩:∃c,cs[i]?=some c:=⟨cs[i],List.getElem?_eq_getElem _⟩
  have hd:cs.drop i=c::cs.drop (i+1):=by rw[List.drop_eq_getElem_cons (by omega)];congr 1;rw[List.getElem?_eq_getElem (by omega)] at hc;exact Option.some.inj hc
  obtain⟨b1,b2,b3⟩:=JE (h c (List.mem_of_getElem? hc));unfold Wu;rw[ih,hd];show(if 0<=idx c/\idx c<=93 then _ else _)=_;rw[if_pos ⟨b1,by omega⟩,List.take_add_one,hc,NV (h c (List.mem_of_getElem? hc))];rfl
theorem Ng {g:List Int->Option (Tr×List Int)}(ts:List Tr)(r:List Int)(hg:∀t∈ts,∀r,g (wT t++r)=some (t,r)):∀i,i<=ts.length->Wz g i (wTs ts++r)=some (ts.take i,wTs (ts.drop i)++r)
 |0,_=>rfl
 |i+1,hi=>by
  have ih:=Ng ts r hg i (by omega);obtain⟨t,ht⟩:∃t,ts[i]?=some t:=⟨ts[i],List.getElem?_eq_getElem _⟩
  have hd:ts.drop i=t::ts.drop (i+1):=by rw[List.drop_eq_getElem_cons (by omega)];congr 1;rw[List.getElem?_eq_getElem (by omega)] at ht;exact Option.some.inj ht
  unfold Wz;rw[ih,hd];show(match g ((wT t++wTs (ts.drop (i+1)))++r) with|none=>none|some (t,r')=>some (ts.take i++[t],r'))=_;rw[List.append_assoc,hg t (List.mem_of_getElem? ht),List.take_add_one,ht];rfl
theorem Mc:∀(n:Nat) (t:Tr) (r:List Int),FQ n t=true->rd n (wT t++r)=some (t,r)
 |0,_,_,h=>nomatch h
 |n+1,.non,_,h=>nomatch h
 |n+1,.bl _,_,h=>nomatch h
 |n+1,.lst _,_,h=>nomatch h
 |n+1,.int i,r,h=>by
  have h':(decide (0<=i)&&decide (i<=999999999))=true:=h;rw[Bool.and_eq_true,decide_eq_true_eq,decide_eq_true_eq] at h';show rd (n+1) (0::i::r)=_;unfold rd;dsimp only;rw[if_pos ⟨by decide,by decide⟩,if_pos rfl,if_pos h']
 |n+1,.str z,r,h=>by
  obtain⟨zl,zs⟩:=O2 h;have zc:=Az z;show rd (n+1) (1::(z.length:Int)::((Ap z).map idx++r))=_;unfold rd;dsimp only;rw[if_pos ⟨by decide,by decide⟩];rw[if_neg (by decide),if_pos rfl,if_pos ⟨by omega,by omega⟩,Nc (Ap z) r zs _ (by omega),List.take_of_length_le (by omega),List.drop_eq_nil_of_le (by omega)];have:(⟨(Ap z).toArray⟩:Str)=z:=D4 rfl;show some (Tr.str ⟨(Ap z).toArray⟩,r)=_;rw[this]
 |n+1,.tup ts,r,h=>by
  obtain⟨tl,tt⟩:=C3 h;have hg:∀t∈ts,∀r,rd n (wT t++r)=some (t,r):=fun t ht r=>by
   obtain⟨i,hi⟩:=List.getElem?_of_mem ht;exact Mc n t r (tt i t hi)
  show rd (n+1) (2::(ts.length:Int)::(wTs ts++r))=_;unfold rd;dsimp only;rw[if_pos ⟨by decide,by decide⟩];rw[if_neg (by decide),if_neg (by decide),if_pos ⟨by omega,by omega⟩,Ng ts r hg _ (by omega),List.take_of_length_le (by omega),List.drop_eq_nil_of_le (by omega)];rfl
theorem NJ {n:Nat}{t u:Tr}(ht:FQ n t=true)(hu:FQ n u=true)(h:wT t=wT u):t=u:=by
 have e1:=Mc n t [] ht;rw[h,Mc n u [] hu] at e1;exact(Prod.mk.inj (Option.some.inj e1)).1.symm
theorem Ph {H:Hp}:∀(n:Nat) (t u:Tr) (v:V),FQ n t=true->FQ n u=true->Rep NL H t v->Rep NL H u v->t=u
 |0,_,_,_,h,_,_,_=>nomatch h
 |n+1,.int i,.int j,v,_,_,h1,h2=>by
  have e1:v=V.int i:=h1;have e2:v=V.int j:=h2;rw[e1] at e2;cases e2;rfl
 |n+1,.int i,.str z,v,_,_,h1,h2=>by
  have e1:v=V.int i:=h1;have e2:v=V.str z:=h2;rw[e1] at e2;cases e2
 |n+1,.int i,.tup ts,v,_,_,h1,⟨a,vs,e2,_⟩=>by
  have e1:v=V.int i:=h1;rw[e1] at e2;cases e2
 |n+1,.str z,.int j,v,_,_,h1,h2=>by
  have e1:v=V.str z:=h1;have e2:v=V.int j:=h2;rw[e1] at e2;cases e2
 |n+1,.str z,.str y,v,_,_,h1,h2=>by
  have e1:v=V.str z:=h1;have e2:v=V.str y:=h2;rw[e1] at e2;cases e2;rfl
 |n+1,.str z,.tup ts,v,_,_,h1,⟨a,vs,e2,_⟩=>by
  have e1:v=V.str z:=h1;rw[e1] at e2;cases e2
 |n+1,.tup ts,.int j,v,_,_,⟨a,vs,e1,_⟩,h2=>by
  have e2:v=V.int j:=h2;rw[e1] at e2;cases e2
 |n+1,.tup ts,.str y,v,_,_,⟨a,vs,e1,_⟩,h2=>by
  have e2:v=V.str y:=h2;rw[e1] at e2;cases e2
 |n+1,.tup ts,.tup us,v,ht,hu,⟨a,vs,e1,ha,r1⟩,⟨b,ws,e2,hb,r2⟩=>by
  subst e1;cases e2;rw[ha] at hb;cases hb;obtain⟨_,tt⟩:=C3 ht;obtain⟨_,tu⟩:=C3 hu;have l1:=Ax.len ts vs r1;have l2:=Ax.len us vs r2;have:ts=us:=by
   refine List.ext_getElem? fun i=>?_
   by_cases hi:i<vs.length
   ·obtain⟨t1,g1,p1⟩:=Ax.get r1 (List.getElem?_eq_getElem hi);obtain⟨t2,g2,p2⟩:=Ax.get r2 (List.getElem?_eq_getElem hi);rw[g1,g2,Ph n t1 t2 _ (tt i t1 g1) (tu i t2 g2) p1 p2]
   ·rw[List.getElem?_eq_none (by omega),List.getElem?_eq_none (by omega)]
  rw[this]
 |n+1,.non,_,_,h,_,_,_=>nomatch h
 |n+1,.bl _,_,_,h,_,_,_=>nomatch h
 |n+1,.lst _,_,_,h,_,_,_=>nomatch h
 |n+1,.int _,.non,_,_,h,_,_=>nomatch h
 |n+1,.int _,.bl _,_,_,h,_,_=>nomatch h
 |n+1,.int _,.lst _,_,_,h,_,_=>nomatch h
 |n+1,.str _,.non,_,_,h,_,_=>nomatch h
 |n+1,.str _,.bl _,_,_,h,_,_=>nomatch h
 |n+1,.str _,.lst _,_,_,h,_,_=>nomatch h
 |n+1,.tup _,.non,_,_,h,_,_=>nomatch h
 |n+1,.tup _,.bl _,_,_,h,_,_=>nomatch h
 |n+1,.tup _,.lst _,_,_,h,_,_=>nomatch h
theorem C5 {n:Nat}{t u:Tr}(ht:FQ n t=true)(hu:FQ n u=true){b:Bool}(h:b=true↔t=u):decide (wT t=wT u)=b:=by
 rw[Bool.eq_iff_iff,decide_eq_true_eq,h];exact⟨NJ ht hu,fun e=>by rw[e]⟩
theorem Mq {n:Nat}{ts us:List Tr}(ht:FQ (n+1) (.tup ts)=true)(hu:FQ (n+1) (.tup us)=true):decide (wT (.tup ts)=wT (.tup us))=((List.range (min ts.length us.length)).all (fun j=>decide (wT (ts.getD j .non)=wT (us.getD j .non)))&&ts.length == us.length):=by
 obtain⟨_,tt⟩:=C3 ht;obtain⟨_,tu⟩:=C3 hu;refine C5 ht hu ?_;rw[Bool.and_eq_true,List.all_eq_true,beq_iff_eq];constructor
 ·rintro⟨h1,h2⟩
  congr 1
  refine List.ext_getElem? fun i=>?_
  by_cases hi:i<ts.length
  ·have e:=h1 i (List.mem_range.mpr (by omega));obtain⟨t1,g1⟩:∃t1,ts[i]?=some t1:=⟨ts[i],List.getElem?_eq_getElem hi⟩
   obtain⟨t2,g2⟩:∃t2,us[i]?=some t2:=⟨us[i]'(by omega),List.getElem?_eq_getElem _⟩
   simp only[List.getD,g1,g2,Option.getD_some,decide_eq_true_eq] at e;rw[g1,g2,NJ (tt i t1 g1) (tu i t2 g2) e]
  ·rw[List.getElem?_eq_none (by omega),List.getElem?_eq_none (by omega)]
 ·intro h;cases h;exact⟨fun i _=>decide_eq_true rfl,rfl⟩
section
variable {X:Cx}{pins:List (Addr×Obj)}{σ:St}{H:Hp}{s:Shared}
theorem RA (I:Inv X pins σ H s):∀(n:Nat) (t u:Tr) (A:Around) (v w:V) (vv ww:Value),FQ n t=true->FQ n u=true->A.units+n<cLine->Rep NL H t v->Rep NL H u w->RelV v vv->RelV w ww->SeqAt.EqAt A s vv ww (decide (wT t=wT u))
 |0,_,_,_,_,_,_,_,h,_,_,_,_,_,_=>nomatch h
 |n+1,t,u,A,v,w,vv,ww,ht,hu,hA,h1,h2,r1,r2=>by
  cases t with
  |int i=>
   cases(show v=V.int i from h1);obtain⟨t1,rfl⟩:=r1;cases u with
   |int j=>
    cases(show w=V.int j from h2);obtain⟨t2,rfl⟩:=r2;rw[C5 ht hu (b:=i == j) (by rw[beq_iff_eq];exact⟨fun e=>by rw[e],fun e=>by cases e;rfl⟩)];exact SeqAt.EqAt.int_int i t1 j t2
   |str z=>
    cases(show w=V.str z from h2);obtain⟨t2,rfl⟩:=r2;rw[C5 ht hu (b:=false) ⟨(fun e=>nomatch e),(fun e=>nomatch e)⟩];exact SeqAt.EqAt.int_str i t1 z t2
   |tup us=>
    obtain⟨b,ws,rfl,hb,_⟩:=h2;cases r2;obtain⟨its,_,p,_⟩:=I.tuple (A0.of (K:=X.K) hb);rw[C5 ht hu (b:=false) ⟨(fun e=>nomatch e),(fun e=>nomatch e)⟩];exact SeqAt.EqAt.int_tuple i t1 p (by omega)
   |non=>cases hu
   |bl _=>cases hu
   |lst _=>cases hu
  |str y=>
   cases(show v=V.str y from h1);obtain⟨t1,rfl⟩:=r1;cases u with
   |int j=>
    cases(show w=V.int j from h2);obtain⟨t2,rfl⟩:=r2;rw[C5 ht hu (b:=false) ⟨(fun e=>nomatch e),(fun e=>nomatch e)⟩];exact SeqAt.EqAt.str_int y t1 j t2
   |str z=>
    cases(show w=V.str z from h2);obtain⟨t2,rfl⟩:=r2;rw[C5 ht hu (b:=y == z) (by rw[beq_iff_eq];exact⟨fun e=>by rw[e],fun e=>by cases e;rfl⟩)];exact SeqAt.EqAt.str_str y t1 z t2
   |tup us=>
    obtain⟨b,ws,rfl,hb,_⟩:=h2;cases r2;obtain⟨its,_,p,_⟩:=I.tuple (A0.of (K:=X.K) hb);rw[C5 ht hu (b:=false) ⟨(fun e=>nomatch e),(fun e=>nomatch e)⟩];exact SeqAt.EqAt.str_tuple y t1 p (by omega)
   |non=>cases hu
   |bl _=>cases hu
   |lst _=>cases hu
  |tup ts=>
   obtain⟨a,vs,rfl,ha,hr1⟩:=h1;cases r1;obtain⟨its,rv1,p1,_⟩:=I.tuple (A0.of (K:=X.K) ha);cases u with
   |int j=>
    cases(show w=V.int j from h2);obtain⟨t2,rfl⟩:=r2;rw[C5 ht hu (b:=false) ⟨(fun e=>nomatch e),(fun e=>nomatch e)⟩];exact SeqAt.EqAt.tuple_int j t2 p1 (by omega)
   |str z=>
    cases(show w=V.str z from h2);obtain⟨t2,rfl⟩:=r2;rw[C5 ht hu (b:=false) ⟨(fun e=>nomatch e),(fun e=>nomatch e)⟩];exact SeqAt.EqAt.tuple_str z t2 p1 (by omega)
   |tup us=>
    obtain⟨b,ws,rfl,hb,hr2⟩:=h2;cases r2;obtain⟨its2,rv2,p2,_⟩:=I.tuple (A0.of (K:=X.K) hb)
    by_cases hab:a=b
    ·subst hab;have:=Ph (n+1) (.tup ts) (.tup us) (.ref a) ht hu ⟨a,vs,rfl,ha,hr1⟩ ⟨a,ws,rfl,hb,hr2⟩;rw[this,decide_eq_true rfl];exact SeqAt.EqAt.same _
    obtain⟨_,tt⟩:=C3 ht;obtain⟨_,tu⟩:=C3 hu;have l1:=rv1.length.symm.trans (Ax.len ts vs hr1);have l2:=rv2.length.symm.trans (Ax.len us ws hr2);have q:=SeqAt.RcAt.tuples (A:=A) (s:=s) (e:=fun j=>decide (wT (ts.getD j .non)=wT (us.getD j .non))) p1 p2 (by omega) (fun j g1 g2=>by
     have g1':j<its.length:=by simpa using g1
     have g2':j<its2.length:=by simpa using g2
     have lv1:=rv1.length;have lv2:=rv2.length;obtain⟨x1,hx1⟩:∃x1,vs[j]?=some x1:=⟨vs[j]'(by omega),List.getElem?_eq_getElem _⟩
     obtain⟨x2,hx2⟩:∃x2,ws[j]?=some x2:=⟨ws[j]'(by omega),List.getElem?_eq_getElem _⟩
     obtain⟨y1,hy1,ry1⟩:=rv1.get hx1;obtain⟨y2,hy2,ry2⟩:=rv2.get hx2;obtain⟨t1,e1,p1'⟩:=Ax.get hr1 hx1;obtain⟨t2,e2,p2'⟩:=Ax.get hr2 hx2;have:=RA I n t1 t2 A.in1 x1 x2 y1 y2 (tt j t1 e1) (tu j t2 e2) (by show A.units+1+n<cLine;omega) p1' p2' ry1 ry2;rw[List.getElem?_eq_getElem g1'] at hy1;rw[List.getElem?_eq_getElem g2'] at hy2;cases hy1;cases hy2;simp only[List.getD,e1,e2,Option.getD_some];simpa using this)
    rw[Mq ht hu];simp only[List.size_toArray,l1,l2] at q;exact SeqAt.EqAt.of_refs hab q
   |non=>cases hu
   |bl _=>cases hu
   |lst _=>cases hu
  |non=>cases ht
  |bl _=>cases ht
  |lst _=>cases ht
end
section
variable {X:Cx}
def WH (neg:Bool):R2:=fun x y H Q=>∃t u,FQ 8 t=true/\FQ 8 u=true/\Rep NL H t x/\Rep NL H u y/\Q (.bl (if neg then !decide (wT t=wT u) else decide (wT t=wT u))) H
theorem Rq {pins:List (Addr×Obj)} {σ:St} {H:Hp} {s:Shared} (I:Inv X pins σ H s) {n:Nat} {A:Around} {ts us:List Tr} {vs ws:List V} {its its2:List Value} (hA:A.units+1+n<cLine) (tt:∀(i:Nat) t,ts[i]?=some t->FQ n t=true) (tu:∀(i:Nat) t,us[i]?=some t->FQ n t=true)
  (hr1:Ax NL H ts vs) (hr2:Ax NL H us ws) (rv1:Aw vs its) (rv2:Aw ws its2) (j:Nat) (g1:j<its.toArray.size) (g2:j<its2.toArray.size):SeqAt.EqAt A.in1 s its.toArray[j] its2.toArray[j] (decide (wT (ts.getD j .non)=wT (us.getD j .non))):=by
 have g1':j<its.length:=by simpa using g1
 have g2':j<its2.length:=by simpa using g2
 have lv1:=rv1.length;have lv2:=rv2.length;obtain⟨x1,hx1⟩:∃x1,vs[j]?=some x1:=⟨vs[j]'(by omega),List.getElem?_eq_getElem _⟩
 obtain⟨x2,hx2⟩:∃x2,ws[j]?=some x2:=⟨ws[j]'(by omega),List.getElem?_eq_getElem _⟩
 obtain⟨y1,hy1,ry1⟩:=rv1.get hx1;obtain⟨y2,hy2,ry2⟩:=rv2.get hx2;obtain⟨t1,e1,p1'⟩:=Ax.get hr1 hx1;obtain⟨t2,e2,p2'⟩:=Ax.get hr2 hx2;have:=RA I n t1 t2 A.in1 x1 x2 y1 y2 (tt j t1 e1) (tu j t2 e2) (by show A.units+1+n<cLine;omega) p1' p2' ry1 ry2;rw[List.getElem?_eq_getElem g1'] at hy1;rw[List.getElem?_eq_getElem g2'] at hy2;cases hy1;cases hy2;simp only[List.getD,e1,e2,Option.getD_some];simpa using this
theorem UV (hu9:X.A.units+150<cLine):Gi X (compareOp .Eq) (WH false):=by
 intro pins s σ H x y v u Q I rx ry h;obtain⟨t,w,ht,hw,h1,h2,q⟩:=h;have fin:∀b:Bool,decide (wT t=wT w)=b->SeqAt.RcAt X.A s v u b->wpAny (model X.prog X.w) X.A (compareOp .Eq v u) (EP X pins σ Q) X.xe s:=fun b e r=>by
  rw[e] at q;exact r _ _ _ _ ⟨.bl _,H,I,rfl,q⟩
 cases t with
 |int i=>
  cases(show x=V.int i from h1);obtain⟨t1,rfl⟩:=rx;cases w with
  |int j=>
   cases(show y=V.int j from h2);obtain⟨t2,rfl⟩:=ry;exact fin (i == j) (C5 ht hw (by rw[beq_iff_eq];exact⟨fun e=>by rw[e],fun e=>by cases e;rfl⟩)) (SeqAt.RcAt.int_int i t1 j t2)
  |str z=>
   cases(show y=V.str z from h2);obtain⟨t2,rfl⟩:=ry;exact fin false (C5 ht hw ⟨(fun e=>nomatch e),(fun e=>nomatch e)⟩) (SeqAt.RcAt.int_str i t1 z t2)
  |tup us=>
   obtain⟨b,ws,rfl,hb,_⟩:=h2;cases ry;obtain⟨its,_,p,_⟩:=I.tuple (A0.of (K:=X.K) hb);exact fin false (C5 ht hw ⟨(fun e=>nomatch e),(fun e=>nomatch e)⟩) (SeqAt.RcAt.int_tuple i t1 p (by omega))
  |non=>cases hw
  |bl _=>cases hw
  |lst _=>cases hw
 |str a=>
  cases(show x=V.str a from h1);obtain⟨t1,rfl⟩:=rx;cases w with
  |int j=>
   cases(show y=V.int j from h2);obtain⟨t2,rfl⟩:=ry;exact fin false (C5 ht hw ⟨(fun e=>nomatch e),(fun e=>nomatch e)⟩) (SeqAt.RcAt.str_int a t1 j t2)
  |str z=>
   cases(show y=V.str z from h2);obtain⟨t2,rfl⟩:=ry;exact fin (a == z) (C5 ht hw (by rw[beq_iff_eq];exact⟨fun e=>by rw[e],fun e=>by cases e;rfl⟩)) (SeqAt.RcAt.str_str a t1 z t2)
  |tup us=>
   obtain⟨b,ws,rfl,hb,_⟩:=h2;cases ry;obtain⟨its,_,p,_⟩:=I.tuple (A0.of (K:=X.K) hb);exact fin false (C5 ht hw ⟨(fun e=>nomatch e),(fun e=>nomatch e)⟩) (SeqAt.RcAt.str_tuple a t1 p (by omega))
  |non=>cases hw
  |bl _=>cases hw
  |lst _=>cases hw
 |tup ts=>
  obtain⟨a,vs,rfl,ha,hr1⟩:=h1;cases rx;obtain⟨its,rv1,p1,_⟩:=I.tuple (A0.of (K:=X.K) ha);cases w with
  |int j=>
   cases(show y=V.int j from h2);obtain⟨t2,rfl⟩:=ry;exact fin false (C5 ht hw ⟨(fun e=>nomatch e),(fun e=>nomatch e)⟩) (SeqAt.RcAt.tuple_int j t2 p1 (by omega))
  |str z=>
   cases(show y=V.str z from h2);obtain⟨t2,rfl⟩:=ry;exact fin false (C5 ht hw ⟨(fun e=>nomatch e),(fun e=>nomatch e)⟩) (SeqAt.RcAt.tuple_str z t2 p1 (by omega))
  |tup us=>
   obtain⟨b,ws,rfl,hb,hr2⟩:=h2;cases ry;obtain⟨its2,rv2,p2,_⟩:=I.tuple (A0.of (K:=X.K) hb);have l1:=rv1.length.symm.trans (Ax.len ts vs hr1);have l2:=rv2.length.symm.trans (Ax.len us ws hr2);have r:=SeqAt.RcAt.tuples (A:=X.A) (s:=s) (e:=fun j=>decide (wT (ts.getD j .non)=wT (us.getD j .non))) p1 p2 (by omega) (fun j g1 g2=>Rq I (n:=7) (by omega) (C3 ht).2 (C3 hw).2 hr1 hr2 rv1 rv2 j g1 g2);simp only[List.size_toArray,l1,l2] at r;exact fin _ (Mq ht hw) r
  |non=>cases hw
  |bl _=>cases hw
  |lst _=>cases hw
 |non=>cases ht
 |bl _=>cases ht
 |lst _=>cases ht
end
theorem Jx (T:Txt K mg Ah Aa Ad XC)(F:Fun K "__init__" "NoPath.__init__" BQ f fd):FnOk P w K mg base DD 1 f fd ["self","path"] (QS (XC 0) "path"):=by
 exists Js
 ·obtain⟨e,y,rfl,_⟩:=h;rfl
 obtain⟨e,y,rfl,he,q⟩:=h;refine⟨_,(!Al (!Su (pv 0) (pv 1))),?_⟩;exact⟨_,rfl,_,rfl,e,XC 0,rfl,he,T.i_NoPath,T.f_NoPath,q⟩
abbrev SL:Str:=PySem.Str.ofString "/"
abbrev EM:Str:=PySem.Str.ofString ""
def By (ss:List Str):Bool:=decide (ss.length<=8)&&ss.all fun z=>Bf (.str z)
def C9 (K:W.Frag)(XC:Nat->Addr):Sp:=fun vs H Q E=>∃z,vs=[.str z]/\z.length<=1000/\(z=EM->∀l H',Am H H'->H l=none->H' l=some (.lst [])->Q (.ref l) H')/\
 (z≠EM->By (PySem.Txt.split z SL)=true->∀l H',Am H H'->H l=none->H' l=some (.lst ((PySem.Txt.split z SL).map V.str))->Q (.ref l) H')/\
 (z≠EM->By (PySem.Txt.split z SL)=false->∀H' dx,Am H H'->H' dx=none->E (.ref (XC 0)) (some dx) (upd H' dx (.xd [("path",.str z)])))
theorem Nk (T:Txt K mg Ah Aa Ad XC)(F:Fun K "steps_in" "steps_in" CQ f fd)(A5:RT P w K mg base 1 "NoPath" (XC 0) "path" ["self","path"])(HX:Def P w K mg base 2 "is_name" ["thing"] (Gq K)):FnOk P w K mg base (NN P w) 3 f fd ["path"] (C9 K XC):=by
 refine F.okE IB (fun vs H Q E h=>?_) (fun cdv A outer s H vs Q E hr h=>?_)
 ·obtain⟨z,rfl,_⟩:=h;rfl
 obtain⟨z,rfl,hz,q0,q1,q2⟩:=h;have hu:=Cf hr;refine⟨_,(!Af (!A7 (!AA Dq (pv 0) (!AG) (AL _)) (!Al (!Ar (!Bm (!Ae)))) (!AB)) (!Af (@As _ _ (1) _ _ _ _ IB.nd rfl (by trivial) (!Ew PySem.F.plainAttrs_str PySem.F.slot_str_split PySem.F.type_str_split Q2 (pv 0) (!Ab (!AG) (!Ae))) (by rfl) (by trivial)) (!Af (!A7 (@PW.pt _ _ _ (!Iw (!AA O5 (!Av Be (by rfl) T.b_len DP (!Ab (pv 1) (!Ae))) (!AK rfl T.c_MOST_STEPS) (AL _)) (!Gk (!JH (!Ek (!Av (Jb rfl) (by rfl) T.b_all NH (!Ab (@CJ _ ["step"] _ _ _ _ _ _ _ _ _ _ rfl (!Ck (pv 1)) (by decide +kernel) (fun C s H fp=>⟨(@An _ _ (0) _ (show(["step"]:List Str).Nodup by decide +kernel) rfl (by trivial) (by trivial)),(!Bp),(!BD HX (by trivial) rfl (!Ab (pv 0) (!Ae)))⟩) (by intro _;rfl)) (!Ae))) (by intro _;rfl)))))) (!Al (!Hs Gs rfl A5 (by trivial) rfl (!Ab (pv 0) (!Ae)))) (!AB)) (!Al (!Ar (pv 1)))))),?_⟩
 try dsimp only[BB,Cx.nox,Cx.wish]
 refine⟨_,rfl,rfl,_,rfl,C8 (fun c=>?_) (fun c=>?_)⟩
 ·have c':V.str z=V.str EM:=dec_true c;exact⟨LK,fun l hl=>q0 (V.str.inj c') l _ (Ai hl _) hl Ac⟩
 have ne:z≠EM:=fun e=>dec_false c (by rw[e])
 refine⟨_,rfl,rfl,z,SL,rfl,rfl,rfl,by omega,fun p hp=>?_⟩;have s1:=Ai hp (.lst ((PySem.Txt.split z SL).map V.str));have hp1:(upd H p (.lst ((PySem.Txt.split z SL).map V.str))) p=some (.lst ((PySem.Txt.split z SL).map V.str)):=Ac;have short:∀a∈PySem.Txt.split z SL,a.length<=1000:=fun a ha=>Nat.le_trans (PyProof.Rows.part_short ha) hz
 have few:(PySem.Txt.split z SL).length<=1002:=Nat.le_trans (PyProof.Rows.split_le z SL) (by omega);generalize upd H p (.lst ((PySem.Txt.split z SL).map V.str))=H1 at s1 hp1;have fin:∀H',Am H1 H'->By (PySem.Txt.split z SL)=true->Q (.ref p) H':=fun H' s' g=>q1 ne g p H' (s1.trans s') hp (s'.get hp1)
 have out:∀H',Am H1 H'->By (PySem.Txt.split z SL)=false->∀dx,H' dx=none->E (.ref (XC 0)) (some dx) (upd H' dx (.xd [("path",.str z)])):=fun H' s' g dx hd=>q2 ne g H' dx (s1.trans s') hd
 generalize PySem.Txt.split z SL=ss at hp1 short few fin out;refine⟨_,rfl,p,_,rfl,.inl (AW.of hp1),_,_,rfl,rfl,_,rfl,C8 (fun c=>?_) (fun c=>?_)⟩
 ·have c':=of_decide_eq_true c;rw[List.length_map] at c';exact⟨_,rfl,_,rfl,out H1 (Am.refl _) (by unfold By;rw[decide_eq_false (by omega)];rfl)⟩
 have l8:ss.length<=8:=by
  have:=of_decide_eq_false (Bool.eq_false_iff.mpr c);rw[List.length_map] at this;omega
 refine⟨_,rfl,p,rfl,⟨_,AW.of hp1⟩,?_⟩;refine comp_map (fun v=>.bl (Bf v)) (Es (AW.of hp1)) (by rw[List.length_map];omega) (fun x H' R hx s' hR=>?_) fun l H7 n7 s7 h7=>?_
 ·obtain⟨y,hy,rfl⟩:=List.mem_map.mp hx;exact⟨_,rfl,.str y,rfl,short y hy,fun H8 s8=>hR H8 s8⟩
 rw[List.map_map] at h7;have h7':H7 l=some (.lst ((ss.map fun y=>Bf (.str y)).map V.bl)):=by rw[h7,List.map_map];rfl
 have gg:By ss=(ss.map fun y=>Bf (.str y)).all id:=by unfold By;rw[decide_eq_true l8,List.all_map];rfl
 refine⟨l,_,rfl,AW.of h7',_,rfl,?_⟩;rw[<-gg];cases g:By ss with
 |true=>exact AX rfl ⟨_,rfl,fin H7 s7 g⟩
 |false=>exact BW rfl ⟨_,rfl,_,rfl,out H7 s7 g⟩
end
section
variable {P:Program}{w:World}{K:W.Frag}{mg:Str->Option Value}{base:Heap}{f Ah Aa Ad:Addr}{XC:Nat->Addr}{fd:FuncData}
abbrev Lz:=List (Int×List Int)
def VW (b:Lz)(k:Int)(row:List Int):Lz:=if(b.any fun x=>decide (x.1=k))=true then b.map (fun x=>if x.1=k then(x.1,row) else x) else b++[(k,row)]
def P4 (b:Lz)(k:Int):Option (List Int):=(b.find? fun x=>decide (x.1=k)).map (·.2)
def WJ (H:Hp):Key×V->Int×List Int->Prop:=fun kv x=>kv.1=Sum.inl x.1/\∃r,kv.2=.ref r/\H r=some (.lst (x.2.map V.int))
def BR (H:Hp)(kvs:List (Key×V))(b:Lz):Prop:=Paired (WJ H) kvs b
theorem BR.same {H H':Hp}{kvs:List (Key×V)}{b:Lz}(r:BR H kvs b)(s:∀a xs,H a=some (.lst xs)->H' a=some (.lst xs)):BR H' kvs b:=Paired.mapP r fun _ _ ⟨h1,a,h2,h3⟩=>⟨h1,a,h2,s _ _ h3⟩
theorem TR (a k:Int):decide ((Sum.inl a:Key)=Sum.inl k)=decide (a=k):=by
 by_cases e:a=k
 ·rw[e];simp
 ·rw[decide_eq_false e,decide_eq_false fun z=>e (Sum.inl.inj z)]
theorem BR.any {H:Hp}{kvs:List (Key×V)}{b:Lz}(r:BR H kvs b)(k:Int):(kvs.any fun kv=>decide (kv.1=Sum.inl k))=(b.any fun x=>decide (x.1=k)):=by
 unfold BR at r
 induction r with
 |nil=>rfl
 |cons h t ih=>rw[List.any_cons,List.any_cons,ih,h.1,TR]
theorem BR.put {H:Hp}{kvs:List (Key×V)}{b:Lz}(r:BR H kvs b)(k:Int){l:Addr}{row:List Int}(hl:H l=some (.lst (row.map V.int))):BR H (putK kvs (Sum.inl k) (.ref l)) (VW b k row):=by
 unfold putK VW;rw[r.any k]
 by_cases hc:(b.any fun x=>decide (x.1=k))=true
 ·rw[if_pos hc,if_pos hc]
  clear hc
  unfold BR at r ⊢
  induction r with
  |nil=>exact .nil
  |@cons kv x ps qs h t ih=>
   rw[List.map_cons,List.map_cons];refine .cons ?_ ih
   by_cases e:x.1=k
   ·rw[if_pos (by rw[h.1,e]),if_pos e];exact⟨h.1,l,rfl,hl⟩
   ·rw[if_neg (by rw[h.1];exact fun z=>e (Sum.inl.inj z)),if_neg e];exact h
 ·rw[if_neg hc,if_neg hc];exact Paired.snoc r ⟨rfl,l,rfl,hl⟩
theorem BR.get {H:Hp}{kvs:List (Key×V)}{b:Lz}(r:BR H kvs b)(k:Int):(BJ kvs (Sum.inl k)=none/\P4 b k=none)\/∃a row,BJ kvs (Sum.inl k)=some (.ref a)/\P4 b k=some row/\H a=some (.lst (row.map V.int)):=by
 unfold BR at r
 induction r with
 |nil=>exact .inl ⟨rfl,rfl⟩
 |@cons kv x ps qs h t ih=>
  obtain⟨h1,a,h2,h3⟩:=h
  by_cases e:x.1=k
  ·refine .inr ⟨a,x.2,?_,?_,h3⟩
   ·rw[FD (by rw[h1,e]),h2]
   ·unfold P4;rw[List.find?_cons,decide_eq_true e];rfl
  ·have g1:P4 (x::qs) k=P4 qs k:=by unfold P4;rw[List.find?_cons,decide_eq_false e]
   have g2:BJ (kv::ps) (Sum.inl k)=BJ ps (Sum.inl k):=Fy (by rw[h1];exact fun z=>e (Sum.inl.inj z));rw[g1,g2];exact ih
theorem BR.len {H:Hp}{kvs:List (Key×V)}{b:Lz}(r:BR H kvs b):kvs.length=b.length:=Paired.length r
theorem JL {α β:Type}{F G:α->β->Prop}:∀{l₁:List α} {l₂:List β},Paired F l₁ l₂->(∀a∈l₁,∀b,F a b->G a b)->Paired G l₁ l₂
 |_,_,.nil,_=>.nil
 |_,_,.cons r t,f=>.cons (f _ List.mem_cons_self _ r) (JL t fun a ha=>f a (List.mem_cons_of_mem _ ha))
theorem Hy {α β:Type}{F:α->β->Prop}:∀{l₁:List α} {l₂:List β} {i:Nat} {a:α},Paired F l₁ l₂->l₁[i]?=some a->∃b,l₂[i]?=some b/\F a b
 |_,_,_,_,.nil,e=>by simp at e
 |_,_,0,_,.cons r _,e=>by simp at e;subst e;exact⟨_,rfl,r⟩
 |_,_,i+1,a,.cons _ t,e=>by
  obtain⟨b,h1,h2⟩:=Hy (i:=i) (a:=a) t (by simpa using e);exact⟨b,by simpa using h1,h2⟩
def Ta (H:Hp)(ds:List Addr)(bs:List Lz):Prop:=Paired (fun d b=>∃kvs,H d=some (.dK kvs)/\BR H kvs b/\(b.map (·.1)).Nodup) ds bs
theorem Ta.same {H H':Hp}{ds:List Addr}{bs:List Lz}(r:Ta H ds bs)(s:∀a xs,H a=some (.lst xs)->H' a=some (.lst xs))(k:∀d∈ds,∀kvs,H d=some (.dK kvs)->H' d=some (.dK kvs)):Ta H' ds bs:=
 JL r fun d hd _ ⟨kvs,h1,h2,h3⟩=>⟨kvs,k d hd kvs h1,h2.same s,h3⟩
theorem Ta.set {H H':Hp}{d:Addr}{b':Lz}(s:∀a xs,H a=some (.lst xs)->H' a=some (.lst xs))(hd:∃kvs,H' d=some (.dK kvs)/\BR H' kvs b'/\(b'.map (·.1)).Nodup):∀{ds:List Addr} {bs:List Lz},Ta H ds bs->ds.Nodup->(∀e∈ds,e≠d->∀kvs,H e=some (.dK kvs)->H' e=some (.dK kvs))->∀{i:Nat},ds[i]?=some d->Ta H' ds (bs.set i b')
 |_,_,.nil,_,_,i,hi=>by simp at hi
 |_,_,.cons h t,nd,k,0,hi=>by
  simp at hi;subst hi;refine .cons hd (JL t fun e he _ ⟨kvs,h1,h2,h3⟩=>⟨kvs,k e (List.mem_cons_of_mem _ he) (fun z=>(List.nodup_cons.mp nd).1 (z▸he)) kvs h1,h2.same s,h3⟩)
 |e::es,_,.cons h t,nd,k,i+1,hi=>by
  have hi':es[i]?=some d:=by simpa using hi
  obtain⟨kvs,h1,h2,h3⟩:=h;refine .cons ⟨kvs,k e List.mem_cons_self (fun z=>(List.nodup_cons.mp nd).1 (by rw[z];exact List.mem_of_getElem? hi')) kvs h1,h2.same s,h3⟩ ?_;exact Ta.set s hd t (List.nodup_cons.mp nd).2 (fun e' he'=>k e' (List.mem_cons_of_mem _ he')) hi'
def Wa (s:Addr)(n:Int)(lf:V):List (Str×V):=[("shelves",.ref s),("writes",.int n),("writes_left",lf)]
def Qz (Ah:Addr)(H:Hp)(p:Addr)(ds:List Addr)(bs:List Lz)(n:Int)(lf:V):Prop:=∃dx s,H p=some (.ins Ah dx (Wa s n lf))/\H s=some (.lst (ds.map V.ref))/\ds.Nodup/\Ta H ds bs
theorem Qz.len {Ah:Addr}{H:Hp}{p:Addr}{ds:List Addr}{bs:List Lz}{n:Int}{lf:V}(h:Qz Ah H p ds bs n lf):ds.length=bs.length:=by
 obtain⟨_,_,_,_,_,r⟩:=h;exact Paired.length r
def Kb (H H':Hp)(p:Addr)(ds:List Addr):Prop:=∀b o,H b=some o->b≠p->b∉ds->H' b=some o
theorem Qz.kept {Ah:Addr}{H H':Hp}{p q:Addr}{ds es:List Addr}{bs:List Lz}{n:Int}{lf:V}{m:Int}{lf2:V}{cs:List Lz}(h:Qz Ah H q es bs n lf)(g:Qz Ah H p ds cs m lf2)(k:Kb H H' p ds)(hq:q≠p)(ha:∀e∈es,e∉ds):Qz Ah H' q es bs n lf:=by
 obtain⟨dx,s,h1,h2,h3,h4⟩:=h;obtain⟨dx2,s2,g1,g2,g3,g4⟩:=g;have nd:∀{b:Addr} {o:HO},H b=some o->(∀kvs,o≠.dK kvs)->b∉ds:=fun{b o} e z hb=>by
  obtain⟨i,hi,ei⟩:=List.getElem_of_mem hb;obtain⟨c,_,kvs,q1,_⟩:=Hy (i:=i) g4 (by rw[List.getElem?_eq_getElem hi,ei]);rw[e] at q1;exact z kvs (Option.some.inj q1)
 refine⟨dx,s,k q _ h1 hq (nd h1 (by intro kvs z;cases z)),k s _ h2 (Ce h2 g1 (by intro z;cases z)) (nd h2 (by intro kvs z;cases z)),h3,h4.same (fun a xs e=>k a _ e (Ce e g1 (by intro z;cases z)) (nd e (by intro kvs z;cases z))) fun d hd kvs e=>k d _ e (Ce e g1 (by intro z;cases z)) (ha d hd)⟩
theorem Qz.same {Ah:Addr}{H H':Hp}{p:Addr}{ds:List Addr}{bs:List Lz}{n:Int}{lf:V}(h:Qz Ah H p ds bs n lf)(s:Am H H'):Qz Ah H' p ds bs n lf:=by
 obtain⟨dx,s0,h1,h2,h3,h4⟩:=h;exact⟨dx,s0,s.get h1,s.get h2,h3,h4.same (fun a xs e=>s.get e) fun d _ kvs e=>s.get e⟩
theorem Kb.trans {H H1 H2:Hp}{p:Addr}{ds:List Addr}(a:Kb H H1 p ds)(b:Kb H1 H2 p ds):Kb H H2 p ds:=fun c o e h1 h2=>b c o (a c o e h1 h2) h1 h2
theorem Qz.there {Ah:Addr}{H:Hp}{p:Addr}{ds:List Addr}{bs:List Lz}{n:Int}{lf:V}(g:Qz Ah H p ds bs n lf):∀d∈ds,∃kvs,H d=some (.dK kvs):=fun d hb=>by
 obtain⟨_,_,_,_,_,g4⟩:=g;obtain⟨i,hi,ei⟩:=List.getElem_of_mem hb;obtain⟨c,_,kvs,q1,_⟩:=Hy (i:=i) g4 (by rw[List.getElem?_eq_getElem hi,ei]);exact⟨kvs,q1⟩
def DR (K:W.Frag)(Ah:Addr):Sp:=fun vs H Q _=>∃(p dx:Addr) (m:Nat),vs=[.ref p,.int m]/\2<=m/\m<=4/\H p=some (.ins Ah dx [])/\∀H' ds,Qz Ah H' p ds (List.replicate m []) 0 .non->(∀d∈ds,H d=none)->(∀b o,H b=some o->b≠p->H' b=some o)->Q .non H'
theorem Jy (T:Txt K mg Ah Aa Ad XC)(F:Fun K "__init__" "Boards.__init__" BN f fd)(ET:Def P w K mg base 2 "is_between" ["thing","least","most"] (Ef K)):FnOk P w K mg base DD 3 f fd ["self","many"] (DR K Ah):=by
 exists JP
 ·obtain⟨p,dx,m,rfl,_⟩:=h;rfl
 obtain⟨p,dx,m,rfl,m1,m2,h1,q⟩:=h;refine⟨_,(!Af (!A7 (!JH (!Ek (!BD ET (by trivial) rfl (!Ab (pv 1) (!Ab (!AK rfl T.c_LEAST_BOARDS) (!Ab (!AK rfl T.c_MOST_BOARDS) (!Ae))))) (by intro _;rfl))) (!Al (!G4)) (!AB)) (!Af (!Cd (pv 0) (@CJ _ ["board"] _ _ _ _ _ _ _ _ _ _ rfl (!Il rfl T.b_range (!Ab (pv 1) (!Ae))) (by decide +kernel) (fun C s H fp=>⟨(@An _ _ (0) _ (show(["board"]:List Str).Nodup by decide +kernel) rfl (by trivial) (by trivial)),(!Bp),(!EG)⟩) (by intro _;rfl))) (!Af (!Cd (pv 0) (!Ak)) (!Al (!Cd (pv 0) (!JG)))))),?_⟩
 try dsimp only[BB,Cx.nox,Cx.wish]
 refine⟨_,rfl,.int m,2,4,rfl,trivial,_,rfl,AX ?_ ?_⟩
 ·show(!(decide ((2:Int)<=(m:Int))&&decide ((m:Int)<=4)))=false;rw[decide_eq_true (show(2:Int)<=(m:Int) by omega),decide_eq_true (show(m:Int)<=4 by omega)];rfl
 refine⟨_,rfl,m,rfl,by omega,by omega,?_⟩;refine Td (xs:=(List.range (m:Int).toNat).map fun(i:Nat)=>V.int (0+(i:Int))) (fun i ys l H'=>Am H H'/\∃ds:List Addr,ys=ds.map V.ref/\ds.Nodup/\∀d∈ds,H' d=some (.dK [])/\H d=none) (by rw[List.length_map,List.length_range];omega) (fun i ys l H' _=>Va) (fun l hl=>⟨Ai hl _,[],rfl,List.nodup_nil,fun _ h=>nomatch h⟩) (fun i x ys l H' R hx hl hl' hlen hI hR d hd=>?_) fun l H1 ys hl hl1 ly hI=>?_
 ·obtain⟨s',ds,rfl,nd,hds⟩:=hI;have nld:l≠d:=A4 hl' hd;refine hR _ _ (by rw[Ag nld];exact hl') ⟨AU (AU s' (s'.free hd) _) hl _,ds++[d],by rw[List.map_append];rfl,?_,fun e he=>?_⟩
  ·rw[List.nodup_append];refine⟨nd,by simp,fun e he g hg=>?_⟩;rw[List.mem_singleton.mp hg];intro z;have:=(hds e he).1;rw[z,hd] at this;cases this
  ·have nel:∀{o},H' e=some (.dK o)->e≠l:=fun q=>Ce q hl' (by intro z;cases z)
   rcases List.mem_append.mp he with he|he
   ·obtain⟨g1,g2⟩:=hds e he;exact⟨by rw[Ag (nel g1),Ag (A4 g1 hd)];exact g1,g2⟩
   ·rw[List.mem_singleton.mp he];exact⟨by rw[Ag nld.symm,Ac],s'.free hd⟩
 obtain⟨s1,ds,rfl,nd,hds⟩:=hI;have lds:ds.length=m:=by rw[List.length_map,List.length_map,List.length_range] at ly;omega
 have p1:=s1.get h1;have npl:l≠p:=Ce hl1 p1 (by intro z;cases z);refine⟨_,rfl,p,Ah,dx,[],rfl,p1,T.cl_Boards,T.n_Boards_shelves,(by show 0<1000;decide),?_⟩;refine⟨_,rfl,p,Ah,dx,_,rfl,Ac,T.cl_Boards,T.n_Boards_writes,(by show 1<1000;decide),?_⟩;refine⟨_,rfl,p,Ah,dx,_,rfl,Ac,T.cl_Boards,T.n_Boards_writes_left,(by show 2<1000;decide),?_⟩;rw[Ho,Ho];refine q _ ds ⟨dx,l,Ac,by rw[Ag npl];exact hl1,nd,?_⟩ (fun d hd=>(hds d hd).2) fun b o e hb=>?_
 ·have all:∀(es:List Addr),(∀d∈es,d∈ds)->Ta (upd H1 p (.ins Ah dx (DX "writes_left" V.non (DX "writes" (V.int 0) (DX "shelves" (V.ref l) []))))) es (List.replicate es.length []):=by
   intro es
   induction es with
   |nil=>intro _;exact .nil
   |cons d es ih=>
    intro hm;refine .cons ⟨[],?_,.nil,List.nodup_nil⟩ (ih fun e he=>hm e (List.mem_cons_of_mem _ he));have:=(hds d (hm d List.mem_cons_self)).1;rw[Ag (Ce this p1 (by intro z;cases z))];exact this
  have:=all ds fun _ h=>h
  rw[lds] at this;exact this
 ·rw[Ag hb];exact s1.get e
abbrev Tg:=Int×Int×Int
structure En where
 nm:Str
 kd:Int
 tg:Tg
inductive Bk where
 |piece (z:Str)
 |row (lv:Int) (ts:List Tg)
 |folder (es:List En)
def Hq (t:Tg):Tr:=.tup [.int t.1,.int t.2.1,.int t.2.2]
def Jg (e:En):Tr:=.tup [.str e.nm,.int e.kd,Hq e.tg]
def Df:Bk->Tr
 | .piece z=>.tup [.int 0,.str z]
 | .row lv ts=>.tup [.int 1,.int lv,.tup (ts.map Hq)]
 | .folder es=>.tup [.int 2,.tup (es.map Jg)]
def Jl (t:Tg):Prop:=(1<=t.1/\t.1<=999999)/\(0<=t.2.1/\t.2.1<=999999999)/\0<=t.2.2/\t.2.2<=996
def SJ (e:En):Prop:=Bf (.str e.nm)=true/\(1<=e.kd/\e.kd<=2)/\Jl e.tg
def VX (lv:Int)(ts:List Tg):Prop:=ts.length<=8/\(1<lv->ts≠[])/\∀t∈ts,Jl t
def Ke (es:List En):Prop:=es.length<=16/\(∀e∈es,SJ e)/\PyProof.Rows.sortedS (es.map (·.nm))=true/\(es.map (·.nm)).Nodup
def HL:Bk->Prop
 | .piece z=>Hh 1 8 (.str z)=true
 | .row lv ts=>(1<=lv/\lv<=9)/\VX lv ts
 | .folder es=>Ke es
theorem Ln {H:Hp}{t:Tg}{v:V}(h:Rep NL H (Hq t) v):∃a,v=.ref a/\H a=some (.tup [.int t.1,.int t.2.1,.int t.2.2]):=by
 obtain⟨a,vs,rfl,e,x1,u1,rfl,rfl,x2,u2,rfl,rfl,x3,u3,rfl,rfl,rfl⟩:=h;exact⟨a,rfl,e⟩
theorem Oi {H:Hp}{t:Tg}{a:Addr}(e:H a=some (.tup [.int t.1,.int t.2.1,.int t.2.2])):Rep NL H (Hq t) (.ref a):=⟨a,_,rfl,e,_,_,rfl,rfl,_,_,rfl,rfl,_,_,rfl,rfl,rfl⟩
theorem Em {H:Hp}{x:En}{v:V}(h:Rep NL H (Jg x) v):∃a b,v=.ref a/\H a=some (.tup [.str x.nm,.int x.kd,.ref b])/\H b=some (.tup [.int x.tg.1,.int x.tg.2.1,.int x.tg.2.2]):=by
 obtain⟨a,vs,rfl,e,x1,u1,rfl,rfl,x2,u2,rfl,rfl,x3,u3,rfl,r3,rfl⟩:=h;obtain⟨b,rfl,e2⟩:=Ln r3;exact⟨a,b,rfl,e,e2⟩
theorem U2 {H:Hp}{x:En}{a b:Addr}(e:H a=some (.tup [.str x.nm,.int x.kd,.ref b]))(e2:H b=some (.tup [.int x.tg.1,.int x.tg.2.1,.int x.tg.2.2])):Rep NL H (Jg x) (.ref a):=⟨a,_,rfl,e,_,_,rfl,rfl,_,_,rfl,rfl,_,_,rfl,Oi e2,rfl⟩
theorem HI {H:Hp}{z:Str}{v:V}(h:Rep NL H (Df (.piece z)) v):∃a,v=.ref a/\H a=some (.tup [.int 0,.str z]):=by
 obtain⟨a,vs,rfl,e,x1,u1,rfl,rfl,x2,u2,rfl,rfl,rfl⟩:=h;exact⟨a,rfl,e⟩
theorem LJ {H:Hp}{lv:Int}{ts:List Tg}{v:V}(h:Rep NL H (Df (.row lv ts)) v):∃a b vs,v=.ref a/\H a=some (.tup [.int 1,.int lv,.ref b])/\H b=some (.tup vs)/\Ax NL H (ts.map Hq) vs:=by
 obtain⟨a,vs,rfl,e,x1,u1,rfl,rfl,x2,u2,rfl,rfl,x3,u3,rfl,⟨b,us,rfl,e2,r⟩,rfl⟩:=h;exact⟨a,b,us,rfl,e,e2,r⟩
theorem BX {H:Hp}{es:List En}{v:V}(h:Rep NL H (Df (.folder es)) v):∃a b vs,v=.ref a/\H a=some (.tup [.int 2,.ref b])/\H b=some (.tup vs)/\Ax NL H (es.map Jg) vs:=by
 obtain⟨a,vs,rfl,e,x1,u1,rfl,rfl,x2,u2,rfl,⟨b,us,rfl,e2,r⟩,rfl⟩:=h;exact⟨a,b,us,rfl,e,e2,r⟩
theorem FY {α:Type}{g:α->Tr}{H:Hp}{xs:List α}{vs:List V}(h:Ax NL H (xs.map g) vs){v:V}(hv:v∈vs):∃x∈xs,Rep NL H (g x) v:=by
 obtain⟨i,hi,e⟩:=List.getElem_of_mem hv;obtain⟨t,ht,r⟩:=Ax.get h (show vs[i]?=some v by rw[List.getElem?_eq_getElem hi,e]);rw[List.getElem?_map] at ht;cases z:xs[i]? with
 |none=>rw[z] at ht;cases ht
 |some x=>
  rw[z] at ht;cases ht;exact⟨x,List.mem_of_getElem? z,r⟩
theorem RH {t:Tg}(h:Jl t)(n:Nat):FQ (n+2) (Hq t)=true:=by
 obtain⟨⟨a1,a2⟩,⟨b1,b2⟩,c1,c2⟩:=h;simp only[Hq,FQ,List.all_cons,List.all_nil,List.length_cons,List.length_nil,Bool.and_true,Bool.and_eq_true,decide_eq_true_eq];omega
theorem Cq {z:Str}(h:Bf (.str z)=true):1<=z.length/\z.length<=8/\Bg SG z=true/\∀c∈Ap z,c∈Ap SG:=by
 have h':(decide ((1:Int)<=z.length)&&decide ((z.length:Int)<=8)&&Bg LN z)=true:=h;simp only[Bool.and_eq_true,decide_eq_true_eq] at h';have a:Bg SG z=true:=by
  have:=h'.2;rw[<-Ld,Bool.and_eq_true] at this;exact this.1
 refine⟨by omega,by omega,a,fun c hc=>?_⟩;have:=List.all_eq_true.mp a c hc;simpa using this
theorem UZ {x:En}(h:SJ x)(n:Nat):FQ (n+3) (Jg x)=true:=by
 obtain⟨a,b,c⟩:=h;obtain⟨n1,n2,n3,_⟩:=Cq a;have d:=RH c n;simp only[Jg,FQ,List.all_cons,List.all_nil,List.length_cons,List.length_nil,Bool.and_true,Bool.and_eq_true,decide_eq_true_eq,n3,d,and_true];omega
theorem JC {b:Bk}(h:HL b):FQ 8 (Df b)=true:=by
 cases b with
 |piece z=>
  have h':(decide ((1:Int)<=(z.length:Int))&&decide ((z.length:Int)<=8)&&Bg SG z)=true:=h;simp only[Bool.and_eq_true,decide_eq_true_eq] at h';simp only[Df,FQ,List.all_cons,List.all_nil,List.length_cons,List.length_nil,Bool.and_true,Bool.and_eq_true,decide_eq_true_eq,h'.2,and_true];omega
 |row lv ts=>
  obtain⟨l,n,_,o⟩:=h;have d:(ts.map Hq).all (FQ 6)=true:=List.all_eq_true.mpr fun t ht=>by
   obtain⟨x,hx,rfl⟩:=List.mem_map.mp ht;exact RH (o x hx) 4
  simp only[Df,FQ,List.all_cons,List.all_nil,List.length_cons,List.length_nil,List.length_map,Bool.and_true,Bool.and_eq_true,decide_eq_true_eq,d,and_true];omega
 |folder es=>
  obtain⟨n,o,_⟩:=h;have d:(es.map Jg).all (FQ 6)=true:=List.all_eq_true.mpr fun t ht=>by
   obtain⟨x,hx,rfl⟩:=List.mem_map.mp ht;exact UZ (o x hx) 3
  simp only[Df,FQ,List.all_cons,List.all_nil,List.length_cons,List.length_nil,List.length_map,Bool.and_true,Bool.and_eq_true,decide_eq_true_eq,d,and_true];omega
theorem T7 {a b:List Nat}(h1:¬b<a)(h2:¬a<b):a=b:=List.le_antisymm h1 h2
theorem Gm:∀{p:Str} {l:List Str},PyProof.Rows.risingS p l=true->∀x∈l,¬x.cps.toList<p.cps.toList
 |p,y::r,h,x,hx=>by
  have h':=h;rw[PyProof.Rows.risingS,Bool.and_eq_true,PyProof.Rows.ltCps_eq] at h';have h1:¬y.cps.toList<p.cps.toList:=by simpa using h'.1
  rcases List.mem_cons.mp hx with rfl|hx
  ·exact h1
  ·exact List.le_trans h1 (Gm h'.2 x hx)
theorem Iy {x:Str}{l:List Str}(h:PyProof.Rows.sortedS (x::l)=true):PyProof.Rows.sortedS l=true:=by
 cases l with
 |nil=>rfl
 |cons y r=>
  have h':=h;rw[PyProof.Rows.sortedS,PyProof.Rows.risingS,Bool.and_eq_true] at h';exact h'.2
theorem Jo:∀{a b:List Str},a.Perm b->PyProof.Rows.sortedS a=true->PyProof.Rows.sortedS b=true->a=b
 |[],b,p,_,_=>(List.nil_perm.mp p).symm
 |x::a,[],p,_,_=>absurd p.length_eq (by simp)
 |x::a,y::b,p,ha,hb=>by
  have e:x=y:=by
   have m1:x∈y::b:=p.mem_iff.mp List.mem_cons_self;have m2:y∈x::a:=p.mem_iff.mpr List.mem_cons_self;rcases List.mem_cons.mp m1 with e|m1
   ·exact e
   rcases List.mem_cons.mp m2 with e|m2
   ·exact e.symm
   have l1:=Gm (p:=x) (l:=a) ha y m2;have l2:=Gm (p:=y) (l:=b) hb x m1;have:=T7 l1 l2;cases x;cases y;simp only[PySem.Str.mk.injEq];exact Array.toList_inj.mp this
  subst e;rw[Jo p.cons_inv (Iy ha) (Iy hb)]
theorem Py {J:It} {xs:List V} {te:TE} {Q:VK} {σ:St} {H:Hp} (f:V->V) (hJ:HF J H xs) (hn:xs.length<=1000000) (htg:∀x∈xs,∃a x1 x2 x3,x=.ref a/\H a=some (.tup [x1,x2,x3]))
  (helt:∀a x1 x2 x3 (H':Hp) (R:VK),V.ref a∈xs->H a=some (.tup [x1,x2,x3])->Am H H'->(∀H'',Am H' H''->R (f (.ref a)) H'')->te [some x1,some x2,some x3] H' R)
  (hQ:∀l H',H l=none->Am H H'->H' l=some (.lst (xs.map f))->Q (.ref l) H') :
  Di [none,none,none] (Qb K 3 (EE (Au 0) (EE (Au 1) (EE (Au 2) R4)))) Qv te σ Q J H:=by
 intro l hl;refine⟨fun i m σ' H'=>m=xs.length-i/\i<=xs.length/\(∃y0 y1 y2,σ'=[y0,y1,y2])/\Am H H'/\H' l=some (.lst ((xs.take i).map f)),⟨xs.length,by simp,Nat.zero_le _,⟨_,_,_,rfl⟩,Ai hl _,by rw[Ac,List.take_zero,List.map_nil]⟩,?_⟩
 rintro i m σ' H' ⟨rfl,hi,⟨y0,y1,y2,rfl⟩,hs,hl'⟩
 obtain⟨h1,h2,h3⟩:=hJ H' hs i
 by_cases hlt:i<xs.length
 ·refine .inr ⟨h1 hlt,fun x H'' y=>?_⟩;obtain⟨rfl,hx⟩:=h2 x H'' y;have hx:=hx hlt;obtain⟨a,x1,x2,x3,rfl,ha⟩:=htg x (List.mem_of_getElem? hx);refine⟨a,_,rfl,A0.of (hs.get ha),rfl,_,_,rfl,_,_,rfl,_,_,rfl,rfl,?_⟩;refine helt a x1 x2 x3 H'' _ (List.mem_of_getElem? hx) ha hs fun H4 s4=>?_
  refine⟨_,s4.get hl',BF (by rw[List.length_map,List.length_take];omega),xs.length-(i+1),by omega,rfl,hlt,⟨_,_,_,rfl⟩,AU (hs.trans s4) hl _,?_⟩;rw[Ac,List.take_add_one,hx];simp
 ·have e:i=xs.length:=by omega
  subst e;exact .inl ⟨h3 (Nat.le_refl _),hQ l H' hl hs (by rw[hl',List.take_of_length_le (Nat.le_refl _)])⟩
def Dk (x:En):List Int:=(Ap x.nm).map idx++[x.kd,x.tg.2.2]
def told:Bk->List Int
 | .piece z=>(Ap z).map idx
 | .row lv ts=>lv::ts.map (·.2.2)
 | .folder es=>es.flatMap Dk
theorem idx_map (z:Str):((z.cps.toList.map fun c=>V.str ⟨#[c]⟩).map fun v=>match v with|V.str y=>V.int (PySem.Txt.find SG y)|_=>V.non)=((Ap z).map idx).map V.int:=by
 rw[List.map_map,List.map_map];rfl
theorem Na:∀{ts:List Tg} {us:List V} {H:Hp},Ax NL H (ts.map Hq) us->(us.map fun v=>match v with | .ref x=>(match H x with|some (.tup [_,_,y])=>y|_=>.non)|_=>.non)=(ts.map (·.2.2)).map V.int
 |[],us,H,r=>by rw[show us=[] from r];rfl
 |e::es,us,H,r=>by
  obtain⟨v,us',rfl,r1,r2⟩:=r;obtain⟨a,rfl,e1⟩:=Ln r1;rw[List.map_cons,List.map_cons,List.map_cons,Na r2];simp only[e1]
theorem PN {es:List En}{i:Nat}{x:En}(h:es[i]?=some x):(es.take (i+1)).flatMap Dk=(es.take i).flatMap Dk++Dk x:=by
 rw[List.take_add_one,h,List.flatMap_append];simp
theorem Rm {es:List En}(h:∀x∈es,(Dk x).length<=10):(es.flatMap Dk).length<=10*es.length:=by
 induction es with
 |nil=>exact Nat.le_refl _
 |cons x r ih=>
  rw[List.flatMap_cons,List.length_append,List.length_cons];have:=h x List.mem_cons_self;have:=ih fun y hy=>h y (List.mem_cons_of_mem _ hy)
  omega
theorem UM {x:En}(h:SJ x):(Dk x).length<=10:=by
 have:=(Cq h.1).2.1;unfold Dk;rw[List.length_append,List.length_map,Az];show x.nm.length+2<=10;omega
def Dj (K:W.Frag):Sp:=fun vs H Q _=>∃v b,vs=[v]/\Rep NL H (Df b) v/\HL b/\∀l H',Am H H'->H l=none->H' l=some (.lst ((told b).map V.int))->Q (.ref l) H'
theorem IH (T:Txt K mg Ah Aa Ad XC)(F:Fun K "numbers_told" "numbers_told" Bz f fd)(AZ:Def P w K mg base 1 "number_of" ["sign"] (Ca K)):FnOk P w K mg base DD 2 f fd ["block"] (Dj K):=by
 exists BI
 ·obtain⟨v,b,rfl,_⟩:=h;rfl
 obtain⟨v,b,rfl,hv,ok,q⟩:=h;refine⟨_,(!Af (!A7 (!AA Dq (!AD AH (pv 0) (!Ak) (fun _ _=>rfl)) (!AK rfl T.c_PIECE) (AL _)) (!Al (!Ar (@CJ _ ["sign"] _ _ _ _ _ _ _ _ _ _ rfl (!Jn (!AD AH (pv 0) (!Ak) (fun _ _=>rfl))) (by decide +kernel) (fun C s H fp=>⟨(@An _ _ (0) _ (show(["sign"]:List Str).Nodup by decide +kernel) rfl (by trivial) (by trivial)),(!Bp),(!BD AZ (by trivial) rfl (!Ab (pv 0) (!Ae)))⟩) (by intro _;rfl)))) (!AB)) (!Af (!A7 (!AA Dq (!AD AH (pv 0) (!Ak) (fun _ _=>rfl)) (!AK rfl T.c_ROW) (AL _)) (!Al (!Ar (!Ay He (!Bm (!Ab (!AD AH (pv 0) (!Ak) (fun _ _=>rfl)) (!Ae))) (@CJ _ ["tag"] _ _ _ _ _ _ _ _ _ _ rfl (!E4 (!AD AH (pv 0) (!Ak) (fun _ _=>rfl))) (by decide +kernel) (fun C s H fp=>⟨(@An _ _ (0) _ (show(["tag"]:List Str).Nodup by decide +kernel) rfl (by trivial) (by trivial)),(!Bp),(!AD (Hk (K:=K) (by rfl)) (pv 0) (!Ak) (fun _ _=>rfl))⟩) (by intro _;rfl))))) (!AB)) (!Af (@As _ _ (1) _ _ _ _ BI.nd rfl (by trivial) (!Bm (!Ae)) (by rfl) (by trivial)) (!Af (!CW PassesOwn.never rfl (!E4 (!AD AH (pv 0) (!Ak) (fun _ _=>rfl))) (!Kd rfl (!AF (@An _ _ (2) _ BI.nd rfl (by trivial) (by trivial)) (!AF (@An _ _ (3) _ BI.nd rfl (by trivial) (by trivial)) (!AF (@An _ _ (4) _ BI.nd rfl (by trivial) (by trivial)) (!Ds))))) (!Af (!Cn (!Ew PySem.F.plainAttrs_list PySem.F.slot_list_extend PySem.F.type_list_extend EB (pv 1) (!Ab (@CJ _ ["sign"] _ _ _ _ _ _ _ _ _ _ rfl (!Jn (pv 2)) (by decide +kernel) (fun C s H fp=>⟨(@An _ _ (0) _ (show(["sign"]:List Str).Nodup by decide +kernel) rfl (by trivial) (by trivial)),(!Bp),(!BD AZ (by trivial) rfl (!Ab (pv 0) (!Ae)))⟩) (by intro _;rfl)) (!Ae)))) (!Al (!Cn (!Ew PySem.F.plainAttrs_list PySem.F.slot_list_extend PySem.F.type_list_extend EB (pv 1) (!Ab (!Bm (!Ab (pv 3) (!Ab (!AD AH (pv 4) (!Ak) (fun _ _=>rfl)) (!Ae)))) (!Ae)))))) (by intro _;rfl)) (!Al (!Ar (pv 1))))))),?_⟩;cases b with
 |piece z=>
  obtain⟨a,rfl,e⟩:=HI hv;have h':(decide ((1:Int)<=(z.length:Int))&&decide ((z.length:Int)<=8)&&Bg SG z)=true:=ok;simp only[Bool.and_eq_true,decide_eq_true_eq] at h';have zs:∀c∈Ap z,c∈Ap SG:=fun c hc=>by simpa using List.all_eq_true.mp h'.2 c hc
  refine⟨_,rfl,a,_,_,_,rfl,rfl,A0.of e,rfl,rfl,_,rfl,BW rfl ?_⟩;refine⟨_,rfl,a,_,_,_,rfl,rfl,A0.of e,rfl,z,rfl,?_⟩;refine comp_map (fun v=>match v with | .str y=>.int (PySem.Txt.find SG y)|_=>.non) FB (by rw[List.length_map];exact Nat.le_trans (Nat.le_of_eq (Az z)) (by omega)) (fun x H' R hx s' hR=>?_) fun l H7 n7 s7 h7=>?_
  ·obtain⟨u,hu,rfl⟩:=List.mem_map.mp hx;exact⟨_,rfl,_,rfl,(JE (zs u hu)).1,hR H' (Am.refl _)⟩
  rw[idx_map] at h7;exact q l H7 s7 n7 h7
 |row lv ts=>
  obtain⟨a,b,us,rfl,e,e2,r⟩:=LJ hv;have lu:=Ax.len _ _ r;rw[List.length_map] at lu;have l8:=ok.2.1;refine⟨_,rfl,a,_,_,_,rfl,rfl,A0.of e,rfl,rfl,_,rfl,AX rfl ?_⟩;refine⟨_,rfl,a,_,_,_,rfl,rfl,A0.of e,rfl,rfl,_,rfl,BW rfl ?_⟩;refine⟨_,rfl,a,_,_,_,rfl,rfl,A0.of e,rfl,Vi,fun p1 hp1=>?_⟩;have s1:=Ai hp1 (.lst [V.int lv]);have e2':=s1.get e2;have r':=Ax.same s1 _ _ r;refine⟨_,rfl,a,_,_,_,rfl,rfl,A0.of (s1.get e),rfl,b,rfl,⟨_,A0.of e2'⟩,comp_map (fun v=>match v with | .ref x=>(match(upd H p1 (.lst [V.int lv])) x with|some (.tup [_,_,y])=>y|_=>.non)|_=>.non) (Eu e2') (by omega) (fun x H' R hx s' hR=>?_) fun l H7 n7 s7 h7=>?_⟩
  ·obtain⟨t,ht,rt⟩:=FY r' hx;obtain⟨c,rfl,ec⟩:=Ln rt;have:=hR H' (Am.refl _);simp only[ec] at this;exact⟨_,rfl,c,_,_,_,rfl,rfl,A0.of (s'.get ec),rfl,this⟩
  rw[Na r'] at h7;refine⟨p1,l,_,_,rfl,rfl,AW.of (s7.get Ac),AW.of h7,small (by rw[List.length_map,List.length_map];show 1+ts.length<=1000000;omega),fun p hp=>?_⟩;exact q p _ ((s1.trans s7).trans (Ai hp _)) ((s1.trans s7).free hp) Ac
 |folder es=>
  obtain⟨a,b,us,rfl,e,e2,r⟩:=BX hv;have lu:=Ax.len _ _ r;rw[List.length_map] at lu;obtain⟨o1,o2,_⟩:=ok;refine⟨_,rfl,a,_,_,_,rfl,rfl,A0.of e,rfl,rfl,_,rfl,AX rfl ?_⟩;refine⟨_,rfl,a,_,_,_,rfl,rfl,A0.of e,rfl,rfl,_,rfl,AX rfl ?_⟩;refine⟨LK,fun g hg=>?_⟩;have sg:=Ai hg (.lst []);refine⟨_,rfl,a,_,_,_,rfl,rfl,A0.of (sg.get e),rfl,b,rfl,⟨_,A0.of (sg.get e2)⟩,L1 (K:=K) (a:=b) (xs:=us) (fun i σ H2=>∃v2 v3 v4,σ=[some (.ref a),some (.ref g),v2,v3,v4]/\Am H H2/\H2 g=some (.lst (((es.take i).flatMap Dk).map V.int))) ⟨none,none,none,rfl,sg,Ac⟩ (fun i σ H2 _ ⟨_,_,_,_,s2,_⟩=>A0.of (s2.get e2)) ?_ ?_⟩
  ·rintro i y σ H2 hi ⟨v2,v3,v4,rfl,s2,hg2⟩
   obtain⟨t,ht,ry⟩:=Ax.get r hi;rw[List.getElem?_map] at ht;cases z:es[i]? with
   |none=>rw[z] at ht;cases ht
   |some x=>
    rw[z] at ht;cases ht;obtain⟨c,d,rfl,ec,ed⟩:=Em ry;have ox:=o2 x (List.mem_of_getElem? z);obtain⟨n1,n2,_,n4⟩:=Cq ox.1;have tl:((es.take i).flatMap Dk).length<=160:=by
     have:=Rm (es:=es.take i) fun y hy=>UM (o2 y (List.mem_of_mem_take hy))
     rw[List.length_take] at this;omega
    refine⟨c,_,rfl,A0.of (s2.get ec),rfl,_,_,rfl,_,_,rfl,_,_,rfl,rfl,?_⟩;refine⟨_,rfl,.inl ⟨rfl,_,AW.of hg2⟩,_,rfl,x.nm,rfl,?_⟩;refine comp_map (fun v=>match v with | .str y=>.int (PySem.Txt.find SG y)|_=>.non) FB (by rw[List.length_map];exact Nat.le_trans (Nat.le_of_eq (Az x.nm)) (by omega)) (fun u H' R hu s' hR=>?_) fun l H7 n7 s7 h7=>?_
    ·obtain⟨k,hk,rfl⟩:=List.mem_map.mp hu;exact⟨_,rfl,_,rfl,(JE (n4 k hk)).1,hR H' (Am.refl _)⟩
    rw[idx_map] at h7;refine⟨g,l,_,_,rfl,rfl,s7.get hg2,h7,small (by rw[List.length_map,List.length_map,List.length_map,Az];omega),?_⟩;have t7:=AU (s2.trans s7) hg (.lst (((es.take i).flatMap Dk).map V.int++((Ap x.nm).map idx).map V.int));refine⟨_,rfl,.inl ⟨rfl,_,AW.of Ac⟩,_,rfl,_,rfl,d,_,_,_,rfl,rfl,A0.of (t7.get ed),rfl,DV,fun p hp=>?_⟩;have t8:=Ai hp (.lst [V.int x.kd,V.int x.tg.2.2]);refine⟨g,p,_,_,rfl,rfl,t8.get Ac,Ac,small (by rw[List.length_append,List.length_map,List.length_map,List.length_map,Az];show _+_+2<=_;omega),?_⟩;refine⟨_,_,_,rfl,AU (t7.trans t8) hg _,?_⟩;rw[Ac,PN z,List.map_append];unfold Dk;rw[List.map_append,List.append_assoc];rfl
  ·rintro σ H2 ⟨v2,v3,v4,rfl,s2,hg2⟩
   rw[lu,List.take_of_length_le (Nat.le_refl _)] at hg2;exact⟨_,rfl,q g H2 s2 hg hg2⟩
def kindB:Bk->Int
 | .piece _=>0
 | .row _ _=>1
 | .folder _=>2
def Bs (b:Bk):Int:=(told b).foldl (fun t n=>(31*t+n+1)%997) (1+kindB b)
theorem Nq {H:Hp}{b:Bk}{v:V}(h:Rep NL H (Df b) v):∃a xs,v=.ref a/\H a=some (.tup (.int (kindB b)::xs)):=by
 cases b with
 |piece z=>obtain⟨a,rfl,e⟩:=HI h;exact⟨a,_,rfl,e⟩
 |row lv ts=>obtain⟨a,b,us,rfl,e,_⟩:=LJ h;exact⟨a,_,rfl,e⟩
 |folder es=>obtain⟨a,b,us,rfl,e,_⟩:=BX h;exact⟨a,_,rfl,e⟩
theorem Nn {x:V}{xs:List V}:Kv (x::xs) 0=some x:=by
 unfold Kv Sx;simp
theorem ints_get {ns:List Int}{i:Nat}{y:V}(h:(ns.map V.int)[i]?=some y):∃n,y=.int n/\ns[i]?=some n:=by
 rw[List.getElem?_map] at h;cases z:ns[i]? with
 |none=>rw[z] at h;cases h
 |some n=>rw[z] at h;cases h;exact⟨n,rfl,rfl⟩
theorem Qj {f:Int->Int->Int}{z:Int}{ns:List Int}{i:Nat}{n:Int}(h:ns[i]?=some n):(ns.take (i+1)).foldl f z=f ((ns.take i).foldl f z) n:=by
 rw[List.take_add_one,h,List.foldl_append];rfl
def FR (K:W.Frag):Sp:=fun vs H Q _=>∃v b,vs=[v]/\Rep NL H (Df b) v/\HL b/\∀H',Am H H'->Q (.int (Bs b)) H'
theorem Po (T:Txt K mg Ah Aa Ad XC)(F:Fun K "sum_of" "sum_of" EF f fd)(DO:Def P w K mg base 2 "numbers_told" ["block"] (Dj K)):FnOk P w K mg base DD 3 f fd ["block"] (FR K):=by
 exists FU
 ·obtain⟨v,b,rfl,_⟩:=h;rfl
 obtain⟨v,b,rfl,hv,ok,q⟩:=h;obtain⟨a,xs,rfl,e⟩:=Nq hv;refine⟨_,(!Af (@As _ _ (1) _ _ _ _ FU.nd rfl (by trivial) (!Ay DG (!Ak) (!AD AH (pv 0) (!Ak) (fun _ _=>rfl))) (by rfl) (by trivial)) (!Af (!CW PassesOwn.never rfl (!Ck (!BD DO (by trivial) rfl (!Ab (pv 0) (!Ae)))) (@An _ _ (2) _ FU.nd rfl (by trivial) (by trivial)) (!Al (@As _ _ (1) _ _ _ _ FU.nd rfl (by trivial) (!Ay Cb (!Ay DG (!Ay DG (!Ay JM (!Ak) (pv 1)) (pv 2)) (!Ak)) (!AK rfl T.c_SUM_RESTS)) (by rfl) (by trivial))) (by intro _;rfl)) (!Al (!Ar (pv 1))))),?_⟩;refine⟨_,rfl,a,_,_,_,rfl,rfl,A0.of e,Nn,_,_,rfl,rfl,?_⟩;refine⟨_,rfl,_,b,rfl,hv,ok,fun l H1 s1 n1 h1=>?_⟩;refine⟨l,rfl,⟨_,AW.of h1⟩,DJ (K:=K) (a:=l) (xs:=(told b).map V.int) (fun i σ H2=>∃v2,σ=[some (.ref a),some (.int (((told b).take i).foldl (fun t n=>(31*t+n+1)%997) (1+kindB b))),v2]/\Am H1 H2) ⟨none,rfl,Am.refl _⟩ (fun i σ H2 _ ⟨_,_,s2⟩=>AW.of (s2.get h1)) ?_ ?_⟩
 ·rintro i y σ H2 hi ⟨v2,rfl,s2⟩
  obtain⟨n,rfl,hn⟩:=ints_get hi;refine⟨_,rfl,_,_,rfl,rfl,.inl ⟨by decide,by decide⟩,_,rfl,_,_,rfl,rfl,_,_,rfl,rfl,_,_,rfl,rfl,(show(0:Int)<997 by decide),?_⟩;refine⟨some (.int n),?_,s2⟩;rw[Qj hn];rfl
 ·rintro σ H2 ⟨v2,rfl,s2⟩
  rw[List.length_map,List.take_length];exact⟨_,rfl,q H2 (s1.trans s2)⟩
theorem PF (ts:List Tg):(wTs (ts.map Hq)).length=8*ts.length:=by
 induction ts with
 |nil=>rfl
 |cons t r ih=>
  rw[List.map_cons];show(wT (Hq t)++wTs (r.map Hq)).length=_;rw[List.length_append,ih,List.length_cons];have:(wT (Hq t)).length=8:=rfl;omega
def Uu:Bk->Nat
 | .piece z=>6+z.length
 | .row _ ts=>8+8*ts.length
 | .folder es=>6+(es.map fun x=>14+x.nm.length).sum
theorem RZ (es:List En):(wTs (es.map Jg)).length=(es.map fun x=>14+x.nm.length).sum:=by
 induction es with
 |nil=>rfl
 |cons x r ih=>
  rw[List.map_cons,List.map_cons,List.sum_cons,<-ih];show(wT (Jg x)++wTs (r.map Jg)).length=_;rw[List.length_append];have:(wT (Jg x)).length=14+x.nm.length:=by
   show(2::((3:Int))::((1::(x.nm.length:Int)::(Ap x.nm).map idx)++([0,x.kd]++(wT (Hq x.tg)++[])))).length=_;have t8:(wT (Hq x.tg)).length=8:=rfl;simp only[List.length_cons,List.length_append,List.length_map,Az,List.length_nil,t8];omega
  omega
theorem TZ (b:Bk):(wT (Df b)).length=Uu b:=by
 cases b with
 |piece z=>
  show(2::(2:Int)::([0,0]++((1::(z.length:Int)::(Ap z).map idx)++[]))).length=6+z.length;simp only[List.length_cons,List.length_append,List.length_map,Az,List.length_nil];omega
 |row lv ts=>
  show(2::(3:Int)::([0,1]++([0,lv]++((2::((ts.map Hq).length:Int)::wTs (ts.map Hq))++[])))).length=8+8*ts.length;simp only[List.length_cons,List.length_append,List.length_nil,PF];omega
 |folder es=>
  show(2::(2:Int)::([0,2]++((2::((es.map Jg).length:Int)::wTs (es.map Jg))++[]))).length=6+(es.map fun x=>14+x.nm.length).sum;simp only[List.length_cons,List.length_append,List.length_nil,RZ];omega
theorem size_le {b:Bk}(h:HL b):Uu b<=500:=by
 cases b with
 |piece z=>
  have h':(decide ((1:Int)<=(z.length:Int))&&decide ((z.length:Int)<=8)&&Bg SG z)=true:=h;simp only[Bool.and_eq_true,decide_eq_true_eq] at h';show 6+z.length<=500;omega
 |row lv ts=>
  have:=h.2.1;show 8+8*ts.length<=500;omega
 |folder es=>
  have n:=h.1;have s0:∀l:List En,(∀x∈l,SJ x)->(l.map fun x=>14+x.nm.length).sum<=22*l.length:=fun l=>by
   induction l with
   |nil=>intro _;exact Nat.le_refl _
   |cons x r ih=>
    intro hx;rw[List.map_cons,List.sum_cons,List.length_cons];have:=ih fun y hy=>hx y (List.mem_cons_of_mem _ hy)
    have:=(Cq (hx x List.mem_cons_self).1).2.1;omega
  have:=s0 es h.2.1;show 6+_<=500;omega
def GM (K:W.Frag):Sp:=fun vs H Q _=>∃v b,vs=[v]/\Rep NL H (Df b) v/\HL b/\∀H',Am H H'->Q (.int ((wT (Df b)).length:Int)) H'
theorem Oe (T:Txt K mg Ah Aa Ad XC)(F:Fun K "size_of" "size_of" Dv f fd)(DQ:Def P w K mg base 9 "words_of" ["thing"] (FJ K)):FnOk P w K mg base DD 10 f fd ["block"] (GM K):=by
 exists NW
 ·obtain⟨v,b,rfl,_⟩:=h;rfl
 obtain⟨v,b,rfl,hv,ok,q⟩:=h;refine⟨_,(!Al (!Ar (!Av Be (by rfl) T.b_len DP (!Ab (!BD DQ (by trivial) rfl (!Ab (pv 0) (!Ae))) (!Ae))))),?_⟩
 try dsimp only[BB,Cx.nox,Cx.wish]
 have:=TZ b;have:=size_le ok;refine⟨_,rfl,v,Df b,rfl,hv,JC ok,by omega,fun wl H2 s2 nw hw=>⟨wl,_,rfl,.inl (AW.of hw),?_⟩⟩;rw[List.length_map];exact q _ s2
def Bc:Bk->List Tg
 | .piece _=>[]
 | .row _ ts=>ts
 | .folder es=>es.map (·.tg)
def Ox (H:Hp):V->V
 | .ref a=>match H a with
  |some (.tup [_,_,t])=>t
  |_=>.non
 |_=>.non
theorem ME {H:Hp}{a:Addr}{x y z:V}(h:H a=some (.tup [x,y,z])):Ox H (.ref a)=z:=by
 show(match H a with|some (.tup [_,_,t])=>t|_=>V.non)=z;rw[h]
theorem Jh {H:Hp}:∀{es:List En} {us:List V},Ax NL H (es.map Jg) us->Ax NL H ((es.map (·.tg)).map Hq) (us.map (Ox H))
 |[],us,h=>by cases h;exact rfl
 |e::es,us,h=>by
  obtain⟨v,vs,rfl,h1,h2⟩:=h;obtain⟨a,b,rfl,e1,e2⟩:=Em h1;refine⟨_,_,rfl,?_,Jh h2⟩;rw[ME e1];exact Oi e2
def Gu (K:W.Frag):Sp:=fun vs H Q _=>∃v b,vs=[v]/\Rep NL H (Df b) v/\HL b/\∀l us H',Am H H'->H l=none->H' l=some (.lst us)->Ax NL H' ((Bc b).map Hq) us->Q (.ref l) H'
theorem Ow (T:Txt K mg Ah Aa Ad XC)(F:Fun K "tags_in" "tags_in" DA f fd):FnOk P w K mg base DD 1 f fd ["block"] (Gu K):=by
 exists Oy
 ·obtain⟨v,b,rfl,_⟩:=h;rfl
 obtain⟨v,b,rfl,hv,ok,q⟩:=h;refine⟨_,(!Af (!A7 (!AA Dq (!AD AH (pv 0) (!Ak) (fun _ _=>rfl)) (!AK rfl T.c_PIECE) (AL _)) (!Al (!Ar (!Bm (!Ae)))) (!AB)) (!Af (!A7 (!AA Dq (!AD AH (pv 0) (!Ak) (fun _ _=>rfl)) (!AK rfl T.c_ROW) (AL _)) (!Al (!Ar (!Dy LS (by rfl) T.b_list OW (!Ab (!AD AH (pv 0) (!Ak) (fun _ _=>rfl)) (!Ae))))) (!AB)) (!Al (!Ar (@CJ _ ["name","kind","tag"] _ _ _ _ _ _ _ _ _ _ rfl (!E4 (!AD AH (pv 0) (!Ak) (fun _ _=>rfl))) (by decide +kernel) (fun C s H fp=>⟨(@Hf _ (K) _ _ _ _ (3) (by rfl) rfl (!AF (@An _ _ (0) _ (show(["name","kind","tag"]:List Str).Nodup by decide +kernel) rfl (by trivial) (by trivial)) (!AF (@An _ _ (1) _ (show(["name","kind","tag"]:List Str).Nodup by decide +kernel) rfl (by trivial) (by trivial)) (!AF (@An _ _ (2) _ (show(["name","kind","tag"]:List Str).Nodup by decide +kernel) rfl (by trivial) (by trivial)) (!Ds)))) (by rfl) (by rfl)),(!Bp),(pv 2)⟩) (by intro _;rfl)))))),?_⟩
 try dsimp only[BB,Cx.nox,Cx.wish]
 cases b with
 |piece z=>
  obtain⟨a,rfl,e⟩:=HI hv;refine⟨_,rfl,a,_,_,_,rfl,rfl,A0.of e,rfl,rfl,_,rfl,BW rfl ?_⟩;exact⟨LK,fun l hl=>q l [] _ (Ai hl _) hl Ac rfl⟩
 |row lv ts=>
  obtain⟨a,d,us,rfl,e,e2,r⟩:=LJ hv;refine⟨_,rfl,a,_,_,_,rfl,rfl,A0.of e,rfl,rfl,_,rfl,AX rfl ?_⟩;refine⟨_,rfl,a,_,_,_,rfl,rfl,A0.of e,rfl,rfl,_,rfl,BW rfl ?_⟩;exact⟨_,rfl,a,_,_,_,rfl,rfl,A0.of e,rfl,d,_,rfl,.inr (A0.of e2),fun l hl=>q l us _ (Ai hl _) hl Ac (Ax.same (Ai hl _) _ _ r)⟩
 |folder es=>
  obtain⟨a,d,us,rfl,e,e2,r⟩:=BX hv;refine⟨_,rfl,a,_,_,_,rfl,rfl,A0.of e,rfl,rfl,_,rfl,AX rfl ?_⟩;refine⟨_,rfl,a,_,_,_,rfl,rfl,A0.of e,rfl,rfl,_,rfl,AX rfl ?_⟩;refine⟨_,rfl,a,_,_,_,rfl,rfl,A0.of e,rfl,d,rfl,⟨_,A0.of e2⟩,?_⟩;have lu:us.length=es.length:=by rw[Ax.len _ _ r,List.length_map]
  have l16:es.length<=16:=ok.1;refine Py (xs:=us) (Ox H) (Eu e2) (by omega) (fun x hx=>?_) (fun b x1 x2 x3 H' R hx hb s' hR=>⟨_,rfl,?_⟩) fun l H' nl s' hl=>q l _ H' s' nl hl (Ax.same s' _ _ (Jh r))
  ·obtain⟨en,_,hr⟩:=FY r hx;obtain⟨b,c,rfl,e3,_⟩:=Em hr;exact⟨b,_,_,_,rfl,e3⟩
  ·have:=hR H' (Am.refl _);rw[ME hb] at this;exact this
def FO (t:Addr)(n:Int)(l:Addr)(k e s:Int):List (Str×V):=[("own_tag",.ref t),("own_size",.int n),("named",.ref l),("times_named",.int k),("entries_beneath",.int e),("steps_beneath",.int s)]
def CK (K:W.Frag)(C:Addr):Sp:=fun vs H Q _=>∃(x dx ta:Addr) (v:V) (b:Bk),vs=[.ref x,.ref ta,v]/\H x=some (.ins C dx [])/\Rep NL H (Df b) v/\HL b/\
 ∀l us H',(∀c o,H c=some o->c≠x->H' c=some o)->H l=none->H' l=some (.lst us)->Ax NL H' ((Bc b).map Hq) us->H' x=some (.ins C dx (FO ta ((wT (Df b)).length:Int) l 0 0 0))->Q .non H'
theorem Hm (T:Txt K mg Ah Aa Ad XC)(F:Fun K "__init__" "TakenCell.__init__" Bi f fd)(Hu:Def P w K mg base 10 "size_of" ["block"] (GM K))(Hz:Def P w K mg base 1 "tags_in" ["block"] (Gu K)):FnOk P w K mg base DD 11 f fd ["self","own_tag","block"] (CK K Aa):=by
 exists G1
 ·obtain⟨x,dx,ta,v,b,rfl,_⟩:=h;rfl
 obtain⟨x,dx,ta,v,b,rfl,hx,hv,ok,q⟩:=h;refine⟨_,(!Af (!Cd (pv 0) (pv 1)) (!Af (!Cd (pv 0) (!BD Hu (by trivial) rfl (!Ab (pv 2) (!Ae)))) (!Af (!Cd (pv 0) (!BD Hz (by trivial) rfl (!Ab (pv 2) (!Ae)))) (!Af (!Cd (pv 0) (!Ak)) (!Af (!Cd (pv 0) (!Ak)) (!Al (!Cd (pv 0) (!Ak)))))))),?_⟩
 try dsimp only[BB,Cx.nox,Cx.wish]
 have tp:∀(o:HO) c ys,H c=some (.tup ys)->(upd H x o) c=some (.tup ys):=fun o c ys h=>by rw[Ag (Ce h hx (by intro z;cases z))];exact h
 refine⟨_,rfl,_,rfl,x,Aa,dx,[],rfl,hx,T.cl_TakenCell,T.n_TakenCell_own_tag,(by show 0<1000;decide),?_⟩;refine⟨_,rfl,v,b,rfl,Cp (tp _) _ _ hv,ok,fun H1 s1=>⟨_,rfl,x,Aa,dx,_,rfl,s1.get Ac,T.cl_TakenCell,T.n_TakenCell_own_size,(by show 1<1000;decide),?_⟩⟩;have hx1:∀o,(upd H1 x o) x=some o:=fun o=>Ac
 have k1:∀o c u,H c=some u->c≠x->(upd H1 x o) c=some u:=fun o c u h n=>by rw[Ag n];exact s1.get (by rw[Ag n];exact h)
 refine⟨_,rfl,v,b,rfl,Cp (fun c ys h=>k1 _ c _ h (Ce h hx (by intro z;cases z))) _ _ hv,ok,fun l us H2 s2 nl hl r=>⟨_,rfl,x,Aa,dx,_,rfl,s2.get (hx1 _),T.cl_TakenCell,T.n_TakenCell_named,(by show 2<1000;decide),?_⟩⟩;have nlx:l≠x:=fun z=>by rw[z,hx1] at nl;cases nl
 refine⟨_,rfl,x,Aa,dx,_,rfl,Ac,T.cl_TakenCell,T.n_TakenCell_times_named,(by show 3<1000;decide),?_⟩;refine⟨_,rfl,x,Aa,dx,_,rfl,Ac,T.cl_TakenCell,T.n_TakenCell_entries_beneath,(by show 4<1000;decide),?_⟩;refine⟨_,rfl,x,Aa,dx,_,rfl,Ac,T.cl_TakenCell,T.n_TakenCell_steps_beneath,(by show 5<1000;decide),?_⟩;rw[Ho,Ho,Ho];have nlH:H l=none:=by
  cases h:H l with
  |none=>rfl
  |some o=>rw[k1 _ l o h nlx] at nl;cases nl
 refine q l us _ (fun c o h n=>by rw[Ag n];exact s2.get (k1 _ c o h n)) nlH (by rw[Ag nlx];exact hl) (Da (fun c ys h=>?_) _ _ r) Ac;rw[Ag (fun z=>by have:=s2.get (hx1 (.ins Aa dx (DX "own_size" (V.int ((wT (Df b)).length:Int)) (DX "own_tag" (V.ref ta) []))));rw[z,this] at h;cases h)];exact h
def IZ (bo dt dz dd:Addr)(n:Int):List (Str×V):=[("boards",.ref bo),("taken",.ref dt),("by_sums",.ref dz),("draft",.ref dd),("first_maybe_free",.int n)]
def E9 (K:W.Frag)(C:Addr):Sp:=fun vs H Q _=>∃(x dx bo:Addr),vs=[.ref x,.ref bo]/\H x=some (.ins C dx [])/\
 ∀dt dz dd H',(∀c o,H c=some o->c≠x->H' c=some o)->dt≠dz->dt≠dd->dz≠dd->H' dt=some (.dK [])->H' dz=some (.dK [])->H' dd=some (.dK [])->H' x=some (.ins C dx (IZ bo dt dz dd 1))->Q .non H'
theorem LW (T:Txt K mg Ah Aa Ad XC)(F:Fun K "__init__" "Pool.__init__" Cw f fd):FnOk P w K mg base DD 1 f fd ["self","boards"] (E9 K Ad):=by
 exists Li
 ·obtain⟨x,dx,bo,rfl,_⟩:=h;rfl
 obtain⟨x,dx,bo,rfl,hx,q⟩:=h;refine⟨_,(!Af (!Cd (pv 0) (pv 1)) (!Af (!Cd (pv 0) (!EG)) (!Af (!Cd (pv 0) (!EG)) (!Af (!Cd (pv 0) (!EG)) (!Al (!Cd (pv 0) (!Ak))))))),?_⟩
 try dsimp only[BB,Cx.nox,Cx.wish]
 refine⟨_,rfl,_,rfl,x,Ad,dx,[],rfl,hx,T.cl_Pool,T.n_Pool_boards,(by show 0<1000;decide),?_⟩;refine fun dt hdt=>?_
 have n1:dt≠x:=fun z=>by rw[z,Ac] at hdt;cases hdt
 refine⟨_,rfl,x,Ad,dx,_,rfl,(Ai hdt _).get Ac,T.cl_Pool,T.n_Pool_taken,(by show 1<1000;decide),?_⟩;refine fun dz hdz=>?_
 have n2:dz≠x:=fun z=>by rw[z,Ac] at hdz;cases hdz
 have e1:dz≠dt:=fun z=>by rw[z,Ag n1,Ac] at hdz;cases hdz
 refine⟨_,rfl,x,Ad,dx,_,rfl,(Ai hdz _).get Ac,T.cl_Pool,T.n_Pool_by_sums,(by show 2<1000;decide),?_⟩;refine fun dd hdd=>?_
 have n3:dd≠x:=fun z=>by rw[z,Ac] at hdd;cases hdd
 have e2:dd≠dz:=fun z=>by rw[z,Ag n2,Ac] at hdd;cases hdd
 have e3:dd≠dt:=fun z=>by rw[z,Ag n1,Ag (Ne.symm e1),Ag n1,Ac] at hdd;cases hdd
 refine⟨_,rfl,x,Ad,dx,_,rfl,(Ai hdd _).get Ac,T.cl_Pool,T.n_Pool_draft,(by show 3<1000;decide),?_⟩;refine⟨_,rfl,x,Ad,dx,_,rfl,Ac,T.cl_Pool,T.n_Pool_first_maybe_free,(by show 4<1000;decide),?_⟩;refine q dt dz dd _ (fun c o h n=>?_) (Ne.symm e1) (Ne.symm e3) (Ne.symm e2) ?_ ?_ ?_ Ac
 ·have a1:c≠dt:=fun z=>by rw[<-z,Ag n,h] at hdt;cases hdt
  have b1:=h;have a2:c≠dz:=fun z=>by rw[<-z,Ag n,Ag a1,Ag n,h] at hdz;cases hdz
  have a3:c≠dd:=fun z=>by rw[<-z,Ag n,Ag a2,Ag n,Ag a1,Ag n,h] at hdd;cases hdd
  rw[Ag n,Ag n,Ag a3,Ag n,Ag a2,Ag n,Ag a1,Ag n];exact h
 ·rw[Ag n1,Ag n1,Ag (Ne.symm e3),Ag n1,Ag (Ne.symm e1),Ag n1,Ac]
 ·rw[Ag n2,Ag n2,Ag (Ne.symm e2),Ag n2,Ac]
 ·rw[Ag n3,Ag n3,Ac]
structure Cl where
 z:Int
 y:Int
 bk:Bk
 v:V
 c:Addr
 dx:Addr
 ta:Addr
 l:Addr
 k:Int
 en:Int
 st:Int
structure Pl where
 dp:Addr
 bo:Addr
 dt:Addr
 dz:Addr
 dd:Addr
 n:Int
def Hx (C:Addr)(H:Hp)(e:Cl):Prop:=H e.c=some (.ins C e.dx (FO e.ta ((wT (Df e.bk)).length:Int) e.l e.k e.en e.st))/\H e.ta=some (.tup [.int e.z,.int e.y,.int (Bs e.bk)])/\Rep NL H (Df e.bk) e.v/\HL e.bk
def Mg (cs:List Cl):List (Key×V):=cs.map fun e=>(Sum.inl e.z,.ref e.c)
def PR (cs:List Cl):List (Key×V):=cs.map fun e=>(Sum.inl e.z,e.v)
def Fi (CP CT:Addr)(H:Hp)(p:Addr)(q:Pl)(cs:List Cl):Prop:=H p=some (.ins CP q.dp (IZ q.bo q.dt q.dz q.dd q.n))/\H q.dt=some (.dK (Mg cs))/\(∀e∈cs,Hx CT H e)/\(cs.map (·.z)).Nodup
theorem Lq {κ:Type}[DecidableEq κ]:∀{kvs:List (κ×V)} (_:(kvs.map (·.1)).Nodup) {k:κ} {v:V},(k,v)∈kvs->BJ kvs k=some v
 |[],_,_,_,h=>nomatch h
 |x::kvs,nd,k,v,h=>by
  rw[List.map_cons,List.nodup_cons] at nd;rcases List.mem_cons.mp h with rfl|h
  ·exact FD rfl
  ·rw[Fy (fun e=>nd.1 (by rw[e];exact List.mem_map.mpr ⟨_,h,rfl⟩))];exact Lq nd.2 h
theorem Ie {g:Cl->V}:∀{cs:List Cl},(cs.map (·.z)).Nodup->((cs.map fun e=>((Sum.inl e.z:Key),g e)).map (·.1)).Nodup
 |[],_=>List.nodup_nil
 |e::cs,h=>by
  rw[List.map_cons,List.nodup_cons] at h;rw[List.map_cons,List.map_cons,List.nodup_cons];refine⟨fun q=>h.1 ?_,Ie h.2⟩;obtain⟨x,hx,e1⟩:=List.mem_map.mp q;obtain⟨u,hu,rfl⟩:=List.mem_map.mp hx;exact List.mem_map.mpr ⟨u,hu,Sum.inl.inj e1⟩
theorem Jw {cs:List Cl}(nd:(cs.map (·.z)).Nodup){e:Cl}(h:e∈cs):BJ (Mg cs) (Sum.inl e.z)=some (.ref e.c):=Lq (Ie nd) (List.mem_map.mpr ⟨e,h,rfl⟩)
theorem UT {cs:List Cl}(nd:(cs.map (·.z)).Nodup){e:Cl}(h:e∈cs):BJ (PR cs) (Sum.inl e.z)=some e.v:=Lq (Ie nd) (List.mem_map.mpr ⟨e,h,rfl⟩)
def Fm (K:W.Frag)(CP CT:Addr):Sp:=fun vs H Q _=>∃p q cs e,vs=[.ref p,.int e.z]/\Fi CP CT H p q cs/\e∈cs/\Q (.ref e.ta) H
theorem Nt (T:Txt K mg Ah Aa Ad XC)(F:Fun K "tag" "Pool.tag" CM f fd):FnOk P w K mg base DD 1 f fd ["self","number"] (Fm K Ad Aa):=by
 exists My
 ·obtain⟨p,q,cs,e,rfl,_⟩:=h;rfl
 obtain⟨p,q,cs,e,rfl,⟨h1,h2,h4,nd⟩,he,hq⟩:=h;have hu:=Cf hr;refine⟨_,(!Al (!Ar (!BU (!G7 hu (!BU (pv 0)) (pv 1) (fun _ _=>rfl))))),?_⟩
 try dsimp only[BB,Cx.nox,Cx.wish]
 have g:Dm H q.dt (.int e.z) (some (.ref e.c)):=by
  have:=Dm.k (k:=Sum.inl e.z) h2;rw[Jw nd he] at this;exact this
 exact⟨_,rfl,p,Ad,q.dp,_,_,rfl,h1,T.cl_Pool,T.n_Pool_taken,rfl,_,rfl,q.dt,_,rfl,g,e.c,Aa,e.dx,_,_,rfl,(h4 e he).1,T.cl_TakenCell,T.n_TakenCell_own_tag,rfl,hq⟩
def Dh (K:W.Frag)(CP CT:Addr):Sp:=fun vs H Q _=>∃p q cs e,vs=[.ref p,.int e.z]/\Fi CP CT H p q cs/\e∈cs/\Q (.int e.en) H
theorem IE (T:Txt K mg Ah Aa Ad XC)(F:Fun K "entries" "Pool.entries" Bv f fd):FnOk P w K mg base DD 1 f fd ["self","number"] (Dh K Ad Aa):=by
 exists IG
 ·obtain⟨p,q,cs,e,rfl,_⟩:=h;rfl
 obtain⟨p,q,cs,e,rfl,⟨h1,h2,h4,nd⟩,he,hq⟩:=h;have hu:=Cf hr;refine⟨_,(!Al (!Ar (!BU (!G7 hu (!BU (pv 0)) (pv 1) (fun _ _=>rfl))))),?_⟩
 try dsimp only[BB,Cx.nox,Cx.wish]
 have g:Dm H q.dt (.int e.z) (some (.ref e.c)):=by
  have:=Dm.k (k:=Sum.inl e.z) h2;rw[Jw nd he] at this;exact this
 exact⟨_,rfl,p,Ad,q.dp,_,_,rfl,h1,T.cl_Pool,T.n_Pool_taken,rfl,_,rfl,q.dt,_,rfl,g,e.c,Aa,e.dx,_,_,rfl,(h4 e he).1,T.cl_TakenCell,T.n_TakenCell_entries_beneath,rfl,hq⟩
def EX (K:W.Frag)(CP CT:Addr):Sp:=fun vs H Q _=>∃p q cs e,vs=[.ref p,.int e.z]/\Fi CP CT H p q cs/\e∈cs/\Q (.int e.st) H
theorem LH (T:Txt K mg Ah Aa Ad XC)(F:Fun K "deep" "Pool.deep" CB f fd):FnOk P w K mg base DD 1 f fd ["self","number"] (EX K Ad Aa):=by
 exists Ll
 ·obtain⟨p,q,cs,e,rfl,_⟩:=h;rfl
 obtain⟨p,q,cs,e,rfl,⟨h1,h2,h4,nd⟩,he,hq⟩:=h;have hu:=Cf hr;refine⟨_,(!Al (!Ar (!BU (!G7 hu (!BU (pv 0)) (pv 1) (fun _ _=>rfl))))),?_⟩
 try dsimp only[BB,Cx.nox,Cx.wish]
 have g:Dm H q.dt (.int e.z) (some (.ref e.c)):=by
  have:=Dm.k (k:=Sum.inl e.z) h2;rw[Jw nd he] at this;exact this
 exact⟨_,rfl,p,Ad,q.dp,_,_,rfl,h1,T.cl_Pool,T.n_Pool_taken,rfl,_,rfl,q.dt,_,rfl,g,e.c,Aa,e.dx,_,_,rfl,(h4 e he).1,T.cl_TakenCell,T.n_TakenCell_steps_beneath,rfl,hq⟩
def BP (K:W.Frag)(CP CT:Addr):Sp:=fun vs H Q _=>∃p q cs e,∃(ta:Addr) (y k:V),vs=[.ref p,.ref ta]/\Fi CP CT H p q cs/\H q.dd=some (.dK (PR cs))/\e∈cs/\H ta=some (.tup [.int e.z,y,k])/\Q e.v H
theorem Kq (T:Txt K mg Ah Aa Ad XC)(F:Fun K "block" "Pool.block" BY f fd):FnOk P w K mg base DD 1 f fd ["self","tag"] (BP K Ad Aa):=by
 exists Kk
 ·obtain⟨p,q,cs,e,ta,y,k,rfl,_⟩:=h;rfl
 obtain⟨p,q,cs,e,ta,y,k,rfl,⟨h1,h2,h4,nd⟩,h3,he,ht,hq⟩:=h;have hu:=Cf hr;refine⟨_,(!Af (!A7 (!GE (!RN hu (!AD AH (pv 1) (!Ak) (fun _ _=>rfl)) (!BU (pv 0))) (by first|exact Dd _ (by decide) (by decide)|rfl)) (!Al (!Ar (!G7 hu (!BU (pv 0)) (!AD AH (pv 1) (!Ak) (fun _ _=>rfl)) (fun _ _=>rfl)))) (!AB)) (!Al (!G4))),?_⟩
 try dsimp only[BB,Cx.nox,Cx.wish]
 have g:Dm H q.dd (.int e.z) (some e.v):=by
  have:=Dm.k (k:=Sum.inl e.z) h3;rw[UT nd he] at this;exact this
 refine⟨_,rfl,ta,_,_,_,rfl,rfl,A0.of ht,rfl,_,rfl,p,Ad,q.dp,_,_,rfl,h1,T.cl_Pool,T.n_Pool_draft,rfl,q.dd,_,rfl,g,?_⟩;refine⟨_,rfl,BW rfl ?_⟩;exact⟨_,rfl,p,Ad,q.dp,_,_,rfl,h1,T.cl_Pool,T.n_Pool_draft,rfl,_,rfl,ta,_,_,_,rfl,rfl,A0.of ht,rfl,q.dd,_,rfl,g,hq⟩
def EZ (K:W.Frag)(CP CT:Addr):Sp:=fun vs H Q _=>∃p q cs e,∃(ta:Addr) (y k:V),vs=[.ref p,.ref ta]/\Fi CP CT H p q cs/\e∈cs/\H ta=some (.tup [.int e.z,y,k])/\Q .non (upd H e.c (.ins CT e.dx (FO e.ta ((wT (Df e.bk)).length:Int) e.l (e.k+1) e.en e.st)))
theorem LM (T:Txt K mg Ah Aa Ad XC)(F:Fun K "hold" "Pool.hold" CA f fd):FnOk P w K mg base DD 1 f fd ["self","tag"] (EZ K Ad Aa):=by
 exists G2
 ·obtain⟨p,q,cs,e,ta,y,k,rfl,_⟩:=h;rfl
 obtain⟨p,q,cs,e,ta,y,k,rfl,⟨h1,h2,h4,nd⟩,he,ht,hq⟩:=h;have hu:=Cf hr;refine⟨_,(!Af (@As _ _ (2) _ _ _ _ G2.nd rfl (by trivial) (!G7 hu (!BU (pv 0)) (!AD AH (pv 1) (!Ak) (fun _ _=>rfl)) (fun _ _=>rfl)) (by rfl) (by trivial)) (!Al (!KL (pv 2) (!Ak) OL))),?_⟩
 try dsimp only[BB,Cx.nox,Cx.wish]
 have g:Dm H q.dt (.int e.z) (some (.ref e.c)):=by
  have:=Dm.k (k:=Sum.inl e.z) h2;rw[Jw nd he] at this;exact this
 have hc:=(h4 e he).1;refine⟨_,rfl,p,Ad,q.dp,_,_,rfl,h1,T.cl_Pool,T.n_Pool_taken,rfl,_,rfl,ta,_,_,_,rfl,rfl,A0.of ht,rfl,q.dt,_,rfl,g,?_⟩;exact⟨_,rfl,e.c,Aa,e.dx,_,_,rfl,hc,T.cl_TakenCell,T.n_TakenCell_times_named,rfl,_,_,rfl,rfl,e.dx,_,hc,(by show 6<1000;decide),hq⟩
def Cc (K:W.Frag)(CP CT:Addr):Sp:=fun vs H Q _=>∃p q cs,vs=[.ref p]/\Fi CP CT H p q cs/\(∀(i:Nat) e,cs[i]?=some e->e.z=(i:Int)+1)/\1<=q.n/\q.n<=(cs.length:Int)+1/\
 ∀H',H' p=some (.ins CP q.dp (IZ q.bo q.dt q.dz q.dd ((cs.length:Int)+1)))->(∀b,b≠p->H' b=H b)->Q (.int ((cs.length:Int)+1)) H'
theorem Gf (T:Txt K mg Ah Aa Ad XC)(F:Fun K "free_number" "Pool.free_number" A2 f fd):FnOk P w K mg base DD 1 f fd ["self"] (Cc K Ad Aa):=by
 exists Gd
 ·obtain⟨p,q,cs,rfl,_⟩:=h;rfl
 obtain⟨p,q,cs,rfl,⟨h1,h2,h4,nd⟩,zs,n1,n2,hq⟩:=h;have hu:=Cf hr;refine⟨_,(!Af (!MQ PassesOwn.never (!GE (!RN hu (!BU (pv 0)) (!BU (pv 0))) (by first|exact Dd _ (by decide) (by decide)|rfl)) (!Al (!KL (pv 0) (!Ak) OL))) (!Al (!Ar (!BU (pv 0))))),?_⟩
 try dsimp only[BB,Cx.nox,Cx.wish]
 have nt:q.dt≠p:=Ce h2 h1 (by intro z;cases z);have vn:∀j:Int,(cs.length:Int)<j->BJ (Mg cs) (Sum.inl j)=none:=fun j hj=>by
  unfold BJ;rw[Option.map_eq_none_iff,List.find?_eq_none];intro x hx;obtain⟨e,he,rfl⟩:=List.mem_map.mp hx;obtain⟨i,hi,rfl⟩:=List.getElem_of_mem he;have:=zs i _ (List.getElem?_eq_getElem hi);intro z;have:=Sum.inl.inj (of_decide_eq_true z);omega
 refine⟨fun m σ H2=>∃j:Int,m=((cs.length:Int)+1-j).toNat/\1<=j/\j<=(cs.length:Int)+1/\σ=[some (.ref p)]/\H2 p=some (.ins Ad q.dp (IZ q.bo q.dt q.dz q.dd j))/\∀b,b≠p->H2 b=H b,⟨_,q.n,rfl,n1,n2,rfl,h1,fun _ _=>rfl⟩,?_⟩
 rintro m σ H2 ⟨j,rfl,j1,j2,rfl,hp,ho⟩
 have hdt:H2 q.dt=some (.dK (Mg cs)):=by rw[ho _ nt];exact h2
 refine⟨_,rfl,p,Ad,q.dp,_,_,rfl,hp,T.cl_Pool,T.n_Pool_first_maybe_free,rfl,_,rfl,p,Ad,q.dp,_,_,rfl,hp,T.cl_Pool,T.n_Pool_taken,rfl,q.dt,_,rfl,Dm.k (k:=Sum.inl j) hdt,_,rfl,C8 (fun c=>?_) (fun c=>?_)⟩
 ·have hj:j<=(cs.length:Int):=Classical.byContradiction fun z=>by
   rw[vn j (by omega)] at c;cases c
  refine⟨fun σ H'=>σ=[some (.ref p)]/\H' p=some (.ins Ad q.dp (IZ q.bo q.dt q.dz q.dd (j+1)))/\∀b,b≠p->H' b=H b,?_,?_⟩
  ·rintro σ' H' ⟨rfl,a1,a2⟩
   exact⟨((cs.length:Int)+1-(j+1)).toNat,by omega,j+1,rfl,by omega,by omega,rfl,a1,a2⟩
  ·refine⟨_,rfl,p,Ad,q.dp,_,_,rfl,hp,T.cl_Pool,T.n_Pool_first_maybe_free,rfl,_,_,rfl,rfl,q.dp,_,hp,(by show 5<1000;decide),rfl,Ac,fun b hb=>?_⟩;rw[Ag hb];exact ho b hb
 ·have hj:j=(cs.length:Int)+1:=Classical.byContradiction fun z=>by
   have li:(j-1).toNat<cs.length:=by omega
   have hz:=zs _ _ (List.getElem?_eq_getElem li);have:=Jw nd (List.getElem_mem li);rw[hz,show(((j-1).toNat:Nat):Int)+1=j by omega] at this;rw[this] at c;exact c rfl
  subst hj;exact⟨_,rfl,p,Ad,q.dp,_,_,rfl,hp,T.cl_Pool,T.n_Pool_first_maybe_free,rfl,hq H2 hp ho⟩
end
open M06
section
variable {P:Program}{w:World}{K:W.Frag}{mg:Str->Option Value}{base:Heap}{f Ah Aa Ad:Addr}{XC:Nat->Addr}{fd:FuncData}
theorem JS {J:It} {xs:List V} {te:TE} {Q:VK} {s0:Option V} {σ:St} {H:Hp} (f:V->V) (hJ:HF J H xs) (hn:xs.length<=1000000) (htg:∀x∈xs,∃a x1 x2 x3,x=.ref a/\H a=some (.tup [x1,x2,x3]))
  (helt:∀a x1 x2 x3 (H':Hp) (R:VK),V.ref a∈xs->H a=some (.tup [x1,x2,x3])->Am H H'->(∀H'',Am H' H''->R (f (.ref a)) H'')->te [some x1,some x2,some x3,s0] H' R)
  (hQ:∀l H',H l=none->Am H H'->H' l=some (.lst (xs.map f))->Q (.ref l) H') :
  Di [none,none,none,some 0] (Qb K 3 (EE (Au 0) (EE (Au 1) (EE (Au 2) R4)))) Qv te (s0::σ) Q J H:=by
 intro l hl;refine⟨fun i m σ' H'=>m=xs.length-i/\i<=xs.length/\(∃y0 y1 y2,σ'=[y0,y1,y2,s0])/\Am H H'/\H' l=some (.lst ((xs.take i).map f)),⟨xs.length,by simp,Nat.zero_le _,⟨_,_,_,rfl⟩,Ai hl _,by rw[Ac,List.take_zero,List.map_nil]⟩,?_⟩
 rintro i m σ' H' ⟨rfl,hi,⟨y0,y1,y2,rfl⟩,hs,hl'⟩
 obtain⟨h1,h2,h3⟩:=hJ H' hs i
 by_cases hlt:i<xs.length
 ·refine .inr ⟨h1 hlt,fun x H'' y=>?_⟩;obtain⟨rfl,hx⟩:=h2 x H'' y;have hx:=hx hlt;obtain⟨a,x1,x2,x3,rfl,ha⟩:=htg x (List.mem_of_getElem? hx);refine⟨a,_,rfl,A0.of (hs.get ha),rfl,_,_,rfl,_,_,rfl,_,_,rfl,rfl,?_⟩;refine helt a x1 x2 x3 H'' _ (List.mem_of_getElem? hx) ha hs fun H4 s4=>?_
  refine⟨_,s4.get hl',BF (by rw[List.length_map,List.length_take];omega),xs.length-(i+1),by omega,rfl,hlt,⟨_,_,_,rfl⟩,AU (hs.trans s4) hl _,?_⟩;rw[Ac,List.take_add_one,hx];simp
 ·have e:i=xs.length:=by omega
  subst e;exact .inl ⟨h3 (Nat.le_refl _),hQ l H' hl hs (by rw[hl',List.take_of_length_le (Nat.le_refl _)])⟩
theorem Hx.tup {C:Addr}{H H':Hp}{e:Cl}(hc:H' e.c=H e.c)(ht:∀c ys,H c=some (.tup ys)->H' c=some (.tup ys))(h:Hx C H e):Hx C H' e:=⟨by rw[hc];exact h.1,ht _ _ h.2.1,Cp ht _ _ h.2.2.1,h.2.2.2⟩
theorem Fi.same {CP CT:Addr}{H H':Hp}{p:Addr}{q:Pl}{cs:List Cl}(s:Am H H')(h:Fi CP CT H p q cs):Fi CP CT H' p q cs:=
 ⟨s.get h.1,s.get h.2.1,fun e he=>(h.2.2.1 e he).tup ((s.get (h.2.2.1 e he).1).trans (h.2.2.1 e he).1.symm) (fun c ys h=>s.get h),h.2.2.2⟩
def Ni (cs:List Cl)(z:Int):Int:=match cs.find? (fun e=>decide (e.z=z)) with
 |some e=>e.en
 |none=>0
def MO (cs:List Cl)(z:Int):Int:=match cs.find? (fun e=>decide (e.z=z)) with
 |some e=>e.st
 |none=>0
def Ti (cs:List Cl)(x:En):Int:=1+if x.kd=2 then Ni cs x.tg.1 else 0
def Tv (cs:List Cl)(x:En):Int:=1+if x.kd=2 then MO cs x.tg.1 else 0
theorem Sf {cs:List Cl}(nd:(cs.map (·.z)).Nodup){e:Cl}(h:e∈cs):cs.find? (fun x=>decide (x.z=e.z))=some e:=by
 induction cs with
 |nil=>nomatch h
 |cons x cs ih=>
  rw[List.map_cons,List.nodup_cons] at nd;rcases List.mem_cons.mp h with rfl|h
  ·exact List.find?_cons_of_pos (by simp)
  ·have n:x.z≠e.z:=fun z=>nd.1 (by rw[z];exact List.mem_map.mpr ⟨_,h,rfl⟩)
   rw[List.find?_cons_of_neg (by simpa using n)];exact ih nd.2 h
theorem T6 {cs:List Cl}(nd:(cs.map (·.z)).Nodup){e:Cl}(h:e∈cs):Ni cs e.z=e.en:=by unfold Ni;rw[Sf nd h]
theorem TU {cs:List Cl}(nd:(cs.map (·.z)).Nodup){e:Cl}(h:e∈cs):MO cs e.z=e.st:=by unfold MO;rw[Sf nd h]
def Rt (H:Hp)(g:Int->Int->Int):V->V
 | .ref a=>match H a with
  |some (.tup [_,.int k,.ref b])=>(match H b with
   |some (.tup (.int z::_))=>.int (g k z)
   |_=>.non)
  |_=>.non
 |_=>.non
theorem Og {H:Hp}{g:Int->Int->Int}{a b:Addr}{x:V}{k z:Int}{xs:List V}(h:H a=some (.tup [x,.int k,.ref b]))(h2:H b=some (.tup (.int z::xs))):Rt H g (.ref a)=.int (g k z):=by
 unfold Rt;simp only[h,h2]
theorem Jr {H:Hp}{g:Int->Int->Int}:∀{es:List En} {us:List V},Ax NL H (es.map Jg) us->us.map (Rt H g)=(es.map fun x=>g x.kd x.tg.1).map V.int
 |[],us,h=>by cases h;exact rfl
 |e::es,us,h=>by
  obtain⟨v,vs,rfl,h1,h2⟩:=h;obtain⟨a,b,rfl,e1,e2⟩:=Em h1;rw[List.map_cons,Og e1 e2,Jr h2];rfl
def Cr (K:W.Frag)(CP CT:Addr):Sp:=fun vs H Q _=>∃p q cs v es,vs=[.ref p,v]/\Fi CP CT H p q cs/\Rep NL H (Df (.folder es)) v/\es.length<=16/\(∀x∈es,x.kd=2->∃e∈cs,e.z=x.tg.1)/\∀H',Am H H'->Q (.int (es.map (Ti cs)).sum) H'
theorem GL (T:Txt K mg Ah Aa Ad XC)(F:Fun K "entries_of" "Pool.entries_of" A8 f fd)(DU:CL P w K mg base 1 Ad "entries" ["self","number"] (Dh K Ad Aa)):FnOk P w K mg base DD 2 f fd ["self","folder"] (Cr K Ad Aa):=by
 exists Gy
 ·obtain⟨p,q,cs,v,es,rfl,_⟩:=h;rfl
 obtain⟨p,q,cs,v,es,rfl,pa,hv,l16,kn,hq⟩:=h;have hu:=Cf hr;refine⟨_,(!Al (!Ar (!Av (Sd rfl) (by rfl) T.b_sum U8 (!Ab (@Hc _ ["name","kind","tag","self"] [none,none,none,some 0] _ _ _ _ _ _ _ _ _ _ _ rfl (!E4 (!AD AH (pv 1) (!Ak) (fun _ _=>rfl))) (by rfl) rfl (by repeat (first|exact trivial|refine⟨rfl,?_⟩)) (by repeat (first|exact trivial|refine⟨fun h=>(by first|exact⟨_,rfl⟩|cases h),?_⟩)) (fun C s H fp=>⟨(@Hf _ (K) _ _ _ _ (3) (by rfl) rfl (!AF (@An _ _ (0) _ (show(["name","kind","tag","self"]:List Str).Nodup by decide +kernel) rfl (by trivial) (by trivial)) (!AF (@An _ _ (1) _ (show(["name","kind","tag","self"]:List Str).Nodup by decide +kernel) rfl (by trivial) (by trivial)) (!AF (@An _ _ (2) _ (show(["name","kind","tag","self"]:List Str).Nodup by decide +kernel) rfl (by trivial) (by trivial)) (!Ds)))) (by rfl) (by rfl)),(!Bp),(!Ay DG (!Ak) (!Nh (!AA Dq (pv 1) (!AK rfl T.c_FOLDER_ENTRY) (AL _)) (!BG (pv 3) T.cl_Pool DU (by trivial) (!Ab (!AD (Hk (K:=K) (by rfl)) (pv 2) (!Ak) (fun _ _=>rfl)) (!Ae))) (!Ak)))⟩) (by intro _;rfl)) (!Ae))))),?_⟩
 try dsimp only[BB,Cx.nox,Cx.wish]
 obtain⟨a,b,us,rfl,e1,e2,r⟩:=BX hv;have lu:us.length=es.length:=by rw[Ax.len _ _ r,List.length_map]
 have nd:=pa.2.2.2;refine⟨_,rfl,a,_,_,_,rfl,rfl,A0.of e1,rfl,b,rfl,⟨_,A0.of e2⟩,?_⟩;refine JS (xs:=us) (Rt H fun k z=>1+if k=2 then Ni cs z else 0) (Eu e2) (by omega) (fun x hx=>?_) (fun c x1 x2 x3 H' R hx hb s' hR=>?_) fun l H' nl s' hl=>⟨l,es.map (Ti cs),rfl,AW.of (by rw[hl,Jr r];rfl),hq H' s'⟩
 ·obtain⟨en,_,hr⟩:=FY r hx;obtain⟨c,d,rfl,e3,_⟩:=Em hr;exact⟨c,_,_,_,rfl,e3⟩
 ·obtain⟨en,hen,hr⟩:=FY r hx;obtain⟨c',d,z,e3,e4⟩:=Em hr;cases z;rw[hb] at e3;cases e3;have hR:=hR H' (Am.refl _);rw[Og hb e4] at hR;refine⟨_,rfl,rfl,_,rfl,C8 (fun hk=>?_) (fun hk=>?_)⟩
  ·have hk:=of_decide_eq_true hk;have hk:en.kd=2:=V.int.inj hk;obtain⟨e,he,hz⟩:=kn en hen hk;rw[if_pos hk,<-hz,T6 nd he] at hR;rw[<-hz] at e4;exact⟨_,rfl,p,q.dp,_,rfl,(pa.same s').1,rfl,_,rfl,d,_,_,_,rfl,rfl,A0.of (s'.get e4),rfl,p,q,cs,e,rfl,pa.same s',he,_,_,rfl,rfl,hR⟩
  ·have hk:¬en.kd=2:=fun z=>hk (decide_eq_true (congrArg V.int z))
   rw[if_neg hk] at hR;exact⟨_,_,rfl,rfl,hR⟩
def CY (K:W.Frag)(CP CT:Addr):Sp:=fun vs H Q _=>∃p q cs v es,vs=[.ref p,v]/\Fi CP CT H p q cs/\Rep NL H (Df (.folder es)) v/\es.length<=16/\(∀x∈es,x.kd=2->∃e∈cs,e.z=x.tg.1)/\∀H',Am H H'->Q (.int (Im (es.map (Tv cs)))) H'
theorem HV (T:Txt K mg Ah Aa Ad XC)(F:Fun K "steps_of" "Pool.steps_of" Bn f fd)(FK:CL P w K mg base 1 Ad "deep" ["self","number"] (EX K Ad Aa)):FnOk P w K mg base DD 2 f fd ["self","folder"] (CY K Ad Aa):=by
 exists EA
 ·obtain⟨p,q,cs,v,es,rfl,_⟩:=h;rfl
 obtain⟨p,q,cs,v,es,rfl,pa,hv,l16,kn,hq⟩:=h;have hu:=Cf hr;refine⟨_,(!Af (@IR _ ["name","kind","tag","self"] [none,none,none,some 0] (2) _ _ _ _ _ _ _ _ _ _ _ _ _ _ EA.nd rfl (by trivial) rfl (!E4 (!AD AH (pv 1) (!Ak) (fun _ _=>rfl))) (by rfl) rfl (by repeat (first|exact trivial|refine⟨rfl,?_⟩)) (by repeat (first|exact trivial|refine⟨fun h=>(by first|exact⟨_,rfl⟩|cases h),?_⟩)) (fun C s H fp=>⟨(@Hf _ (K) _ _ _ _ (3) (by rfl) rfl (!AF (@An _ _ (0) _ (show(["name","kind","tag","self"]:List Str).Nodup by decide +kernel) rfl (by trivial) (by trivial)) (!AF (@An _ _ (1) _ (show(["name","kind","tag","self"]:List Str).Nodup by decide +kernel) rfl (by trivial) (by trivial)) (!AF (@An _ _ (2) _ (show(["name","kind","tag","self"]:List Str).Nodup by decide +kernel) rfl (by trivial) (by trivial)) (!Ds)))) (by rfl) (by rfl)),(!Bp),(!Ay DG (!Ak) (!Nh (!AA Dq (pv 1) (!AK rfl T.c_FOLDER_ENTRY) (AL _)) (!BG (pv 3) T.cl_Pool FK (by trivial) (!Ab (!AD (Hk (K:=K) (by rfl)) (pv 2) (!Ak) (fun _ _=>rfl)) (!Ae))) (!Ak)))⟩) (by intro _;rfl) (by rfl) (by trivial)) (!Al (!Ar (!SU rfl (by rfl) T.b_max (!Ab (pv 2) (!Ae)))))),?_⟩
 try dsimp only[BB,Cx.nox,Cx.wish]
 obtain⟨a,b,us,rfl,e1,e2,r⟩:=BX hv;have lu:us.length=es.length:=by rw[Ax.len _ _ r,List.length_map]
 have nd:=pa.2.2.2;refine⟨_,rfl,a,_,_,_,rfl,rfl,A0.of e1,rfl,b,rfl,⟨_,A0.of e2⟩,?_⟩;refine JS (xs:=us) (Rt H fun k z=>1+if k=2 then MO cs z else 0) (Eu e2) (by omega) (fun x hx=>?_) (fun c x1 x2 x3 H' R hx hb s' hR=>?_) fun l H' nl s' hl=>⟨_,rfl,l,es.map (Tv cs),rfl,AW.of (by rw[hl,Jr r];rfl),hq H' s'⟩
 ·obtain⟨en,_,hr⟩:=FY r hx;obtain⟨c,d,rfl,e3,_⟩:=Em hr;exact⟨c,_,_,_,rfl,e3⟩
 ·obtain⟨en,hen,hr⟩:=FY r hx;obtain⟨c',d,z,e3,e4⟩:=Em hr;cases z;rw[hb] at e3;cases e3;have hR:=hR H' (Am.refl _);rw[Og hb e4] at hR;refine⟨_,rfl,rfl,_,rfl,C8 (fun hk=>?_) (fun hk=>?_)⟩
  ·have hk:=of_decide_eq_true hk;have hk:en.kd=2:=V.int.inj hk;obtain⟨e,he,hz⟩:=kn en hen hk;rw[if_pos hk,<-hz,TU nd he] at hR;rw[<-hz] at e4;exact⟨_,rfl,p,q.dp,_,rfl,(pa.same s').1,rfl,_,rfl,d,_,_,_,rfl,rfl,A0.of (s'.get e4),rfl,p,q,cs,e,rfl,pa.same s',he,_,_,rfl,rfl,hR⟩
  ·have hk:¬en.kd=2:=fun z=>hk (decide_eq_true (congrArg V.int z))
   rw[if_neg hk] at hR;exact⟨_,_,rfl,rfl,hR⟩
theorem map_one {α β:Type}{g:α->β}(hg:∀a b,g a=g b->a=b):∀{l l':List α},l.map g=l'.map g->l=l'
 |[],[],_=>rfl
 |[],_::_,h=>nomatch h
 |_::_,[],h=>nomatch h
 |x::l,y::l',h=>by
  rw[List.map_cons,List.map_cons] at h;injection h with h1 h2
  rw[hg x y h1,map_one hg h2]
theorem O1 (a b:Tg)(h:Hq a=Hq b):a=b:=by
 obtain⟨a1,a2,a3⟩:=a;obtain⟨b1,b2,b3⟩:=b;injection h with h
 injection h with h1 h
 injection h with h2 h
 injection h with h3 _
 injection h1 with h1
 injection h2 with h2
 injection h3 with h3
 dsimp only at h1 h2 h3;rw[h1,h2,h3]
theorem S4 (a b:En)(h:Jg a=Jg b):a=b:=by
 obtain⟨a1,a2,a3⟩:=a;obtain⟨b1,b2,b3⟩:=b;injection h with h
 injection h with h1 h
 injection h with h2 h
 injection h with h3 _
 injection h1 with h1
 injection h2 with h2
 have h3:=O1 _ _ h3;dsimp only at h1 h2 h3;rw[h1,h2,h3]
theorem SM {a b:Bk}(h:Df a=Df b):a=b:=by
 cases a with
 |piece z=>
  cases b with
  |piece z'=>injection h with h;injection h with _ h;injection h with h _;injection h with h;rw[h]
  |row lv ts=>injection h with h;injection h with h _;injection h with h;cases h
  |folder es=>injection h with h;injection h with h _;injection h with h;cases h
 |row lv ts=>
  cases b with
  |piece z'=>injection h with h;injection h with h _;injection h with h;cases h
  |row lv' ts'=>
   injection h with h;injection h with _ h;injection h with h1 h;injection h with h2 _
   injection h1 with h1
   injection h2 with h2
   rw[h1,map_one O1 h2]
  |folder es=>injection h with h;injection h with h _;injection h with h;cases h
 |folder es=>
  cases b with
  |piece z'=>injection h with h;injection h with h _;injection h with h;cases h
  |row lv ts=>injection h with h;injection h with h _;injection h with h;cases h
  |folder es'=>injection h with h;injection h with _ h;injection h with h _;injection h with h;rw[map_one S4 h]
theorem Cy {α β:Type}{g:α->β}:∀{l:List α},(l.map g).Nodup->∀{x y:α},x∈l->y∈l->g x=g y->x=y
 |[],_,_,_,h,_,_=>nomatch h
 |a::l,nd,x,y,hx,hy,e=>by
  rw[List.map_cons,List.nodup_cons] at nd;rcases List.mem_cons.mp hx with hx|hx
  ·rcases List.mem_cons.mp hy with hy|hy
   ·rw[hx,hy]
   ·exact(nd.1 (by rw[<-hx,e];exact List.mem_map.mpr ⟨_,hy,rfl⟩)).elim
  ·rcases List.mem_cons.mp hy with hy|hy
   ·exact(nd.1 (by rw[<-hy,<-e];exact List.mem_map.mpr ⟨_,hx,rfl⟩)).elim
   ·exact Cy nd.2 hx hy e
def bump (zs:List Int)(e:Cl):Cl:={ e with k:=e.k+(zs.count e.z:Int) }
theorem Pz (zs ys:List Int)(e:Cl):bump ys (bump zs e)=bump (zs++ys) e:=by
 unfold bump;rw[List.count_append];simp only[Int.natCast_add,Int.add_assoc]
theorem Sb (e:Cl):bump [] e=e:=by
 unfold bump;simp
theorem PU (cs:List Cl):cs.map (bump [])=cs:=by
 rw[show(bump []:Cl->Cl)=id from funext Sb];simp
theorem NY (zs ys:List Int)(cs:List Cl):(cs.map (bump zs)).map (bump ys)=cs.map (bump (zs++ys)):=by
 rw[List.map_map];exact List.map_congr_left fun e _=>Pz zs ys e
theorem Q9 (zs:List Int)(cs:List Cl):Mg (cs.map (bump zs))=Mg cs:=by unfold Mg;rw[List.map_map];rfl
theorem RL (zs:List Int)(cs:List Cl):PR (cs.map (bump zs))=PR cs:=by unfold PR;rw[List.map_map];rfl
theorem Tf (zs:List Int)(cs:List Cl):(cs.map (bump zs)).map (·.z)=cs.map (·.z):=by rw[List.map_map];rfl
theorem Pb (zs:List Int)(cs:List Cl):(cs.map (bump zs)).map (·.c)=cs.map (·.c):=by rw[List.map_map];rfl
def Dr (cs:List Cl)(s:Int):List Int:=(cs.filter (fun e=>decide (Bs e.bk=s))).map (·.z)
theorem KZ (zs:List Int)(s:Int):∀cs:List Cl,Dr (cs.map (bump zs)) s=Dr cs s
 |[]=>rfl
 |e::cs=>by
  have ih:=KZ zs s cs;unfold Dr at ih ⊢;rw[List.map_cons,List.filter_cons,List.filter_cons];have:decide (Bs (bump zs e).bk=s)=decide (Bs e.bk=s):=rfl;rw[this];cases decide (Bs e.bk=s)
  ·exact ih
  ·show(bump zs e).z::_=e.z::_;rw[ih];rfl
theorem KG (cs:List Cl)(e:Cl)(s:Int):Dr (cs++[e]) s=Dr cs s++if Bs e.bk=s then[e.z] else[]:=by
 unfold Dr;rw[List.filter_append,List.map_append]
 by_cases h:Bs e.bk=s
 ·rw[if_pos h,List.filter_cons_of_pos (by simpa using h)];rfl
 ·rw[if_neg h,List.filter_cons_of_neg (by simpa using h)];rfl
theorem GO {cs:List Cl}{s z:Int}:z∈Dr cs s↔∃e∈cs,Bs e.bk=s/\e.z=z:=by
 unfold Dr;rw[List.mem_map];constructor
 ·rintro⟨e,he,rfl⟩
  rw[List.mem_filter,decide_eq_true_eq] at he;exact⟨e,he.1,he.2,rfl⟩
 ·rintro⟨e,he,hs,rfl⟩
  exact⟨e,List.mem_filter.mpr ⟨he,by simpa using hs⟩,rfl⟩
theorem MB (cs:List Cl)(s:Int):(Dr cs s).length<=cs.length:=by
 unfold Dr;rw[List.length_map];exact List.length_filter_le _ _
def Pq (ns:List Int):List (Key×V):=ns.map fun z=>(Sum.inl z,V.bl true)
def Rl (bs:List (Int×Addr)):List (Key×V):=bs.map fun x=>(Sum.inl x.1,V.ref x.2)
theorem JB {κ:Type}[DecidableEq κ]{kvs:List (κ×V)}{k:κ}(h:∀x∈kvs,x.1≠k):BJ kvs k=none:=by
 unfold BJ;rw[Option.map_eq_none_iff,List.find?_eq_none];intro x hx z;exact h x hx (of_decide_eq_true z)
theorem Tu {κ:Type}[DecidableEq κ]{kvs:List (κ×V)}{k:κ}{v:V}(h:BJ kvs k=some v):(k,v)∈kvs:=by
 unfold BJ at h;rw[Option.map_eq_some_iff] at h;obtain⟨x,hx,rfl⟩:=h;have:=List.mem_of_find?_eq_some hx;have e:x.1=k:=by simpa using List.find?_some hx
 rw[<-e];exact this
structure BsAt (H:Hp) (q:Pl) (cs:List Cl) (bs:List (Int×Addr)):Prop where
 h:H q.dz=some (.dK (Rl bs))
 k:(bs.map (·.1)).Nodup
 a:(bs.map (·.2)).Nodup
 d:∀x∈bs,H x.2=some (.dK (Pq (Dr cs x.1)))/\x.2≠q.dt/\x.2≠q.dz/\x.2≠q.dd
 all:∀e∈cs,∃x∈bs,x.1=Bs e.bk
theorem RJ {bs:List (Int×Addr)}(nd:(bs.map (·.1)).Nodup){x:Int×Addr}(h:x∈bs):BJ (Rl bs) (Sum.inl x.1)=some (.ref x.2):=by
 refine Lq ?_ (List.mem_map.mpr ⟨x,h,rfl⟩);unfold Rl;rw[List.map_map,show((fun y:Key×V=>y.1)∘fun x:Int×Addr=>((Sum.inl x.1:Key),V.ref x.2))=(fun z:Int=>(Sum.inl z:Key))∘(fun x:Int×Addr=>x.1) from rfl,<-List.map_map];exact List.Pairwise.map _ (fun a b n e=>n (Sum.inl.inj e)) nd
theorem Rz {bs:List (Int×Addr)}{s:Int}{v:V}(h:BJ (Rl bs) (Sum.inl s)=some v):∃x∈bs,x.1=s/\v=.ref x.2:=by
 obtain⟨x,hx,e⟩:=List.mem_map.mp (Tu h);exact⟨x,hx,Sum.inl.inj (congrArg Prod.fst e),(congrArg Prod.snd e).symm⟩
theorem BsAt.no {H:Hp}{q:Pl}{cs:List Cl}{bs:List (Int×Addr)}(B:BsAt H q cs bs){s:Int}(h:BJ (Rl bs) (Sum.inl s)=none):Dr cs s=[]:=by
 rw[List.eq_nil_iff_forall_not_mem];intro z hz;obtain⟨e,he,rfl,rfl⟩:=GO.mp hz;obtain⟨x,hx,hs⟩:=B.all e he;rw[<-hs,RJ B.k hx] at h;cases h
structure PAt (CP CT:Addr) (H:Hp) (p:Addr) (q:Pl) (cs:List Cl) (bs:List (Int×Addr)):Prop where
 t:Fi CP CT H p q cs
 d:H q.dd=some (.dK (PR cs))
 b:BsAt H q cs bs
 n1:q.dt≠q.dz
 n2:q.dt≠q.dd
 n3:q.dz≠q.dd
 c:(cs.map (·.c)).Nodup
 z:∀(i:Nat) e,cs[i]?=some e->e.z=(i:Int)+1
 w:bs.length<=cs.length
 f1:1<=q.n
 f2:q.n<=(cs.length:Int)+1
def FH (p:Addr)(q:Pl)(cs:List Cl)(bs:List (Int×Addr)):List Addr:=p::q.dt::q.dz::q.dd::(bs.map (·.2)++cs.map (·.c))
def VB (L:List Addr)(H H':Hp):Prop:=∀a o,H a=some o->a∉L->H' a=some o
theorem Am.frm {L:List Addr}{H H':Hp}(s:Am H H'):VB L H H':=fun _ _ h _=>s.get h
theorem PAt.same {CP CT:Addr}{H H':Hp}{p:Addr}{q:Pl}{cs:List Cl}{bs:List (Int×Addr)}(s:Am H H')(h:PAt CP CT H p q cs bs):PAt CP CT H' p q cs bs:=
 { h with t:=h.t.same s,d:=s.get h.d,b:={ h.b with h:=s.get h.b.h,d:=fun x hx=>⟨s.get (h.b.d x hx).1,(h.b.d x hx).2⟩ } }
theorem PAt.apart {CP CT:Addr}{H:Hp}{p:Addr}{q:Pl}{cs:List Cl}{bs:List (Int×Addr)}(h:PAt CP CT H p q cs bs){a:Addr}{o:HO}(e:H a=some o)(n1:∀C d fs,o≠.ins C d fs)(n2:∀kvs,o≠.dK kvs):a∉FH p q cs bs:=by
 have no:∀{b u},H b=some u->u≠o->a≠b:=fun{b u} hb hn z=>hn (by rw[z,hb] at e;exact Option.some.inj e)
 unfold FH;simp only[List.mem_cons,List.mem_append,List.mem_map,not_or];refine⟨no h.t.1 (Ne.symm (n1 _ _ _)),no h.t.2.1 (Ne.symm (n2 _)),no h.b.h (Ne.symm (n2 _)),no h.d (Ne.symm (n2 _)),?_,?_⟩
 ·rintro⟨x,hx,z⟩
  exact no (h.b.d x hx).1 (Ne.symm (n2 _)) z.symm
 ·rintro⟨x,hx,z⟩
  exact no (h.t.2.2.1 x hx).1 (Ne.symm (n1 _ _ _)) z.symm
theorem Fi.hold {CP CT:Addr}{H:Hp}{p:Addr}{q:Pl}{cs:List Cl}(h:Fi CP CT H p q cs)(nc:(cs.map (·.c)).Nodup){e:Cl}(he:e∈cs):Fi CP CT (upd H e.c (.ins CT e.dx (FO e.ta ((wT (Df e.bk)).length:Int) e.l (e.k+1) e.en e.st))) p q (cs.map (bump [e.z])):=by
 obtain⟨h1,h2,h4,nd⟩:=h;have hc:=(h4 e he).1;have n1:p≠e.c:=fun z=>by
  rw[z,hc] at h1;have:=Option.some.inj h1;injection this with _ _ this
  injection this with this _
  injection this with this _
  revert this
  decide
 refine⟨by rw[Ag n1];exact h1,by rw[Ag (Ce h2 hc (by intro z;cases z)),Q9];exact h2,fun x hx=>?_,by rw[Tf];exact nd⟩;obtain⟨y,hy,rfl⟩:=List.mem_map.mp hx;have ht:∀c ys,H c=some (.tup ys)->(upd H e.c (.ins CT e.dx (FO e.ta ((wT (Df e.bk)).length:Int) e.l (e.k+1) e.en e.st))) c=some (.tup ys):=fun c ys h=>by rw[Ag (Ce h hc (by intro z;cases z))];exact h
 obtain⟨a1,a2,a3,a4⟩:=h4 y hy
 by_cases hz:y.z=e.z
 ·obtain rfl:=Cy nd hy he hz;refine⟨?_,ht _ _ a2,Cp ht _ _ a3,a4⟩;show upd H y.c _ y.c=some (.ins CT y.dx (FO y.ta ((wT (Df y.bk)).length:Int) y.l (y.k+(([y.z].count y.z:Nat):Int)) y.en y.st));rw[Ac,List.count_singleton_self];rfl
 ·have nn:y.c≠e.c:=fun z=>hz (by rw[Cy nc hy he z])
  refine⟨?_,ht _ _ a2,Cp ht _ _ a3,a4⟩;show upd H e.c _ y.c=some (.ins CT y.dx (FO y.ta ((wT (Df y.bk)).length:Int) y.l (y.k+(([e.z].count y.z:Nat):Int)) y.en y.st));rw[Ag nn,a1,List.count_eq_zero.mpr (by simpa using hz)];simp
def ND (cs:List Cl):Bk->Int×Int
 | .folder es=>((es.map (Ti cs)).sum,Im (es.map (Tv cs)))
 |_=>(0,0)
def Wl (cs:List Cl):Prop:=∀e∈cs,Jl (e.z,e.y,Bs e.bk)/\(∀t∈Bc e.bk,∃c∈cs,c.z=t.1)/\(e.en,e.st)=ND cs e.bk
theorem L4 (zs:List Int):∀(cs:List Cl) (z:Int),(cs.map (bump zs)).find? (fun e=>decide (e.z=z))=(cs.find? (fun e=>decide (e.z=z))).map (bump zs)
 |[],_=>rfl
 |e::cs,z=>by
  rw[List.map_cons]
  by_cases h:e.z=z
  ·have h':(bump zs e).z=z:=h;rw[List.find?_cons_of_pos (by simpa using h'),List.find?_cons_of_pos (by simpa using h)];rfl
  ·have h':¬(bump zs e).z=z:=h;rw[List.find?_cons_of_neg (by simpa using h'),List.find?_cons_of_neg (by simpa using h)];exact L4 zs cs z
theorem Qn (zs:List Int)(cs:List Cl)(z:Int):Ni (cs.map (bump zs)) z=Ni cs z:=by
 unfold Ni;rw[L4];cases cs.find? (fun e=>decide (e.z=z))<;>rfl
theorem PM (zs:List Int)(cs:List Cl)(z:Int):MO (cs.map (bump zs)) z=MO cs z:=by
 unfold MO;rw[L4];cases cs.find? (fun e=>decide (e.z=z))<;>rfl
theorem ML (zs:List Int)(cs:List Cl)(b:Bk):ND (cs.map (bump zs)) b=ND cs b:=by
 cases b with
 |folder es=>
  have e1:Ti (cs.map (bump zs))=Ti cs:=funext fun x=>by unfold Ti;rw[Qn]
  have e2:Tv (cs.map (bump zs))=Tv cs:=funext fun x=>by unfold Tv;rw[PM]
  show((es.map _).sum,Im (es.map _))=((es.map _).sum,Im (es.map _));rw[e1,e2]
 |_=>rfl
theorem Mr {cs ds:List Cl}{z:Int}(h:∃e∈cs,e.z=z):(cs++ds).find? (fun e=>decide (e.z=z))=cs.find? (fun e=>decide (e.z=z)):=by
 rw[List.find?_append];obtain⟨e,he,hz⟩:=h;have:(cs.find? (fun e=>decide (e.z=z))).isSome=true:=List.find?_isSome.mpr ⟨e,he,by simpa using hz⟩;cases hh:cs.find? (fun e=>decide (e.z=z)) with
 |none=>rw[hh] at this;cases this
 |some x=>rfl
theorem OM {cs ds:List Cl}{b:Bk}(h:∀t∈Bc b,∃c∈cs,c.z=t.1):ND (cs++ds) b=ND cs b:=by
 cases b with
 |folder es=>
  have e1:es.map (Ti (cs++ds))=es.map (Ti cs):=List.map_congr_left fun x hx=>by unfold Ti Ni;rw[Mr (h x.tg (List.mem_map.mpr ⟨x,hx,rfl⟩))]
  have e2:es.map (Tv (cs++ds))=es.map (Tv cs):=List.map_congr_left fun x hx=>by unfold Tv MO;rw[Mr (h x.tg (List.mem_map.mpr ⟨x,hx,rfl⟩))]
  show((es.map _).sum,Im (es.map _))=((es.map _).sum,Im (es.map _));rw[e1,e2]
 |_=>rfl
theorem Wl.more {cs:List Cl}(h:Wl cs){e:Cl}(ok:Jl (e.z,e.y,Bs e.bk))(hn:∀t∈Bc e.bk,∃c∈cs,c.z=t.1)(hb:(e.en,e.st)=ND cs e.bk)(zs:List Int):Wl ((cs++[e]).map (bump zs)):=by
 intro x hx;obtain⟨y,hy,rfl⟩:=List.mem_map.mp hx;have up:∀t:Int,(∃c∈cs,c.z=t)->∃c∈(cs++[e]).map (bump zs),c.z=t:=fun t ⟨c,hc,z⟩=>⟨bump zs c,List.mem_map.mpr ⟨c,List.mem_append.mpr (.inl hc),rfl⟩,z⟩
 rcases List.mem_append.mp hy with hy|hy
 ·obtain⟨a1,a2,a3⟩:=h y hy;refine⟨a1,fun t ht=>up _ (a2 t ht),?_⟩;show(y.en,y.st)=ND _ y.bk;rw[ML,OM a2];exact a3
 ·rw[List.mem_singleton.mp hy];refine⟨ok,fun t ht=>up _ (hn t ht),?_⟩;show(e.en,e.st)=ND _ e.bk;rw[ML,OM hn];exact hb
theorem Ub {cs:List Cl}(hz:∀(i:Nat) e,cs[i]?=some e->e.z=(i:Int)+1){s:Int}:(Dr cs s).Pairwise (·<=·):=by
 have all:(cs.map (·.z)).Pairwise (·<=·):=by
  rw[List.pairwise_iff_getElem];intro i j hi hj hij;rw[List.length_map] at hi hj;rw[List.getElem_map,List.getElem_map,hz i _ (List.getElem?_eq_getElem hi),hz j _ (List.getElem?_eq_getElem hj)];omega
 unfold Dr;exact List.Pairwise.sublist (List.Sublist.map _ List.filter_sublist) all
def D9 (K:W.Frag)(CP CT:Addr):Sp:=fun vs H Q _=>∃p q cs bs v b,vs=[.ref p,v]/\PAt CP CT H p q cs bs/\cs.length<=10000/\Rep NL H (Df b) v/\HL b/\(∀e∈cs,e.bk=b->∀H',Am H H'->Q (.ref e.ta) H')/\((∀e∈cs,e.bk≠b)->∀H',Am H H'->Q .non H')
theorem Kg (T:Txt K mg Ah Aa Ad XC)(F:Fun K "alike" "Pool.alike" B8 f fd)(EC:Def P w K mg base 3 "sum_of" ["block"] (FR K))(AM:CL P w K mg base 1 Ad "block" ["self","tag"] (BP K Ad Aa))(Fe:CL P w K mg base 1 Ad "tag" ["self","number"] (Fm K Ad Aa)):FnOk P w K mg base DD 4 f fd ["self","block"] (D9 K Ad Aa):=by
 exists C4
 ·obtain⟨p,q,cs,bs,v,b,rfl,_⟩:=h;rfl
 obtain⟨p,q,cs,bs,v,b,rfl,pa,few,hv,ok,hq1,hq2⟩:=h;have hu:=Cf hr;have hu9:=GH hr;refine⟨_,(!Af (@As _ _ (2) _ _ _ _ C4.nd rfl (by trivial) (!Bm (!Ae)) (by rfl) (by trivial)) (!Af (!CW PassesOwn.never rfl (!Ck (!Av (MI rfl) (by rfl) T.b_sorted Et (!Ab (!QH hu (!BU (pv 0)) (!BD EC (by trivial) rfl (!Ab (pv 1) (!Ae))) (!EG) ⟨rfl,rfl,rfl,rfl⟩) (!Ae)))) (@An _ _ (3) _ C4.nd rfl (by trivial) (by trivial)) (!Al (!UB ⟨rfl,rfl⟩ T.x_Lost rfl (!Ui (!TN (@As _ _ (4) _ _ _ _ C4.nd rfl (by trivial) (!BG (pv 0) T.cl_Pool AM (by trivial) (!Ab (!BG (pv 0) T.cl_Pool Fe (by trivial) (!Ab (pv 3) (!Ae))) (!Ae))) (by rfl) (by trivial)))) (!Al (!A7 (!AA (UV hu9) (pv 4) (pv 1) (AL _)) (!Al (!Ar (!BG (pv 0) T.cl_Pool Fe (by trivial) (!Ab (pv 3) (!Ae))))) (!AB))) (fun e=>(!Al (!G4))))) (by intro _;rfl)) (!Af (!A7 (!AA O5 (!Av Be (by rfl) T.b_len DP (!Ab (pv 2) (!Ae))) (!Ak) (AL _)) (!Al (!G4)) (!AB)) (!Al (!Ar (!JG)))))),?_⟩
 try dsimp only[BB,Cx.nox,Cx.wish]
 refine⟨LK,fun un hun=>?_⟩;have s1:=Ai hun (.lst []);have pa1:=pa.same s1;refine⟨_,rfl,p,Ad,q.dp,_,_,rfl,pa1.t.1,T.cl_Pool,T.n_Pool_by_sums,rfl,q.dz,rfl,.inl ⟨_,.inl pa1.b.h⟩,?_⟩;refine⟨_,rfl,v,b,rfl,Rep.same s1 _ _ hv,ok,fun H2 s2 dn hdn=>?_⟩;have s3:=(s1.trans s2).trans (Ai hdn (.dK []));have pa3:=pa.same s3;obtain⟨d,hd,hd2⟩:∃d,(((BJ (Rl bs) (Sum.inl (Bs b))).getD (.ref dn))=.ref d)/\(upd H2 dn (.dK [])) d=some (.dK (Pq (Dr cs (Bs b)))):=by
  cases hc:BJ (Rl bs) (Sum.inl (Bs b)) with
  |none=>exact⟨dn,rfl,by rw[pa.b.no hc];exact Ac⟩
  |some u=>
   obtain⟨x,hx,hs,rfl⟩:=Rz hc;exact⟨x.2,rfl,by rw[(pa3.b.d x hx).1,hs]⟩
 refine⟨_,Dm.k (k:=Sum.inl (Bs b)) pa3.b.h,d,_,Dr cs (Bs b),?_,hd2,?_,?_,fun ms pl pm so hpl=>?_⟩
 ·rw[hd]
 ·unfold Pq;rw[List.map_map];rfl
 ·have:=MB cs (Bs b);exact .inr ⟨by omega,Ub pa.z⟩
 have s4:=s3.trans (Ai hpl (.lst (ms.map V.int)));have pa4:=pa.same s4;have hun4:(upd (upd H2 dn (.dK [])) pl (.lst (ms.map V.int))) un=some (.lst []):=(Ai hpl _).get ((Ai hdn _).get (s2.get Ac));have hpl4:(upd (upd H2 dn (.dK [])) pl (.lst (ms.map V.int))) pl=some (.lst (ms.map V.int)):=Ac;generalize (upd (upd H2 dn (.dK [])) pl (.lst (ms.map V.int)))=H4 at s4 pa4 hun4 hpl4;refine⟨pl,rfl,⟨_,AW.of hpl4⟩,DJ (K:=K) (a:=pl) (xs:=ms.map V.int) (fun i σ H'=>H'=H4/\(∃v3 v4,σ=[some (.ref p),some v,some (.ref un),v3,v4])/\∀(j:Nat) n,j<i->ms[j]?=some n->∀e∈cs,e.z=n->e.bk≠b) ⟨rfl,⟨_,_,rfl⟩,fun j _ h=>absurd h (Nat.not_lt_zero j)⟩ ?_ ?_ ?_⟩
 ·rintro i σ H' _ ⟨rfl,_⟩
  exact AW.of hpl4
 ·rintro i x σ H' hx ⟨rfl,⟨v3,v4,rfl⟩,hb⟩
  obtain⟨n,rfl,hn⟩:=ints_get hx;obtain⟨e,he,hs,hz⟩:=GO.mp (pm.mem_iff.mp (List.mem_of_getElem? hn));subst hz;have ce:=pa4.t.2.2.1 e he;refine⟨_,rfl,p,q.dp,_,rfl,pa4.t.1,rfl,_,rfl,p,q.dp,_,rfl,pa4.t.1,rfl,_,rfl,p,q,cs,e,rfl,pa4.t,he,?_⟩;refine⟨p,q,cs,e,e.ta,_,_,rfl,pa4.t,pa4.d,he,ce.2.1,?_⟩;refine⟨_,rfl,_,rfl,Df e.bk,Df b,JC ce.2.2.2,JC ok,ce.2.2.1,Rep.same s4 _ _ hv,_,rfl,C8 (fun hk=>?_) (fun hk=>?_)⟩
  ·have hk:decide (wT (Df e.bk)=wT (Df b))=true:=hk;have eb:e.bk=b:=SM (NJ (JC ce.2.2.2) (JC ok) (of_decide_eq_true hk));exact⟨_,rfl,p,q.dp,_,rfl,pa4.t.1,rfl,_,rfl,p,q,cs,e,rfl,pa4.t,he,hq1 e he eb _ s4⟩
  ·have hk:¬decide (wT (Df e.bk)=wT (Df b))=true:=hk;refine⟨rfl,⟨_,_,rfl⟩,fun j n hj hm e' he' hz=>?_⟩
   by_cases hji:j<i
   ·exact hb j n hji hm e' he' hz
   ·obtain rfl:j=i:=by omega
    rw[hn] at hm;obtain rfl:=Cy pa4.t.2.2.2 he he' ((Option.some.inj hm).trans hz.symm);intro z;exact hk (by rw[z];exact decide_eq_true rfl)
 ·rintro σ H' ⟨rfl,⟨v3,v4,rfl⟩,hb⟩
  refine⟨_,rfl,un,_,rfl,.inl (AW.of hun4),_,_,rfl,rfl,_,rfl,AX rfl ?_⟩;refine hq2 (fun e he z=>?_) _ s4;have:e.z∈ms:=pm.mem_iff.mpr (GO.mpr ⟨e,he,by rw[z],rfl⟩);obtain⟨j,hj,hje⟩:=List.getElem_of_mem this;exact hb j e.z (by rw[List.length_map];exact hj) (by rw[List.getElem?_eq_getElem hj,hje]) e he rfl z
theorem BsAt.same {H H':Hp}{q:Pl}{cs:List Cl}{bs:List (Int×Addr)}(s:Am H H')(h:BsAt H q cs bs):BsAt H' q cs bs:={ h with h:=s.get h.h,d:=fun x hx=>⟨s.get (h.d x hx).1,(h.d x hx).2⟩ }
theorem BsAt.ins {H:Hp}{q:Pl}{cs:List Cl}{bs:List (Int×Addr)}{x C d:Addr}{fs:List (Str×V)}{o:HO}(hx:H x=some (.ins C d fs))(h:BsAt H q cs bs):BsAt (upd H x o) q cs bs:=
 { h with h:=by rw[Ag (Ce h.h hx (by intro z;cases z))];exact h.h,d:=fun y hy=>⟨by rw[Ag (Ce (h.d y hy).1 hx (by intro z;cases z))];exact(h.d y hy).1,(h.d y hy).2⟩ }
theorem BsAt.bump {H:Hp}{q:Pl}{cs:List Cl}{bs:List (Int×Addr)}(zs:List Int)(h:BsAt H q cs bs):BsAt H q (cs.map (bump zs)) bs:=
 { h with d:=fun x hx=>by rw[KZ];exact h.d x hx,all:=fun e he=>(List.mem_map.mp he).elim fun y hy=>(by rw[<-hy.2];exact h.all y hy.1) }
theorem Uj {ns:List Int}{z:Int}(h:z∉ns):putK (Pq ns) (Sum.inl z) (.bl true)=Pq (ns++[z]):=by
 rw[GT _ (JB fun x hx=>?_)]
 ·unfold Pq;rw[List.map_append];rfl
 ·obtain⟨y,hy,rfl⟩:=List.mem_map.mp hx;intro e;exact h (by rw[<-Sum.inl.inj e];exact hy)
theorem BsAt.snoc {H:Hp}{q:Pl}{cs:List Cl}{bs:List (Int×Addr)}{d:Addr}{e:Cl}(h:BsAt H q cs bs)(hd:(Bs e.bk,d)∈bs)(hz:e.z∉Dr cs (Bs e.bk)):BsAt (upd H d (.dK (putK (Pq (Dr cs (Bs e.bk))) (Sum.inl e.z) (.bl true)))) q (cs++[e]) bs where
 h:=by rw[Ag (Ne.symm (h.d _ hd).2.2.1)];exact h.h
 k:=h.k
 a:=h.a
 d:=fun x hx=>by
  by_cases hs:x.1=Bs e.bk
  ·obtain rfl:x=(Bs e.bk,d):=Cy h.k hx hd hs;exact⟨by rw[Ac,Uj hz,KG,if_pos rfl],(h.d _ hx).2⟩
  ·have n:x.2≠d:=fun z=>hs (congrArg Prod.fst (Cy h.a hx hd z))
   rw[Ag n,KG,if_neg (fun z=>hs z.symm),List.append_nil];exact h.d x hx
 all:=fun x hx=>by
  rcases List.mem_append.mp hx with hx|hx
  ·exact h.all x hx
  ·rw[List.mem_singleton.mp hx];exact⟨_,hd,rfl⟩
theorem BsAt.fresh {H:Hp}{q:Pl}{cs:List Cl}{bs:List (Int×Addr)}{dn:Addr}{s:Int}(h:BsAt H q cs bs)(hv:BJ (Rl bs) (Sum.inl s)=none)(hd:H dn=none)(n1:dn≠q.dt)(n2:dn≠q.dd):BsAt (upd (upd H dn (.dK [])) q.dz (.dK (putK (Rl bs) (Sum.inl s) (.ref dn)))) q cs (bs++[(s,dn)]):=by
 have nz:dn≠q.dz:=fun z=>by rw[z,h.h] at hd;cases hd
 have nb:∀x∈bs,x.2≠dn:=fun x hx z=>by have:=(h.d x hx).1;rw[z,hd] at this;cases this
 refine⟨?_,?_,?_,fun x hx=>?_,fun e he=>?_⟩
 ·rw[Ac,GT _ hv];unfold Rl;rw[List.map_append];rfl
 ·rw[List.map_append,List.nodup_append];refine⟨h.k,by simp,fun a ha b hb=>?_⟩;obtain⟨x,hx,rfl⟩:=List.mem_map.mp ha;have:b=s:=by simpa using hb
  rw[this];intro z;rw[<-z,RJ h.k hx] at hv;cases hv
 ·rw[List.map_append,List.nodup_append];refine⟨h.a,by simp,fun a ha b hb=>?_⟩;obtain⟨x,hx,rfl⟩:=List.mem_map.mp ha;have:b=dn:=by simpa using hb
  rw[this];exact nb x hx
 ·rcases List.mem_append.mp hx with hx|hx
  ·rw[Ag (h.d x hx).2.2.1,Ag (nb x hx)];exact h.d x hx
  ·rw[List.mem_singleton.mp hx];refine⟨?_,n1,nz,n2⟩;show upd _ _ _ dn=some (.dK (Pq (Dr cs s)));rw[Ag nz,Ac,h.no hv];rfl
 ·obtain⟨x,hx,e1⟩:=h.all e he;exact⟨x,List.mem_append.mpr (.inl hx),e1⟩
structure Md (CP CT:Addr) (H H':Hp) (p:Addr) (q:Pl) (cs:List Cl) (own:List Addr) (e:Cl) (us:List V) (dtk:List (Key×V)):Prop where
 f:VB own H H'
 p:H' p=some (.ins CP q.dp (IZ q.bo q.dt q.dz q.dd q.n))
 t:H' q.dt=some (.dK dtk)
 d:H' q.dd=some (.dK (PR cs))
 c:∀x∈cs,Hx CT H' x
 n:Hx CT H' e
 l:H' e.l=some (.lst us)
 u:Ax NL H' ((Bc e.bk).map Hq) us
theorem Md.put {CP CT:Addr}{H H':Hp}{p:Addr}{q:Pl}{cs:List Cl}{own:List Addr}{e:Cl}{us:List V}{dtk:List (Key×V)}(M:Md CP CT H H' p q cs own e us dtk){x:Addr}{o:HO}(hx:x∈own\/H x=none)(nt:x≠q.dt)(nd:x≠q.dd)(k:∀u,H' x=some u->∃kvs,u=.dK kvs):Md CP CT H (upd H' x o) p q cs own e us dtk:=by
 have no:∀{a u},H' a=some u->(∀kvs,u≠.dK kvs)->a≠x:=fun{a u} h n z=>by
  rw[z] at h;obtain⟨kvs,e⟩:=k _ h;exact n kvs e
 have ht:∀c ys,H' c=some (.tup ys)->(upd H' x o) c=some (.tup ys):=fun c ys h=>by rw[Ag (no h (by intro kvs z;cases z))];exact h
 refine⟨fun a u h n=>?_,?_,?_,?_,fun y hy=>?_,?_,?_,Da ht _ _ M.u⟩
 ·have:a≠x:=fun z=>by
   rcases hx with hx|hx
   ·exact n (by rw[z];exact hx)
   ·rw[z,hx] at h;cases h
  rw[Ag this];exact M.f a u h n
 ·rw[Ag (no M.p (by intro kvs z;cases z))];exact M.p
 ·rw[Ag (Ne.symm nt)];exact M.t
 ·rw[Ag (Ne.symm nd)];exact M.d
 ·exact(M.c y hy).tup (Ag (no (M.c y hy).1 (by intro kvs z;cases z))) ht
 ·exact M.n.tup (Ag (no M.n.1 (by intro kvs z;cases z))) ht
 ·rw[Ag (no M.l (by intro kvs z;cases z))];exact M.l
theorem Md.putT {CP CT:Addr}{H H':Hp}{p:Addr}{q:Pl}{cs:List Cl}{own:List Addr}{e:Cl}{us:List V}{dtk dt2:List (Key×V)}(M:Md CP CT H H' p q cs own e us dtk)(hx:q.dt∈own)(nd:q.dt≠q.dd):Md CP CT H (upd H' q.dt (.dK dt2)) p q cs own e us dt2:=by
 have no:∀{a u},H' a=some u->(∀kvs,u≠.dK kvs)->a≠q.dt:=fun{a u} h n z=>by
  rw[z,M.t] at h;exact n _ (Option.some.inj h).symm
 have ht:∀c ys,H' c=some (.tup ys)->(upd H' q.dt (.dK dt2)) c=some (.tup ys):=fun c ys h=>by rw[Ag (no h (by intro kvs z;cases z))];exact h
 refine⟨fun a u h n=>?_,?_,Ac,?_,fun y hy=>?_,?_,?_,Da ht _ _ M.u⟩
 ·rw[Ag (fun z=>n (by rw[z];exact hx))];exact M.f a u h n
 ·rw[Ag (no M.p (by intro kvs z;cases z))];exact M.p
 ·rw[Ag (Ne.symm nd)];exact M.d
 ·exact(M.c y hy).tup (Ag (no (M.c y hy).1 (by intro kvs z;cases z))) ht
 ·exact M.n.tup (Ag (no M.n.1 (by intro kvs z;cases z))) ht
 ·rw[Ag (no M.l (by intro kvs z;cases z))];exact M.l
def DH (z y:Int)(b:Bk)(v:V)(c dx ta l:Addr)(cs:List Cl):Cl:=⟨z,y,b,v,c,dx,ta,l,0,(ND cs b).1,(ND cs b).2⟩
def EW (K:W.Frag)(CP CT:Addr):Sp:=fun vs H Q _=>∃p q cs bs v b,∃(ta:Addr) (z y:Int),vs=[.ref p,.ref ta,v]/\PAt CP CT H p q cs bs/\cs.length<=10000/\Rep NL H (Df b) v/\HL b/\H ta=some (.tup [.int z,.int y,.int (Bs b)])/\z=(cs.length:Int)+1/\(∀t∈Bc b,∃e∈cs,e.z=t.1)/\
 ∀H' c dx l bs',H c=none->H l=none->(∃us,H' l=some (.lst us)/\Ax NL H' ((Bc b).map Hq) us)->Fi CP CT H' p q ((cs++[DH z y b v c dx ta l cs]).map (bump ((Bc b).map (·.1))))->BsAt H' q ((cs++[DH z y b v c dx ta l cs]).map (bump ((Bc b).map (·.1)))) bs'->bs'.length<=bs.length+1->H' q.dd=some (.dK (PR cs))->VB (FH p q cs bs) H H'->(∀x∈bs',x∈bs\/H x.2=none)->Q .non H'
theorem Lj (T:Txt K mg Ah Aa Ad XC)(F:Fun K "take" "Pool.take" CC f fd)(C1:Oh P w K mg base 11 Aa "TakenCell" ["self","own_tag","block"] (CK K Aa))(CD:CL P w K mg base 2 Ad "entries_of" ["self","folder"] (Cr K Ad Aa))(Do:CL P w K mg base 2 Ad "steps_of" ["self","folder"] (CY K Ad Aa))(FC:CL P w K mg base 1 Ad "hold" ["self","tag"] (EZ K Ad Aa)):FnOk P w K mg base DD 13 f fd ["self","tag","block"] (EW K Ad Aa):=by
 exists Dt
 ·obtain⟨p,q,cs,bs,v,b,ta,z,y,rfl,_⟩:=h;rfl
 obtain⟨p,q,cs,bs,v,b,ta,z,y,rfl,pa,few,hv,ok,hta,hz,hn,hq⟩:=h;have hu:=Cf hr;refine⟨_,(!Af (@As _ _ (3) _ _ _ _ Dt.nd rfl (by trivial) (!NK C1 (by trivial) rfl (!Ab (pv 1) (!Ab (pv 2) (!Ae)))) (by rfl) (by trivial)) (!Af (!A7 (!AA Dq (!AD AH (pv 2) (!Ak) (fun _ _=>rfl)) (!AK rfl T.c_FOLDER) (AL _)) (!Af (!Cd (pv 3) (!BG (pv 0) T.cl_Pool CD (by trivial) (!Ab (pv 2) (!Ae)))) (!Al (!Cd (pv 3) (!BG (pv 0) T.cl_Pool Do (by trivial) (!Ab (pv 2) (!Ae)))))) (!AB)) (!Af (!Lm hu (!BU (pv 0)) (!AD AH (pv 1) (!Ak) (fun _ _=>rfl)) (pv 3)) (!Af (@As _ _ (4) _ _ _ _ Dt.nd rfl (by trivial) (!RQ (!BU (pv 0)) (!AD AH (pv 1) (!Ak) (fun _ _=>rfl)) (!EG) ⟨rfl,rfl,rfl,rfl⟩) (by rfl) (by trivial)) (!Af (!Lm hu (pv 4) (!AD AH (pv 1) (!Ak) (fun _ _=>rfl)) (!K7)) (!Al (!CW PassesOwn.never rfl (!Ck (!BU (pv 3))) (@An _ _ (5) _ Dt.nd rfl (by trivial) (by trivial)) (!Al (!Cn (!BG (pv 0) T.cl_Pool FC (by trivial) (!Ab (pv 5) (!Ae))))) (by intro _;rfl)))))))),?_⟩
 try dsimp only[BB,Cx.nox,Cx.wish]
 refine⟨_,rfl,_,rfl,fun c dx hc hdx hcd=>?_⟩;have hH1:∀a o,H a=some o->(upd (upd H dx (.own c)) c (.ins Aa dx [])) a=some o:=fun a o h=>by
  rw[Ag (fun z=>by rw[z,hc] at h;cases h),Ag (fun z=>by rw[z,hdx] at h;cases h)];exact h
 refine⟨c,dx,ta,v,b,rfl,Ac,Cp (fun c ys h=>hH1 c _ h) _ _ hv,ok,fun l us H2 f2 nl hl r hc2=>⟨rfl,?_⟩⟩;have s2:Am H H2:=fun a o h=>f2 a o (hH1 a o h) (fun z=>by rw[z,hc] at h;cases h)
 have nlH:H l=none:=by
  cases h:H l with
  |none=>rfl
  |some o=>rw[hH1 l o h] at nl;cases nl
 dsimp only[Au];refine D0 (fun σ' H'=>σ'=[some (.ref p),some (.ref ta),some v,some (.ref c),none,none]/\Am H H'/\H' c=some (.ins Aa dx (FO ta ((wT (Df b)).length:Int) l 0 (ND cs b).1 (ND cs b).2))/\H' l=some (.lst us)/\Ax NL H' ((Bc b).map Hq) us) (fun N hN=>?_) ?_
 ·obtain⟨va,xs,rfl,hva⟩:=Nq hv;refine⟨_,rfl,va,_,_,_,rfl,rfl,A0.of (s2.get hva),Nn,rfl,_,rfl,C8 (fun hk=>?_) (fun hk=>?_)⟩
  ·cases b with
   |folder es=>
    have kn:∀x∈es,x.kd=2->∃e∈cs,e.z=x.tg.1:=fun x hx _=>hn x.tg (List.mem_map.mpr ⟨x,hx,rfl⟩)
    refine⟨_,rfl,p,q.dp,_,rfl,(pa.same s2).t.1,rfl,_,rfl,p,q,cs,_,es,rfl,(pa.same s2).t,Rep.same s2 _ _ hv,ok.1,kn,fun H4 s4=>?_⟩;refine⟨_,rfl,c,Aa,dx,_,rfl,s4.get hc2,T.cl_TakenCell,T.n_TakenCell_entries_beneath,(by show 6<1000;decide),?_⟩;have s5:Am H (upd H4 c (.ins Aa dx (FO ta ((wT (Df (.folder es))).length:Int) l 0 (ND cs (.folder es)).1 0))):=AU (s2.trans s4) hc _;refine⟨_,rfl,p,q.dp,_,rfl,(pa.same s5).t.1,rfl,_,rfl,p,q,cs,_,es,rfl,(pa.same s5).t,Rep.same s5 _ _ hv,ok.1,kn,fun H6 s6=>?_⟩;refine⟨_,rfl,c,Aa,dx,_,rfl,s6.get Ac,T.cl_TakenCell,T.n_TakenCell_steps_beneath,(by show 6<1000;decide),?_⟩;have nlc:l≠c:=Ce hl hc2 (by intro z;cases z);have tp:∀a ys,H2 a=some (.tup ys)->(upd H6 c (.ins Aa dx (FO ta ((wT (Df (.folder es))).length:Int) l 0 (ND cs (.folder es)).1 (ND cs (.folder es)).2))) a=some (.tup ys):=fun a ys h=>by
     have na:a≠c:=Ce h hc2 (by intro z;cases z);rw[Ag na];exact s6.get (by rw[Ag na];exact s4.get h)
    refine hN _ _ ⟨rfl,AU (s5.trans s6) hc _,Ac,?_,Da tp _ _ r⟩;rw[Ag nlc];exact s6.get (by rw[Ag nlc];exact s4.get hl)
   |piece _=>cases hk
   |row _ _=>cases hk
  ·refine hN _ _ ⟨rfl,s2,?_,hl,r⟩;cases b with
   |folder es=>exact absurd rfl hk
   |piece _=>exact hc2
   |row _ _=>exact hc2
 rintro σ' H3 ⟨rfl,s3,hc3,hl3,r3⟩
 have pa3:=pa.same s3;have M3:Md Ad Aa H H3 p q cs (FH p q cs bs) (DH z y b v c dx ta l cs) us (Mg cs):=⟨Am.frm s3,pa3.t.1,pa3.t.2.1,pa3.d,pa3.t.2.2.1,⟨hc3,s3.get hta,Rep.same s3 _ _ hv,ok⟩,hl3,r3⟩
 have fz:∀e∈cs,e.z≠z:=fun e he=>by
  obtain⟨i,hi,rfl⟩:=List.getElem_of_mem he;have:=pa.z i _ (List.getElem?_eq_getElem hi);omega
 have tkl:(Mg cs).length<100000:=by unfold Mg;rw[List.length_map];omega
 have ht3:=s3.get hta;refine⟨_,rfl,_,rfl,p,Ad,q.dp,_,_,rfl,M3.p,T.cl_Pool,T.n_Pool_taken,rfl,_,rfl,ta,_,_,_,rfl,rfl,A0.of ht3,rfl,q.dt,_,rfl,LO.k (k:=Sum.inl z) M3.t (BF (by omega)),?_⟩;have etk:putK (Mg cs) (Sum.inl z) (.ref c)=Mg (cs++[DH z y b v c dx ta l cs]):=by
  rw[GT _ (JB fun x hx=>?_)]
  ·unfold Mg;rw[List.map_append];rfl
  ·obtain⟨e,he,rfl⟩:=List.mem_map.mp hx;intro z;exact fz e he (Sum.inl.inj z)
 rw[etk];have ot:q.dt∈FH p q cs bs:=by unfold FH;simp
 have oz:q.dz∈FH p q cs bs:=by unfold FH;simp
 have M4:=M3.putT (dt2:=Mg (cs++[DH z y b v c dx ta l cs])) ot pa.n2;have B4:BsAt (upd H3 q.dt (.dK (Mg (cs++[DH z y b v c dx ta l cs])))) q cs bs:={ pa3.b with h:=by rw[Ag (Ne.symm pa.n1)];exact pa3.b.h,d:=fun x hx=>⟨by rw[Ag (pa3.b.d x hx).2.1];exact(pa3.b.d x hx).1,(pa3.b.d x hx).2⟩ }
 have hz4:∀a,(upd H3 q.dt (.dK (Mg (cs++[DH z y b v c dx ta l cs])))) a=none->H a=none:=fun a h=>by
  cases ha:H a with
  |none=>rfl
  |some o=>
   have:=s3.get ha
   by_cases e:a=q.dt
   ·rw[e,Ac] at h;cases h
   ·rw[Ag e,this] at h;cases h
 generalize (upd H3 q.dt (.dK (Mg (cs++[DH z y b v c dx ta l cs]))))=H4 at M4 B4 hz4;have bl:bs.length<=100000:=by have:=pa.w;omega
 dsimp only;refine D0 (fun σ' H'=>∃d bs',σ'=[some (.ref p),some (.ref ta),some v,some (.ref c),some (.ref d),none]/\Md Ad Aa H H' p q cs (FH p q cs bs) (DH z y b v c dx ta l cs) us (Mg (cs++[DH z y b v c dx ta l cs]))/\BsAt H' q cs bs'/\(Bs b,d)∈bs'/\bs'.length<=bs.length+1/\(∀x∈bs',x∈bs\/H x.2=none)/\(d∈FH p q cs bs\/H d=none)) (fun N hN=>?_) ?_
 ·refine⟨_,rfl,p,Ad,q.dp,_,_,rfl,M4.p,T.cl_Pool,T.n_Pool_by_sums,rfl,q.dz,rfl,.inl ⟨_,.inl B4.h⟩,_,rfl,ta,_,_,_,rfl,rfl,A0.of M4.n.2.1,rfl,fun dn hdn=>?_⟩;have ndn:∀{a o},H4 a=some o->dn≠a:=fun{a o} h z=>by rw[z,h] at hdn;cases hdn
  have M5:=M4.put (x:=dn) (o:=.dK []) (.inr (hz4 _ hdn)) (ndn M4.t) (ndn M4.d) (fun u h=>by rw[hdn] at h;cases h);have B5:=B4.same (Ai hdn (.dK []));refine⟨_,Sum.inl (Bs b),B5.h,rfl,BF (by unfold Rl;rw[List.length_map];omega),fun u hv=>?_,fun hv=>?_⟩
  ·obtain⟨x,hx,hs,rfl⟩:=Rz hv;refine hN _ _ ⟨x.2,bs,rfl,M5,B5,by rw[<-hs];exact hx,by omega,(fun _ h=>.inl h),.inl ?_⟩;unfold FH;simp only[List.mem_cons,List.mem_append];exact .inr (.inr (.inr (.inr (.inl (List.mem_map.mpr ⟨x,hx,rfl⟩)))))
  ·refine hN _ _ ⟨dn,bs++[(Bs b,dn)],rfl,M5.put (.inl oz) (Ne.symm pa.n1) pa.n3 (fun u h=>⟨_,by rw[B5.h] at h;exact(Option.some.inj h).symm⟩),B4.fresh hv hdn (ndn M4.t) (ndn M4.d),by simp,by simp,(fun x hx=>(List.mem_append.mp hx).imp id fun h=>by rw[List.mem_singleton.mp h];exact hz4 _ hdn),.inr (hz4 _ hdn)⟩
 rintro σ' H5 ⟨d,bs',rfl,M5,B5,hd5,lb,bfr,od⟩
 have hd6:=B5.d _ hd5;refine⟨_,rfl,_,rfl,ta,_,_,_,rfl,rfl,A0.of M5.n.2.1,rfl,d,_,rfl,LO.k (k:=Sum.inl z) hd6.1 (BF (by unfold Pq;rw[List.length_map];have:=MB cs (Bs b);show(Dr cs (Bs b)).length<1000000;omega)),?_⟩;have B6:=B5.snoc (e:=DH z y b v c dx ta l cs) hd5 (fun h=>by
  obtain⟨e,he,_,hz'⟩:=GO.mp h;exact fz e he hz')
 have M6:=M5.put (x:=d) (o:=.dK (putK (Pq (Dr cs (Bs b))) (Sum.inl z) (.bl true))) od hd6.2.1 hd6.2.2.2 (fun u h=>⟨_,by rw[hd6.1] at h;exact(Option.some.inj h).symm⟩);have e6:(upd H5 d (.dK (putK (Pq (Dr cs (Bs b))) (Sum.inl z) (.bl true))))=(upd H5 d (.dK (putK (Pq (Dr cs (Bs (DH z y b v c dx ta l cs).bk))) (Sum.inl (DH z y b v c dx ta l cs).z) (.bl true)))):=rfl;rw[<-e6] at B6;dsimp only;generalize (upd H5 d (.dK (putK (Pq (Dr cs (Bs b))) (Sum.inl z) (.bl true))))=H6 at M6 B6;have nc6:((cs++[DH z y b v c dx ta l cs]).map (·.c)).Nodup:=by
  rw[List.map_append,List.nodup_append];refine⟨pa.c,by simp,fun a ha b' hb=>?_⟩;obtain⟨x,hx,rfl⟩:=List.mem_map.mp ha;have:b'=c:=List.mem_singleton.mp hb;rw[this];intro zz;have:=(pa.t.2.2.1 x hx).1;rw[zz,hc] at this;cases this
 have P6:Fi Ad Aa H6 p q (cs++[DH z y b v c dx ta l cs]):=by
  refine⟨M6.p,M6.t,fun e he=>?_,?_⟩
  ·rcases List.mem_append.mp he with he|he
   ·exact M6.c e he
   ·rw[List.mem_singleton.mp he];exact M6.n
  ·rw[List.map_append,List.nodup_append];refine⟨pa.t.2.2.2,by simp,fun a ha b' hb=>?_⟩;obtain⟨x,hx,rfl⟩:=List.mem_map.mp ha;have:b'=z:=List.mem_singleton.mp hb;rw[this];exact fz x hx
 refine⟨_,rfl,c,Aa,dx,_,_,rfl,M6.n.1,T.cl_TakenCell,T.n_TakenCell_named,rfl,l,rfl,⟨_,AW.of M6.l⟩,?_⟩;refine DJ (K:=K) (a:=l) (xs:=us) (fun i σ H'=>(∃v5,σ=[some (.ref p),some (.ref ta),some v,some (.ref c),some (.ref d),v5])/\Fi Ad Aa H' p q ((cs++[DH z y b v c dx ta l cs]).map (bump (((Bc b).map (·.1)).take i)))/\BsAt H' q (cs++[DH z y b v c dx ta l cs]) bs'/\H' q.dd=some (.dK (PR cs))/\H' l=some (.lst us)/\Ax NL H' ((Bc b).map Hq) us/\VB (FH p q cs bs) H H') ⟨⟨_,rfl⟩,by rw[List.take_zero,PU];exact P6,B6,M6.d,M6.l,M6.u,M6.f⟩ ?_ ?_ ?_
 ·rintro i σ H' _ ⟨_,_,_,_,h,_⟩
  exact AW.of h
 ·rintro i x σ H' hx ⟨⟨v5,rfl⟩,P7,B7,d7,l7,u7,f7⟩
  obtain⟨t,ht,rt⟩:=Ax.get u7 hx;rw[List.getElem?_map] at ht;obtain⟨g,hg,rfl⟩:=Option.map_eq_some_iff.mp ht;obtain⟨tx,rfl,htx⟩:=Ln rt;obtain⟨e,he,hze⟩:=hn g (List.mem_of_getElem? hg);have he7:bump (((Bc b).map (·.1)).take i) e∈(cs++[DH z y b v c dx ta l cs]).map (bump (((Bc b).map (·.1)).take i)):=List.mem_map.mpr ⟨e,List.mem_append.mpr (.inl he),rfl⟩;have hz7:(bump (((Bc b).map (·.1)).take i) e).z=g.1:=hze;have H7:=P7.hold (by rw[Pb];exact nc6) he7;have c7:=(P7.2.2.1 _ he7).1;rw[<-hz7] at htx;refine⟨_,rfl,p,q.dp,_,rfl,P7.1,rfl,_,rfl,p,q,_,_,tx,_,_,rfl,P7,he7,htx,?_⟩;have tp:∀a ys,H' a=some (.tup ys)->(upd H' (bump (((Bc b).map (·.1)).take i) e).c (.ins Aa (bump (((Bc b).map (·.1)).take i) e).dx (FO (bump (((Bc b).map (·.1)).take i) e).ta ((wT (Df (bump (((Bc b).map (·.1)).take i) e).bk)).length:Int) (bump (((Bc b).map (·.1)).take i) e).l ((bump (((Bc b).map (·.1)).take i) e).k+1) (bump (((Bc b).map (·.1)).take i) e).en (bump (((Bc b).map (·.1)).take i) e).st))) a=some (.tup ys):=fun a ys h=>by rw[Ag (Ce h c7 (by intro z;cases z))];exact h
  refine⟨⟨_,rfl⟩,?_,B7.ins c7,by rw[Ag (Ce d7 c7 (by intro z;cases z))];exact d7,by rw[Ag (Ce l7 c7 (by intro z;cases z))];exact l7,Da tp _ _ u7,fun a o h n=>?_⟩
  ·rw[NY,hz7] at H7;rw[List.take_add_one,List.getElem?_map,hg];exact H7
  ·rw[Ag (fun zz=>n (by rw[zz];unfold FH;simp only[List.mem_cons,List.mem_append];exact .inr (.inr (.inr (.inr (.inr (List.mem_map.mpr ⟨e,he,rfl⟩)))))))];exact f7 a o h n
 ·rintro σ H' ⟨⟨v5,rfl⟩,P7,B7,d7,l7,u7,f7⟩
  have lu:us.length=((Bc b).map (·.1)).length:=by rw[Ax.len _ _ u7,List.length_map,List.length_map]
  rw[lu,List.take_length] at P7;exact hq H' c dx l bs' hc nlH ⟨us,l7,u7⟩ P7 (B7.bump _) lb d7 f7 bfr
theorem PAt.lst {CP CT:Addr}{H:Hp}{p:Addr}{q:Pl}{cs:List Cl}{bs:List (Int×Addr)}{l:Addr}{us us':List V}(h:PAt CP CT H p q cs bs)(hl:H l=some (.lst us)):PAt CP CT (upd H l (.lst us')) p q cs bs:=by
 have no:∀{a o},H a=some o->(∀ys,o≠.lst ys)->(upd H l (.lst us')) a=some o:=fun{a o} h1 n=>by rw[Ag (fun z=>by rw[z,hl] at h1;exact n _ (Option.some.inj h1).symm)];exact h1
 have nk:∀{a kvs},H a=some (.dK kvs)->(upd H l (.lst us')) a=some (.dK kvs):=fun{a kvs} h1=>no h1 (by intro ys z;cases z)
 refine⟨⟨no h.t.1 (by intro ys z;cases z),nk h.t.2.1,fun e he=>?_,h.t.2.2.2⟩,nk h.d,{ h.b with h:=nk h.b.h,d:=fun x hx=>⟨nk (h.b.d x hx).1,(h.b.d x hx).2⟩ },h.n1,h.n2,h.n3,h.c,h.z,h.w,h.f1,h.f2⟩;have hc:=(h.t.2.2.1 e he).1;exact(h.t.2.2.1 e he).tup ((no hc (by intro ys z;cases z)).trans hc.symm) fun c ys h1=>no h1 (by intro ys z;cases z)
theorem PAt.setn {CP CT:Addr}{H H':Hp}{p:Addr}{q:Pl}{cs:List Cl}{bs:List (Int×Addr)}{m:Int}(h:PAt CP CT H p q cs bs)(hp:H' p=some (.ins CP q.dp (IZ q.bo q.dt q.dz q.dd m)))(ho:∀b,b≠p->H' b=H b)(m1:1<=m)(m2:m<=(cs.length:Int)+1):PAt CP CT H' p { q with n:=m } cs bs:=by
 have no:∀{a o},H a=some o->(∀C d fs,o≠.ins C d fs)->H' a=some o:=fun{a o} h1 n=>by rw[ho a (fun z=>by rw[z,h.t.1] at h1;exact n _ _ _ (Option.some.inj h1).symm)];exact h1
 have nk:∀{a kvs},H a=some (.dK kvs)->H' a=some (.dK kvs):=fun{a kvs} h1=>no h1 (by intro C d fs z;cases z)
 refine⟨⟨hp,nk h.t.2.1,fun e he=>?_,h.t.2.2.2⟩,nk h.d,{ h.b with h:=nk h.b.h,d:=fun x hx=>⟨nk (h.b.d x hx).1,(h.b.d x hx).2⟩ },h.n1,h.n2,h.n3,h.c,h.z,h.w,m1,m2⟩;have hc:=(h.t.2.2.1 e he).1;refine(h.t.2.2.1 e he).tup (ho _ fun z=>?_) fun c ys h1=>no h1 (by intro C d fs z;cases z)
 rw[z,h.t.1] at hc;have:=Option.some.inj hc;injection this with _ _ this
 injection this with this _
 injection this with this _
 revert this
 decide
def C6 (K:W.Frag)(CP CT:Addr):Sp:=fun vs H Q _=>∃p q cs bs v b,∃(y:Int),vs=[.ref p,v,.int y]/\PAt CP CT H p q cs bs/\cs.length<=10000/\Rep NL H (Df b) v/\HL b/\(∀t∈Bc b,∃e∈cs,e.z=t.1)/\
 (∀e∈cs,e.bk=b->∀H',Am H H'->Q (.ref e.ta) H')/\
 ((∀e∈cs,e.bk≠b)->∀H' c dx l ta bs',H c=none->H l=none->(∃us,H' l=some (.lst us)/\Ax NL H' ((Bc b).map Hq) us)->PAt CP CT H' p { q with n:=(cs.length:Int)+1 } ((cs++[DH ((cs.length:Int)+1) y b v c dx ta l cs]).map (bump ((Bc b).map (·.1)))) bs'->VB (FH p q cs bs) H H'->(∀x∈bs',x∈bs\/H x.2=none)->Q (.ref ta) H')
theorem Nf (T:Txt K mg Ah Aa Ad XC)(F:Fun K "put" "Pool.put" C2 f fd)(Fb:CL P w K mg base 4 Ad "alike" ["self","block"] (D9 K Ad Aa))(FG:CL P w K mg base 13 Ad "take" ["self","tag","block"] (EW K Ad Aa))(Cs:CL P w K mg base 1 Ad "free_number" ["self"] (Cc K Ad Aa))(EC:Def P w K mg base 3 "sum_of" ["block"] (FR K)):FnOk P w K mg base DD 14 f fd ["self","block","birth"] (C6 K Ad Aa):=by
 exists FE
 ·obtain⟨p,q,cs,bs,v,b,y,rfl,_⟩:=h;rfl
 obtain⟨p,q,cs,bs,v,b,y,rfl,pa,few,hv,ok,hn,hq1,hq2⟩:=h;have hu:=Cf hr;refine⟨_,(!Af (@As _ _ (3) _ _ _ _ FE.nd rfl (by trivial) (!BG (pv 0) T.cl_Pool Fb (by trivial) (!Ab (pv 1) (!Ae))) (by rfl) (by trivial)) (!Af (!A7 (!GE (!OI (pv 3)) (by first|exact Dd _ (by decide) (by decide)|rfl)) (!Al (!Ar (pv 3))) (!AB)) (!Af (@As _ _ (4) _ _ _ _ FE.nd rfl (by trivial) (!AR (!Ab (!Ts (pv 0) T.cl_Pool Cs) (!Ab (pv 2) (!Ab (!BD EC (by trivial) rfl (!Ab (pv 1) (!Ae))) (!Ae))))) (by rfl) (by trivial)) (!Af (!Cn (!BG (pv 0) T.cl_Pool FG (by trivial) (!Ab (pv 4) (!Ab (pv 1) (!Ae))))) (!Af (!Lm hu (!BU (pv 0)) (!AD AH (pv 4) (!Ak) (fun _ _=>rfl)) (pv 1)) (!Al (!Ar (pv 4)))))))),?_⟩
 try dsimp only[BB,Cx.nox,Cx.wish]
 refine⟨_,rfl,p,q.dp,_,rfl,pa.t.1,rfl,_,rfl,p,q,cs,bs,v,b,rfl,pa,few,hv,ok,fun e he eb H1 s1=>?_,fun hne H1 s1=>?_⟩
 ·exact⟨_,rfl,_,rfl,BW rfl ⟨_,rfl,hq1 e he eb H1 s1⟩⟩
 refine⟨_,rfl,_,rfl,AX rfl ?_⟩;have pa1:=pa.same s1;refine⟨_,rfl,p,q.dp,_,rfl,pa1.t.1,rfl,p,q,cs,rfl,pa1.t,pa.z,pa.f1,pa.f2,fun H2 hp2 ho2=>?_⟩;have pa2:PAt Ad Aa H2 p { q with n:=(cs.length:Int)+1 } cs bs:=pa1.setn hp2 ho2 (by omega) (by omega);have tp2:∀a ys,H1 a=some (.tup ys)->H2 a=some (.tup ys):=fun a ys h=>by rw[ho2 a (Ce h pa1.t.1 (by intro z;cases z))];exact h
 have k2:∀a o,H a=some o->∃o',H2 a=some o':=fun a o h=>by
  by_cases e:a=p
  ·exact⟨_,by rw[e];exact hp2⟩
  ·exact⟨o,by rw[ho2 a e];exact s1.get h⟩
 refine⟨_,rfl,_,rfl,v,b,rfl,Cp tp2 _ _ (Rep.same s1 _ _ hv),ok,fun H3 s3=>?_⟩;refine⟨Ge,fun ta hta=>?_⟩;have s4:=s3.trans (Ai hta (.tup [.int ((cs.length:Int)+1),.int y,.int (Bs b)]));have pa4:=pa2.same s4;have t4:(upd H3 ta (.tup [.int ((cs.length:Int)+1),.int y,.int (Bs b)])) ta=some (.tup [.int ((cs.length:Int)+1),.int y,.int (Bs b)]):=Ac;have hv4:=Rep.same s4 _ _ (Cp tp2 _ _ (Rep.same s1 _ _ hv));generalize (upd H3 ta (.tup [.int ((cs.length:Int)+1),.int y,.int (Bs b)]))=H4 at s4 pa4 t4 hv4;refine⟨_,rfl,p,q.dp,_,rfl,pa4.t.1,rfl,_,rfl,_,rfl,p,_,cs,bs,v,b,ta,_,y,rfl,pa4,few,hv4,ok,t4,rfl,hn,fun H5 c dx l bs' hc hl4 ⟨us,l5,u5⟩ P5 B5 lb d5 f5 bfr=>?_⟩;have t5:=f5 ta _ t4 (pa4.apart t4 (by intro C d fs z;cases z) (by intro kvs z;cases z));refine⟨_,rfl,_,rfl,p,Ad,q.dp,_,_,rfl,P5.1,T.cl_Pool,T.n_Pool_draft,rfl,_,rfl,ta,_,_,_,rfl,rfl,A0.of t5,rfl,q.dd,_,rfl,LO.k (k:=Sum.inl ((cs.length:Int)+1)) d5 (BF (by unfold PR;rw[List.length_map];omega)),?_⟩;have fr:∀a,H4 a=none->H a=none:=fun a hc=>by
  cases h:H a with
  |none=>rfl
  |some o=>
   obtain⟨o',h'⟩:=k2 a o h;rw[s4.get h'] at hc;cases hc
 have hcH:=fr c hc;have edr:putK (PR cs) (Sum.inl ((cs.length:Int)+1)) v=PR ((cs++[DH ((cs.length:Int)+1) y b v c dx ta l cs]).map (bump ((Bc b).map (·.1)))):=by
  rw[RL,GT _ (JB fun x hx=>?_)]
  ·unfold PR;rw[List.map_append];rfl
  ·obtain⟨e,he,rfl⟩:=List.mem_map.mp hx;obtain⟨i,hi,rfl⟩:=List.getElem_of_mem he;have:=pa.z i _ (List.getElem?_eq_getElem hi);intro zz;have:=Sum.inl.inj zz;omega
 rw[edr];have nt0:∀{a u},H5 a=some u->(∀kvs,u≠.dK kvs)->a≠q.dd:=fun{a u} h n zz=>by
  rw[zz,d5] at h;exact n _ (Option.some.inj h).symm
 refine⟨_,rfl,hq2 hne _ c dx l ta bs' hcH (fr l hl4) ⟨us,by rw[Ag (nt0 l5 (by intro kvs z;cases z))];exact l5,Da (fun a ys h=>by rw[Ag (nt0 h (by intro kvs z;cases z))];exact h) _ _ u5⟩ ?_ (fun a o h n=>?_) fun x hx=>(bfr x hx).imp id (fr x.2)⟩
 ·have nt:∀{a u},H5 a=some u->(∀kvs,u≠.dK kvs)->a≠q.dd:=fun{a u} h n zz=>by
   rw[zz,d5] at h;exact n _ (Option.some.inj h).symm
  refine⟨⟨?_,?_,fun e he=>?_,P5.2.2.2⟩,Ac,{ B5 with h:=?_,d:=fun x hx=>⟨?_,(B5.d x hx).2⟩ },pa.n1,pa.n2,pa.n3,?_,fun i e h=>?_,?_,?_,?_⟩
  ·rw[Ag (nt P5.1 (by intro kvs z;cases z))];exact P5.1
  ·rw[Ag pa.n2];exact P5.2.1
  ·exact(P5.2.2.1 e he).tup (Ag (nt (P5.2.2.1 e he).1 (by intro kvs z;cases z))) fun a ys h=>by rw[Ag (nt h (by intro kvs z;cases z))];exact h
  ·rw[Ag pa.n3];exact B5.h
  ·rw[Ag (B5.d x hx).2.2.2];exact(B5.d x hx).1
  ·rw[Pb,List.map_append,List.nodup_append];refine⟨pa.c,by simp,fun a ha b' hb=>?_⟩;obtain⟨x,hx,rfl⟩:=List.mem_map.mp ha;have:b'=c:=List.mem_singleton.mp hb;rw[this];intro zz;have:=(pa.t.2.2.1 x hx).1;rw[zz,hcH] at this;cases this
  ·rw[List.getElem?_map] at h;obtain⟨x,hx,rfl⟩:=Option.map_eq_some_iff.mp h;show x.z=_
   by_cases hi:i<cs.length
   ·rw[List.getElem?_append_left hi] at hx;exact pa.z i x hx
   ·rw[List.getElem?_append_right (by omega)] at hx;obtain⟨h1,h2⟩:=List.getElem?_eq_some_iff.mp hx;have:i=cs.length:=by
     have:i-cs.length<1:=h1;omega
    subst this;simp only[Nat.sub_self,List.getElem_cons_zero] at h2;rw[<-h2];rfl
  ·rw[List.length_map,List.length_append];have:=pa.w;show bs'.length<=cs.length+1;omega
  ·show(1:Int)<=(cs.length:Int)+1;omega
  ·rw[List.length_map,List.length_append];show(cs.length:Int)+1<=((cs.length+1:Nat):Int)+1;omega
 ·have na:a≠q.dd:=fun zz=>n (by rw[zz];unfold FH;simp)
  have np:a≠p:=fun zz=>n (by rw[zz];unfold FH;simp)
  rw[Ag na];exact f5 a o (s4.get (by rw[ho2 a np];exact s1.get h)) n
end
theorem AE {te:TE}{g:TG}{u:TS}{D:Ends}{σ:St}{H:Hp}(h:te σ H fun x H'=>g x σ H' fun σ' H''=>u D σ' H''):IJ (L6 te g) u D σ H:=h
theorem QG {te:TE}{u:TS}{D:Ends}{σ:St}{H:Hp}(h:te σ H fun _ H'=>u D σ H'):IJ (Q0 te) u D σ H:=h
section
variable {P:Program}{w:World}{K:W.Frag}{mg:Str->Option Value}{base:Heap}{f Ah Aa Ad:Addr}{XC:Nat->Addr}{fd:FuncData}
def Gc (H:Hp):Option (Int×Tg)->V->Prop
 |none,v=>v=.non
 |some (k,g),v=>∃p ta,v=.ref p/\H p=some (.tup [.int k,.ref ta])/\H ta=some (.tup [.int g.1,.int g.2.1,.int g.2.2])
theorem Gc.same {H H':Hp}(s:Am H H'):∀{e:Option (Int×Tg)} {v:V},Gc H e v->Gc H' e v
 |none,_,h=>h
 |some _,_,⟨p,ta,e,h1,h2⟩=>⟨p,ta,e,s.get h1,s.get h2⟩
def Ga (es:List En)(z:Str):Option (Int×Tg):=(es.find? fun x=>decide (x.nm=z)).map fun x=>(x.kd,x.tg)
theorem Vw {es:List En}{z:Str}{i:Nat}{y:En}(ey:es[i]?=some y)(e:y.nm=z)(no:∀x∈es.take i,x.nm≠z):es.find? (fun x=>decide (x.nm=z))=some y:=by
 have h1:es=es.take i++y::es.drop (i+1):=by
  have hi:=(List.getElem?_eq_some_iff.mp ey)
  obtain⟨hl,he⟩:=hi;rw[<-he];exact(List.take_append_drop i es).symm.trans (by rw[List.drop_eq_getElem_cons hl])
 rw[h1,List.find?_append,List.find?_eq_none.mpr fun x hx c=>no x hx (of_decide_eq_true c),List.find?_cons,decide_eq_true e];rfl
def Co (K:W.Frag):Sp:=fun vs H Q _=>∃(v:V) (es:List En) (z:Str),vs=[v,.str z]/\Rep NL H (Df (.folder es)) v/\es.length<=1000/\∀u H',Am H H'->Gc H' (Ga es z) u->Q u H'
theorem IF (T:Txt K mg Ah Aa Ad XC)(F:Fun K "entry_called" "entry_called" Bx f fd):FnOk P w K mg base DD 1 f fd ["folder","name"] (Co K):=by
 exists Cm
 ·obtain⟨v,es,z,rfl,_⟩:=h;rfl
 obtain⟨v,es,z,rfl,hv,few,q⟩:=h;have hu:=Cf hr;refine⟨_,(!Af (!CW PassesOwn.never rfl (!E4 (!AD AH (pv 0) (!Ak) (fun _ _=>rfl))) (!Kd rfl (!AF (@An _ _ (2) _ Cm.nd rfl (by trivial) (by trivial)) (!AF (@An _ _ (3) _ Cm.nd rfl (by trivial) (by trivial)) (!AF (@An _ _ (4) _ Cm.nd rfl (by trivial) (by trivial)) (!Ds))))) (!Al (!A7 (!AA Dq (pv 2) (pv 1) (AL _)) (!Al (!Ar (!AR (!Ab (pv 3) (!Ab (pv 4) (!Ae)))))) (!AB))) (by intro _;rfl)) (!Al (!Ar (!JG)))),?_⟩
 try dsimp only[BB,Cx.nox,Cx.wish]
 obtain⟨a,b,us,rfl,ha,hb,rs⟩:=BX hv;have lu:=Ax.len _ _ rs;rw[List.length_map] at lu;refine⟨_,rfl,a,_,_,_,rfl,rfl,A0.of ha,rfl,b,rfl,⟨_,A0.of hb⟩,?_⟩;refine L1 (K:=K) (a:=b) (xs:=us) (fun i σ H2=>∃v2 v3 v4,σ=[some (.ref a),some (.str z),v2,v3,v4]/\H2=H/\∀x∈es.take i,x.nm≠z) ⟨none,none,none,rfl,rfl,fun _ h=>nomatch h⟩ (fun i σ H2 _ ⟨_,_,_,_,e,_⟩=>by rw[e];exact A0.of hb) ?_ ?_
 ·rintro i x σ H2 hi ⟨v2,v3,v4,rfl,rfl,no⟩
  obtain⟨t,et,rt⟩:=Ax.get rs hi;rw[List.getElem?_map] at et;obtain⟨y,ey,rfl⟩:=Option.map_eq_some_iff.mp et;obtain⟨p,ta,rfl,hp,hta⟩:=Em rt;dsimp only[Au,GF];refine⟨p,_,rfl,A0.of hp,rfl,_,_,rfl,_,_,rfl,_,_,rfl,rfl,?_⟩;refine⟨_,rfl,_,rfl,rfl,_,rfl,C8 (fun c=>?_) (fun c=>?_)⟩
  ·have e:y.nm=z:=V.str.inj (dec_true c);refine⟨_,rfl,_,rfl,DV,fun pp np=>?_⟩;have s3:=Ai np (.tup [.int y.kd,.ref ta]);have ef:Ga es z=some (y.kd,y.tg):=by
    unfold Ga;rw[Vw ey e no];rfl
   refine q _ _ s3 ?_;rw[ef];exact⟨pp,ta,rfl,Ac,s3.get hta⟩
  ·have e:y.nm≠z:=fun e=>dec_false c (by rw[e])
   refine⟨_,_,_,rfl,rfl,fun x hx=>?_⟩;rw[List.take_add_one,ey] at hx;rcases List.mem_append.mp hx with h|h
   ·exact no x h
   ·cases List.mem_singleton.mp h;exact e
 ·rintro σ H2 ⟨v2,v3,v4,rfl,rfl,no⟩
  have ef:Ga es z=none:=by
   unfold Ga;rw[List.find?_eq_none.mpr fun x hx c=>no x (by rw[lu,List.take_length];exact hx) (of_decide_eq_true c)];rfl
  refine q _ _ (Am.refl _) ?_;rw[ef];rfl
def Br (bks:List Bk)(z:Int):Option (List En):=if 1<=z then match bks[(z-1).toNat]? with
 |some (.folder es)=>some es
 |_=>none else none
theorem GU {bks:List Bk}{z:Int}{es:List En}(h:Br bks z=some es):1<=z/\bks[(z-1).toNat]?=some (.folder es):=by
 unfold Br at h
 split at h
 ·next c=>
  refine⟨c,?_⟩
  split at h
  ·next e=>cases h;exact e
  ·cases h
 ·cases h
theorem BL {bks:List Bk}{z:Int}{es:List En}(more:List Bk)(h:Br bks z=some es):Br (bks++more) z=some es:=by
 obtain⟨h1,h2⟩:=GU h;unfold Br;rw[if_pos h1,List.getElem?_append_left (List.getElem?_eq_some_iff.mp h2).1,h2]
theorem Dc {CP CT:Addr}{H:Hp}{p:Addr}{q:Pl}{cs:List Cl}{bs:List (Int×Addr)}(pa:PAt CP CT H p q cs bs){z:Int}{es:List En}(h:Br (cs.map (·.bk)) z=some es):∃e∈cs,e.z=z/\e.bk=.folder es/\Rep NL H (Df (.folder es)) e.v/\HL (.folder es):=by
 obtain⟨h1,h2⟩:=GU h;rw[List.getElem?_map] at h2;obtain⟨e,ee,eb⟩:=Option.map_eq_some_iff.mp h2;have hm:=List.mem_of_getElem? ee;have ez:=pa.z _ e ee;obtain⟨_,_,r,ok⟩:=pa.t.2.2.1 e hm;rw[eb] at r ok;exact⟨e,hm,by omega,eb,r,ok⟩
def Wf (bks:List Bk):Prop:=∀es,Bk.folder es∈bks->∀x∈es,x.kd=2->∃es',Br bks x.tg.1=some es'
def Ez (bks:List Bk):Option (Int×Tg)->List Str->Option (Int×Tg)
 |e,[]=>e
 |none,_::_=>none
 |some (k,g),s::ss=>if k=2 then Ez bks ((Br bks g.1).bind fun es=>Ga es s) ss else none
def Uy (bks:List Bk):Option (Int×Tg)->Prop
 |none=>True
 |some (k,g)=>k=2->∃es,Br bks g.1=some es
theorem O9 {es:List En}{z:Str}{k:Int}{g:Tg}(h:Ga es z=some (k,g)):∃x∈es,x.nm=z/\x.kd=k/\x.tg=g:=by
 unfold Ga at h;obtain⟨x,hx,e⟩:=Option.map_eq_some_iff.mp h;cases e;exact⟨x,List.mem_of_find?_eq_some hx,by simpa using List.find?_some hx,rfl,rfl⟩
theorem N5 {bks:List Bk}(wf:Wf bks){z:Int}{es:List En}(h:Br bks z=some es)(s:Str):Uy bks (Ga es s):=by
 cases e:Ga es s with
 |none=>trivial
 |some kg=>
  obtain⟨k,g⟩:=kg;obtain⟨x,hx,_,rfl,rfl⟩:=O9 e;exact fun k2=>wf es (List.mem_of_getElem? (GU h).2) x hx k2
def FF (K:W.Frag)(CP CT:Addr):Sp:=fun vs H Q _=>∃(p:Addr) (q:Pl) (cs:List Cl) (bs:List (Int×Addr)) (ta:Addr) (g:Tg) (z:Str),vs=[.ref p,.ref ta,.str z]/\PAt CP CT H p q cs bs/\H ta=some (.tup [.int g.1,.int g.2.1,.int g.2.2])/\Wf (cs.map (·.bk))/\(∃es,Br (cs.map (·.bk)) g.1=some es)/\
 z.length<=1000/\z≠EM/\By (PySem.Txt.split z SL)=true/\∀u H',Am H H'->Gc H' (Ez (cs.map (·.bk)) (some (2,g)) (PySem.Txt.split z SL)) u->Q u H'
theorem Mp (T:Txt K mg Ah Aa Ad XC)(F:Fun K "entry_at" "entry_at" CN f fd)(BH:IP P w K mg base 3 "steps_in" ["path"] (C9 K XC))(Bw:Def P w K mg base 1 "entry_called" ["folder","name"] (Co K))(AM:CL P w K mg base 1 Ad "block" ["self","tag"] (BP K Ad Aa)):FnOk P w K mg base DD 4 f fd ["pool","root","path"] (FF K Ad Aa):=by
 exists D7
 ·obtain⟨p,q,cs,bs,ta,g,z,rfl,_⟩:=h;rfl
 obtain⟨p,q,cs,bs,ta,g,z,rfl,pa,hta,wf,hroot,lz,ne,gd,hq⟩:=h;have hu:=Cf hr;have hu9:=GH hr;refine⟨_,(!Af (@As _ _ (3) _ _ _ _ D7.nd rfl (by trivial) (!AR (!Ab (!AK rfl T.c_FOLDER_ENTRY) (!Ab (pv 1) (!Ae)))) (by rfl) (by trivial)) (!Af (!CW PassesOwn.never rfl (!Ck (!Jc BH (by trivial) rfl UD (!Ab (pv 2) (!Ae)))) (@An _ _ (4) _ D7.nd rfl (by trivial) (by trivial)) (!Af (!A7 (@PW.pt _ _ _ (!Iw (!GE (!NC (pv 3)) (by first|exact Dd _ (by decide) (by decide)|rfl)) (!Gk (!AA JF (!AD AH (pv 3) (!Ak) (fun _ _=>rfl)) (!AK rfl T.c_FOLDER_ENTRY) (AL _))))) (!Al (!Ar (!JG))) (!AB)) (!Al (@As _ _ (3) _ _ _ _ D7.nd rfl (by trivial) (!BD Bw (by trivial) rfl (!Ab (!BG (pv 0) T.cl_Pool AM (by trivial) (!Ab (!AD AH (pv 3) (!Ak) (fun _ _=>rfl)) (!Ae))) (!Ab (pv 4) (!Ae)))) (by rfl) (by trivial)))) (by intro _;rfl)) (!Al (!Ar (pv 3))))),?_⟩
 try dsimp only[BB,Cx.nox,Cx.wish]
 refine⟨_,rfl,DV,fun pe npe=>?_⟩;have s1:=Ai npe (.tup [.int 2,.ref ta]);have hpe:(upd H pe (.tup [.int 2,.ref ta])) pe=some (.tup [.int 2,.ref ta]):=Ac;dsimp only[Au,L6];generalize upd H pe (.tup [.int 2,.ref ta])=H1 at s1 hpe;refine⟨_,rfl,z,rfl,lz,fun e=>absurd e ne,fun _ _ l H2 s2 nl hl=>?_,fun _ e=>by rw[gd] at e;cases e⟩;generalize PySem.Txt.split z SL=ss at gd hq hl;have s12:=s1.trans s2;have l8:ss.length<=8:=by
  unfold By at gd;rw[Bool.and_eq_true,decide_eq_true_eq] at gd;exact gd.1
 refine⟨l,rfl,⟨_,AW.of hl⟩,?_⟩;refine DJ (K:=K) (a:=l) (xs:=ss.map V.str) (fun i σ H3=>∃u v4 e,σ=[some (.ref p),some (.ref ta),some (.str z),some u,v4]/\Am H2 H3/\Gc H3 e u/\Uy (cs.map (·.bk)) e/\Ez (cs.map (·.bk)) e (ss.drop i)=Ez (cs.map (·.bk)) (some (2,g)) ss) ⟨.ref pe,none,some (2,g),rfl,Am.refl _,⟨pe,ta,rfl,s2.get hpe,s12.get hta⟩,fun _=>hroot,rfl⟩ (fun i σ H3 _ ⟨_,_,_,_,s3,_⟩=>AW.of (s3.get hl)) ?_ ?_
 ·rintro i x σ H3 hi ⟨u,v4,e,rfl,s3,he,eok,ew⟩
  rw[List.getElem?_map] at hi;obtain⟨st,est,rfl⟩:=Option.map_eq_some_iff.mp hi;have hi':=(List.getElem?_eq_some_iff.mp est).1;have ed:ss.drop i=st::ss.drop (i+1):=by
   rw[List.drop_eq_getElem_cons hi'];rw[List.getElem?_eq_getElem hi'] at est;rw[Option.some.inj est]
  rw[ed] at ew;have s13:=s12.trans s3;dsimp only[Au,IJ,GF,WQ];cases e with
  |none=>
   cases(show u=V.non from he);refine⟨_,rfl,_,rfl,BW rfl (BW rfl ?_)⟩;refine hq _ _ s13 ?_;rw[<-ew];rfl
  |some kg=>
   obtain⟨k,gg⟩:=kg;obtain⟨pu,tu,rfl,hpu,htu⟩:=he;refine⟨_,rfl,_,rfl,AX rfl ?_⟩;refine⟨_,rfl,pu,_,_,_,rfl,rfl,A0.of hpu,rfl,rfl,_,rfl,C8 (fun c=>?_) (fun c=>?_)⟩
   ·have k2:k≠2:=fun z=>by rw[z] at c;exact absurd c (by decide)
    refine hq _ _ s13 ?_;rw[<-ew];show Gc H3 (if k=2 then _ else none) V.non;rw[if_neg k2];rfl
   ·have k2:k=2:=by
     by_cases z:k=2
     ·exact z
     ·exact absurd (by rw[decide_eq_false fun y=>z (V.int.inj y)];rfl) c
    subst k2;obtain⟨es,hes⟩:=eok rfl;have pa3:=pa.same s13;obtain⟨e,hm,ez,_,rv,okb⟩:=Dc pa3 hes;rw[<-ez] at htu;have few:es.length<=1000:=by have:=okb.1;omega
    refine⟨_,rfl,p,q.dp,_,rfl,pa3.t.1,rfl,_,rfl,pu,_,_,_,rfl,rfl,A0.of hpu,rfl,p,q,cs,e,tu,_,_,rfl,pa3.t,pa3.d,hm,htu,_,rfl,e.v,es,st,rfl,rv,few,fun u' H4 s4 he4=>?_⟩;refine⟨u',_,_,rfl,s3.trans s4,he4,N5 wf hes st,?_⟩;rw[<-ew];show _=if(2:Int)=2 then Ez _ ((Br _ gg.1).bind fun es=>Ga es st) _ else none;rw[if_pos rfl,hes];rfl
 ·rintro σ H3 ⟨u,v4,e,rfl,s3,he,eok,ew⟩
  rw[List.length_map,List.drop_length] at ew;refine⟨_,rfl,hq _ _ (s12.trans s3) ?_⟩;rw[<-ew];exact he
def Fj (H:Hp)(p:Addr×En):Prop:=∃b,H p.1=some (.tup [.str p.2.nm,.int p.2.kd,.ref b])/\H b=some (.tup [.int p.2.tg.1,.int p.2.tg.2.1,.int p.2.tg.2.2])
theorem Fj.same {H H':Hp}{p:Addr×En}(h:Fj H p)(s:Am H H'):Fj H' p:=let⟨b,h1,h2⟩:=h;⟨b,s.get h1,s.get h2⟩
theorem Fj.tup {H H':Hp}{p:Addr×En}(h:Fj H p)(k:∀b xs,H b=some (.tup xs)->H' b=some (.tup xs)):Fj H' p:=let⟨b,h1,h2⟩:=h;⟨b,k _ _ h1,k _ _ h2⟩
theorem NP {H:Hp}:∀{es:List En} {us:List V},Ax NL H (es.map Jg) us->∃ps:List (Addr×En),us=ps.map (fun p=>V.ref p.1)/\es=ps.map (·.2)/\∀p∈ps,Fj H p
 |[],us,h=>⟨[],by rw[show us=[] from h];rfl,rfl,fun _ h=>nomatch h⟩
 |x::es,us,h=>by
  obtain⟨v,vs,rfl,r,rs⟩:=h;obtain⟨ps,e1,e2,e3⟩:=NP rs;obtain⟨a,b,rfl,h1,h2⟩:=Em r;refine⟨(a,x)::ps,by rw[e1];rfl,by rw[e2];rfl,fun p hp=>?_⟩;rcases List.mem_cons.mp hp with rfl|hp
  ·exact⟨b,h1,h2⟩
  ·exact e3 p hp
theorem G8 {H:Hp}:∀{ps:List (Addr×En)},(∀p∈ps,Fj H p)->Ax NL H ((ps.map (·.2)).map Jg) (ps.map fun p=>V.ref p.1)
 |[],_=>rfl
 |p::ps,h=>by
  obtain⟨b,h1,h2⟩:=h p List.mem_cons_self;exact⟨_,_,rfl,U2 h1 h2,G8 fun q hq=>h q (List.mem_cons_of_mem _ hq)⟩
def Iq (es:List En)(z:Str)(e:Option (Int×Tg)):List En:=(es.filter fun x=>!decide (x.nm=z))++(match e with|some (k,g)=>[⟨z,k,g⟩]|none=>[])
theorem QF {es:List En}{z:Str}{e:Option (Int×Tg)}(nd:(es.map (·.nm)).Nodup):((Iq es z e).map (·.nm)).Nodup:=by
 unfold Iq;rw[List.map_append];have n1:((es.filter fun x=>!decide (x.nm=z)).map (·.nm)).Nodup:=nd.sublist ((List.filter_sublist).map _);refine List.nodup_append.mpr ⟨n1,?_,fun a ha b hb ab=>?_⟩
 ·cases e<;>simp
 ·obtain⟨x,hx,rfl⟩:=List.mem_map.mp ha;have hx':=(List.mem_filter.mp hx).2;have hb':b=z:=by
   cases e with
   |none=>cases hb
   |some kg=>
    obtain⟨y,hy,rfl⟩:=List.mem_map.mp hb;rw[List.mem_singleton.mp hy]
  rw[hb'] at ab;rw[decide_eq_true ab] at hx';cases hx'
theorem HD {α β:Type}{f:α->β}{us vs:List β}(h:us.Perm vs):∀{qs:List α},vs=qs.map f->∃us':List α,us'.Perm qs/\us'.map f=us:=by
 induction h with
 |nil=>intro qs e;exact⟨[],by rw[List.map_eq_nil_iff.mp e.symm],rfl⟩
 |cons x _ ih=>
  intro qs e;cases qs with
  |nil=>cases e
  |cons q qs=>
   rw[List.map_cons] at e;injection e with e1 e2
   obtain⟨us',h1,h2⟩:=ih e2;exact⟨q::us',h1.cons q,by rw[List.map_cons,h2,e1]⟩
 |swap x y l=>
  intro qs e;cases qs with
  |nil=>cases e
  |cons q qs=>
   cases qs with
   |nil=>cases e
   |cons q' qs=>
    rw[List.map_cons,List.map_cons] at e;injection e with e1 e2
    injection e2 with e2 e3
    exact⟨q'::q::qs,List.Perm.swap _ _ _,by rw[List.map_cons,List.map_cons,e1,e2,e3]⟩
 |trans _ _ ih1 ih2=>
  intro qs e;obtain⟨a,h1,h2⟩:=ih2 e;obtain⟨b,h3,h4⟩:=ih1 h2.symm;exact⟨b,h3.trans h1,h4⟩
def DN (K:W.Frag)(XC:Nat->Addr):Sp:=fun vs H Q E=>∃(v:V) (es:List En) (z:Str) (u:V) (e:Option (Int×Tg)),vs=[v,.str z,u]/\Rep NL H (Df (.folder es)) v/\es.length<=16/\(es.map (·.nm)).Nodup/\Gc H e u/\
 ((Iq es z e).length<=16->∀v' es' H',Am H H'->es'.Perm (Iq es z e)->PyProof.Rows.sortedS (es'.map (·.nm))=true->Rep NL H' (Df (.folder es')) v'->Q v' H')/\(16<(Iq es z e).length->∀H',Am H H'->E (.ref (XC 4)) none H')
theorem J9 (T:Txt K mg Ah Aa Ad XC)(F:Fun K "folder_with" "folder_with" BO f fd):FnOk P w K mg base (NN P w) 1 f fd ["folder","name","entry"] (DN K XC):=by
 refine F.okE FN (fun vs H Q E h=>?_) (fun cdv A outer s H vs Q E hr h=>?_)
 ·obtain⟨v,es,z,u,e,rfl,_⟩:=h;rfl
 obtain⟨v,es,z,u,e,rfl,hv,few,nd,he,q1,q2⟩:=h;have hu:=Cf hr;have hu9:=GH hr;refine⟨_,(!Af (@IR _ ["other","name"] [none,some 1] (3) _ _ _ _ _ _ _ _ _ _ _ _ _ _ FN.nd rfl (by trivial) rfl (!E4 (!AD AH (pv 0) (!Ak) (fun _ _=>rfl))) (by rfl) rfl (by repeat (first|exact trivial|refine⟨rfl,?_⟩)) (by repeat (first|exact trivial|refine⟨fun h=>(by first|exact⟨_,rfl⟩|cases h),?_⟩)) (fun C s H fp=>⟨(@An _ _ (0) _ (show(["other","name"]:List Str).Nodup by decide +kernel) rfl (by trivial) (by trivial)),(!JW (!AA JF (!AD (Hk (K:=K) (by rfl)) (pv 0) (!Ak) (fun _ _=>rfl)) (pv 1) (AL _))),(pv 0)⟩) (by intro _;rfl) (by rfl) (by trivial)) (!Af (!A7 (!GE (!OI (pv 2)) (by first|exact Dd _ (by decide) (by decide)|rfl)) (!Al (!Cn (!Ew PySem.F.plainAttrs_list PySem.F.slot_list_append PySem.F.type_list_append DC (pv 3) (!Ab (!AR (!Ab (pv 1) (!Ab (!AD AH (pv 2) (!Ak) (fun _ _=>rfl)) (!Ab (!AD AH (pv 2) (!Ak) (fun _ _=>rfl)) (!Ae))))) (!Ae))))) (!AB)) (!Af (!A7 (!AA O5 (!Av Be (by rfl) T.b_len DP (!Ab (pv 3) (!Ae))) (!AK rfl T.c_MOST_ENTRIES) (AL _)) (!Al (!Qq PB rfl T.x_TooMany T.q_TooMany)) (!AB)) (!Al (!Ar (!AR (!Ab (!AK rfl T.c_FOLDER) (!Ab (!Dy Ep (by rfl) T.b_tuple JR (!Ab (!Av (D8 (K:=K) (by rfl)) (by rfl) T.b_sorted Et (!Ab (pv 3) (!Ae))) (!Ae))) (!Ae))))))))),?_⟩
 try dsimp only[BB,Cx.nox,Cx.wish]
 obtain⟨a,b,us,rfl,ha,hb,rs⟩:=BX hv;obtain⟨ps,rfl,rfl,hps⟩:=NP rs;rw[List.length_map] at few;refine AE ⟨_,rfl,a,_,_,_,rfl,rfl,A0.of ha,rfl,b,rfl,⟨_,A0.of hb⟩,?_⟩;refine PK (ps:=ps) (g:=fun p=>V.ref p.1) (fun p=>!decide (p.2.nm=z)) (fun p=>V.ref p.1) (Eu hb) (by omega) (fun p hp H' R s' hR=>?_) (fun p hp hs H' R s' hR=>⟨_,rfl,hR H' (Am.refl _)⟩) fun l H1 n1 s1 h1=>?_
 ·obtain⟨ta,h2,_⟩:=(hps p hp).same s';refine⟨_,rfl,p.1,_,_,_,rfl,rfl,A0.of h2,rfl,_,rfl,rfl,_,rfl,?_⟩;rw[IQ];exact hR
 dsimp only[Au];have hq0:∀p∈ps.filter (fun p=>!decide (p.2.nm=z)),Fj H1 p:=fun p hp=>(hps p (List.mem_filter.mp hp).1).same s1
 have eq0:(ps.filter fun p=>!decide (p.2.nm=z)).map (·.2)=(ps.map (·.2)).filter fun x=>!decide (x.nm=z):=by
  rw[List.filter_map];rfl
 have lq0:=List.length_filter_le (fun p:Addr×En=>!decide (p.2.nm=z)) ps;generalize ps.filter (fun p=>!decide (p.2.nm=z))=qs0 at h1 hq0 eq0 lq0;refine D0 (t:=GF _ _ _) (fun σ' H'=>∃qs:List (Addr×En),σ'=[some (.ref a),some (.str z),some u,some (.ref l)]/\H' l=some (.lst (qs.map fun p=>V.ref p.1))/\(∀p∈qs,Fj H' p)/\qs.map (·.2)=Iq (ps.map (·.2)) z e/\Am H H') (fun N hN=>?_) ?_
 ·dsimp only[GF,tB];cases e with
  |none=>
   cases(show u=V.non from he);exact⟨_,rfl,_,rfl,AX rfl (hN _ _ ⟨qs0,rfl,h1,hq0,by rw[eq0];unfold Iq;rw[List.append_nil],s1⟩)⟩
  |some kg=>
   obtain⟨k,g⟩:=kg;obtain⟨pu,tu,rfl,hpu,htu⟩:=he.same s1;refine⟨_,rfl,_,rfl,BW rfl ?_⟩;dsimp only[Q0];refine⟨_,rfl,.inl ⟨rfl,_,AW.of h1⟩,_,rfl,_,rfl,pu,_,_,_,rfl,rfl,A0.of hpu,rfl,_,rfl,pu,_,_,_,rfl,rfl,A0.of hpu,rfl,Ge,fun pn npn=>?_⟩;have s2:=Ai npn (.tup [.str z,.int k,.ref tu]);have hpn:(upd H1 pn (.tup [.str z,.int k,.ref tu])) pn=some (.tup [.str z,.int k,.ref tu]):=Ac;generalize upd H1 pn (.tup [.str z,.int k,.ref tu])=H2 at s2 hpn;have hl2:=s2.get h1;refine⟨l,_,_,rfl,rfl,hl2,BF (by rw[List.length_map];omega),hN _ _ ⟨qs0++[(pn,⟨z,k,g⟩)],rfl,by rw[Ac,List.map_append];rfl,fun p hp=>?_,by rw[List.map_append,eq0];rfl,AU (s1.trans s2) n1 _⟩⟩;have kt:∀c xs,H2 c=some (.tup xs)->(upd H2 l (.lst ((qs0.map fun p=>V.ref p.1)++[V.ref pn]))) c=some (.tup xs):=fun c xs y=>by rw[Ag fun w=>by rw[w,hl2] at y;cases y];exact y
   rcases List.mem_append.mp hp with hp|hp
   ·exact((hq0 p hp).same s2).tup kt
   ·rw[List.mem_singleton.mp hp];exact⟨tu,kt _ _ hpn,kt _ _ (s2.get htu)⟩
 rintro σ' H2 ⟨qs,rfl,hl2,hq2,eq2,s2⟩
 have lq:qs.length=(Iq (ps.map (·.2)) z e).length:=by rw[<-eq2,List.length_map]
 dsimp only[IJ,GF];refine⟨_,rfl,l,_,rfl,.inl (AW.of hl2),_,_,rfl,rfl,_,rfl,C8 (fun c=>?_) (fun c=>?_)⟩
 ·have c':=of_decide_eq_true c;rw[List.length_map] at c';exact q2 (by omega) H2 s2
 ·have c':=of_decide_eq_false (Bool.eq_false_iff.mpr c);rw[List.length_map] at c';dsimp only[Io];refine⟨_,rfl,l,qs.map fun p=>(p.1,p.2.nm),rfl,AW.of (by rw[List.map_map];exact hl2),by rw[List.length_map];omega,fun t ht=>?_,?_,fun us p up so np=>?_⟩
  ·obtain⟨p,hp,rfl⟩:=List.mem_map.mp ht;obtain⟨tb,h3,_⟩:=hq2 p hp;exact⟨_,A0.of h3⟩
  ·rw[List.map_map];show(qs.map fun p=>p.2.nm).Nodup;have:=QF (z:=z) (e:=e) nd;rw[<-eq2,List.map_map] at this;exact this
  ·obtain⟨rs',pm,rfl⟩:=HD up rfl;rw[List.map_map];have s3:=Ai np (.lst (rs'.map ((fun t:Addr×Str=>V.ref t.1)∘fun p:Addr×En=>(p.1,p.2.nm))));refine⟨p,_,rfl,.inl ⟨AW.of Ac,fun tp ntp=>?_⟩⟩;have h3:(upd H2 p (.lst (rs'.map ((fun t:Addr×Str=>V.ref t.1)∘fun p:Addr×En=>(p.1,p.2.nm))))) p=some (.lst (rs'.map fun p=>V.ref p.1)):=Ac;generalize upd H2 p (.lst (rs'.map ((fun t:Addr×Str=>V.ref t.1)∘fun p:Addr×En=>(p.1,p.2.nm))))=H3 at s3 h3 ntp;have s4:=Ai ntp (.tup (rs'.map fun p=>V.ref p.1));have h4:(upd H3 tp (.tup (rs'.map fun p=>V.ref p.1))) tp=some (.tup (rs'.map fun p=>V.ref p.1)):=Ac;refine⟨DV,fun fp nfp=>?_⟩;have s5:=Ai nfp (.tup [.int 2,.ref tp]);have s25:=s3.trans (s4.trans s5);refine q1 (by omega) (.ref fp) (rs'.map (·.2)) _ (s2.trans s25) ?_ ?_ ⟨fp,_,rfl,Ac,_,_,rfl,rfl,_,_,rfl,⟨tp,_,rfl,s5.get h4,G8 fun p hp=>(hq2 p (pm.mem_iff.mp hp)).same s25⟩,rfl⟩
   ·rw[<-eq2];exact pm.map _
   ·rw[List.map_map] at so ⊢;exact so
def AS (bks:List Bk):List En->List Str->Option (List (List En))
 |es,[]=>some [es]
 |es,s::ss=>match Ga es s with
  |some (k,g)=>if k=2 then(Br bks g.1).bind fun es'=>(AS bks es' ss).map (es :: ·) else none
  |none=>none
def Fw (H:Hp):List (List En)->List V->Prop
 |[],us=>us=[]
 |es::fs,us=>∃v vs,us=v::vs/\Rep NL H (Df (.folder es)) v/\Fw H fs vs
theorem Fw.same {H H':Hp}(s:Am H H'):∀{fs:List (List En)} {us:List V},Fw H fs us->Fw H' fs us
 |[],_,h=>h
 |_::_,_,⟨v,vs,e,h1,h2⟩=>⟨v,vs,e,Rep.same s _ _ h1,h2.same s⟩
theorem Fw.len {H:Hp}:∀{fs:List (List En)} {us:List V},Fw H fs us->us.length=fs.length
 |[],us,h=>by rw[show us=[] from h];rfl
 |_::_,_,⟨v,vs,e,_,h2⟩=>by rw[e,List.length_cons,List.length_cons,h2.len]
theorem Fw.snoc {H:Hp}{es:List En}{v:V}(r:Rep NL H (Df (.folder es)) v):∀{fs:List (List En)} {us:List V},Fw H fs us->Fw H (fs++[es]) (us++[v])
 |[],us,h=>by rw[show us=[] from h];exact⟨v,[],rfl,r,rfl⟩
 |_::_,_,⟨v',vs,e,h1,h2⟩=>⟨v',vs++[v],by rw[e];rfl,h1,h2.snoc r⟩
theorem Fw.get {H:Hp}:∀{fs:List (List En)} {us:List V},Fw H fs us->∀{i:Nat} {v:V},us[i]?=some v->∃es,fs[i]?=some es/\Rep NL H (Df (.folder es)) v
 |[],us,h,i,v,e=>by rw[show us=[] from h] at e;simp at e
 |es::fs,_,⟨v',vs,e0,h1,h2⟩,i,v,e=>by
  subst e0;cases i with
  |zero=>cases e;exact⟨es,rfl,h1⟩
  |succ i=>exact h2.get (by simpa using e)
theorem Fw.tup {H H':Hp}(k:∀c xs,H c=some (.tup xs)->H' c=some (.tup xs)):∀{fs:List (List En)} {us:List V},Fw H fs us->Fw H' fs us
 |[],_,h=>h
 |_::_,_,⟨v,vs,e,h1,h2⟩=>⟨v,vs,e,Cp k _ _ h1,h2.tup k⟩
def CS (K:W.Frag)(CP CT:Addr)(XC:Nat->Addr):Sp:=fun vs H Q E=>∃(p:Addr) (q:Pl) (cs:List Cl) (bs:List (Int×Addr)) (ta:Addr) (g:Tg) (z:Str) (es0:List En),vs=[.ref p,.ref ta,.str z]/\PAt CP CT H p q cs bs/\H ta=some (.tup [.int g.1,.int g.2.1,.int g.2.2])/\Wf (cs.map (·.bk))/\Br (cs.map (·.bk)) g.1=some es0/\
 z.length<=1000/\z≠EM/\By (PySem.Txt.split z SL)=true/\
 (∀fs us l H',AS (cs.map (·.bk)) es0 (PySem.Txt.split z SL).dropLast=some fs->Am H H'->H l=none->H' l=some (.lst us)->Fw H' fs us->Q (.ref l) H')/\
 (AS (cs.map (·.bk)) es0 (PySem.Txt.split z SL).dropLast=none->∀H' dx,Am H H'->H' dx=none->E (.ref (XC 0)) (some dx) (upd H' dx (.xd [("path",.str z)])))
theorem HU (T:Txt K mg Ah Aa Ad XC)(F:Fun K "folders_along" "folders_along" Bo f fd)(AM:CL P w K mg base 1 Ad "block" ["self","tag"] (BP K Ad Aa))(BH:IP P w K mg base 3 "steps_in" ["path"] (C9 K XC))(Bw:Def P w K mg base 1 "entry_called" ["folder","name"] (Co K))(A5:RT P w K mg base 1 "NoPath" (XC 0) "path" ["self","path"]):FnOk P w K mg base (NN P w) 4 f fd ["pool","root","path"] (CS K Ad Aa XC):=by
 refine F.okE B3 (fun vs H Q E h=>?_) (fun cdv A outer s H vs Q E hr h=>?_)
 ·obtain⟨p,q,cs,bs,ta,g,z,es0,rfl,_⟩:=h;rfl
 obtain⟨p,q,cs,bs,ta,g,z,es0,rfl,pa,hta,wf,hroot,lz,ne,gd,hq,hx⟩:=h;have hu:=Cf hr;have hu9:=GH hr;refine⟨_,(!Af (@As _ _ (3) _ _ _ _ B3.nd rfl (by trivial) (!Bm (!Ab (!BG (pv 0) T.cl_Pool AM (by trivial) (!Ab (pv 1) (!Ae))) (!Ae))) (by rfl) (by trivial)) (!Af (!CW PassesOwn.leaving rfl (!Ck (!Fq IY (!Jc BH (by trivial) rfl Hd (!Ab (pv 2) (!Ae))) (!IU) (!FV (!Um QM (!Ak))))) (@An _ _ (4) _ B3.nd rfl (by trivial) (by trivial)) (!Af (@As _ _ (5) _ _ _ _ B3.nd rfl (by trivial) (!BD Bw (by trivial) rfl (!Ab (!AD Ci (pv 3) (!Um QM (!Ak)) (fun _ _=>rfl)) (!Ab (pv 4) (!Ae)))) (by rfl) (by trivial)) (!Af (!A7 (@PW.pt _ _ _ (!Iw (!GE (!NC (pv 5)) (by first|exact Dd _ (by decide) (by decide)|rfl)) (!Gk (!AA JF (!AD AH (pv 5) (!Ak) (fun _ _=>rfl)) (!AK rfl T.c_FOLDER_ENTRY) (AL _))))) (!Al (!Hs Gs rfl A5 (by trivial) rfl (!Ab (pv 2) (!Ae)))) (!AB)) (!Al (!Cn (!Ew PySem.F.plainAttrs_list PySem.F.slot_list_append PySem.F.type_list_append DC (pv 3) (!Ab (!BG (pv 0) T.cl_Pool AM (by trivial) (!Ab (!AD AH (pv 5) (!Ak) (fun _ _=>rfl)) (!Ae))) (!Ae))))))) (by intro _;rfl)) (!Al (!Ar (pv 3))))),?_⟩
 try dsimp only[BB,Cx.nox,Cx.wish]
 obtain⟨e0,hm0,ez0,_,rv0,okb0⟩:=Dc pa hroot;have hta0:=hta;rw[<-ez0] at hta0;refine AE ⟨_,rfl,p,q.dp,_,rfl,pa.t.1,rfl,_,rfl,p,q,cs,e0,ta,_,_,rfl,pa.t,pa.d,hm0,hta0,Vi,fun l nl=>?_⟩;have s1:=Ai nl (.lst [e0.v]);have hl1:(upd H l (.lst [e0.v])) l=some (.lst [e0.v]):=Ac;dsimp only[Au];generalize upd H l (.lst [e0.v])=H1 at s1 hl1;refine D0 (t:=SW _ _ _) (fun σ' H'=>∃fs us v4 v5,σ'=[some (.ref p),some (.ref ta),some (.str z),some (.ref l),v4,v5]/\AS (cs.map (·.bk)) es0 (PySem.Txt.split z SL).dropLast=some fs/\Am H H'/\H' l=some (.lst us)/\Fw H' fs us) (fun N hN=>?_) ?_
 ·refine⟨_,rfl,z,rfl,lz,fun e=>absurd e ne,fun _ _ l2 H2 s2 nl2 hl2=>?_,fun _ e=>by rw[gd] at e;cases e⟩;refine⟨_,rfl,_,rfl,l2,_,rfl,AW.of hl2,fun l3 nl3=>?_⟩;rw[show J1 ((PySem.Txt.split z SL).map V.str) none (some (-1))=(PySem.Txt.split z SL).dropLast.map V.str by rw[RE,List.map_dropLast]];have s3:=Ai nl3 (.lst ((PySem.Txt.split z SL).dropLast.map V.str));have hl3:(upd H2 l3 (.lst ((PySem.Txt.split z SL).dropLast.map V.str))) l3=some (.lst ((PySem.Txt.split z SL).dropLast.map V.str)):=Ac;have l8:(PySem.Txt.split z SL).dropLast.length<=8:=by
   unfold By at gd;rw[Bool.and_eq_true,decide_eq_true_eq] at gd;rw[List.length_dropLast];omega
  generalize (PySem.Txt.split z SL).dropLast=ss at hq hx hN s3 hl3 l8;generalize upd H2 l3 (.lst (ss.map V.str))=H3 at s3 hl3;have s13:=s1.trans (s2.trans s3);have hl13:=(s2.trans s3).get hl1;have nll:l3≠l:=fun w=>by rw[w,s2.get hl1] at nl3;cases nl3
  refine⟨l3,rfl,⟨_,AW.of hl3⟩,?_⟩;refine DJ (K:=K) (a:=l3) (xs:=ss.map V.str) (fun i σ H4=>∃fs us es v v4 v5 n,σ=[some (.ref p),some (.ref ta),some (.str z),some (.ref l),v4,v5]/\Am H H4/\H4 l3=some (.lst (ss.map V.str))/\H4 l=some (.lst (us++[v]))/\Fw H4 fs us/\Rep NL H4 (Df (.folder es)) v/\Br (cs.map (·.bk)) n=some es/\AS (cs.map (·.bk)) es0 ss=(AS (cs.map (·.bk)) es (ss.drop i)).map (fs ++ ·)/\us.length=i) ⟨[],[],es0,e0.v,none,none,g.1,rfl,s13,hl3,hl13,rfl,Rep.same s13 _ _ rv0,hroot,by simp,rfl⟩ (fun i σ H4 _ ⟨_,_,_,_,_,_,_,_,_,h3,_⟩=>AW.of h3) ?_ ?_
  ·rintro i x σ H4 hi ⟨fs,us,es,v,v4,v5,n,rfl,s4,h3,hl4,hfs,rv,hn,ew,eu⟩
   rw[List.getElem?_map] at hi;obtain⟨st,est,rfl⟩:=Option.map_eq_some_iff.mp hi;have hi':=(List.getElem?_eq_some_iff.mp est).1;have ed:ss.drop i=st::ss.drop (i+1):=by
    rw[List.drop_eq_getElem_cons hi'];rw[List.getElem?_eq_getElem hi'] at est;rw[Option.some.inj est]
   rw[ed] at ew;obtain⟨c0,_,_,_,_,okb⟩:=Dc (pa.same s4) hn;have few:es.length<=1000:=by have:=okb.1;omega
   dsimp only[Au,IJ,GF,WQ,L6];refine⟨_,rfl,_,rfl,l,_,_,v,rfl,rfl,AW.of hl4,Rx _ _,_,rfl,v,es,st,rfl,rv,few,fun u H5 s5 he=>?_⟩;have s45:=s4.trans s5;have eno:(Ga es st=none\/∃k gg,Ga es st=some (k,gg)/\k≠2)->AS (cs.map (·.bk)) es0 ss=none:=fun h=>by
    rw[ew];rcases h with h|⟨k,gg,h,hk⟩
    ·simp only[AS,h];rfl
    ·simp only[AS,h,if_neg hk];rfl
   cases ef:Ga es st with
   |none=>
    rw[ef] at he;cases(show u=V.non from he);exact⟨_,rfl,_,rfl,BW rfl (BW rfl ⟨_,rfl,_,rfl,fun dx nx=>hx (eno (.inl ef)) _ dx s45 nx⟩)⟩
   |some kg=>
    obtain⟨k,gg⟩:=kg;rw[ef] at he;obtain⟨pu,tu,rfl,hpu,htu⟩:=he;refine⟨_,rfl,_,rfl,AX rfl ?_⟩;refine⟨_,rfl,pu,_,_,_,rfl,rfl,A0.of hpu,rfl,rfl,_,rfl,C8 (fun c=>?_) (fun c=>?_)⟩
    ·have k2:k≠2:=fun z=>by rw[z] at c;exact absurd c (by decide)
     exact⟨_,rfl,_,rfl,fun dx nx=>hx (eno (.inr ⟨k,gg,ef,k2⟩)) _ dx s45 nx⟩
    ·have k2:k=2:=by
      by_cases z:k=2
      ·exact z
      ·exact absurd (by rw[decide_eq_false fun y=>z (V.int.inj y)];rfl) c
     subst k2;obtain⟨es',hes'⟩:∃es',Br (cs.map (·.bk)) gg.1=some es':=by
      have:=N5 wf hn st;rw[ef] at this;exact this rfl
     have pa5:=pa.same s45;obtain⟨e,hm,ez,_,rv',okb'⟩:=Dc pa5 hes';rw[<-ez] at htu;have hl5:=s5.get hl4;refine⟨_,rfl,.inl ⟨rfl,_,AW.of hl5⟩,_,rfl,p,q.dp,_,rfl,pa5.t.1,rfl,_,rfl,pu,_,_,_,rfl,rfl,A0.of hpu,rfl,p,q,cs,e,tu,_,_,rfl,pa5.t,pa5.d,hm,htu,l,_,_,rfl,rfl,hl5,BF (by rw[List.length_append,List.length_singleton];omega),?_⟩;have kt:∀c xs,H5 c=some (.tup xs)->(upd H5 l (.lst (us++[v]++[e.v]))) c=some (.tup xs):=fun c xs y=>by rw[Ag fun w=>by rw[w,hl5] at y;cases y];exact y
     refine⟨fs++[es],us++[v],es',e.v,_,_,gg.1,rfl,AU s45 nl _,by rw[Ag nll];exact s5.get h3,Ac,((hfs.same s5).snoc (Rep.same s5 _ _ rv)).tup kt,Cp kt _ _ rv',hes',?_,by rw[List.length_append,eu];rfl⟩;rw[ew];simp only[AS,ef,hes',if_true,Option.bind_some];cases AS (cs.map (·.bk)) es' (ss.drop (i+1)) with
     |none=>rfl
     |some r=>simp
  ·rintro σ H4 ⟨fs,us,es,v,v4,v5,n,rfl,s4,h3,hl4,hfs,rv,hn,ew,eu⟩
   rw[List.length_map,List.drop_length] at ew;exact hN _ _ ⟨fs++[es],us++[v],_,_,rfl,ew,s4,hl4,hfs.snoc rv⟩
 rintro σ' H' ⟨fs,us,v4,v5,rfl,ew,s',hl',hfs⟩
 exact⟨_,rfl,hq fs us l H' ew s' nl hl' hfs⟩
def Kt (H H':Hp):Prop:=∀a o,H a=some o->(∀C d fs,o≠.ins C d fs)->(∀kvs,o≠.dK kvs)->H' a=some o
theorem Kt.of {H H':Hp}(s:Am H H'):Kt H H':=fun _ _ h _ _=>s.get h
theorem Kt.trans {H H' H'':Hp}(h:Kt H H')(k:Kt H' H''):Kt H H'':=fun a o e n m=>k a o (h a o e n m) n m
theorem Kt.tup {H H':Hp}(h:Kt H H'):∀c xs,H c=some (.tup xs)->H' c=some (.tup xs):=fun c xs e=>h c _ e (fun _ _ _ z=>by cases z) fun _ z=>by cases z
theorem Kt.lst {H H':Hp}(h:Kt H H'){c:Addr}{xs:List V}(e:H c=some (.lst xs)):H' c=some (.lst xs):=h c _ e (fun _ _ _ z=>by cases z) fun _ z=>by cases z
theorem Kt.frm {CP CT:Addr}{H H':Hp}{p:Addr}{q:Pl}{cs:List Cl}{bs:List (Int×Addr)}(pa:PAt CP CT H p q cs bs)(h:VB (FH p q cs bs) H H'):Kt H H':=fun a o e n m=>h a o e (pa.apart e n m)
theorem Gc.tup {H H':Hp}(k:∀c xs,H c=some (.tup xs)->H' c=some (.tup xs)):∀{e:Option (Int×Tg)} {v:V},Gc H e v->Gc H' e v
 |none,_,h=>h
 |some _,_,⟨p,ta,e,h1,h2⟩=>⟨p,ta,e,k _ _ h1,k _ _ h2⟩
structure PW (CP CT:Addr) (H:Hp) (p:Addr) (q:Pl) (cs:List Cl) (bs:List (Int×Addr)):Prop where
 a:PAt CP CT H p q cs bs
 l:Wl cs
 f:Wf (cs.map (·.bk))
theorem PW.same {CP CT:Addr}{H H':Hp}{p:Addr}{q:Pl}{cs:List Cl}{bs:List (Int×Addr)}(h:PW CP CT H p q cs bs)(s:Am H H'):PW CP CT H' p q cs bs:={ h with a:=h.a.same s }
def Rw (cs:List Cl):Option (Int×Tg)->Prop
 |none=>True
 |some (k,g)=>(1<=k/\k<=2)/\Jl g/\(∃c∈cs,c.z=g.1)/\(k=2->∃es,Br (cs.map (·.bk)) g.1=some es)
theorem JI {bks:List Bk}(wf:Wf bks)(more:List Bk):∀(ss:List Str) (x:Option (Int×Tg)),Uy bks x->Ez (bks++more) x ss=Ez bks x ss
 |[],x,_=>by cases x<;>rfl
 |s::ss,none,_=>rfl
 |s::ss,some (k,g),h=>by
  simp only[Ez]
  by_cases k2:k=2
  ·obtain⟨es,he⟩:=h k2;rw[if_pos k2,if_pos k2,he,BL more he];exact JI wf more ss _ (N5 wf he s)
  ·rw[if_neg k2,if_neg k2]
theorem S0 {es es':List En}{s:Str}{e:Option (Int×Tg)}(pm:es'.Perm (Iq es s e))(nd:(es.map (·.nm)).Nodup):Ga es' s=e:=by
 unfold Ga;cases e with
 |none=>
  rw[List.find?_eq_none.mpr fun x hx c=>?_]
  ·rfl
  ·have hx':=pm.mem_iff.mp hx;unfold Iq at hx';rw[List.append_nil] at hx';have:=(List.mem_filter.mp hx').2;rw[c] at this;cases this
 |some kg=>
  obtain⟨k,g⟩:=kg;cases h:es'.find? fun x=>decide (x.nm=s) with
  |none=>
   exact absurd (decide_eq_true rfl) (List.find?_eq_none.mp h ⟨s,k,g⟩ (pm.mem_iff.mpr (List.mem_append_right _ List.mem_cons_self)))
  |some x=>
   have hx:=pm.mem_iff.mp (List.mem_of_find?_eq_some h);have ex:x.nm=s:=by simpa using List.find?_some h
   rcases List.mem_append.mp hx with hx|hx
   ·have:=(List.mem_filter.mp hx).2;rw[decide_eq_true ex] at this;cases this
   ·cases List.mem_singleton.mp hx;rfl
theorem Pi {es:List En}{s:Str}{kg:Int×Tg}(nd:(es.map (·.nm)).Nodup){kg':Int×Tg}(h:Ga es s=some kg'):(Iq es s (some kg)).length=es.length:=by
 obtain⟨k,g⟩:=kg';obtain⟨x,hx,hn,_⟩:=O9 h;obtain⟨l1,l2,rfl⟩:=List.append_of_mem hx;have nd':∀y,y∈l1++l2->y.nm≠s:=fun y hy=>by
  rw[List.map_append,List.map_cons,List.nodup_append] at nd;obtain⟨_,n2,n3⟩:=nd;rw[List.nodup_cons] at n2;intro ey;rcases List.mem_append.mp hy with hy|hy
  ·exact n3 _ (List.mem_map_of_mem hy) _ List.mem_cons_self (by rw[ey,hn])
  ·exact n2.1 (by rw[hn,<-ey];exact List.mem_map_of_mem hy)
 unfold Iq;rw[List.length_append,List.filter_append,List.filter_cons,hn,decide_eq_true rfl];rw[List.filter_eq_self.mpr fun y hy=>by rw[decide_eq_false (nd' y (List.mem_append_left _ hy))];rfl,if_neg (by decide),List.filter_eq_self.mpr fun y hy=>by rw[decide_eq_false (nd' y (List.mem_append_right _ hy))];rfl];simp only[List.length_append,List.length_cons,List.length_nil];omega
theorem K6 {bks:List Bk}:∀{ss:List Str} {es:List En} {fs:List (List En)},AS bks es ss=some fs->fs.length=ss.length+1
 |[],es,fs,h=>by cases h;rfl
 |s::ss,es,fs,h=>by
  simp only[AS] at h
  split at h
  ·next k g e=>
   split at h
   ·obtain⟨es',_,h2⟩:=Option.bind_eq_some_iff.mp h;obtain⟨r,hr,rfl⟩:=Option.map_eq_some_iff.mp h2;rw[List.length_cons,K6 hr,List.length_cons]
   ·cases h
  ·cases h
theorem JX {bks:List Bk}:∀{ss:List Str} {es:List En} {fs:List (List En)} {n:Int},Br bks n=some es->AS bks es ss=some fs->∀(j:Nat) es',fs[j]?=some es'->(∃m,Br bks m=some es')/\∀s,ss[j]?=some s->∃g,Ga es' s=some (2,g)
 |[],es,fs,n,hn,h,j,es',e=>by
  cases h;cases j with
  |zero=>cases e;exact⟨⟨n,hn⟩,fun s hs=>by simp at hs⟩
  |succ j=>simp at e
 |s::ss,es,fs,n,hn,h,j,es',e=>by
  simp only[AS] at h
  split at h
  ·next k g ef=>
   split at h
   ·next k2=>
    obtain⟨es2,h1,h2⟩:=Option.bind_eq_some_iff.mp h;obtain⟨r,hr,rfl⟩:=Option.map_eq_some_iff.mp h2;cases j with
    |zero=>
     cases e;exact⟨⟨n,hn⟩,fun s' hs=>by cases hs;exact⟨g,by rw[ef,k2]⟩⟩
    |succ j=>exact JX h1 hr j es' (by simpa using e)
   ·cases h
  ·cases h
theorem OO:∀(l:List Int) (t:Int),0<=t->t<=996->0<=l.foldl (fun t n=>(31*t+n+1)%997) t/\l.foldl (fun t n=>(31*t+n+1)%997) t<=996
 |[],t,h0,h1=>⟨h0,h1⟩
 |x::l,t,_,_=>OO l ((31*t+x+1)%997) (by omega) (by omega)
theorem sum_in (b:Bk):0<=Bs b/\Bs b<=996:=by
 have k:0<=kindB b/\kindB b<=2:=by cases b<;>simp[kindB]
 exact OO _ _ (by omega) (by omega)
theorem GR {CP CT:Addr} {H:Hp} {p:Addr} {q:Pl} {cs:List Cl} {bs:List (Int×Addr)} (pw:PW CP CT H p q cs bs) (few:cs.length<=9999) {v:V} {b:Bk} {y:Int} (rv:Rep NL H (Df b) v) (ok:HL b) (ht:∀t∈Bc b,∃c∈cs,c.z=t.1) (hf:∀es,b=.folder es->∀x∈es,x.kd=2->∃es',Br (cs.map (·.bk)) x.tg.1=some es') (hy:0<=y/\y<=999999999) {Q:VK} {E:XK}
  (h:∀tb (g':Tg) H' q' cs' bs' more,Kt H H'->PW CP CT H' p q' cs' bs'->cs'.map (·.bk)=cs.map (·.bk)++more->more.length<=1->H' tb=some (.tup [.int g'.1,.int g'.2.1,.int g'.2.2])->1<=g'.1->(cs'.map (·.bk))[(g'.1-1).toNat]?=some b->Jl g'->(∃c∈cs',c.z=g'.1)->Q (.ref tb) H'):C6 K CP CT [.ref p,v,.int y] H Q E:=by
 refine⟨p,q,cs,bs,v,b,y,rfl,pw.a,by omega,rv,ok,ht,fun e he eb H' s'=>?_,fun hne H' c dx l ta bs' _ _ _ pa fr _=>?_⟩
 ·have pw':=pw.same s';obtain⟨_,h2,_,_⟩:=pw'.a.t.2.2.1 e he;have hg:=(pw.l e he).1;obtain⟨i,hi⟩:=List.mem_iff_getElem?.mp he;have ez:=pw.a.z i e hi;refine h e.ta (e.z,e.y,Bs e.bk) H' q cs bs [] (Kt.of s') pw' (List.append_nil _).symm (by simp) h2 (by show 1<=e.z;omega) ?_ hg ⟨e,he,rfl⟩;show(cs.map (·.bk))[(e.z-1).toNat]?=some b;rw[ez,show((i:Int)+1-1).toNat=i by omega,List.getElem?_map,hi,<-eb];rfl
 ·have ebk:((cs++[DH ((cs.length:Int)+1) y b v c dx ta l cs]).map (bump ((Bc b).map (·.1)))).map (·.bk)=cs.map (·.bk)++[b]:=by
   rw[List.map_map,List.map_append];rfl
  have hin:bump ((Bc b).map (·.1)) (DH ((cs.length:Int)+1) y b v c dx ta l cs)∈(cs++[DH ((cs.length:Int)+1) y b v c dx ta l cs]).map (bump ((Bc b).map (·.1))):=List.mem_map_of_mem (List.mem_append_right _ List.mem_cons_self);have tok:Jl ((cs.length:Int)+1,y,Bs b):=⟨⟨by show(1:Int)<=(cs.length:Int)+1;omega,by show(cs.length:Int)+1<=999999;omega⟩,hy,sum_in b⟩
  refine h ta ((cs.length:Int)+1,y,Bs b) H' _ _ bs' [b] (Kt.frm pw.a fr) ⟨pa,pw.l.more tok ht rfl _,?_⟩ ebk (by simp) (pa.t.2.2.1 _ hin).2.1 (by show(1:Int)<=(cs.length:Int)+1;omega) ?_ tok ⟨_,hin,rfl⟩
  ·rw[ebk];intro es hes x hx k2;rcases List.mem_append.mp hes with hes|hes
   ·obtain⟨es',he⟩:=pw.f es hes x hx k2;exact⟨es',BL _ he⟩
   ·obtain⟨es',he⟩:=hf es (List.mem_singleton.mp hes).symm x hx k2;exact⟨es',BL _ he⟩
  ·rw[ebk];show(cs.map (·.bk)++[b])[((cs.length:Int)+1-1).toNat]?=some b;rw[show((cs.length:Int)+1-1).toNat=(cs.map (·.bk)).length by rw[List.length_map];omega,List.getElem?_concat_length]
theorem UI {es es':List En}{s:Str}{e:Option (Int×Tg)}{cs:List Cl}(ok:Ke es)(hs:Bf (.str s)=true)(ein:Rw cs e)(pm:es'.Perm (Iq es s e))(so:PyProof.Rows.sortedS (es'.map (·.nm))=true)(le:(Iq es s e).length<=16):Ke es':=by
 refine⟨by rw[pm.length_eq];exact le,fun x hx=>?_,so,(pm.map _).nodup_iff.mpr (QF ok.2.2.2)⟩;rcases List.mem_append.mp (pm.mem_iff.mp hx) with hx|hx
 ·exact ok.2.1 x (List.mem_filter.mp hx).1
 ·cases e with
  |none=>cases hx
  |some kg=>
   cases List.mem_singleton.mp hx;exact⟨hs,ein.1,ein.2.1⟩
theorem Sn {K:W.Frag} {a:Addr} {xs:List V} {g:TG} {tb:TS} {D:Ends} {σ:St} {H:Hp} (Pv:Nat->St->Hp->Prop) (h0:Pv 0 σ H) (hl:∀(i:Nat) (σ:St) (H:Hp),i<=xs.length->Pv i σ H->AW K H a xs)
  (turn:∀(i:Nat) (x:V) (σ:St) (H:Hp),i<xs.length->xs[xs.length-1-i]?=some x->Pv i σ H->g x σ H fun σ2 H2=>tb { nx:=Pv (i+1),rt:=D.rt,bk:=D.nx,ct:=Pv (i+1) } σ2 H2)
  (done:∀(σ:St) (H:Hp),Pv xs.length σ H->D.nx σ H) :
  ∃W:Nat->Nat->St->Hp->Prop,(∃m,W 0 m σ H)/\∀i m σ H,W i m σ H->
   ((VC K a xs).stop i H/\D.nx σ H)\/((VC K a xs).go i H/\∃N:St->Hp->Prop,(∀σ' H',N σ' H'->∃m',m'<m/\W (i+1) m' σ' H')/\∀x H',(VC K a xs).yld i H x H'->g x σ H' fun σ2 H2=>tb { D with nx:=N,ct:=N,bk:=D.nx } σ2 H2):=by
 refine⟨fun i m σ H=>m=xs.length-i/\i<=xs.length/\Pv i σ H,⟨_,rfl,Nat.zero_le _,h0⟩,?_⟩
 rintro i m σ H ⟨rfl,hi,hp⟩
 by_cases hlt:i<xs.length
 ·refine .inr ⟨⟨hl i σ H hi hp,hlt⟩,Pv (i+1),fun σ' H' hn=>⟨xs.length-(i+1),by omega,rfl,hlt,hn⟩,?_⟩
  rintro x H' ⟨rfl,hx⟩
  exact turn i x σ _ hlt hx hp
 ·have e:i=xs.length:=by omega
  subst e;exact .inl ⟨⟨hl _ σ H hi hp,rfl⟩,done σ H hp⟩
def El (K:W.Frag)(CP CT:Addr)(XC:Nat->Addr):Sp:=fun vs H Q E=>∃(p:Addr) (q:Pl) (cs:List Cl) (bs:List (Int×Addr)) (ta:Addr) (g:Tg) (z:Str) (u:V) (e:Option (Int×Tg)) (y:Int) (es0:List En) (ini:List Str) (s:Str),vs=[.ref p,.ref ta,.str z,u,.int y]/\PW CP CT H p q cs bs/\cs.length<=9000/\H ta=some (.tup [.int g.1,.int g.2.1,.int g.2.2])/\Br (cs.map (·.bk)) g.1=some es0/\
 Gc H e u/\Rw cs e/\(0<=y/\y<=999999999)/\z.length<=1000/\z≠EM/\PySem.Txt.split z SL=ini++[s]/\
 ((By (ini++[s])=false\/AS (cs.map (·.bk)) es0 ini=none)->∀H' dx,Am H H'->H' dx=none->E (.ref (XC 0)) (some dx) (upd H' dx (.xd [("path",.str z)])))/\
 (∀fs esl,By (ini++[s])=true->AS (cs.map (·.bk)) es0 ini=some (fs++[esl])->16<(Iq esl s e).length->∀H',Am H H'->E (.ref (XC 4)) none H')/\
 (∀fs esl,By (ini++[s])=true->AS (cs.map (·.bk)) es0 ini=some (fs++[esl])->(Iq esl s e).length<=16->∀tb g' H' q' cs' bs' more,Kt H H'->PW CP CT H' p q' cs' bs'->cs'.map (·.bk)=cs.map (·.bk)++more->more.length<=8->H' tb=some (.tup [.int g'.1,.int g'.2.1,.int g'.2.2])->(∃es',Br (cs'.map (·.bk)) g'.1=some es')->Ez (cs'.map (·.bk)) (some (2,g')) (ini++[s])=e->Q (.ref tb) H')
theorem Kn (T:Txt K mg Ah Aa Ad XC)(F:Fun K "with_entry" "with_entry" B9 f fd)(BH:IP P w K mg base 3 "steps_in" ["path"] (C9 K XC))(Dl:IP P w K mg base 4 "folders_along" ["pool","root","path"] (CS K Ad Aa XC))(A5:RT P w K mg base 1 "NoPath" (XC 0) "path" ["self","path"])(BE:CL P w K mg base 14 Ad "put" ["self","block","birth"] (C6 K Ad Aa))(Ed:IP P w K mg base 1 "folder_with" ["folder","name","entry"] (DN K XC)):FnOk P w K mg base (NN P w) 15 f fd ["pool","root","path","entry","birth"] (El K Ad Aa XC):=by
 refine F.okE BM (fun vs H Q E h=>?_) (fun cdv A outer s H vs Q E hr h=>?_)
 ·obtain⟨p,q,cs,bs,ta,g,z,u,e,y,es0,ini,s,rfl,_⟩:=h;rfl
 obtain⟨p,q,cs,bs,ta,g,z,u,e,y,es0,ini,st,rfl,pw,few,hta,hroot,he,ein,hy,lz,ne,es,hx,hm,hq⟩:=h;have hu:=Cf hr;have hu9:=GH hr;refine⟨_,(!Af (@As _ _ (5) _ _ _ _ BM.nd rfl (by trivial) (!Jc BH (by trivial) rfl Hd (!Ab (pv 2) (!Ae))) (by rfl) (by trivial)) (!Af (!A7 (!AA Dq (!Av Be (by rfl) T.b_len DP (!Ab (pv 5) (!Ae))) (!Ak) (AL _)) (!Al (!Hs Gs rfl A5 (by trivial) rfl (!Ab (pv 2) (!Ae)))) (!AB)) (!Af (@As _ _ (6) _ _ _ _ BM.nd rfl (by trivial) (!Jc Dl (by trivial) rfl Hd (!Ab (pv 0) (!Ab (pv 1) (!Ab (pv 2) (!Ae))))) (by rfl) (by trivial)) (!Af (!CW PassesOwn.leaving rfl (!UX (by rfl) T.b_reversed (!Ab (!NM true true rfl (by rfl) T.b_list (by rfl) T.b_zip (!Ab (pv 6) (!Ab (pv 5) (!Ae)))) (!Ae))) (!Kd rfl (!AF (@An _ _ (7) _ BM.nd rfl (by trivial) (by trivial)) (!AF (@An _ _ (8) _ BM.nd rfl (by trivial) (by trivial)) (!Ds)))) (!Al (@As _ _ (3) _ _ _ _ BM.nd rfl (by trivial) (!AR (!Ab (!AK rfl T.c_FOLDER_ENTRY) (!Ab (!BG (pv 0) T.cl_Pool BE (by trivial) (!Ab (!Jc Ed (by trivial) rfl Hd (!Ab (pv 7) (!Ab (pv 8) (!Ab (pv 3) (!Ae))))) (!Ab (pv 4) (!Ae)))) (!Ae)))) (by rfl) (by trivial))) (by intro _;rfl)) (!Al (!Ar (!AD AH (pv 3) (!Ak) (fun _ _=>rfl)))))))),?_⟩
 try dsimp only[BB,Cx.nox,Cx.wish]
 have hss:(ini++[st]).length=ini.length+1:=by rw[List.length_append];rfl
 refine AE ⟨_,rfl,z,rfl,lz,fun e=>absurd e ne,fun _ gd l H1 s1 nl hl=>?_,fun _ gd H' dx s' nx=>hx (.inl (by rw[<-es];exact gd)) H' dx s' nx⟩;rw[es] at gd hl;dsimp only[Au,IJ,GF];refine⟨_,rfl,l,_,rfl,.inl (AW.of hl),rfl,_,rfl,AX (by rw[List.length_map,hss];exact decide_eq_false fun z=>by have:=V.int.inj z;omega) ?_⟩;dsimp only[Io,L6];refine⟨_,rfl,_,rfl,_,rfl,p,q,cs,bs,ta,g,z,es0,rfl,pw.a.same s1,s1.get hta,pw.f,hroot,lz,ne,by rw[es];exact gd,fun fs us lf H2 ea s2 nlf hlf hfs=>?_,fun en H' dx s' nx=>hx (.inr (by rw[es,List.dropLast_concat] at en;exact en)) H' dx (s1.trans s') nx⟩;rw[es,List.dropLast_concat] at ea;have s12:=s1.trans s2;have lfs:=K6 ea;have lus:=hfs.len;obtain⟨fs0,esl,efs⟩:∃fs0 esl,fs=fs0++[esl]:=by
  have:fs≠[]:=fun z=>by rw[z] at lfs;cases lfs
  exact⟨fs.dropLast,fs.getLast this,(List.dropLast_concat_getLast this).symm⟩
 have efl:∀e',fs[ini.length]?=some e'->e'=esl:=fun e' h=>by
  rw[efs] at h lfs;rw[List.length_append,List.length_singleton] at lfs;rw[show ini.length=fs0.length by omega,List.getElem?_concat_length] at h;exact(Option.some.inj h).symm
 dsimp only[Au];refine⟨_,rfl,_,rfl,lf,l,us,_,rfl,AW.of hlf,AW.of (s2.get hl),by rw[List.length_map,hss];omega,by have l8:=gd;unfold By at l8;rw[Bool.and_eq_true,decide_eq_true_eq] at l8;omega,fun lp ts H3 lts hts s3 nlp hlp=>?_⟩;have s13:=s12.trans s3;have l8:ini.length+1<=8:=by
  unfold By at gd;rw[Bool.and_eq_true,decide_eq_true_eq,hss] at gd;exact gd.1
 refine⟨lp,_,rfl,AW.of hlp,?_⟩;refine Sn (K:=K) (a:=lp) (xs:=ts.map V.ref) (fun i σ H4=>∃u' e' q' cs' bs' more v7 v8,σ=[some (.ref p),some (.ref ta),some (.str z),some u',some (.int y),some (.ref l),some (.ref lf),v7,v8]/\Kt H3 H4/\(i=0->H4=H3/\e'=e/\cs'=cs)/\PW Ad Aa H4 p q' cs' bs'/\cs'.map (·.bk)=cs.map (·.bk)++more/\more.length<=i/\Gc H4 e' u'/\Rw cs' e'/\Ez (cs'.map (·.bk)) e' ((ini++[st]).drop (ini.length+1-i))=e/\(0<i->∃g',e'=some (2,g')/\(Iq esl st e).length<=16)) ⟨u,e,q,cs,bs,[],none,none,rfl,Kt.of (Am.refl _),fun _=>⟨rfl,rfl,rfl⟩,pw.same s13,(List.append_nil _).symm,Nat.le_refl _,he.same s13,ein,by rw[Nat.sub_zero,<-hss,List.drop_length];cases e<;>rfl,fun z=>absurd z (by decide)⟩ (fun i σ H4 _ ⟨_,_,_,_,_,_,_,_,_,k4,_⟩=>AW.of (k4.lst hlp)) ?_ ?_
 ·rintro i x σ H4 li hi ⟨u',e',q',cs',bs',more,v7,v8,rfl,k4,h0,pw4,em,lm,he4,ein4,ew,h1⟩
  rw[List.length_map,List.getElem?_map] at hi;obtain⟨t,et,rfl⟩:=Option.map_eq_some_iff.mp hi;have ht':=(List.getElem?_eq_some_iff.mp et).1;rw[List.length_map] at li;have ej:ts.length-1-i=ini.length-i:=by omega
  rw[ej] at et ht';obtain⟨v,ev⟩:∃v,us[ini.length-i]?=some v:=⟨_,List.getElem?_eq_getElem (by omega)⟩
  obtain⟨sj,esj⟩:∃sj,(ini++[st])[ini.length-i]?=some sj:=⟨_,List.getElem?_eq_getElem (by omega)⟩
  have hpt:=k4.tup _ _ (hts _ t v (.str sj) et ev (by rw[List.getElem?_map,esj];rfl));obtain⟨ef,eef,rf⟩:=hfs.get ev;have rf4:=Cp k4.tup _ _ (Rep.same s3 _ _ rf);obtain⟨⟨nf,hnf⟩,hfn⟩:=JX hroot ea _ ef eef;obtain⟨cf,_,_,_,_,okf⟩:=Dc pw.a hnf;have okf:Ke ef:=okf;have hsj:Bf (.str sj)=true:=by
   unfold By at gd;rw[Bool.and_eq_true,List.all_eq_true] at gd;exact gd.2 sj (List.mem_of_getElem? esj)
  dsimp only[Au];refine⟨t,_,rfl,A0.of hpt,rfl,_,_,rfl,_,_,rfl,rfl,?_⟩;refine⟨_,rfl,p,q'.dp,_,rfl,pw4.a.t.1,rfl,_,rfl,_,rfl,_,rfl,v,ef,sj,u',e',rfl,rf4,okf.1,okf.2.2.2,he4,fun le v' es' H5 s5 pm so rv5=>?_,fun gt H' s'=>?_⟩
  ·have hnf4:Br (cs'.map (·.bk)) nf=some ef:=by rw[em];exact BL _ hnf
   obtain⟨c4,hc4,_,eb4,_,_⟩:=Dc pw4.a hnf4;have few4:cs'.length<=9999:=by
    have:=congrArg List.length em;rw[List.length_map,List.length_append,List.length_map] at this;omega
   refine⟨_,rfl,?_⟩;dsimp only[LP];refine GR (b:=.folder es') (pw4.same s5) few4 rv5 (UI okf hsj ein4 pm so le) (fun t ht=>?_) (fun es2 e2 x hx k2=>?_) hy fun tb g' H6 q6 cs6 bs6 more6 k6 pw6 em6 lm6 htb g1 hb tok hex=>?_
   ·obtain⟨x,hx,rfl⟩:=List.mem_map.mp ht;rcases List.mem_append.mp (pm.mem_iff.mp hx) with hx|hx
    ·exact(pw4.l c4 hc4).2.1 x.tg (by rw[eb4];exact List.mem_map_of_mem (List.mem_filter.mp hx).1)
    ·cases e' with
     |none=>cases hx
     |some kg=>
      cases List.mem_singleton.mp hx;exact ein4.2.2.1
   ·cases e2;rcases List.mem_append.mp (pm.mem_iff.mp hx) with hx|hx
    ·exact pw4.f ef (List.mem_of_getElem? (GU hnf4).2) x (List.mem_filter.mp hx).1 k2
    ·cases e' with
     |none=>cases hx
     |some kg=>
      cases List.mem_singleton.mp hx;exact ein4.2.2.2 k2
   ·refine⟨DV,fun pt npt=>?_⟩;have s7:=Ai npt (.tup [.int 2,.ref tb]);have fl6:Br (cs6.map (·.bk)) g'.1=some es':=by
     unfold Br;rw[if_pos g1,hb]
    refine⟨.ref pt,some (2,g'),q6,cs6,bs6,more++more6,_,_,rfl,((k4.trans (Kt.of s5)).trans k6).trans (Kt.of s7),fun z=>absurd z (Nat.succ_ne_zero _),pw6.same s7,by rw[em6,em,List.append_assoc],by rw[List.length_append];omega,⟨pt,tb,rfl,Ac,s7.get htb⟩,⟨⟨by decide,by decide⟩,tok,hex,fun _=>⟨es',fl6⟩⟩,?_,fun _=>⟨g',rfl,?_⟩⟩
    ·have hj:ini.length-i<(ini++[st]).length:=by omega
     rw[show ini.length+1-(i+1)=ini.length-i by omega,List.drop_eq_getElem_cons hj,show ini.length-i+1=ini.length+1-i by omega];rw[List.getElem?_eq_getElem hj] at esj;rw[Option.some.inj esj];show(if(2:Int)=2 then Ez (cs6.map (·.bk)) ((Br (cs6.map (·.bk)) g'.1).bind fun es=>Ga es sj) _ else none)=e;rw[if_pos rfl,fl6];show Ez (cs6.map (·.bk)) (Ga es' sj) _=e;rw[S0 pm okf.2.2.2,em6,JI pw4.f more6 _ _ (by cases e' with|none=>trivial|some kg=>exact ein4.2.2.2)];exact ew
    ·by_cases i0:i=0
     ·subst i0;obtain⟨_,rfl,_⟩:=h0 rfl;rw[efl ef eef] at le;rw[Nat.sub_zero,List.getElem?_concat_length] at esj;rw[Option.some.inj esj];exact le
     ·obtain⟨_,_,le'⟩:=h1 (by omega);exact le'
  ·by_cases i0:i=0
   ·subst i0;obtain⟨rfl,rfl,_⟩:=h0 rfl;rw[efl ef eef] at gt;rw[Nat.sub_zero,List.getElem?_concat_length] at esj;rw[<-Option.some.inj esj] at gt;exact hm fs0 esl gd (by rw[ea,efs]) gt H' (s13.trans s')
   ·obtain⟨g',rfl,_⟩:=h1 (by omega);rw[List.getElem?_append_left (by omega)] at esj;obtain⟨g2,hg2⟩:=hfn sj esj;rw[Pi okf.2.2.2 hg2] at gt;have:=okf.1;omega
 ·rintro σ H4 ⟨u',e',q',cs',bs',more,v7,v8,rfl,k4,h0,pw4,em,lm,he4,ein4,ew,h1⟩
  rw[List.length_map] at lm ew h0 h1;obtain⟨g',rfl,le⟩:=h1 (by omega);obtain⟨pt,tb,rfl,hpt,htb⟩:=he4;refine⟨_,rfl,pt,_,_,_,rfl,rfl,A0.of hpt,rfl,hq fs0 esl gd (by rw[ea,efs]) le tb g' H4 q' cs' bs' more ((Kt.of s13).trans k4) pw4 em (by omega) htb (ein4.2.2.2 rfl) ?_⟩;rw[show ini.length+1-ts.length=0 by omega] at ew;exact ew
def pj (z n:Str):Str:=if z=EM then n else(z++SL)++n
def GC (K:W.Frag):Sp:=fun vs H Q _=>∃(z n:Str),vs=[.str z,.str n]/\z.length<=1000/\n.length<=1000/\Q (.str (pj z n)) H
theorem OF (T:Txt K mg Ah Aa Ad XC)(F:Fun K "path_to" "path_to" Dw f fd):FnOk P w K mg base DD 1 f fd ["folder","name"] (GC K):=by
 exists NG
 ·obtain⟨z,n,rfl,_⟩:=h;rfl
 obtain⟨z,n,rfl,lz,ln,q⟩:=h;have hu:=Cf hr;refine⟨_,(!Af (!A7 (!AA Dq (pv 0) (!AG) (AL _)) (!Al (!Ar (pv 1))) (!AB)) (!Al (!Ar (!Ay Bb (!Ay Bb (pv 0) (!AG)) (pv 1))))),?_⟩
 try dsimp only[BB,Cx.nox,Cx.wish]
 dsimp only[IJ,GF];refine⟨_,rfl,rfl,_,rfl,C8 (fun c=>?_) (fun c=>?_)⟩
 ·have e:z=EM:=V.str.inj (of_decide_eq_true c);refine⟨_,rfl,?_⟩;rw[pj,if_pos e] at q;exact q
 ·have e:z≠EM:=fun e=>c (decide_eq_true (by rw[e]))
  rw[pj,if_neg e] at q;have l1:(z++SL).length=z.length+1:=Str.length_append _ _;exact⟨_,rfl,_,_,rfl,rfl,Nat.le_trans (by show z.length+1<=1000000;omega) (by decide:(1000000:Nat)<=sizeLine),_,rfl,_,_,rfl,rfl,Nat.le_trans (by rw[l1];show z.length+1+n.length<=1000000;omega) (by decide:(1000000:Nat)<=sizeLine),q⟩
theorem La {α:Type} {J:It} {ps:List α} {g:α->Addr} {A B C:α->V} {fr:List (Option Nat)} {rest:St} {tt:TT} {te:TE} {Q:VK} {σ:St} {H:Hp} (p:α->Bool) (P:α->V->Hp->Prop) (hst:stC fr σ=none::none::none::rest) (hP:∀x y H1 H2,P x y H1->Am H1 H2->P x y H2)
  (hU:∀x y H1 l us us',P x y H1->H1 l=some (.lst us)->P x y (upd H1 l (.lst us'))) (hJ:HF J H (ps.map fun x=>V.ref (g x))) (hpr:∀x∈ps,H (g x)=some (.tup [A x,B x,C x])) (hn:ps.length<=1000000)
  (htest:∀x∈ps,∀(H':Hp) (R:Bool->Hp->Prop),Am H H'->(∀H'',Am H' H''->R (p x) H'')->tt (some (A x)::some (B x)::some (C x)::rest) H' R)
  (helt:∀x∈ps,p x=true->∀(H':Hp) (R:VK),Am H H'->(∀y H'',Am H' H''->P x y H''->R y H'')->te (some (A x)::some (B x)::some (C x)::rest) H' R)
  (hQ:∀l H' (ys:List (α×V)),H l=none->Am H H'->H' l=some (.lst (ys.map (·.2)))->ys.map (·.1)=ps.filter p->(∀q∈ys,P q.1 q.2 H')->Q (.ref l) H'):Di fr (Qb K 3 (EE (Au 0) (EE (Au 1) (EE (Au 2) R4)))) tt te σ Q J H:=by
 intro l hl;refine⟨fun i m σ' H'=>m=ps.length-i/\i<=ps.length/\(∃y0 y1 y2,σ'=y0::y1::y2::rest)/\Am H H'/\∃ys:List (α×V),H' l=some (.lst (ys.map (·.2)))/\ys.map (·.1)=(ps.take i).filter p/\∀q∈ys,P q.1 q.2 H',
  ⟨ps.length,by simp,Nat.zero_le _,⟨_,_,_,hst⟩,Ai hl _,[],by rw[Ac];rfl,rfl,fun _ h=>nomatch h⟩,?_⟩
 rintro i m σ' H' ⟨rfl,hi,⟨y0,y1,y2,rfl⟩,hs,ys,hl',e1,hys⟩
 obtain⟨h1,h2,h3⟩:=hJ H' hs i;rw[List.length_map] at h1 h2 h3
 by_cases hlt:i<ps.length
 ·refine .inr ⟨h1 hlt,fun x H'' y=>?_⟩;obtain⟨rfl,hx⟩:=h2 x H'' y;have hx:=hx hlt;rw[List.getElem?_map,List.getElem?_eq_getElem hlt] at hx;cases hx;have hm:ps[i]∈ps:=List.getElem_mem hlt;have et:(ps.take (i+1)).filter p=(ps.take i).filter p++(if p ps[i]=true then[ps[i]] else[]):=by
   rw[List.take_add_one,List.getElem?_eq_getElem hlt,List.filter_append];cases q:p ps[i]<;>simp[q]
  have le:ys.length<=i:=by
   have a:=congrArg List.length e1;have b:=List.length_filter_le p (ps.take i);rw[List.length_map] at a;rw[List.length_take] at b;omega
  refine⟨g ps[i],_,rfl,A0.of (hs.get (hpr _ hm)),rfl,_,_,rfl,_,_,rfl,_,_,rfl,rfl,?_⟩;refine htest _ hm H'' _ hs fun H0 s0=>?_
  have hs0:=hs.trans s0;refine C8 (fun c=>?_) (fun c=>?_)
  ·refine helt _ hm c H0 _ hs0 fun v H4 s4' hv=>?_
   have s4:=s0.trans s4';have hl4:=s4.get hl';refine⟨_,hl4,BF (by rw[List.length_map];omega),ps.length-(i+1),by omega,rfl,hlt,⟨_,_,_,rfl⟩,AU (hs.trans s4) hl _,ys++[(ps[i],v)],?_,?_,fun q hq=>?_⟩
   ·rw[Ac,List.map_append];rfl
   ·rw[et,if_pos c,List.map_append,e1];rfl
   ·rcases List.mem_append.mp hq with h|h
    ·exact hU _ _ _ _ _ _ (hP _ _ _ _ (hys q h) s4) hl4
    ·rw[List.mem_singleton.mp h];exact hU _ _ _ _ _ _ hv hl4
  ·exact⟨ps.length-(i+1),by omega,rfl,hlt,⟨_,_,_,rfl⟩,hs0,ys,s0.get hl',by rw[et,if_neg c,List.append_nil];exact e1,fun q hq=>hP _ _ _ _ (hys q hq) s0⟩
 ·have e:i=ps.length:=by omega
  subst e;exact .inl ⟨h3 (Nat.le_refl _),hQ l H' ys hl hs hl' (by rw[e1,List.take_of_length_le (Nat.le_refl _)]) hys⟩
def Bt (bks:List Bk)(x:En):List En:=if x.kd=2 then match Br bks x.tg.1 with
 |some es=>es.map fun e=>⟨pj x.nm e.nm,e.kd,e.tg⟩
 |none=>[] else[]
def allB (bks:List Bk):Nat->List En->List En
 |0,_=>[]
 |n+1,l=>l++allB bks n (l.flatMap (Bt bks))
def Ws (bks:List Bk):Nat->List En->List En
 |0,l=>l
 |n+1,l=>Ws bks n (l.flatMap (Bt bks))
def Vx (H:Hp)(a:Addr):V:=match H a with
 |some (.tup [_,_,c])=>c
 |_=>.non
theorem Fj.th {H:Hp}{p:Addr×En}(h:Fj H p):H p.1=some (.tup [.str p.2.nm,.int p.2.kd,Vx H p.1]):=by
 obtain⟨b,h1,_⟩:=h;unfold Vx;rw[h1]
theorem O4 {H:Hp}{F:En->En}:∀{ys:List ((Addr×En)×V)},(∀q∈ys,∃t,q.2=V.ref t/\Fj H (t,F q.1.2))->∃rs:List (Addr×En),ys.map (·.2)=rs.map (fun p=>V.ref p.1)/\rs.map (·.2)=(ys.map (·.1)).map (fun p=>F p.2)/\∀p∈rs,Fj H p
 |[],_=>⟨[],rfl,rfl,fun _ h=>nomatch h⟩
 |y::ys,h=>by
  obtain⟨rs,e1,e2,e3⟩:=O4 fun q hq=>h q (List.mem_cons_of_mem _ hq)
  obtain⟨t,et,ht⟩:=h y List.mem_cons_self;refine⟨(t,F y.1.2)::rs,by rw[List.map_cons,List.map_cons,e1,et],by rw[List.map_cons,List.map_cons,List.map_cons,e2],fun p hp=>?_⟩;rcases List.mem_cons.mp hp with rfl|hp
  ·exact ht
  ·exact e3 p hp
theorem MH (bks:List Bk):∀n,allB bks n []=[]
 |0=>rfl
 |n+1=>by show[]++allB bks n []=[];rw[MH bks n];rfl
def FT (K:W.Frag)(CP CT:Addr):Sp:=fun vs H Q _=>∃(p:Addr) (q:Pl) (cs:List Cl) (bs:List (Int×Addr)) (ta:Addr) (g:Tg) (n:Nat),vs=[.ref p,.ref ta]/\PW CP CT H p q cs bs/\H ta=some (.tup [.int g.1,.int g.2.1,.int g.2.2])/\(∃es,Br (cs.map (·.bk)) g.1=some es)/\
 Ws (cs.map (·.bk)) n [⟨EM,2,g⟩]=[]/\(allB (cs.map (·.bk)) n [⟨EM,2,g⟩]).length<=63/\((allB (cs.map (·.bk)) n [⟨EM,2,g⟩]).map (·.nm)).Nodup/\(∀x∈allB (cs.map (·.bk)) n [⟨EM,2,g⟩],x.nm.length<=900)/\
 ∀l (ps:List (Addr×En)) H',Am H H'->H l=none->H' l=some (.lst (ps.map fun p=>V.ref p.1))->(∀p∈ps,Fj H' p)->(ps.map (·.2)).Perm (allB (cs.map (·.bk)) n [⟨EM,2,g⟩])->PyProof.Rows.sortedS ((ps.map (·.2)).map (·.nm))=true->Q (.ref l) H'
theorem Pk (T:Txt K mg Ah Aa Ad XC)(F:Fun K "all_in" "all_in" ED f fd)(HE:Def P w K mg base 1 "path_to" ["folder","name"] (GC K))(AM:CL P w K mg base 1 Ad "block" ["self","tag"] (BP K Ad Aa)):FnOk P w K mg base DD 2 f fd ["pool","root"] (FT K Ad Aa):=by
 exists Cu
 ·obtain⟨p,q,cs,bs,ta,g,n,rfl,_⟩:=h;rfl
 obtain⟨p,q,cs,bs,ta,g,n,rfl,pw,hta,hroot,dn,few,nd,ln,hq⟩:=h;have hu:=Cf hr;refine⟨_,(!Af (@As _ _ (2) _ _ _ _ Cu.nd rfl (by trivial) (!Bm (!Ae)) (by rfl) (by trivial)) (!Af (@As _ _ (3) _ _ _ _ Cu.nd rfl (by trivial) (!Bm (!Ab (!AR (!Ab (!AG) (!Ab (!AK rfl T.c_FOLDER_ENTRY) (!Ab (pv 1) (!Ae))))) (!Ae))) (by rfl) (by trivial)) (!Af (!MQ PassesOwn.never (!AA O5 (!Av Be (by rfl) T.b_len DP (!Ab (pv 3) (!Ae))) (!Ak) (AL _)) (!Af (!Cn (!Ew PySem.F.plainAttrs_list PySem.F.slot_list_extend PySem.F.type_list_extend EB (pv 2) (!Ab (pv 3) (!Ae)))) (!Af (@As _ _ (4) _ _ _ _ Cu.nd rfl (by trivial) (!Bm (!Ae)) (by rfl) (by trivial)) (!Af (!CW PassesOwn.never rfl (!Ck (pv 3)) (!Kd rfl (!AF (@An _ _ (5) _ Cu.nd rfl (by trivial) (by trivial)) (!AF (@An _ _ (6) _ Cu.nd rfl (by trivial) (by trivial)) (!AF (@An _ _ (7) _ Cu.nd rfl (by trivial) (by trivial)) (!Ds))))) (!Al (!A7 (!AA Dq (pv 6) (!AK rfl T.c_FOLDER_ENTRY) (AL _)) (!Al (!Cn (!Ew PySem.F.plainAttrs_list PySem.F.slot_list_extend PySem.F.type_list_extend EB (pv 4) (!Ab (@Hc _ ["name","below","own","path"] [none,none,none,some 5] _ _ _ _ _ _ _ _ _ _ _ rfl (!E4 (!AD AH (!BG (pv 0) T.cl_Pool AM (by trivial) (!Ab (pv 7) (!Ae))) (!Ak) (fun _ _=>rfl))) (by rfl) rfl (by repeat (first|exact trivial|refine⟨rfl,?_⟩)) (by repeat (first|exact trivial|refine⟨fun h=>(by first|exact⟨_,rfl⟩|cases h),?_⟩)) (fun C s H fp=>⟨(@Hf _ (K) _ _ _ _ (3) (by rfl) rfl (!AF (@An _ _ (0) _ (show(["name","below","own","path"]:List Str).Nodup by decide +kernel) rfl (by trivial) (by trivial)) (!AF (@An _ _ (1) _ (show(["name","below","own","path"]:List Str).Nodup by decide +kernel) rfl (by trivial) (by trivial)) (!AF (@An _ _ (2) _ (show(["name","below","own","path"]:List Str).Nodup by decide +kernel) rfl (by trivial) (by trivial)) (!Ds)))) (by rfl) (by rfl)),(!Bp),(!AR (!Ab (!BD HE (by trivial) rfl (!Ab (pv 3) (!Ab (pv 0) (!Ae)))) (!Ab (pv 1) (!Ab (pv 2) (!Ae)))))⟩) (by intro _;rfl)) (!Ae))))) (!AB))) (by intro _;rfl)) (!Al (@As _ _ (3) _ _ _ _ Cu.nd rfl (by trivial) (pv 4) (by rfl) (by trivial))))))) (!Al (!Ar (!Av (D8 (K:=K) (by rfl)) (by rfl) T.b_sorted Et (!Ab (pv 2) (!Ae)))))))),?_⟩
 try dsimp only[BB,Cx.nox,Cx.wish]
 refine AE ⟨LK,fun lf nlf=>?_⟩;have s1:=Ai nlf (.lst []);have hlf1:(upd H lf (.lst [])) lf=some (.lst []):=Ac;generalize upd H lf (.lst [])=H1 at s1 hlf1;dsimp only[Au];refine AE ⟨_,rfl,Ge,fun pt npt=>?_⟩;have s2:=Ai npt (.tup [.str EM,.int 2,.ref ta]);have hpt2:(upd H1 pt (.tup [.str EM,.int 2,.ref ta])) pt=some (.tup [.str EM,.int 2,.ref ta]):=Ac;generalize upd H1 pt (.tup [.str EM,.int 2,.ref ta])=H2 at s2 hpt2;refine⟨Vi,fun ll0 nll=>?_⟩;have s3:=Ai nll (.lst [.ref pt]);have hll3:(upd H2 ll0 (.lst [.ref pt])) ll0=some (.lst [.ref pt]):=Ac;generalize upd H2 ll0 (.lst [.ref pt])=H3 at s3 hll3;dsimp only[Au];have s13:=s1.trans (s2.trans s3);refine D0 (t:=QB _ _) (fun σ' H'=>∃(ps:List (Addr×En)) (v3 v4 v5 v6 v7:Option V),σ'=[some (.ref p),some (.ref ta),some (.ref lf),v3,v4,v5,v6,v7]/\Am H H'/\H' lf=some (.lst (ps.map fun p=>V.ref p.1))/\(∀p∈ps,Fj H' p)/\ps.map (·.2)=allB (cs.map (·.bk)) n [⟨EM,2,g⟩]) (fun N hN=>?_) ?_
 ·refine⟨fun m σ' H'=>∃(ll:Addr) (ps qs:List (Addr×En)) (v4 v5 v6 v7:Option V),σ'=[some (.ref p),some (.ref ta),some (.ref lf),some (.ref ll),v4,v5,v6,v7]/\Am H H'/\H ll=none/\lf≠ll/\H' lf=some (.lst (ps.map fun p=>V.ref p.1))/\H' ll=some (.lst (qs.map fun p=>V.ref p.1))/\(∀p∈ps,Fj H' p)/\(∀p∈qs,Fj H' p)/\allB (cs.map (·.bk)) n [⟨EM,2,g⟩]=ps.map (·.2)++allB (cs.map (·.bk)) m (qs.map (·.2))/\Ws (cs.map (·.bk)) m (qs.map (·.2))=[]/\∀p∈qs,p.2.kd=2->∃es,Br (cs.map (·.bk)) p.2.tg.1=some es,
   ⟨n,ll0,[],[(pt,⟨EM,2,g⟩)],none,none,none,none,rfl,s13,(s1.trans s2).free nll,(fun w=>by rw[<-w,s2.get hlf1] at nll;cases nll),(s2.trans s3).get hlf1,hll3,(fun _ h=>nomatch h),(fun p hp=>by cases List.mem_singleton.mp hp;exact⟨ta,s3.get hpt2,s13.get hta⟩),rfl,dn,fun p hp _=>by cases List.mem_singleton.mp hp;exact hroot⟩,?_⟩
  rintro m σ' H4 ⟨ll,ps,qs,v4,v5,v6,v7,rfl,s4,nl4,nfl,hlf,hll,hps,hqs,eall,edn,hfl⟩
  refine⟨_,rfl,ll,_,rfl,.inl (AW.of hll),_,_,rfl,rfl,_,rfl,C8 (fun c=>?_) (fun c=>?_)⟩
  ·have c':=of_decide_eq_true c;rw[List.length_map] at c';cases m with
   |zero=>
    rw[List.map_eq_nil_iff.mp (show qs.map (·.2)=[] from edn)] at c';exact absurd c' (by decide)
   |succ m=>
   refine⟨_,fun σ' H' h=>⟨m,Nat.lt_succ_self m,h⟩,?_⟩;have lall:ps.length+qs.length<=63:=by
    have:=few;rw[eall] at this;simp only[allB,List.length_append,List.length_map] at this;omega
   have lnm:∀p∈qs,p.2.nm.length<=900:=fun p hp=>ln p.2 (by rw[eall];exact List.mem_append_right _ (List.mem_append_left _ (List.mem_map_of_mem hp)))
   refine QG ⟨_,rfl,.inl ⟨rfl,_,AW.of hlf⟩,_,rfl,lf,ll,_,_,rfl,rfl,hlf,hll,small (by rw[List.length_map,List.length_map];omega),?_⟩;rw[<-List.map_append];have kt:∀c xs,H4 c=some (.tup xs)->(upd H4 lf (.lst ((ps++qs).map fun p=>V.ref p.1))) c=some (.tup xs):=fun c xs y=>by rw[Ag fun w=>by rw[w,hlf] at y;cases y];exact y
   have s5:Am H (upd H4 lf (.lst ((ps++qs).map fun p=>V.ref p.1))):=AU s4 nlf _;have hlf5:(upd H4 lf (.lst ((ps++qs).map fun p=>V.ref p.1))) lf=some (.lst ((ps++qs).map fun p=>V.ref p.1)):=Ac;have hll5:(upd H4 lf (.lst ((ps++qs).map fun p=>V.ref p.1))) ll=some (.lst (qs.map fun p=>V.ref p.1)):=by rw[Ag (Ne.symm nfl)];exact hll
   have hps5:∀p∈ps++qs,Fj (upd H4 lf (.lst ((ps++qs).map fun p=>V.ref p.1))) p:=fun p hp=>by
    rcases List.mem_append.mp hp with hp|hp
    ·exact(hps p hp).tup kt
    ·exact(hqs p hp).tup kt
   generalize upd H4 lf (.lst ((ps++qs).map fun p=>V.ref p.1))=H5 at s5 hlf5 hll5 hps5;refine AE ⟨LK,fun lb nlb=>?_⟩;have s6:=Ai nlb (.lst []);have hlb6:(upd H5 lb (.lst [])) lb=some (.lst []):=Ac;have nb1:lf≠lb:=fun w=>by rw[<-w,hlf5] at nlb;cases nlb
   have nb2:ll≠lb:=fun w=>by rw[<-w,hll5] at nlb;cases nlb
   generalize upd H5 lb (.lst [])=H6 at s6 hlb6;dsimp only[Au];refine D0 (t:=SW _ _ _) (fun σ' H'=>∃(rs:List (Addr×En)) (v5 v6 v7:Option V),σ'=[some (.ref p),some (.ref ta),some (.ref lf),some (.ref ll),some (.ref lb),v5,v6,v7]/\Am H H'/\H' lf=some (.lst ((ps++qs).map fun p=>V.ref p.1))/\H' lb=some (.lst (rs.map fun p=>V.ref p.1))/\(∀p∈ps++qs,Fj H' p)/\(∀p∈rs,Fj H' p)/\rs.map (·.2)=(qs.map (·.2)).flatMap (Bt (cs.map (·.bk)))) (fun N2 hN2=>?_) ?_
   ·refine⟨_,rfl,ll,rfl,⟨_,AW.of (s6.get hll5)⟩,?_⟩;refine DJ (K:=K) (a:=ll) (xs:=qs.map fun p=>V.ref p.1) (fun i σ H7=>∃(rs:List (Addr×En)) (v5 v6 v7:Option V),σ=[some (.ref p),some (.ref ta),some (.ref lf),some (.ref ll),some (.ref lb),v5,v6,v7]/\Am H H7/\H7 ll=some (.lst (qs.map fun p=>V.ref p.1))/\H7 lf=some (.lst ((ps++qs).map fun p=>V.ref p.1))/\H7 lb=some (.lst (rs.map fun p=>V.ref p.1))/\(∀p∈ps++qs,Fj H7 p)/\(∀p∈rs,Fj H7 p)/\rs.map (·.2)=((qs.map (·.2)).take i).flatMap (Bt (cs.map (·.bk)))/\rs.length<=16*i) ⟨[],_,_,_,rfl,s5.trans s6,s6.get hll5,s6.get hlf5,hlb6,fun p hp=>(hps5 p hp).same s6,(fun _ h=>nomatch h),rfl,Nat.zero_le _⟩ (fun i σ H7 _ ⟨_,_,_,_,_,_,h,_⟩=>AW.of h) ?_ ?_
    ·rintro i x σ H7 hi ⟨rs,v5,v6,v7,rfl,s7,hll7,hlf7,hlb7,hps7,hrs7,ers,lrs⟩
     rw[List.getElem?_map] at hi;obtain⟨y,ey,rfl⟩:=Option.map_eq_some_iff.mp hi;have hy:=List.mem_of_getElem? ey;have li:=(List.getElem?_eq_some_iff.mp ey).1;have etk:((qs.map (·.2)).take (i+1)).flatMap (Bt (cs.map (·.bk)))=((qs.map (·.2)).take i).flatMap (Bt (cs.map (·.bk)))++Bt (cs.map (·.bk)) y.2:=by
      rw[List.take_add_one,List.getElem?_map,ey,List.flatMap_append];simp
     obtain⟨tb,hy1,hy2⟩:=hps7 y (List.mem_append_right _ hy);dsimp only[Au];refine⟨y.1,_,rfl,A0.of hy1,rfl,_,_,rfl,_,_,rfl,_,_,rfl,rfl,?_⟩;refine⟨_,rfl,rfl,_,rfl,C8 (fun c=>?_) (fun c=>?_)⟩
     ·have k2:y.2.kd=2:=V.int.inj (of_decide_eq_true c);obtain⟨es,hes⟩:=hfl y hy k2;have pa7:=pw.a.same s7;obtain⟨c0,hm0,ez0,_,rv0,ok0⟩:=Dc pa7 hes;have ok0:Ke es:=ok0;rw[<-ez0] at hy2;obtain⟨fa,fb,us,efv,hfa,hfb,rus⟩:=BX rv0;obtain⟨eps,rfl,rfl,heps⟩:=NP rus;refine⟨_,rfl,.inl ⟨rfl,_,AW.of hlb7⟩,?_⟩;refine⟨_,rfl,p,q.dp,_,rfl,pa7.t.1,rfl,_,rfl,p,q,cs,c0,tb,_,_,rfl,pa7.t,pa7.d,hm0,hy2,?_⟩;rw[efv];refine⟨fa,_,_,_,rfl,rfl,A0.of hfa,rfl,fb,rfl,⟨_,A0.of hfb⟩,?_⟩;have lep:eps.length<=16:=by
       have:=ok0.1;rw[List.length_map] at this;exact this
      refine La (ps:=eps) (g:=fun x=>x.1) (A:=fun x=>.str x.2.nm) (B:=fun x=>.int x.2.kd) (C:=fun x=>Vx H7 x.1) (fun _=>true) (fun x v H'=>∃t,v=.ref t/\Fj H' (t,⟨pj y.2.nm x.2.nm,x.2.kd,x.2.tg⟩)) rfl (fun x v H1 H2 ⟨t,e,h⟩ s=>⟨t,e,h.same s⟩) (fun x v H1 l us us' ⟨t,e,h⟩ hl=>⟨t,e,h.tup fun c xs w=>by rw[Ag fun w'=>by rw[w',hl] at w;cases w];exact w⟩) (Eu hfb) (fun x hx=>(heps x hx).th) (by omega) (fun x hx H' R s' hR=>hR H' (Am.refl _)) (fun x hx _ H' R s' hR=>?_) (fun l H8 ys nl s8 hl8 e1 hys=>?_)
      ·obtain⟨b,h1,h2⟩:=heps x hx;have eth:Vx H7 x.1=.ref b:=by
        unfold Vx;rw[h1]
       rw[eth];have l1:=lnm y hy;have l2:=(Cq (ok0.2.1 x.2 (List.mem_map_of_mem hx)).1).2.1;refine⟨_,rfl,_,rfl,y.2.nm,x.2.nm,rfl,by omega,by omega,_,rfl,_,rfl,Ge,fun pn npn=>?_⟩;have s9:=Ai npn (.tup [.str (pj y.2.nm x.2.nm),.int x.2.kd,.ref b]);exact hR _ _ s9 ⟨pn,rfl,b,Ac,s9.get (s'.get h2)⟩
      ·obtain⟨rs2,e2,e3,e4⟩:=O4 (F:=fun e=>⟨pj y.2.nm e.nm,e.kd,e.tg⟩) hys;rw[e2] at hl8;rw[e1,List.filter_eq_self.mpr fun _ _=>rfl] at e3;have l2:rs2.length=eps.length:=by
        have:=congrArg List.length e3;rw[List.length_map,List.length_map] at this;exact this
       have hlb8:=s8.get hlb7;refine⟨lb,l,_,_,rfl,rfl,hlb8,hl8,small (by rw[List.length_map,List.length_map];omega),?_⟩;rw[<-List.map_append];have kt:∀c xs,H8 c=some (.tup xs)->(upd H8 lb (.lst ((rs++rs2).map fun p=>V.ref p.1))) c=some (.tup xs):=fun c xs y=>by rw[Ag fun w=>by rw[w,hlb8] at y;cases y];exact y
       refine⟨rs++rs2,_,_,_,rfl,AU (s7.trans s8) (s5.free nlb) _,by rw[Ag nb2];exact s8.get hll7,by rw[Ag nb1];exact s8.get hlf7,Ac,fun p hp=>((hps7 p hp).same s8).tup kt,fun p hp=>?_,?_,by rw[List.length_append];omega⟩
       ·rcases List.mem_append.mp hp with hp|hp
        ·exact((hrs7 p hp).same s8).tup kt
        ·exact(e4 p hp).tup kt
       ·rw[etk,List.map_append,ers,e3,Bt,if_pos k2,hes];dsimp only;rw[List.map_map];rfl
     ·have k2:y.2.kd≠2:=fun k2=>c (decide_eq_true (by rw[k2]))
      refine⟨rs,_,_,_,rfl,s7,hll7,hlf7,hlb7,hps7,hrs7,?_,by omega⟩;rw[etk,Bt,if_neg k2,List.append_nil];exact ers
    ·rintro σ H7 ⟨rs,v5,v6,v7,rfl,s7,hll7,hlf7,hlb7,hps7,hrs7,ers,lrs⟩
     rw[List.length_map,List.take_of_length_le (by rw[List.length_map];exact Nat.le_refl _)] at ers;exact hN2 _ _ ⟨rs,_,_,_,rfl,s7,hlf7,hlb7,hps7,hrs7,ers⟩
   ·rintro σ' H7 ⟨rs,v5,v6,v7,rfl,s7,hlf7,hlb7,hps7,hrs7,ers⟩
    refine⟨_,rfl,lb,ps++qs,rs,_,_,_,_,rfl,s7,s5.free nlb,nb1,hlf7,hlb7,hps7,hrs7,?_,?_,fun x hx k2=>?_⟩
    ·rw[eall,List.map_append,List.append_assoc,ers];rfl
    ·rw[ers];exact edn
    ·have:x.2∈(qs.map (·.2)).flatMap (Bt (cs.map (·.bk))):=by rw[<-ers];exact List.mem_map_of_mem hx
     obtain⟨y,hy,hx'⟩:=List.mem_flatMap.mp this;obtain⟨y',hy',rfl⟩:=List.mem_map.mp hy;unfold Bt at hx'
     split at hx'
     ·next ky=>
      obtain⟨es,hes⟩:=hfl y' hy' ky;rw[hes] at hx';obtain⟨x',hx'',ex⟩:=List.mem_map.mp hx';rw[<-ex] at k2 ⊢;exact pw.f es (List.mem_of_getElem? (GU hes).2) x' hx'' k2
     ·cases hx'
  ·have c':=of_decide_eq_false (Bool.eq_false_iff.mpr c);rw[List.length_map] at c';have q0:qs=[]:=List.length_eq_zero_iff.mp (by omega);refine hN _ _ ⟨ps,_,_,_,_,_,rfl,s4,hlf,hps,?_⟩;rw[eall,q0,List.map_nil,MH,List.append_nil]
 rintro σ' H4 ⟨ps,v3,v4,v5,v6,v7,rfl,s4,hlf,hps,eps⟩
 have lps:ps.length<=63:=by rw[<-eps,List.length_map] at few;exact few
 dsimp only[UW];refine⟨_,rfl,lf,ps.map fun p=>(p.1,p.2.nm),rfl,AW.of (by rw[List.map_map];exact hlf),by rw[List.length_map];omega,fun t ht=>?_,?_,fun us l up so np=>?_⟩
 ·obtain⟨p,hp,rfl⟩:=List.mem_map.mp ht;obtain⟨tb,h3,_⟩:=hps p hp;exact⟨_,A0.of h3⟩
 ·rw[List.map_map];rw[<-eps,List.map_map] at nd;exact nd
 ·obtain⟨rs',pm,rfl⟩:=HD up rfl;rw[List.map_map];have s5:=Ai np (.lst (rs'.map ((fun t:Addr×Str=>V.ref t.1)∘fun p:Addr×En=>(p.1,p.2.nm))));refine hq l rs' _ (s4.trans s5) (s4.free np) Ac (fun p hp=>(hps p (pm.mem_iff.mp hp)).same s5) ?_ ?_
  ·rw[<-eps];exact pm.map _
  ·rw[List.map_map] at so ⊢;exact so
end
section
open PySem.Builtin.Str
theorem Ky {c:Nat}{r:List Nat}:∀(l:List Nat),BA c (l++r)=BA c l++(BA c r).map (· + l.length)
 |[]=>by
  show BA c r=[]++(BA c r).map (fun k=>k+0);rw[List.nil_append];exact(List.map_id _).symm
 |x::l=>by
  have e:BA c (x::l++r)=if x=c then 0::(BA c (l++r)).map (· + 1) else(BA c (l++r)).map (· + 1):=rfl;have e':BA c (x::l)=if x=c then 0::(BA c l).map (· + 1) else(BA c l).map (· + 1):=rfl;have em:(BA c (l++r)).map (· + 1)=(BA c l).map (· + 1)++(BA c r).map (· + (x::l).length):=by
   rw[Ky l,List.map_append,List.map_map]
   congr 1
  rw[e,e',em]
  split<;>rfl
theorem last_run (x:Str)(c:Nat)(n:Nat):∀(l:List Nat) (st:Option Nat),(forIn l st fun i r=>(if i+(⟨#[c]⟩:Str).length<=x.length/\subAt x ⟨#[c]⟩ i=true then pure (ForInStep.yield (some i)) else pure (ForInStep.yield r):Id (ForInStep (Option Nat)))).run=((l.filter fun i=>decide ((Ap x)[i]?=some c)).getLast?).or st
 |[],st=>by simp[Id.run,pure,forIn]
 |a::l,st=>by
  rw[List.forIn_cons]
  by_cases h:(Ap x)[a]?=some c
  ·rw[if_pos (L3.mpr h)];refine(last_run x c n l (some a)).trans ?_;rw[List.filter_cons,if_pos (decide_eq_true h),List.getLast?_cons];cases(l.filter fun i=>decide ((Ap x)[i]?=some c)).getLast?<;>rfl
  ·rw[if_neg fun q=>h (L3.mp q)];refine(last_run x c n l st).trans ?_;rw[List.filter_cons,if_neg (by rw[decide_eq_false h];exact Bool.false_ne_true)]
theorem last_pos (x:Str)(c:Nat):lastOccurrence x ⟨#[c]⟩ 0 x.length=(BA c (Ap x)).getLast?:=by
 have h:=last_run x c 0 (List.range' 0 (x.length+1-0)) none;have e:=Fx c (Ap x) 0;have e1:(BA c (Ap x)).map (· + 0)=BA c (Ap x):=by
  have:(fun k:Nat=>k+0)=id:=rfl;rw[this,List.map_id]
 rw[e1,Az] at e;rw[e];have e2:List.filter (fun i=>decide ((Ap x)[i]?=some c)) (List.range' 0 (x.length+1-0))=List.filter (fun i=>decide ((Ap x)[i-0]?=some c)) (List.range' 0 x.length):=by
  rw[Nat.sub_zero,List.range'_concat,List.filter_append,List.filter_cons,if_neg,List.filter_nil,List.append_nil]
  ·rfl
  ·rw[List.getElem?_eq_none (by rw[Az];omega)];simp
 rw[e2,Option.or_none] at h;rw[<-h];unfold lastOccurrence;simp only[Std.Legacy.Range.forIn_eq_forIn_range',Std.Legacy.Range.size,Nat.sub_zero,Nat.add_sub_cancel,Nat.div_one,Bool.and_eq_true,decide_eq_true_eq];rfl
theorem QW {c:Nat}{x w n:Str}(h:Ap x=Ap w++c::Ap n)(hn:c∉Ap n):∃a b,Ej x ⟨#[c]⟩=[w,a,b]:=by
 have hl:lastOccurrence x ⟨#[c]⟩ 0 x.length=some (Ap w).length:=by
  rw[last_pos,h,Ky];have:BA c (c::Ap n)=[0]:=by
   show(if c=c then 0::(BA c (Ap n)).map (· + 1) else _)=_;rw[if_pos rfl,FW hn];rfl
  rw[this,List.getLast?_append];show(some (0+(Ap w).length)).or _=_;rw[Nat.zero_add];rfl
 unfold Ej;rw[hl];refine⟨⟨#[c]⟩,strSub x ((Ap w).length+1) x.length,?_⟩;show[strSub x 0 (Ap w).length,⟨#[c]⟩,strSub x ((Ap w).length+1) x.length]=_
 congr 1
 refine D4 ?_;show(strSub x 0 _).cps.toList=_;have hx:x.cps.toList=Ap w++c::Ap n:=h;rw[StrLaws.strSub_toList,List.drop_zero,Nat.sub_zero,hx,List.take_left'];rfl
theorem Sl {c:Nat}{x:Str}(hx:c∉Ap x):∃a b,Ej x ⟨#[c]⟩=[PySem.Str.empty,a,b]:=by
 unfold Ej;rw[last_pos,FW hx];exact⟨_,_,rfl⟩
end
section
variable {P:Program}{w:World}{K:W.Frag}{mg:Str->Option Value}{base:Heap}{f Ah Aa Ad:Addr}{XC:Nat->Addr}{fd:FuncData}
def Fn (K:W.Frag):Sp:=fun vs H Q _=>∃(c m:Int),vs=[.int c,.int m]/\0<=m/\m<=1000/\
 ∀(r:Addr) (H':Hp) (ns:List Int),Am H H'->H r=none->H' r=some (.lst (ns.map V.int))->ns.length=m.toNat->(∀x∈ns,0<=x/\x<1000000)->Q (.ref r) H'
theorem Mo (T:Txt K mg Ah Aa Ad XC)(F:Fun K "_law_row" "_law_row" CU f fd):FnOk P w K mg base DD 1 f fd ["_law_cell","_law_many"] (Fn K):=by
 exists BV
 ·obtain⟨c,m,rfl,_⟩:=h;rfl
 obtain⟨c,m,rfl,hm0,hm1,q⟩:=h;refine⟨_,(!Af (@As _ _ (2) _ _ _ _ BV.nd rfl (by trivial) (!Bm (!Ae)) (by rfl) (by trivial)) (!Af (@As _ _ (3) _ _ _ _ BV.nd rfl (by trivial) (pv 0) (by rfl) (by trivial)) (!Af (!A7 (!AA Pc (!Av Nu (by rfl) T.b_abs R1 (!Ab (pv 0) (!Ae))) (!Ay J0 (!Ak) (!Ak)) (AL _)) (!Al (@As _ _ (3) _ _ _ _ BV.nd rfl (by trivial) (!Ay DG (!Ay Cb (pv 0) (!Ak)) (!Ak)) (by rfl) (by trivial))) (!AB)) (!Af (!CW PassesOwn.never rfl (!Il rfl T.b_range (!Ab (pv 1) (!Ae))) (@An _ _ (4) _ BV.nd rfl (by trivial) (by trivial)) (!Al (!A7 (!AA Pc (!Av Nu (by rfl) T.b_abs R1 (!Ab (pv 0) (!Ae))) (!Ay J0 (!Ak) (!Ak)) (AL _)) (!Af (@As _ _ (3) _ _ _ _ BV.nd rfl (by trivial) (!Ay Cb (!Ay JM (pv 3) (!Ak)) (!Ak)) (by rfl) (by trivial)) (!Al (!Cn (!Ew PySem.F.plainAttrs_list PySem.F.slot_list_append PySem.F.type_list_append DC (pv 2) (!Ab (!Ay Cb (!Ay FX (!Ay Cb (!Ay DG (!Ay DG (!Ay JM (pv 3) (pv 3)) (!Ay JM (!Ak) (pv 3))) (pv 4)) (!Ak)) (!Ak)) (!Ay J0 (!Ak) (!Ak))) (!Ae)))))) (!Af (!Cn (!Ew PySem.F.plainAttrs_list PySem.F.slot_list_append PySem.F.type_list_append DC (pv 2) (!Ab (!Ay Cb (pv 3) (!Ay J0 (!Ak) (!Ak))) (!Ae)))) (!Al (@As _ _ (3) _ _ _ _ BV.nd rfl (by trivial) (!Ay FX (pv 3) (!Ay J0 (!Ak) (!Ak))) (by rfl) (by trivial)))))) (by intro _;rfl)) (!Al (!Ar (pv 2))))))),?_⟩;refine⟨LK,fun g hg=>?_⟩;refine⟨_,rfl,?_⟩;have z1:∀(N:St->Hp->Prop),(∀z:Int,N [some (.int c),some (.int m),some (.ref g),some (.int z),none] (upd H g (.lst [])))->GF (KY (QA (Tj fun i j=>V.bl (decide (i<j))) (W3 (fun xs H Q=>∃i,xs=[V.int i]/\Q (V.int (if i<0 then -i else i)) H) (IC (Ik 0) LP)) (QA (rI Wg fun i j=>V.int (i^j.toNat)) (tC (V.int 10)) (tC (V.int 18))))) (L6 (QA (Tj fun i j=>V.int (i+j)) (QA (rI (fun x j=>0<j) fun i j=>V.int (i%j)) (Ik 0) (tC (V.int 2147483647))) (tC (V.int 1))) (Au 3)) Io { nx:=N,rt:=Q } [some (.int c),some (.int m),some (.ref g),some (.int c),none] (upd H g (.lst [])):=fun N hN=>by
  refine⟨_,rfl,_,rfl,_,_,rfl,rfl,⟨by decide,by decide,by decide⟩,_,_,rfl,rfl,_,rfl,C8 (fun _=>?_) (fun _=>?_)⟩
  ·exact⟨_,rfl,_,_,rfl,rfl,(by show(0:Int)<2147483647;decide),_,_,rfl,rfl,hN _⟩
  ·exact hN _
 refine z1 _ fun z0=>?_
 refine⟨_,rfl,m,rfl,by omega,by omega,KH (lo:=0) (n:=m.toNat) (fun i σ H2=>∃(ns:List Int) (z:Int) (v:Option V),σ=[some (.int c),some (.int m),some (.ref g),some (.int z),v]/\Am H H2/\H2 g=some (.lst (ns.map V.int))/\ns.length=i/\∀x∈ns,0<=x/\x<1000000)
  ⟨[],_,none,rfl,Ai hg _,Ac,rfl,fun _ h=>nomatch h⟩ ?_ ?_⟩
 ·rintro i σ H2 hi ⟨ns,z,v,rfl,s2,hg2,hl,hb⟩
  refine⟨_,rfl,_,rfl,_,_,rfl,rfl,⟨by decide,by decide,by decide⟩,_,_,rfl,rfl,_,rfl,C8 (fun _=>?_) (fun _=>?_)⟩
  ·refine⟨_,rfl,_,_,rfl,rfl,.inr ⟨by decide,by decide⟩,_,_,rfl,rfl,(by show(0:Int)<2147483647;decide),?_⟩;have b0:=Int.emod_nonneg (z*48271) (show(2147483647:Int)≠0 by decide);have b1:=Int.emod_lt_of_pos (z*48271) (show(0:Int)<2147483647 by decide);dsimp only;generalize z*48271%2147483647=y at b0 b1;refine⟨_,rfl,.inl ⟨rfl,_,AW.of hg2⟩,_,rfl,_,rfl,_,_,rfl,rfl,.inl ⟨by omega,by omega⟩,_,rfl,_,_,rfl,rfl,.inl ⟨by decide,by decide⟩,_,_,rfl,rfl,_,rfl,_,_,rfl,rfl,_,_,rfl,rfl,(by show(0:Int)<2147483629;decide),_,_,rfl,rfl,⟨by decide,by decide⟩,_,_,rfl,rfl,⟨by decide,by decide,by decide⟩,_,_,rfl,rfl,(by show(0:Int)<10^(6:Int).toNat;decide),?_⟩;refine⟨g,_,_,rfl,rfl,hg2,BF (by rw[List.length_map];omega),?_⟩;refine⟨ns++[_],_,_,rfl,AU s2 hg _,by rw[Ac,List.map_append];rfl,by rw[List.length_append,hl];rfl,fun x hx=>?_⟩;rcases List.mem_append.mp hx with hx|hx
   ·exact hb x hx
   ·rw[List.mem_singleton.mp hx];exact⟨Int.emod_nonneg _ (by decide),Int.emod_lt_of_pos _ (by decide)⟩
  ·refine⟨_,rfl,.inl ⟨rfl,_,AW.of hg2⟩,_,rfl,_,_,rfl,rfl,⟨by decide,by decide,by decide⟩,_,_,rfl,rfl,(by show(0:Int)<10^(6:Int).toNat;decide),g,_,_,rfl,rfl,hg2,BF (by rw[List.length_map];omega),?_⟩;refine⟨_,rfl,_,_,rfl,rfl,⟨by decide,by decide,by decide⟩,_,_,rfl,rfl,⟨by decide,by decide⟩,?_⟩;refine⟨ns++[_],_,_,rfl,AU s2 hg _,by rw[Ac,List.map_append];rfl,by rw[List.length_append,hl];rfl,fun x hx=>?_⟩;rcases List.mem_append.mp hx with hx|hx
   ·exact hb x hx
   ·rw[List.mem_singleton.mp hx];exact⟨Int.emod_nonneg _ (by decide),Int.emod_lt_of_pos _ (by decide)⟩
 ·rintro σ H2 ⟨ns,z,v,rfl,s2,hg2,hl,hb⟩
  exact⟨_,rfl,q g _ ns s2 hg hg2 hl hb⟩
abbrev AP:Str:=PySem.Str.ofString "abcdefghijklmnop"
abbrev OZ:Str:=PySem.Str.ofString "0z"
theorem Ot:(Ap AP).length=16:=by decide +kernel
theorem VO:(Ap AP).Nodup:=by decide +kernel
theorem VT:∀c∈Ap AP,c∈Ap LN:=by decide +kernel
def OY (i:Int):Nat:=(Ap AP).getD (i%16).toNat 0
theorem SR {i j:Int}(h:OY i=OY j):i%16=j%16:=by
 have i0:=Int.emod_nonneg i (show(16:Int)≠0 by decide);have i1:=Int.emod_lt_of_pos i (show(0:Int)<16 by decide);have j0:=Int.emod_nonneg j (show(16:Int)≠0 by decide);have j1:=Int.emod_lt_of_pos j (show(0:Int)<16 by decide)
 by_cases e:(i%16).toNat=(j%16).toNat
 ·omega
 ·exact absurd h (NR VO (by rw[Ot];omega) (by rw[Ot];omega) e)
theorem Ul (i:Int):Kv AP.cps.toList (i%16)=some (OY i)/\OY i∈Ap AP:=by
 have i0:=Int.emod_nonneg i (show(16:Int)≠0 by decide);have i1:=Int.emod_lt_of_pos i (show(0:Int)<16 by decide);have hk:(i%16).toNat<(Ap AP).length:=by rw[Ot];omega
 have e:OY i=(Ap AP)[(i%16).toNat]:=by
  show(Ap AP).getD (i%16).toNat 0=_;rw[List.getD_eq_getElem?_getD,List.getElem?_eq_getElem hk];rfl
 have:=Lk (xs:=Ap AP) (j:=(i%16).toNat) (List.getElem?_eq_getElem hk);rw[show(((i%16).toNat:Nat):Int)=i%16 by omega] at this;exact⟨by rw[e];exact this,by rw[e];exact List.getElem_mem hk⟩
def T4 (z:Str):Prop:=∃c k e,Ap z=List.replicate (k+1) c++[e]/\k<7/\c∈Ap AP/\(e=48\/e=122)
theorem T4.name {z:Str}(h:T4 z):Bf (.str z)=true:=by
 obtain⟨c,k,e,ez,hk,hc,he⟩:=h;have l:=Az z;rw[ez,List.length_append,List.length_replicate,List.length_singleton] at l;show(decide ((1:Int)<=z.length)&&decide ((z.length:Int)<=8)&&Bg LN z)=true;rw[decide_eq_true (by omega),decide_eq_true (by omega)];unfold Bg;rw[Bool.true_and,Bool.true_and,List.all_eq_true,ez];intro x hx;refine decide_eq_true ?_;rcases List.mem_append.mp hx with hx|hx
 ·rw[List.eq_of_mem_replicate hx];exact VT c hc
 ·rw[List.mem_singleton.mp hx];rcases he with rfl|rfl<;>decide +kernel
theorem T4.last {z:Str}(h:T4 z):(Ap z).getLast?=some 48\/(Ap z).getLast?=some 122:=by
 obtain⟨c,k,e,ez,_,_,he⟩:=h;rw[ez,List.getLast?_concat];rcases he with rfl|rfl
 ·exact .inl rfl
 ·exact .inr rfl
theorem Wd (i:Int):∃e,Kv OZ.cps.toList (i%2)=some e/\(e=48\/e=122):=by
 rcases Int.emod_two_eq i with h|h
 ·rw[h];exact⟨48,by decide +kernel,.inl rfl⟩
 ·rw[h];exact⟨122,by decide +kernel,.inr rfl⟩
def Ei (K:W.Frag):Sp:=fun vs H Q _=>∃c m:Int,vs=[.int c,.int m]/\0<=m/\m<=16/\
 ∀l H' (zs:List Str),Am H H'->H l=none->H' l=some (.lst (zs.map V.str))->zs.length=m.toNat->(∀z∈zs,T4 z)->zs.Nodup->Q (.ref l) H'
theorem Kj (T:Txt K mg Ah Aa Ad XC)(F:Fun K "_law_names" "_law_names" B0 f fd):FnOk P w K mg base DD 1 f fd ["_law_cell","_law_many"] (Ei K):=by
 exists Eo
 ·obtain⟨c,m,rfl,_⟩:=h;rfl
 obtain⟨c,m,rfl,m0,m1,q⟩:=h;refine⟨_,(!Af (@As _ _ (2) _ _ _ _ Eo.nd rfl (by trivial) (!Bm (!Ae)) (by rfl) (by trivial)) (!Af (!CW PassesOwn.never rfl (!Il rfl T.b_range (!Ab (pv 1) (!Ae))) (@An _ _ (3) _ Eo.nd rfl (by trivial) (by trivial)) (!Al (!Cn (!Ew PySem.F.plainAttrs_list PySem.F.slot_list_append PySem.F.type_list_append DC (pv 2) (!Ab (!Ay Bb (!Ay NF (!AD QZ (!AG) (!Ay Cb (!Ay DG (pv 0) (pv 3)) (!Ak)) (fun _ _=>rfl)) (!Ay DG (!Ak) (!Ay Cb (!Ay DG (!Ay FX (pv 0) (!Ak)) (!Ay JM (pv 3) (pv 3))) (!Ak)))) (!AD QZ (!AG) (!Ay Cb (!Ay FX (pv 0) (!Ak)) (!Ak)) (fun _ _=>rfl))) (!Ae))))) (by intro _;rfl)) (!Al (!Ar (pv 2))))),?_⟩
 try dsimp only[BB,Cx.nox,Cx.wish]
 refine⟨LK,fun g hg=>?_⟩;refine⟨_,rfl,m,rfl,by omega,by omega,KH (lo:=0) (n:=m.toNat) (fun i σ H2=>∃(zs:List Str) (v:Option V),σ=[some (.int c),some (.int m),some (.ref g),v]/\Am H H2/\H2 g=some (.lst (zs.map V.str))/\zs.length=i/\∀(j:Nat) z,zs[j]?=some z->∃k e,Ap z=List.replicate (k+1) (OY (c+(0+(j:Int))))++[e]/\k<7/\(e=48\/e=122))
  ⟨[],none,rfl,Ai hg _,Ac,rfl,(fun j z h=>by simp at h)⟩ ?_ ?_⟩
 ·rintro i σ H2 hi ⟨zs,v,rfl,s2,hg2,hl,hat⟩
  obtain⟨hc,mc⟩:=Ul (c+(0+(i:Int)));refine⟨_,rfl,.inl ⟨rfl,_,AW.of hg2⟩,_,rfl,_,rfl,_,_,rfl,rfl,_,_,rfl,rfl,(by show(0:Int)<16;decide),AP,_,OY (c+(0+(i:Int))),rfl,rfl,small (by decide +kernel),hc,?_⟩;have r0:=Int.emod_nonneg (c/16+(0+(i:Int))*(0+(i:Int))) (show(7:Int)≠0 by decide);have r1:=Int.emod_lt_of_pos (c/16+(0+(i:Int))*(0+(i:Int))) (show(0:Int)<7 by decide);obtain⟨eo,heo,eo2⟩:=Wd (c/128);refine⟨_,rfl,_,_,rfl,rfl,⟨by decide,by decide⟩,_,rfl,_,rfl,_,_,rfl,rfl,.inl ⟨by omega,by omega⟩,_,_,rfl,rfl,_,_,rfl,rfl,(by show(0:Int)<7;decide),_,_,rfl,rfl,?_⟩;dsimp only;generalize (c/16+(0+(i:Int))*(0+(i:Int)))%7=r at r0 r1;have em:Ap (PySem.Txt.mul ⟨#[OY (c+(0+(i:Int)))]⟩ (1+r))=List.replicate (r.toNat+1) (OY (c+(0+(i:Int)))):=by
   show(PySem.Txt.mul ⟨#[OY (c+(0+(i:Int)))]⟩ (1+r)).cps.toList=_;rw[PyProof.Rows.mul_one_list,show(1+r).toNat=r.toNat+1 by omega]
  have lm:(PySem.Txt.mul ⟨#[OY (c+(0+(i:Int)))]⟩ (1+r)).length=r.toNat+1:=by rw[<-Az,em,List.length_replicate]
  refine⟨_,_,rfl,rfl,by omega,by omega,(by show 1<=1000;decide),_,rfl,_,_,rfl,rfl,⟨by decide,by decide⟩,_,_,rfl,rfl,(by show(0:Int)<2;decide),OZ,_,eo,rfl,rfl,small (by decide +kernel),heo,_,_,rfl,rfl,small (by rw[lm];show r.toNat+1+1<=1000000;omega),g,_,_,rfl,rfl,hg2,BF (by rw[List.length_map];omega),?_⟩;refine⟨zs++[PySem.Txt.mul ⟨#[OY (c+(0+(i:Int)))]⟩ (1+r)++⟨#[eo]⟩],_,rfl,AU s2 hg _,by rw[Ac,List.map_append];rfl,by rw[List.length_append,hl];rfl,fun j y hj=>?_⟩
  by_cases hjl:j<zs.length
  ·rw[List.getElem?_append_left hjl] at hj;exact hat j y hj
  ·rw[List.getElem?_append_right (by omega)] at hj;have h0:j-zs.length=0:=by
    have:=(List.getElem?_eq_some_iff.mp hj).1;simp at this;omega
   rw[h0] at hj;cases hj;refine⟨r.toNat,eo,?_,by omega,eo2⟩;rw[show j=i by omega,<-em];exact A6 _ _
 ·rintro σ H2 ⟨zs,v,rfl,s2,hg2,hl,hat⟩
  refine⟨_,rfl,q g _ zs s2 hg hg2 hl (fun z hz=>?_) ?_⟩
  ·obtain⟨j,hj⟩:=List.mem_iff_getElem?.mp hz;obtain⟨k,e,ez,hk,he⟩:=hat j z hj;exact⟨_,k,e,ez,hk,(Ul _).2,he⟩
  ·refine List.pairwise_iff_getElem.mpr fun i j hi hj hij e=>?_
   obtain⟨k1,e1,h1,_⟩:=hat i _ (List.getElem?_eq_getElem hi);obtain⟨k2,e2,h2,_⟩:=hat j _ (List.getElem?_eq_getElem hj);rw[e,h2] at h1;have h0:=congrArg (fun l:List Nat=>l.head?) h1;have h0':OY (c+(0+(j:Int)))=OY (c+(0+(i:Int))):=by simpa [List.replicate_succ] using h0
   have:=SR h0';omega
def Ec (K:W.Frag)(CP CT:Addr):Sp:=fun vs H Q _=>∃(p:Addr) (q:Pl) (cs:List Cl) (bs:List (Int×Addr)) (ta:Addr) (g:Tg) (z:Str) (u:V) (e:Option (Int×Tg)) (es0:List En) (ini:List Str) (s:Str),vs=[.ref p,.ref ta,.str z,u]/\PW CP CT H p q cs bs/\cs.length<=9000/\H ta=some (.tup [.int g.1,.int g.2.1,.int g.2.2])/\Br (cs.map (·.bk)) g.1=some es0/\
 Gc H e u/\Rw cs e/\z.length<=1000/\z≠EM/\PySem.Txt.split z SL=ini++[s]/\
 ((By (ini++[s])=false\/AS (cs.map (·.bk)) es0 ini=none)->∀r H',Am H H'->H' r=some (.tup [.str "path",.str z])->Q (.ref r) H')/\
 (∀fs esl,By (ini++[s])=true->AS (cs.map (·.bk)) es0 ini=some (fs++[esl])->16<(Iq esl s e).length->∀r H',Am H H'->H' r=some (.tup [.str "many",.int 1])->Q (.ref r) H')/\
 (∀fs esl,By (ini++[s])=true->AS (cs.map (·.bk)) es0 ini=some (fs++[esl])->(Iq esl s e).length<=16->∀r tb g' H' q' cs' bs' more,Kt H H'->PW CP CT H' p q' cs' bs'->cs'.map (·.bk)=cs.map (·.bk)++more->more.length<=8->H' r=some (.tup [.str "tree",.ref tb])->H' tb=some (.tup [.int g'.1,.int g'.2.1,.int g'.2.2])->(∃es',Br (cs'.map (·.bk)) g'.1=some es')->Ez (cs'.map (·.bk)) (some (2,g')) (ini++[s])=e->Q (.ref r) H')
theorem vals3 {x y z:Addr}:∀us,Aw [V.ref x,V.ref y,V.ref z] us->us=[Value.ref x,Value.ref y,Value.ref z]:=fun us h=>by
 cases h with
 |cons h1 t=>
  cases t with
  |cons h2 t=>
   cases t with
   |cons h3 t=>
    cases t;rw[show _=Value.ref x from h1,show _=Value.ref y from h2,show _=Value.ref z from h3]
theorem Kf (T:Txt K mg Ah Aa Ad XC)(F:Fun K "_law_tried" "_law_tried" BZ f fd)(EY:IP P w K mg base 15 "with_entry" ["pool","root","path","entry","birth"] (El K Ad Aa XC)):FnOk P w K mg base DD 16 f fd ["_law_pool","_law_root","_law_path","_law_entry"] (Ec K Ad Aa):=by
 exists Er
 ·obtain⟨p,q,cs,bs,ta,g,z,u,e,es0,ini,s,rfl,_⟩:=h;rfl
 obtain⟨p,q,cs,bs,ta,g,z,u,e,es0,ini,st,rfl,pw,few,hta,hroot,he,ein,lz,ne,es,hx,hm,hq⟩:=h;have hu:=Cf hr;have hu9:=GH hr;refine⟨_,(!Af (@Qg _ _ _ _ _ _ _ _ _ _ _ (5) _ _ _ ⟨rfl,rfl⟩ T.x_StemError rfl Er.nd rfl rfl (!RW (@TM _ _ _ (4) _ _ _ Er.nd rfl (by trivial) (!SH EY (by trivial) rfl (!Ab (pv 0) (!Ab (pv 1) (!Ab (pv 2) (!Ab (pv 3) (!Ab (!Ak) (!Ae))))))) (by rfl) (by trivial))) (!AB) (fun ea=>(!Af (!A7 (@PW.pt _ _ _ (!Iw (!JH (!Ek (!Av (Ey (K:=K) (by rfl)) (by rfl) T.b_isinstance AY (!Ab (pv 5) (!Ab (!MP rfl T.b_ValueError Ki) (!Ae)))) (by intro _;rfl))) (!Gk (!Ek (!Av (Oa (K:=K) (by rfl)) (by rfl) T.b_isinstance AY (!Ab (pv 5) (!Ab (!AR (!Ab (!Gw rfl T.x_Lost) (!Ab (!Gw rfl T.x_NoName) (!Ab (!Gw rfl T.x_Twice) (!Ae))))) (!Ae)))) (by intro _;rfl))))) (!Al (!Ar (!AR (!Ab (!AG) (!Ab (!Ak) (!Ae)))))) (!AB)) (!Af (!A7 (@PW.pt _ _ _ (!Oo (!Ek (!Av (Ey (K:=K) (by rfl)) (by rfl) T.b_isinstance AY (!Ab (pv 5) (!Ab (!Gw rfl T.x_NoPath) (!Ae)))) (by intro _;rfl)) (!Ly (!Ek (!Av (Ey (K:=K) (by rfl)) (by rfl) T.b_isinstance AY (!Ab (pv 5) (!Ab (!Gw rfl T.x_TooMany) (!Ae)))) (by intro _;rfl))))) (!Al (!Ar (!AR (!Ab (!AG) (!Ab (!Ak) (!Ae)))))) (!AB)) (!Af (!A7 (!Ek (!Av (Ey (K:=K) (by rfl)) (by rfl) T.b_isinstance AY (!Ab (pv 5) (!Ab (!Gw rfl T.x_NoPath) (!Ae)))) (by intro _;rfl)) (!Al (!Ar (!AR (!Ab (!AG) (!Ab (@TJ _ (K) (by rfl) _ _ _ _ (pv 5) rfl) (!Ae)))))) (!AB)) (!Al (!Ar (!AR (!Ab (!AG) (!Ab (!Dy Kx (by rfl) T.b_int On (!Ab (!Av (Ey (K:=K) (by rfl)) (by rfl) T.b_isinstance AY (!Ab (pv 5) (!Ab (!Gw rfl T.x_TooMany) (!Ae)))) (!Ae))) (!Ae)))))))))) (by decide)) (!Al (!Ar (!AR (!Ab (!AG) (!Ab (pv 4) (!Ae))))))),?_⟩
 try dsimp only[BB,Cx.nox,Cx.wish]
 refine⟨_,rfl,_,rfl,_,rfl,_,rfl,p,q,cs,bs,ta,g,z,u,e,9,es0,ini,st,rfl,pw,few,hta,hroot,he,ein,⟨by decide,by decide⟩,lz,ne,es,fun h H1 dx s1 hd=>?_,fun fs esl gd ea gt H1 s1=>?_,fun fs esl gd ea le tb g' H' q' cs' bs' more kt pw' em lm htb hf hw=>?_⟩
 ·refine⟨T.m_NoPath_StemError,XC 0,rfl,fun ea hea=>?_⟩;have hdx:H dx=none:=s1.free hd;have nea:ea≠dx:=fun w=>by rw[w,Ac] at hea;cases hea
  have hea1:H1 ea=none:=by rw[Ag nea] at hea;exact hea
  have S2:Am H (upd (upd H1 dx (.xd [("path",.str z)])) ea (EJ ea (XC 0) (some dx))):=AU (AU s1 hdx _) (s1.free hea1) _;have hex2:(upd (upd H1 dx (.xd [("path",.str z)])) ea (EJ ea (XC 0) (some dx))) ea=some (EJ ea (XC 0) (some dx)):=Ac;have hxd2:(upd (upd H1 dx (.xd [("path",.str z)])) ea (EJ ea (XC 0) (some dx))) dx=some (.xd [("path",.str z)]):=by rw[Ag (Ne.symm nea),Ac]
  generalize upd (upd H1 dx (.xd [("path",.str z)])) ea (EJ ea (XC 0) (some dx))=H2 at S2 hex2 hxd2;dsimp only[IJ,GF];refine⟨_,rfl,ea,XC 0,some dx,_,_,_,rfl,hex2,T.i_NoPath.toExcCls,(fun u h=>h),T.k_NoPath_ValueError,_,rfl,AX rfl ?_⟩;refine⟨_,rfl,Ge,fun tp htp=>?_⟩;have s3:=Ai htp (.tup [V.ref (XC 1),V.ref (XC 3),V.ref (XC 5)]);refine⟨ea,XC 0,tp,some dx,_,_,false,rfl,s3.get hex2,T.i_NoPath.toExcCls,Ac,vals3,by simp[W.kitAny,T.k_NoPath_Lost,T.k_NoPath_NoName,T.k_NoPath_Twice],_,rfl,AX rfl ?_⟩;have hex3:=s3.get hex2;have hxd3:=s3.get hxd2;have S3:=S2.trans s3;generalize upd H2 tp (.tup [V.ref (XC 1),V.ref (XC 3),V.ref (XC 5)])=H3 at hex3 hxd3 S3;dsimp only[Io];refine⟨_,rfl,ea,XC 0,some dx,_,_,_,rfl,hex3,T.i_NoPath.toExcCls,(fun u h=>h),T.k_NoPath_NoPath,_,rfl,BW rfl ?_⟩;refine⟨_,rfl,ea,XC 0,some dx,_,_,_,rfl,hex3,T.i_NoPath.toExcCls,(fun u h=>h),T.k_NoPath_TooMany,_,rfl,AX rfl ?_⟩;refine⟨_,rfl,ea,XC 0,some dx,_,_,_,rfl,hex3,T.i_NoPath.toExcCls,(fun u h=>h),T.k_NoPath_NoPath,_,rfl,BW rfl ?_⟩;refine⟨_,rfl,ea,XC 0,dx,_,.str z,rfl,hex3,T.i_NoPath,T.f_NoPath,hxd3,rfl,DV,fun r nr=>?_⟩;exact hx h r _ (S3.trans (Ai nr _)) Ac
 ·refine⟨T.m_TooMany_StemError,XC 4,rfl,fun ex hea=>?_⟩;have s2:=Ai hea (EJ ex (XC 4) none);have hex2:(upd H1 ex (EJ ex (XC 4) none)) ex=some (EJ ex (XC 4) none):=Ac;have S2:=s1.trans s2;generalize upd H1 ex (EJ ex (XC 4) none)=H2 at S2 hex2;dsimp only[IJ,GF];refine⟨_,rfl,ex,XC 4,none,_,_,_,rfl,hex2,T.e_TooMany,(fun u h=>h),T.k_TooMany_ValueError,_,rfl,AX rfl ?_⟩;refine⟨_,rfl,Ge,fun tp htp=>?_⟩;have s3:=Ai htp (.tup [V.ref (XC 1),V.ref (XC 3),V.ref (XC 5)]);refine⟨ex,XC 4,tp,none,_,_,false,rfl,s3.get hex2,T.e_TooMany,Ac,vals3,by simp[W.kitAny,T.k_TooMany_Lost,T.k_TooMany_NoName,T.k_TooMany_Twice],_,rfl,AX rfl ?_⟩;have hex3:=s3.get hex2;have S3:=S2.trans s3;generalize upd H2 tp (.tup [V.ref (XC 1),V.ref (XC 3),V.ref (XC 5)])=H3 at hex3 S3;dsimp only[Io];refine⟨_,rfl,ex,XC 4,none,_,_,_,rfl,hex3,T.e_TooMany,(fun u h=>h),T.k_TooMany_NoPath,_,rfl,AX rfl ?_⟩;refine AX rfl ?_;refine⟨_,rfl,ex,XC 4,none,_,_,_,rfl,hex3,T.e_TooMany,(fun u h=>h),T.k_TooMany_NoPath,_,rfl,AX rfl ?_⟩;refine⟨_,rfl,ex,XC 4,none,_,_,_,rfl,hex3,T.e_TooMany,(fun u h=>h),T.k_TooMany_TooMany,.inr ⟨_,rfl,DV,fun r nr=>?_⟩⟩;exact hm fs esl gd ea gt r _ (S3.trans (Ai nr _)) Ac
 ·refine⟨_,rfl,DV,fun r nr=>?_⟩;have s3:=Ai nr (.tup [.str "tree",.ref tb]);exact hq fs esl gd ea le r tb g' _ q' cs' bs' more (kt.trans (Kt.of s3)) (pw'.same s3) em lm Ac (s3.get htb) hf hw
end
section
theorem U0 {a b:List En}(p:a.Perm b)(nd:(b.map (·.nm)).Nodup)(e:a.map (·.nm)=b.map (·.nm)):a=b:=by
 refine List.ext_getElem? fun i=>?_
 have h:=congrArg (fun l:List Str=>l[i]?) e;rw[List.getElem?_map,List.getElem?_map] at h;cases ea:a[i]? with
 |none=>
  rw[ea] at h;cases eb:b[i]? with
  |none=>rfl
  |some y=>rw[eb] at h;cases h
 |some x=>
  rw[ea] at h;cases eb:b[i]? with
  |none=>rw[eb] at h;cases h
  |some y=>
   rw[eb] at h;rw[Cy nd (p.mem_iff.mp (List.mem_of_getElem? ea)) (List.mem_of_getElem? eb) (Option.some.inj h)]
abbrev Bj:Str:=PySem.Str.ofString "dir"
abbrev Dg:Str:=PySem.Str.ofString "up"
abbrev CF:Str:=PySem.Str.ofString "up/in"
abbrev BK:Str:=PySem.Str.ofString "file"
abbrev GN:Str:=PySem.Str.ofString "in"
abbrev sX:Str:=PySem.Str.ofString "x"
abbrev GX:Str:=PySem.Str.ofString "none"
theorem Du {z:Str}(h:Bf (.str z)=true):47∉Ap z:=by
 intro hc;have h':(decide ((1:Int)<=z.length)&&decide ((z.length:Int)<=8)&&Bg LN z)=true:=h;rw[Bool.and_eq_true] at h';have:=h'.2;unfold Bg at this;rw[List.all_eq_true] at this;exact absurd (this 47 hc) (by decide +kernel)
theorem De {z:Str}(h:Bf (.str z)=true):1<=z.length/\z.length<=8:=⟨(Cq h).1,(Cq h).2.1⟩
theorem LI {z:Str}(h:Bf (.str z)=true):z≠EM:=fun e=>by
 have:=(De h).1;rw[e] at this;exact absurd this (by decide +kernel)
theorem Ff {w n:Str}(h:w≠EM):Ap (pj w n)=Ap w++47::Ap n:=by
 unfold pj;rw[if_neg h,A6,A6,List.append_assoc];rfl
theorem Gj (n:Str):pj EM n=n:=by
 unfold pj;rw[if_pos rfl]
theorem Q3 {w n m:Str}(h:pj w n=pj w m):n=m:=by
 by_cases e:w=EM
 ·rw[e,Gj,Gj] at h;exact h
 ·have:=congrArg Ap h;rw[Ff e,Ff e] at this;have:=List.append_cancel_left this;exact D4 (List.cons.inj this).2
def rp (z:Str):Str:=(Ej z ⟨#[47]⟩).headD EM
theorem L8 {n:Str}(h:47∉Ap n):rp n=EM:=by
 obtain⟨a,b,e⟩:=Sl h;unfold rp;rw[e];rfl
theorem RK {w n:Str}(hn:47∉Ap n):rp (pj w n)=w:=by
 by_cases e:w=EM
 ·rw[e,Gj];exact L8 hn
 ·obtain⟨a,b,e'⟩:=QW (Ff (n:=n) e) hn;unfold rp;rw[e'];rfl
theorem Rg (z:Str):∃a b,Ej z ⟨#[47]⟩=[rp z,a,b]:=by
 unfold rp Ej
 split<;>exact⟨_,_,rfl⟩
def Se (g:Tg)(z:Str):En:=⟨z,1,g⟩
structure Tree (bks:List Bk) (zs:List Str) (m k:Nat) (gF gU gI gR:Tg) (esF esR:List En):Prop where
 hz:∀z∈zs,T4 z
 nd:zs.Nodup
 lm:m<=16
 lk:k<=13
 hU:Br bks gU.1=some esF
 pU:esF.Perm ((zs.take m).map (Se gF))
 hI:Br bks gI.1=some [⟨GN,2,gU⟩,⟨sX,1,gF⟩]
 hR:Br bks gR.1=some esR
 pR:esR.Perm ([⟨Bj,2,gU⟩,⟨BK,1,gF⟩,⟨Dg,2,gI⟩]++(zs.take k).map (Se gF))
theorem Tree.more {bks:List Bk}{zs:List Str}{m k:Nat}{gF gU gI gR:Tg}{esF esR:List En}(h:Tree bks zs m k gF gU gI gR esF esR)(more:List Bk):Tree (bks++more) zs m k gF gU gI gR esF esR:={ h with hU:=BL _ h.hU,hI:=BL _ h.hI,hR:=BL _ h.hR }
def D6 (zs:List Str)(k:Nat)(gF gU gI gR:Tg)(esF:List En):List En:=
 [⟨EM,2,gR⟩]++(([⟨Bj,2,gU⟩,⟨BK,1,gF⟩,⟨Dg,2,gI⟩]++(zs.take k).map (Se gF))++((esF.map (fun e=>⟨pj Bj e.nm,e.kd,e.tg⟩)++[⟨pj Dg GN,2,gU⟩,⟨pj Dg sX,1,gF⟩])++esF.map (fun e=>⟨pj CF e.nm,e.kd,e.tg⟩)))
theorem FZ {bks:List Bk}:∀{l:List En},(∀e∈l,e.kd=1)->l.flatMap (Bt bks)=[]
 |[],_=>rfl
 |x::l,h=>by
  rw[List.flatMap_cons,FZ fun e he=>h e (List.mem_cons_of_mem _ he)];unfold Bt;rw[if_neg (by rw[h x List.mem_cons_self];decide)];rfl
theorem V2:pj Dg GN=CF:=by decide +kernel
theorem Tree.files {bks:List Bk}{zs:List Str}{m k:Nat}{gF gU gI gR:Tg}{esF esR:List En}(h:Tree bks zs m k gF gU gI gR esF esR):∀e∈esF,e.kd=1:=fun e he=>by
 obtain⟨z,_,rfl⟩:=List.mem_map.mp (h.pU.mem_iff.mp he);rfl
theorem Tree.all {bks:List Bk}{zs:List Str}{m k:Nat}{gF gU gI gR:Tg}{esF esR:List En}(h:Tree bks zs m k gF gU gI gR esF esR):(allB bks 4 [⟨EM,2,gR⟩]).Perm (D6 zs k gF gU gI gR esF)/\Ws bks 4 [⟨EM,2,gR⟩]=[]:=by
 have l1:[(⟨EM,2,gR⟩:En)].flatMap (Bt bks)=esR:=by
  rw[List.flatMap_cons,List.flatMap_nil,List.append_nil];unfold Bt;rw[if_pos rfl,h.hR];dsimp only;rw[List.map_congr_left (g:=id) fun e _=>by rw[Gj];rfl,List.map_id]
 have p2:(esR.flatMap (Bt bks)).Perm (esF.map (fun e=>⟨pj Bj e.nm,e.kd,e.tg⟩)++[⟨pj Dg GN,2,gU⟩,⟨pj Dg sX,1,gF⟩]):=by
  refine(h.pR.flatMap_right _).trans ?_;rw[List.flatMap_append,FZ (l:=(zs.take k).map (Se gF)) fun e he=>by obtain⟨z,_,rfl⟩:=List.mem_map.mp he;rfl,List.append_nil,List.flatMap_cons,List.flatMap_cons,List.flatMap_cons,List.flatMap_nil,List.append_nil];have a1:Bt bks ⟨Bj,2,gU⟩=esF.map (fun e=>⟨pj Bj e.nm,e.kd,e.tg⟩):=by
   unfold Bt;rw[if_pos rfl,h.hU]
  have a2:Bt bks ⟨BK,1,gF⟩=[]:=by
   unfold Bt;rw[if_neg (show ¬(1:Int)=2 by decide)]
  have a3:Bt bks ⟨Dg,2,gI⟩=[⟨pj Dg GN,2,gU⟩,⟨pj Dg sX,1,gF⟩]:=by
   unfold Bt;rw[if_pos rfl,h.hI];rfl
  rw[a1,a2,a3,List.nil_append]
 have p3:((esR.flatMap (Bt bks)).flatMap (Bt bks)).Perm (esF.map (fun e=>⟨pj CF e.nm,e.kd,e.tg⟩)):=by
  refine(p2.flatMap_right _).trans ?_;rw[List.flatMap_append,FZ (l:=esF.map (fun e=>⟨pj Bj e.nm,e.kd,e.tg⟩)) fun e he=>by obtain⟨z,hz,rfl⟩:=List.mem_map.mp he;exact h.files z hz,List.nil_append,List.flatMap_cons,List.flatMap_cons,List.flatMap_nil,List.append_nil];have a1:Bt bks ⟨pj Dg GN,2,gU⟩=esF.map (fun e=>⟨pj CF e.nm,e.kd,e.tg⟩):=by
   unfold Bt;rw[if_pos rfl,h.hU];dsimp only;rw[V2]
  have a2:Bt bks ⟨pj Dg sX,1,gF⟩=[]:=by
   unfold Bt;rw[if_neg (show ¬(1:Int)=2 by decide)]
  rw[a1,a2,List.append_nil]
 have p4:((esR.flatMap (Bt bks)).flatMap (Bt bks)).flatMap (Bt bks)=[]:=FZ fun e he=>by
  obtain⟨z,hz,rfl⟩:=List.mem_map.mp (p3.mem_iff.mp he);exact h.files z hz
 refine⟨?_,?_⟩
 ·show(_++([(⟨EM,2,gR⟩:En)].flatMap (Bt bks)++((([(⟨EM,2,gR⟩:En)].flatMap (Bt bks)).flatMap (Bt bks))++(((([(⟨EM,2,gR⟩:En)].flatMap (Bt bks)).flatMap (Bt bks)).flatMap (Bt bks))++[])))).Perm _;rw[l1,List.append_nil];exact(List.Perm.refl _).append (h.pR.append (p2.append p3))
 ·show(([(⟨EM,2,gR⟩:En)].flatMap (Bt bks)).flatMap (Bt bks)).flatMap (Bt bks) |>.flatMap (Bt bks) |> (· = [])
  rw[l1];exact p4
variable {bks:List Bk}{zs:List Str}{m k:Nat}{gF gU gI gR:Tg}{esF esR:List En}
theorem Tree.namesF (h:Tree bks zs m k gF gU gI gR esF esR):(∀e∈esF,Bf (.str e.nm)=true)/\(esF.map (·.nm)).Nodup/\esF.length<=16:=by
 refine⟨fun e he=>?_,?_,?_⟩
 ·obtain⟨z,hz,rfl⟩:=List.mem_map.mp (h.pU.mem_iff.mp he);exact(h.hz z (List.mem_of_mem_take hz)).name
 ·rw[(h.pU.map _).nodup_iff,List.map_map];show((zs.take m).map fun z=>z).Nodup;rw[List.map_id'];exact h.nd.sublist (List.take_sublist _ _)
 ·rw[h.pU.length_eq,List.length_map,List.length_take];have:=h.lm;omega
def FI (zs:List Str)(k:Nat):List Str:=[Bj,BK,Dg]++zs.take k
theorem MN (hz:∀z∈zs,T4 z)(nd:zs.Nodup):(∀z∈FI zs k,Bf (.str z)=true)/\(FI zs k).Nodup/\GX∉FI zs k:=by
 have l0:∀z∈zs,z≠Bj/\z≠BK/\z≠Dg/\z≠GX:=fun z hz'=>by
  refine⟨fun e=>?_,fun e=>?_,fun e=>?_,fun e=>?_⟩<;>
  ·have:=(hz z hz').last;rw[e] at this;exact absurd this (by decide +kernel)
 refine⟨fun z hz'=>?_,?_,fun hz'=>?_⟩
 ·rcases List.mem_append.mp hz' with hz'|hz'
  ·have:∀z∈[Bj,BK,Dg],Bf (.str z)=true:=by decide +kernel
   exact this z hz'
  ·exact(hz z (List.mem_of_mem_take hz')).name
 ·refine List.nodup_append.mpr ⟨by decide +kernel,nd.sublist (List.take_sublist _ _),fun a ha b hb e=>?_⟩;obtain⟨h1,h2,h3,_⟩:=l0 b (List.mem_of_mem_take hb);subst e;rcases List.mem_cons.mp ha with e|ha
  ·exact h1 e
  ·rcases List.mem_cons.mp ha with e|ha
   ·exact h2 e
   ·exact h3 (List.mem_singleton.mp ha)
 ·rcases List.mem_append.mp hz' with hz'|hz'
  ·exact absurd hz' (by decide +kernel)
  ·exact(l0 _ (List.mem_of_mem_take hz')).2.2.2 rfl
theorem JT:([(⟨Bj,2,gU⟩:En),⟨BK,1,gF⟩,⟨Dg,2,gI⟩]++(zs.take k).map (Se gF)).map (·.nm)=FI zs k:=by
 rw[List.map_append,List.map_map];show([Bj,BK,Dg]++(zs.take k).map fun z=>z)=_;rw[List.map_id'];rfl
theorem Tree.namesR (h:Tree bks zs m k gF gU gI gR esF esR):(∀z∈FI zs k,Bf (.str z)=true)/\(FI zs k).Nodup/\GX∉FI zs k/\(esR.map (·.nm)).Perm (FI zs k):=by
 obtain⟨h1,h2,h3⟩:=MN (k:=k) h.hz h.nd;refine⟨h1,h2,h3,?_⟩;rw[<-JT (gU:=gU) (gF:=gF) (gI:=gI)];exact h.pR.map _
theorem Gx (h:Tree bks zs m k gF gU gI gR esF esR):(D6 zs k gF gU gI gR esF).map (·.nm)=[EM]++(FI zs k++((esF.map (fun e=>pj Bj e.nm)++[GN,sX].map (pj Dg))++esF.map (fun e=>pj CF e.nm))):=by
 unfold D6 FI;simp only[List.map_append,List.map_map,List.map_cons,List.map_nil]
 congr 3
 show(zs.take k).map (fun z=>z)=_;rw[List.map_id']
theorem Kc {w:Str}{l:List Str}(h:l.Nodup):(l.map (pj w)).Nodup:=by
 refine List.pairwise_map.mpr (h.imp fun ne e=>ne (Q3 e))
theorem Vz {a b:List Str}(f:Str->Str){u v:Str}(ha:∀x∈a,f x=u)(hb:∀x∈b,f x=v)(ne:u≠v):∀x∈a,∀y∈b,x≠y:=fun x hx y hy e=>ne (by rw[<-ha x hx,<-hb y hy,e])
theorem Tree.rps (h:Tree bks zs m k gF gU gI gR esF esR):(∀x∈FI zs k,rp x=EM)/\(∀x∈esF.map (fun e=>pj Bj e.nm),rp x=Bj)/\(∀x∈[GN,sX].map (pj Dg),rp x=Dg)/\(∀x∈esF.map (fun e=>pj CF e.nm),rp x=CF):=by
 have f:=h.namesF.1;refine⟨fun x hx=>L8 (Du (h.namesR.1 x hx)),fun x hx=>?_,fun x hx=>?_,fun x hx=>?_⟩
 ·obtain⟨e,he,rfl⟩:=List.mem_map.mp hx;exact RK (Du (f e he))
 ·obtain⟨z,hz,rfl⟩:=List.mem_map.mp hx;refine RK (Du ?_);have:∀z∈[GN,sX],Bf (.str z)=true:=by decide +kernel
  exact this z hz
 ·obtain⟨e,he,rfl⟩:=List.mem_map.mp hx;exact RK (Du (f e he))
theorem K5:Bj≠EM/\Dg≠EM/\CF≠EM/\Bj≠Dg/\Bj≠CF/\Dg≠CF:=by decide +kernel
theorem Tree.nodup (h:Tree bks zs m k gF gU gI gR esF esR):((D6 zs k gF gU gI gR esF).map (·.nm)).Nodup:=by
 rw[Gx h];obtain⟨r1,r2,r3,r4⟩:=h.rps;obtain⟨n1,n2,n3,n4,n5,n6⟩:=K5;have nF:=h.namesF.2.1;have d2:(esF.map (fun e=>pj Bj e.nm)).Nodup:=by
  have:=Kc (w:=Bj) nF;rw[List.map_map] at this;exact this
 have d4:(esF.map (fun e=>pj CF e.nm)).Nodup:=by
  have:=Kc (w:=CF) nF;rw[List.map_map] at this;exact this
 have d3:([GN,sX].map (pj Dg)).Nodup:=Kc (by decide +kernel);have d23:=List.nodup_append.mpr ⟨d2,d3,Vz rp r2 r3 n4⟩;have d234:=List.nodup_append.mpr ⟨d23,d4,fun x hx y hy=>by
  rcases List.mem_append.mp hx with hx|hx
  ·exact Vz rp r2 r4 n5 x hx y hy
  ·exact Vz rp r3 r4 n6 x hx y hy⟩
 have d1:=List.nodup_append.mpr ⟨h.namesR.2.1,d234,fun x hx y hy=>by
  rcases List.mem_append.mp hy with hy|hy
  ·rcases List.mem_append.mp hy with hy|hy
   ·exact Vz rp r1 r2 n1.symm x hx y hy
   ·exact Vz rp r1 r3 n2.symm x hx y hy
  ·exact Vz rp r1 r4 n3.symm x hx y hy⟩
 refine List.nodup_append.mpr ⟨by simp,d1,fun x hx y hy e=>?_⟩;rw[List.mem_singleton.mp hx] at e;rcases List.mem_append.mp hy with hy|hy
 ·exact LI (h.namesR.1 y hy) e.symm
 ·have re:rp EM=EM:=L8 (by decide +kernel);rw[e] at re;rcases List.mem_append.mp hy with hy|hy
  ·rcases List.mem_append.mp hy with hy|hy
   ·exact n1 (by rw[<-r2 y hy,re,<-e])
   ·exact n2 (by rw[<-r3 y hy,re,<-e])
  ·exact n3 (by rw[<-r4 y hy,re,<-e])
theorem Jq {es:List En}(nd:(es.map (·.nm)).Nodup){x:En}(hx:x∈es):Ga es x.nm=some (x.kd,x.tg):=by
 unfold Ga;cases h:es.find? fun y=>decide (y.nm=x.nm) with
 |none=>exact absurd (decide_eq_true rfl) (List.find?_eq_none.mp h x hx)
 |some y=>
  have ey:y.nm=x.nm:=by simpa using List.find?_some h
  rw[Cy nd (List.mem_of_find?_eq_some h) hx ey];rfl
theorem Vb {es:List En}{z:Str}(h:z∉es.map (·.nm)):Ga es z=none:=by
 unfold Ga;rw[List.find?_eq_none.mpr fun x hx c=>h (by rw[<-of_decide_eq_true c];exact List.mem_map_of_mem hx)];rfl
theorem Rb {es:List En}{z:Str}(h:z∈es.map (·.nm)):∃kg,Ga es z=some kg:=by
 unfold Ga;cases e:es.find? fun y=>decide (y.nm=z) with
 |none=>
  obtain⟨x,hx,rfl⟩:=List.mem_map.mp h;exact absurd (decide_eq_true rfl) (List.find?_eq_none.mp e x hx)
 |some y=>exact⟨_,rfl⟩
theorem Tree.finds (h:Tree bks zs m k gF gU gI gR esF esR):Ga esR Bj=some (2,gU)/\Ga esR BK=some (1,gF)/\Ga esR Dg=some (2,gI)/\Ga esR GX=none:=by
 obtain⟨_,n2,n3,n4⟩:=h.namesR;have nd:(esR.map (·.nm)).Nodup:=n4.nodup_iff.mpr n2;refine⟨Jq nd (x:=⟨Bj,2,gU⟩) (h.pR.mem_iff.mpr (List.mem_append_left _ (by simp))),Jq nd (x:=⟨BK,1,gF⟩) (h.pR.mem_iff.mpr (List.mem_append_left _ (by simp))),Jq nd (x:=⟨Dg,2,gI⟩) (h.pR.mem_iff.mpr (List.mem_append_left _ (by simp))),Vb fun c=>n3 (n4.mem_iff.mp c)⟩
def N4 (w x:Str):Bool:=!decide (x=EM)&&decide (rp x=w)
theorem Cj {l:List Str}{u w:Str}(hl:∀x∈l,rp x=u)(ne:u≠w):l.filter (N4 w)=[]:=List.filter_eq_nil_iff.mpr fun x hx c=>by
 unfold N4 at c;rw[Bool.and_eq_true] at c;exact ne (by rw[<-hl x hx];exact of_decide_eq_true c.2)
theorem Hl {l:List Str}{w:Str}(hl:∀x∈l,rp x=w)(ne:∀x∈l,x≠EM):l.filter (N4 w)=l:=List.filter_eq_self.mpr fun x hx=>by
 unfold N4;rw[decide_eq_false (ne x hx),decide_eq_true (hl x hx)];rfl
theorem IX (w:Str):[EM].filter (N4 w)=[]:=by
 unfold N4;rw[List.filter_cons,decide_eq_true rfl];rfl
theorem Wp:rp EM=EM:=L8 (by decide +kernel)
theorem WV {l:List Str}{w:Str}(hl:∀x∈l,rp x=w)(ne:w≠EM):∀x∈l,x≠EM:=fun x hx e=>ne (by rw[<-hl x hx,e,Wp])
structure Plc (bks:List Bk) (tn:List Str) (esR:List En) (w:Str) (ini:List Str) (esl:List En):Prop where
 cd:∀n,Ap (pj w n)=Iu 47 ini n
 nm:∀z∈ini,Bf (.str z)=true
 ln:ini.length<=2
 lw:w.length<=5
 al:∃fs,AS bks esR ini=some (fs++[esl])
 th:(tn.filter (N4 w)).Perm (esl.map fun e=>pj w e.nm)
theorem Tree.places (h:Tree bks zs m k gF gU gI gR esF esR):Plc bks ((D6 zs k gF gU gI gR esF).map (·.nm)) esR Bj [Bj] esF/\Plc bks ((D6 zs k gF gU gI gR esF).map (·.nm)) esR CF [Dg,GN] esF/\Plc bks ((D6 zs k gF gU gI gR esF).map (·.nm)) esR Dg [Dg] [⟨GN,2,gU⟩,⟨sX,1,gF⟩]/\Plc bks ((D6 zs k gF gU gI gR esF).map (·.nm)) esR EM [] esR:=by
 obtain⟨f1,f2,f3,f4⟩:=h.finds;obtain⟨r1,r2,r3,r4⟩:=h.rps;obtain⟨n1,n2,n3,n4,n5,n6⟩:=K5;rw[Gx h];refine⟨⟨fun n=>Ff n1,by decide +kernel,by decide,by decide +kernel,⟨[esR],?_⟩,?_⟩,⟨fun n=>?_,by decide +kernel,by decide,by decide +kernel,⟨[esR,[⟨GN,2,gU⟩,⟨sX,1,gF⟩]],?_⟩,?_⟩,⟨fun n=>Ff n2,by decide +kernel,by decide,by decide +kernel,⟨[esR],?_⟩,?_⟩,⟨fun n=>by rw[Gj];rfl,(fun _ h=>nomatch h),by decide,by decide +kernel,⟨[],rfl⟩,?_⟩⟩
 ·simp only[AS,f1,h.hU,if_true,Option.bind_some,Option.map_some];rfl
 ·simp only[List.filter_append];rw[IX,Cj r1 n1.symm,Cj r3 n4.symm,Cj r4 n5.symm,Hl r2 (WV r2 n1)];simp
 ·rw[Ff n3];show _=Ap Dg++47::(Ap GN++47::Ap n);rw[show Ap CF=Ap Dg++47::Ap GN by decide +kernel,List.append_assoc];rfl
 ·have fi:Ga [⟨GN,2,gU⟩,⟨sX,1,gF⟩] GN=some (2,gU):=Jq (x:=⟨GN,2,gU⟩) (by show[GN,sX].Nodup;decide +kernel) (by simp);simp only[AS,f3,h.hI,fi,h.hU,if_true,Option.bind_some,Option.map_some];rfl
 ·simp only[List.filter_append];rw[IX,Cj r1 n3.symm,Cj r3 n6,Cj r2 n5,Hl r4 (WV r4 n3)];simp
 ·simp only[AS,f3,h.hI,if_true,Option.bind_some,Option.map_some];rfl
 ·simp only[List.filter_append];rw[IX,Cj r1 n2.symm,Cj r2 n4,Cj r4 n6.symm,Hl r3 (WV r3 n2)];simp
 ·simp only[List.filter_append];rw[IX,Cj r2 n1,Cj r3 n2,Cj r4 n3,Hl r1 fun x hx=>LI (h.namesR.1 x hx)];simp only[List.nil_append,List.append_nil];refine h.namesR.2.2.2.symm.trans ?_;rw[List.map_congr_left fun e _=>(Gj e.nm).symm]
end
section
variable {bks:List Bk}{zs:List Str}{m k:Nat}{gF gU gI gR:Tg}{esF esR:List En}
theorem Nj {c:Nat}{t e:Str}:∀(ws:List Str),Iu c (ws++[t]) e=Iu c ws t++c::Ap e
 |[]=>rfl
 |w::ws=>by
  show Ap w++c::Iu c (ws++[t]) e=(Ap w++c::Iu c ws t)++c::Ap e;rw[Nj ws,List.append_assoc];rfl
theorem Uw:SL=⟨#[47]⟩:=by decide +kernel
theorem Pd:Bf (.str EM)=false:=by decide +kernel
theorem nameA {n:Str}(h:Bf (.str n)=true):Bf (.str (n++PySem.Str.ofString "A"))=false/\47∉Ap (n++PySem.Str.ofString "A"):=by
 have eA:Ap (PySem.Str.ofString "A")=[65]:=by decide +kernel
 refine⟨?_,?_⟩
 ·cases e:Bf (.str (n++PySem.Str.ofString "A")) with
  |false=>rfl
  |true=>
   have h':(decide ((1:Int)<=(n++PySem.Str.ofString "A").length)&&decide (((n++PySem.Str.ofString "A").length:Int)<=8)&&Bg LN (n++PySem.Str.ofString "A"))=true:=e;rw[Bool.and_eq_true] at h';have:=h'.2;unfold Bg at this;rw[List.all_eq_true] at this;exact absurd (this 65 (by show 65∈Ap (n++PySem.Str.ofString "A");rw[A6,eA];simp)) (by decide +kernel)
 ·rw[A6,eA];intro h';rcases List.mem_append.mp h' with h'|h'
  ·exact Du h h'
  ·exact absurd (List.mem_singleton.mp h') (by decide)
def Ms (bks:List Bk)(esR:List En)(z:Str):Prop:=z.length<=1000/\z≠EM/\∃ini s,PySem.Txt.split z SL=ini++[s]/\(By (ini++[s])=false\/AS bks esR ini=none)
def VL (bks:List Bk)(esR:List En)(z:Str)(ini:List Str)(s:Str)(esl:List En):Prop:=z.length<=1000/\z≠EM/\PySem.Txt.split z SL=ini++[s]/\By (ini++[s])=true/\∃fs,AS bks esR ini=some (fs++[esl])
theorem Dx {z:Str}{a b:List Nat}{c:Nat}(h:Ap z=a++c::b):z≠EM:=fun e=>by
 have:Ap z=[]:=by rw[e];rfl
 rw[this] at h;exact absurd h.symm (by simp)
theorem DF {z t:Str}{ini:List Str}(h:Ap z=Iu 47 ini t)(hi:∀w∈ini,47∉Ap w)(ht:47∉Ap t):PySem.Txt.split z SL=ini++[t]:=by
 rw[Uw];exact Qh h hi ht
theorem Plc.good {tn:List Str}{w n:Str}{ini:List Str}{esl:List En}(p:Plc bks tn esR w ini esl)(hn:Bf (.str n)=true):VL bks esR (pj w n) ini n esl/\(pj w n).length<=14:=by
 have l:(pj w n).length<=14:=by
  have h1:=(De hn).2;have h2:=p.lw
  by_cases e:w=EM
  ·rw[e,Gj];omega
  ·rw[<-Az,Ff e,List.length_append,List.length_cons,Az,Az];omega
 refine⟨⟨by omega,fun e=>?_,DF (p.cd n) (fun z hz=>Du (p.nm z hz)) (Du hn),?_,p.al⟩,l⟩
 ·have h1:=(De hn).1
  by_cases e':w=EM
  ·rw[e',Gj] at e;exact LI hn e
  ·exact Dx (Ff e') e
 ·unfold By;rw[Bool.and_eq_true,decide_eq_true_eq,List.all_eq_true,List.length_append];refine⟨by have:=p.ln;rw[List.length_singleton];omega,fun z hz=>?_⟩;rcases List.mem_append.mp hz with hz|hz
  ·exact p.nm z hz
  ·rw[List.mem_singleton.mp hz];exact hn
theorem LL {l:List Str}{z:Str}(hz:z∈l)(h:Bf (.str z)=false):By l=false:=by
 cases e:By l with
 |false=>rfl
 |true=>
  unfold By at e;rw[Bool.and_eq_true,List.all_eq_true] at e;rw[e.2 z hz] at h;cases h
theorem Q5 {z:Str}{l:List Nat}(h:Ap z=l){n:Nat}(hl:l.length<=n):z.length<=n:=by rw[<-Az,h];exact hl
theorem Tree.bad (h:Tree bks zs m k gF gU gI gR esF esR){tn:List Str}{w n:Str}{ini:List Str}{esl:List En}(p:Plc bks tn esR w ini esl)(hn:Bf (.str n)=true) :
  Ms bks esR (PySem.Str.ofString "file/"++n)/\Ms bks esR (PySem.Str.ofString "none/"++n)/\Ms bks esR (PySem.Str.ofString "up/x/"++n)/\Ms bks esR (pj w n++PySem.Str.ofString "/")/\Ms bks esR (PySem.Str.ofString "dir//"++n)/\Ms bks esR (PySem.Str.ofString "dir/"++n++PySem.Str.ofString "A"):=by
 obtain⟨f1,f2,f3,f4⟩:=h.finds;have ln:=(De hn).2;have no:=Du hn;have c1:Ap (PySem.Str.ofString "file/"++n)=Ap BK++47::Ap n:=by rw[A6,show Ap (PySem.Str.ofString "file/")=Ap BK++[47] by decide +kernel,List.append_assoc];rfl
 have c2:Ap (PySem.Str.ofString "none/"++n)=Ap GX++47::Ap n:=by rw[A6,show Ap (PySem.Str.ofString "none/")=Ap GX++[47] by decide +kernel,List.append_assoc];rfl
 have c3:Ap (PySem.Str.ofString "up/x/"++n)=Ap Dg++47::(Ap sX++47::Ap n):=by rw[A6,show Ap (PySem.Str.ofString "up/x/")=Ap Dg++47::(Ap sX++[47]) by decide +kernel];simp
 have c4:Ap (pj w n++PySem.Str.ofString "/")=Iu 47 (ini++[n]) EM:=by rw[A6,p.cd,Nj];rfl
 have c5:Ap (PySem.Str.ofString "dir//"++n)=Ap Bj++47::(Ap EM++47::Ap n):=by rw[A6,show Ap (PySem.Str.ofString "dir//")=Ap Bj++47::(Ap EM++[47]) by decide +kernel];simp
 have c6:Ap (PySem.Str.ofString "dir/"++n++PySem.Str.ofString "A")=Ap Bj++47::Ap (n++PySem.Str.ofString "A"):=by rw[A6,A6,A6,show Ap (PySem.Str.ofString "dir/")=Ap Bj++[47] by decide +kernel];simp
 have lF:(Ap BK).length<=5/\(Ap GX).length<=5/\(Ap Dg).length<=5/\(Ap sX).length<=5/\(Ap Bj).length<=5/\(Ap EM).length<=5/\(Ap (PySem.Str.ofString "A")).length<=5/\(Ap (PySem.Str.ofString "/")).length<=5:=by decide +kernel
 have nF:47∉Ap BK/\47∉Ap GX/\47∉Ap Dg/\47∉Ap sX/\47∉Ap Bj/\47∉Ap EM:=by decide +kernel
 have lc:(Ap n).length<=8:=by rw[Az];exact ln
 obtain⟨l1,l2,l3,l4,l5,l6,l7,l8⟩:=lF;obtain⟨n1,n2,n3,n4,n5,n6⟩:=nF;have sing:∀{a:Str},47∉Ap a->∀w∈[a],47∉Ap w:=fun ha w hw=>by rw[List.mem_singleton.mp hw];exact ha
 have two:∀{a b:Str},47∉Ap a->47∉Ap b->∀w∈[a,b],47∉Ap w:=fun ha hb w hw=>by
  rcases List.mem_cons.mp hw with rfl|hw
  ·exact ha
  ·exact sing hb w hw
 refine⟨⟨Q5 c1 (by simp only[List.length_append,List.length_cons];omega),Dx c1,[BK],n,DF c1 (sing n1) no,.inr ?_⟩,⟨Q5 c2 (by simp only[List.length_append,List.length_cons];omega),Dx c2,[GX],n,DF c2 (sing n2) no,.inr ?_⟩,⟨Q5 c3 (by simp only[List.length_append,List.length_cons];omega),Dx c3,[Dg,sX],n,DF c3 (two n3 n4) no,.inr ?_⟩,⟨?_,?_,ini++[n],EM,DF c4 (fun z hz=>?_) n6,.inl (LL (List.mem_append_right _ List.mem_cons_self) Pd)⟩,⟨Q5 c5 (by simp only[List.length_append,List.length_cons];omega),Dx c5,[Bj,EM],n,DF c5 (two n5 n6) no,.inl (LL (z:=EM) (by simp) Pd)⟩,⟨Q5 c6 (by simp only[A6,List.length_append,List.length_cons];omega),Dx c6,[Bj],n++PySem.Str.ofString "A",DF c6 (sing n5) (nameA hn).2,.inl (LL (List.mem_append_right _ List.mem_cons_self) (nameA hn).1)⟩⟩
 ·simp only[AS,f2];rfl
 ·simp only[AS,f4]
 ·have fi:Ga [⟨GN,2,gU⟩,⟨sX,1,gF⟩] sX=some (1,gF):=Jq (x:=⟨sX,1,gF⟩) (by show[GN,sX].Nodup;decide +kernel) (by simp);simp only[AS,f3,h.hI,fi,if_true,Option.bind_some];rfl
 ·have:=(p.good hn).2;rw[<-Az,A6,List.length_append,Az];omega
 ·intro e;have e':=congrArg Ap e;rw[A6] at e';exact absurd e' (by rw[show Ap (PySem.Str.ofString "/")=[47] by decide +kernel,show Ap EM=[] from rfl];simp)
 ·rcases List.mem_append.mp hz with hz|hz
  ·exact Du (p.nm z hz)
  ·rw[List.mem_singleton.mp hz];exact no
theorem TK {esl:List En}{w n:Str}{T:List Str}(pT:T.Perm (esl.map fun e=>pj w e.nm))(l16:esl.length<=16)(nd:(esl.map (·.nm)).Nodup)(e:Option (Int×Tg)):(e=none\/pj w n∈T\/T.length<16)↔(Iq esl n e).length<=16:=by
 cases e with
 |none=>
  refine⟨fun _=>?_,fun _=>.inl rfl⟩;unfold Iq;rw[List.append_nil];exact Nat.le_trans (List.length_filter_le _ _) l16
 |some kg=>
  have lT:T.length=esl.length:=by rw[pT.length_eq,List.length_map]
  by_cases hn:n∈esl.map (·.nm)
  ·obtain⟨kg',hk⟩:=Rb hn;rw[Pi nd hk];refine⟨fun _=>l16,fun _=>.inr (.inl (pT.mem_iff.mpr ?_))⟩;obtain⟨x,hx,rfl⟩:=List.mem_map.mp hn;exact List.mem_map_of_mem (f:=fun e:En=>pj w e.nm) hx
  ·have hl:(Iq esl n (some kg)).length=esl.length+1:=by
    unfold Iq;rw[List.filter_eq_self.mpr fun x hx=>by rw[decide_eq_false fun e=>hn (by rw[<-e];exact List.mem_map_of_mem hx)];rfl,List.length_append];rfl
   rw[hl];refine⟨fun h=>?_,fun h=>.inr (.inr (by omega))⟩;rcases h with h|h|h
   ·cases h
   ·obtain⟨x,hx,e⟩:=List.mem_map.mp (pT.mem_iff.mp h);exact absurd (by rw[<-Q3 e];exact List.mem_map_of_mem hx) hn
   ·omega
end
section
variable {P:Program}{w:World}{K:W.Frag}{mg:Str->Option Value}{base:Heap}{f Ah Aa Ad:Addr}{XC:Nat->Addr}{fd:FuncData}
theorem made {C:Addr}{H1 H2:Hp}{x dx:Addr}(nx:H1 x=none)(ndx:H1 dx=none)(k:∀b o,(upd (upd H1 dx (.own x)) x (.ins C dx [])) b=some o->b≠x->H2 b=some o):Am H1 H2:=fun b o e=>by
 have n1:b≠x:=A4 e nx;have n2:b≠dx:=A4 e ndx;exact k b o (by rw[Ag n1,Ag n2];exact e) n1
theorem Ma {tr:TA}{v:V}{σ:St}{H:Hp}{Q:List V->Hp->Prop}(h:tr σ H fun xs H2=>Q (v::xs) H2):IC (tC v) tr σ H Q:=h
theorem Kz {σ:St}{H:Hp}{Q:List V->Hp->Prop}(h:Q [] H):LP σ H Q:=h
theorem Kt.seq {H H':Hp}{a:Addr}{xs:List V}(e:Kt H H')(h:AW K H a xs):AW K H' a xs:=by
 rcases h with(h|⟨o,h⟩)|h
 ·exact .inl (.inl (e _ _ h (by intro C d fs z;cases z) (by intro kvs z;cases z)))
 ·exact .inl (.inr ⟨o,e _ _ h (by intro C d fs z;cases z) (by intro kvs z;cases z)⟩)
 ·exact .inr h
theorem OT {α:Type}{H:Hp}{F:α->En}:∀{ys:List (α×V)},(∀q∈ys,∃t,q.2=V.ref t/\Fj H (t,F q.1))->∃rs:List (Addr×En),ys.map (·.2)=rs.map (fun p=>V.ref p.1)/\rs.map (·.2)=(ys.map (·.1)).map F/\∀p∈rs,Fj H p
 |[],_=>⟨[],rfl,rfl,fun _ h=>nomatch h⟩
 |y::ys,h=>by
  obtain⟨rs,e1,e2,e3⟩:=OT fun q hq=>h q (List.mem_cons_of_mem _ hq)
  obtain⟨t,et,ht⟩:=h y List.mem_cons_self;refine⟨(t,F y.1)::rs,by rw[List.map_cons,List.map_cons,e1,et],by rw[List.map_cons,List.map_cons,List.map_cons,e2],fun p hp=>?_⟩;rcases List.mem_cons.mp hp with rfl|hp
  ·exact ht
  ·exact e3 p hp
theorem Ml {J:It} {fr:List (Option Nat)} {k:Nat} {te:TE} {Q:VK} {σ:St} {H:Hp} {zs:List Str} {g:Tg} (hJ:HF J H (zs.map V.str)) (hn:zs.length<=1000)
  (helt:∀z∈zs,∀(H':Hp) (R:VK),Am H H'->(∀t H'',Am H' H''->Fj H'' (t,Se g z)->R (.ref t) H'')->te ((stC fr σ).set k (some (.str z))) H' R)
  (hQ:∀l H' (rs:List (Addr×En)),H l=none->Am H H'->H' l=some (.lst (rs.map fun p=>V.ref p.1))->rs.map (·.2)=zs.map (Se g)->(∀p∈rs,Fj H' p)->Q (.ref l) H'):Di fr (Au k) Qv te σ Q J H:=by
 refine HB (ps:=zs) (g:=V.str) (fun _=>true) (fun z y H'=>∃t,y=V.ref t/\Fj H' (t,Se g z)) (fun x v H1 H2 ⟨t,e,h⟩ s=>⟨t,e,h.same s⟩) (fun x v H1 l us us' ⟨t,e,h⟩ hl=>⟨t,e,h.tup fun c xs w=>by rw[Ag fun w'=>by rw[w',hl] at w;cases w];exact w⟩) hJ (by omega) (fun x hx H' R s' hR=>hR H' (Am.refl _)) (fun x hx _ H' R s' hR=>helt x hx H' R s' fun t H'' s'' he=>hR _ _ s'' ⟨t,rfl,he⟩) fun l H' ys nl s' hl e1 hys=>?_
 obtain⟨rs,e2,e3,e4⟩:=OT (F:=Se g) hys;rw[e2] at hl;rw[e1,List.filter_eq_self.mpr fun _ _=>rfl] at e3;exact hQ l H' rs nl s' hl e3 e4
theorem ID {H:Hp}{l:Addr}{rs:List (Addr×En)}{R:VK}(hl:AW K H l (rs.map fun p=>V.ref p.1))(few:rs.length<=63)(hr:∀p∈rs,Fj H p)(nd:((rs.map (·.2)).map (·.nm)).Nodup)(hR:∀p (rs':List (Addr×En)) H',Am H H'->rs'.Perm rs->PyProof.Rows.sortedS ((rs'.map (·.2)).map (·.nm))=true->H' p=some (.lst (rs'.map fun p=>V.ref p.1))->R (.ref p) H'):Pe K [.ref l] H R:=by
 refine⟨l,rs.map fun p=>(p.1,p.2.nm),rfl,by rw[List.map_map];exact hl,by rw[List.length_map];omega,fun t ht=>?_,?_,fun us p up so np=>?_⟩
 ·obtain⟨p,hp,rfl⟩:=List.mem_map.mp ht;obtain⟨tb,h3,_⟩:=hr p hp;exact⟨_,A0.of h3⟩
 ·rw[List.map_map];rw[List.map_map] at nd;exact nd
 ·obtain⟨rs',pm,rfl⟩:=HD up rfl;rw[List.map_map];refine hR p rs' _ (Ai np _) pm ?_ Ac;rw[List.map_map] at so ⊢;exact so
theorem MA {H H':Hp}{tp fp:Addr}{rs rs':List (Addr×En)}(hr:∀p∈rs,Fj H p)(pm:rs'.Perm rs)(s:Am H H')(n1:H' tp=none)(n2:(upd H' tp (.tup (rs'.map fun p=>V.ref p.1))) fp=none):Rep NL (upd (upd H' tp (.tup (rs'.map fun p=>V.ref p.1))) fp (.tup [.int 2,.ref tp])) (Df (.folder (rs'.map (·.2)))) (.ref fp)/\Am H' (upd (upd H' tp (.tup (rs'.map fun p=>V.ref p.1))) fp (.tup [.int 2,.ref tp])):=by
 have s4:=Ai n1 (.tup (rs'.map fun p=>V.ref p.1));have s5:=Ai n2 (.tup [.int 2,.ref tp]);exact⟨⟨fp,_,rfl,Ac,_,_,rfl,rfl,_,_,rfl,⟨tp,_,rfl,s5.get Ac,G8 fun p hp=>(hr p (pm.mem_iff.mp hp)).same (s.trans (s4.trans s5))⟩,rfl⟩,s4.trans s5⟩
theorem Mj (z:Str){i:Int}(h0:0<=i)(h1:i<=z.length):Ap (PySem.Txt.slice z (some i) none)=(Ap z).drop i.toNat:=by
 have hz:=Az z;show Ap (StrLaws.sliceText z (some i) none)=_;rw[StrLaws.sliceText_from ⟨h0,by rw[hz];exact h1⟩];refine List.take_of_length_le ?_;rw[List.length_drop];show(Ap z).length-i.toNat<=(((Ap z).length:Int)-i).toNat;omega
theorem T8 (x:Str)(ns:List Str):Wy (V.str x) (ns.map V.str)=decide (x∈ns):=by
 unfold Wy;rw[List.any_map,Bool.eq_iff_iff,List.any_eq_true,decide_eq_true_eq];constructor
 ·rintro⟨y,hy,e⟩
  have:y=x:=of_decide_eq_true (show decide (y=x)=true from e);rw[<-this];exact hy
 ·intro h;exact⟨x,h,(show decide (x=x)=true from decide_eq_true rfl)⟩
theorem Tree.few {bks:List Bk}{zs:List Str}{m k:Nat}{gF gU gI gR:Tg}{esF esR:List En}(h:Tree bks zs m k gF gU gI gR esF esR):(D6 zs k gF gU gI gR esF).length<=63/\∀x∈D6 zs k gF gU gI gR esF,x.nm.length<=900:=by
 obtain⟨f1,_,f3⟩:=h.namesF;refine⟨?_,fun x hx=>?_⟩
 ·unfold D6;simp only[List.length_append,List.length_map,List.length_cons,List.length_nil,List.length_take];have:=h.lk;omega
 ·have hx':x.nm∈(D6 zs k gF gU gI gR esF).map (·.nm):=List.mem_map_of_mem hx;rw[Gx h] at hx';have pl:∀w n:Str,w.length<=5->n.length<=8->(pj w n).length<=900:=fun w n hw hn=>by
   by_cases e:w=EM
   ·rw[e,Gj];omega
   ·rw[<-Az,Ff e,List.length_append,List.length_cons,Az,Az];omega
  have lw:Bj.length<=5/\Dg.length<=5/\CF.length<=5/\GN.length<=8/\sX.length<=8/\EM.length<=8:=by decide +kernel
  obtain⟨l1,l2,l3,l4,l5,l6⟩:=lw;rcases List.mem_append.mp hx' with hx'|hx'
  ·rw[List.mem_singleton.mp hx'];omega
  ·rcases List.mem_append.mp hx' with hx'|hx'
   ·have:=(De (h.namesR.1 _ hx')).2;omega
   ·rcases List.mem_append.mp hx' with hx'|hx'
    ·rcases List.mem_append.mp hx' with hx'|hx'
     ·obtain⟨e,he,ee⟩:=List.mem_map.mp hx';rw[<-ee];exact pl _ _ l1 (De (f1 e he)).2
     ·obtain⟨e,he,ee⟩:=List.mem_map.mp hx';rw[<-ee];refine pl _ _ l2 ?_;rcases List.mem_cons.mp he with rfl|he
      ·exact l4
      ·rw[List.mem_singleton.mp he];exact l5
    ·obtain⟨e,he,ee⟩:=List.mem_map.mp hx';rw[<-ee];exact pl _ _ l3 (De (f1 e he)).2
theorem MT {H:Hp}{l:Addr}{ps:List (Addr×En)}(hl:H l=some (.lst (ps.map fun p=>V.ref p.1)))(h:∀p∈ps,Fj H p):Rep (fun a=>a=l) H (.lst ((ps.map (·.2)).map Jg)) (.ref l):=by
 refine⟨l,_,rfl,rfl,hl,?_⟩;exact Ax.mono (fun a (n:False)=>n.elim) _ _ (G8 h)
theorem O8:∀es:List En,Tr.deps (es.map Jg)<=3
 |[]=>by decide
 |e::es=>by
  show max (Tr.dep (Jg e)) (Tr.deps (es.map Jg))<=3;exact Nat.max_le.mpr ⟨by show Tr.dep (.tup [.str e.nm,.int e.kd,.tup [.int e.tg.1,.int e.tg.2.1,.int e.tg.2.2]])<=3;simp[Tr.dep,Tr.deps],O8 es⟩
theorem J8 {CP CT:Addr} {H:Hp} {p:Addr} {q:Pl} {cs:List Cl} {bs:List (Int×Addr)} {zs:List Str} {m k:Nat} {gF gU gI gR:Tg} {esF esR:List En} {tR la:Addr} {ps:List (Addr×En)} {σ:St} {D:Ends} (pw:PW CP CT H p q cs bs) (t:Tree (cs.map (·.bk)) zs m k gF gU gI gR esF esR) (htR:H tR=some (.tup [.int gR.1,.int gR.2.1,.int gR.2.2])) (hla:H la=some (.lst (ps.map fun p=>V.ref p.1))) (hps:∀p∈ps,Fj H p) (pm:(ps.map (·.2)).Perm (D6 zs k gF gU gI gR esF)) (so:PyProof.Rows.sortedS ((ps.map (·.2)).map (·.nm))=true)
  (h2:σ[2]?=some (some (.ref p))) (h9:σ[9]?=some (some (.ref tR))) (h10:σ[10]?=some (some (.ref la))) (hD:∀H',Am H H'->D.nx σ H') :
  GF (KY (QA Wo (Mw (FT K CP CT) [] E0 (IC (Ik 2) (IC (Ik 9) LP))) (Ik 10))) (UW (tC (V.bl false))) Io D σ H:=by
 obtain⟨ta1,ta2⟩:=t.all;obtain⟨tf1,tf2⟩:=t.few;refine⟨_,h2,_,h9,p,q,cs,bs,tR,gR,4,rfl,pw,htR,⟨esR,t.hR⟩,ta2,by rw[ta1.length_eq];exact tf1,(ta1.map _).nodup_iff.mpr t.nodup,fun x hx=>tf2 x (ta1.mem_iff.mp hx),fun l ps' H' s' nl hl hps' pm' so'=>?_⟩;have e:ps'.map (·.2)=ps.map (·.2):=by
  have p2:=(pm'.trans ta1).trans pm.symm;refine U0 p2 ((pm.map _).nodup_iff.mpr t.nodup) (Jo (p2.map _) so' so)
 have r1:=MT hl hps';have r2:=MT (s'.get hla) fun p hp=>(hps p hp).same s'
 rw[e] at r1;refine⟨_,h10,_,_,_,?_,r1,r2,_,rfl,AX rfl (hD H' s')⟩;have:=O8 (ps.map (·.2));simp only[Tr.dep];omega
theorem Jf {xs:List V}{n:Int}(h:(xs.length:Int)=n)(h0:0<n)(i:Int):∃v∈xs,Kv xs (i%n)=some v:=by
 have i0:=Int.emod_nonneg i (show n≠0 by omega);have i1:=Int.emod_lt_of_pos i h0;have hk:(i%n).toNat<xs.length:=by omega
 refine⟨xs[(i%n).toNat],List.getElem_mem hk,?_⟩;have:=Lk (xs:=xs) (j:=(i%n).toNat) (List.getElem?_eq_getElem hk);rw[show(((i%n).toNat:Nat):Int)=i%n by omega] at this;exact this
variable {bks:List Bk}{zs:List Str}{m k:Nat}{gF gU gI gR:Tg}{esF esR:List En}
theorem QR (t:Tree bks zs m k gF gU gI gR esF esR)(i:Int):∃w ini esl,Kv [V.str Bj,V.str CF,V.str Dg,V.str EM] (i%4)=some (.str w)/\Plc bks ((D6 zs k gF gU gI gR esF).map (·.nm)) esR w ini esl:=by
 obtain⟨p1,p2,p3,p4⟩:=t.places;obtain⟨v,hv,e⟩:=Jf (xs:=[V.str Bj,V.str CF,V.str Dg,V.str EM]) (n:=4) rfl (by decide) i;rw[e];rcases List.mem_cons.mp hv with rfl|hv
 ·exact⟨_,_,_,rfl,p1⟩
 ·rcases List.mem_cons.mp hv with rfl|hv
  ·exact⟨_,_,_,rfl,p2⟩
  ·rcases List.mem_cons.mp hv with rfl|hv
   ·exact⟨_,_,_,rfl,p3⟩
   ·rw[List.mem_singleton.mp hv];exact⟨_,_,_,rfl,p4⟩
theorem SX (hz:∀z∈zs,T4 z)(lz:zs.length=16)(i:Int):∃n,Kv (zs.map V.str++[V.str (PySem.Str.ofString "new1"),V.str (PySem.Str.ofString "zz")]) (i%18)=some (.str n)/\Bf (.str n)=true:=by
 obtain⟨v,hv,e⟩:=Jf (xs:=zs.map V.str++[V.str (PySem.Str.ofString "new1"),V.str (PySem.Str.ofString "zz")]) (n:=18) (by rw[List.length_append,List.length_map,lz];rfl) (by decide) i;rw[e];rcases List.mem_append.mp hv with hv|hv
 ·obtain⟨z,hz',rfl⟩:=List.mem_map.mp hv;exact⟨z,rfl,(hz z hz').name⟩
 ·rcases List.mem_cons.mp hv with rfl|hv
  ·exact⟨_,rfl,by decide +kernel⟩
  ·rw[List.mem_singleton.mp hv];exact⟨_,rfl,by decide +kernel⟩
theorem U3 {Pr:Str->Prop}{z1 z2 z3 z4 z5 z6:Str}(h:Pr z1/\Pr z2/\Pr z3/\Pr z4/\Pr z5/\Pr z6)(i:Int):∃z,Kv [V.str z1,V.str z2,V.str z3,V.str z4,V.str z5,V.str z6] (i%6)=some (.str z)/\Pr z:=by
 obtain⟨h1,h2,h3,h4,h5,h6⟩:=h;obtain⟨v,hv,e⟩:=Jf (xs:=[V.str z1,V.str z2,V.str z3,V.str z4,V.str z5,V.str z6]) (n:=6) rfl (by decide) i;rw[e];rcases List.mem_cons.mp hv with rfl|hv
 ·exact⟨_,rfl,h1⟩
 ·rcases List.mem_cons.mp hv with rfl|hv
  ·exact⟨_,rfl,h2⟩
  ·rcases List.mem_cons.mp hv with rfl|hv
   ·exact⟨_,rfl,h3⟩
   ·rcases List.mem_cons.mp hv with rfl|hv
    ·exact⟨_,rfl,h4⟩
    ·rcases List.mem_cons.mp hv with rfl|hv
     ·exact⟨_,rfl,h5⟩
     ·rw[List.mem_singleton.mp hv];exact⟨_,rfl,h6⟩
theorem Vo (z1 z2:Str)(i:Int):∃z,Kv [V.str z1,V.str z2] (i%2)=some (.str z)/\(z=z1\/z=z2):=by
 obtain⟨v,hv,e⟩:=Jf (xs:=[V.str z1,V.str z2]) (n:=2) rfl (by decide) i;rw[e];rcases List.mem_cons.mp hv with rfl|hv
 ·exact⟨_,rfl,.inl rfl⟩
 ·rw[List.mem_singleton.mp hv];exact⟨_,rfl,.inr rfl⟩
theorem RU {H:Hp}{cs:List Cl}{e1 e2 tF tU:Addr}(h1:H e1=some (.tup [.int 1,.ref tF]))(h2:H e2=some (.tup [.int 2,.ref tU]))(hF:H tF=some (.tup [.int gF.1,.int gF.2.1,.int gF.2.2]))(hU:H tU=some (.tup [.int gU.1,.int gU.2.1,.int gU.2.2]))(oF:Jl gF)(oU:Jl gU)(xF:∃c∈cs,c.z=gF.1)(xU:∃c∈cs,c.z=gU.1)(fU:Br (cs.map (·.bk)) gU.1=some esF)(i:Int) :
  ∃u e,Kv [V.ref e1,V.ref e2,V.non] (i%3)=some u/\Gc H e u/\Rw cs e:=by
 obtain⟨v,hv,e⟩:=Jf (xs:=[V.ref e1,V.ref e2,V.non]) (n:=3) rfl (by decide) i;rw[e];rcases List.mem_cons.mp hv with rfl|hv
 ·exact⟨_,some (1,gF),rfl,⟨e1,tF,rfl,h1,hF⟩,⟨by decide,by decide⟩,oF,xF,fun h=>absurd h (by decide)⟩
 ·rcases List.mem_cons.mp hv with rfl|hv
  ·exact⟨_,some (2,gU),rfl,⟨e2,tU,rfl,h2,hU⟩,⟨by decide,by decide⟩,oU,xU,fun _=>⟨_,fU⟩⟩
  ·rw[List.mem_singleton.mp hv];exact⟨_,none,rfl,rfl,trivial⟩
theorem Oc (w n:Str):PySem.Txt.slice (w++SL++n) (some (if decide (V.str w=V.str EM)=true then 1 else 0)) none=pj w n:=by
 refine D4 ?_;have lc:(Ap (w++SL++n)).length=(w++SL++n).length:=Az _
 by_cases e:w=EM
 ·rw[if_pos (decide_eq_true (by rw[e]))];have l1:(w++SL++n).length=w.length+1+n.length:=by rw[<-lc,A6,A6,List.length_append,List.length_append,Az,Az];rfl
  rw[Mj _ (by decide) (by omega),e,Gj,A6,A6];rfl
 ·rw[if_neg fun h=>e (V.str.inj (of_decide_eq_true h)),Mj _ (by decide) (by omega)];unfold pj;rw[if_neg e];rfl
theorem We {a b:Str}:decide (V.str a=V.str b)=decide (a=b):=by
 by_cases z:a=b
 ·rw[decide_eq_true z,decide_eq_true (by rw[z])]
 ·rw[decide_eq_false z,decide_eq_false fun h=>z (V.str.inj h)]
theorem Of {J:It}{H:Hp}{ps:List (Addr×En)}{σ:St}{Q:VK}(hJ:HF J H (ps.map fun p=>V.ref p.1))(hps:∀p∈ps,Fj H p)(few:ps.length<=1000)(hQ:∀l H',H l=none->Am H H'->H' l=some (.lst ((((ps.map (·.2)).map (·.nm)).filter fun z=>!decide (z=EM)).map V.str))->Q (.ref l) H') :
  Di [none,none,none] (Qb K 3 (EE (Au 0) (EE (Au 1) (EE (Au 2) R4)))) (KY (QA Xe (Ik 0) (tC (V.str EM)))) (Ik 0) σ Q J H:=by
 refine La (ps:=ps) (g:=fun x=>x.1) (A:=fun x=>.str x.2.nm) (B:=fun x=>.int x.2.kd) (C:=fun x=>Vx H x.1) (rest:=[]) (fun x=>!decide (x.2.nm=EM)) (fun x v _=>v=.str x.2.nm) rfl (fun _ _ _ _ h _=>h) (fun _ _ _ _ _ _ h _=>h) hJ (fun x hx=>(hps x hx).th) (by omega) (fun x hx H' R s' hR=>?_) (fun x hx _ H' R s' hR=>⟨_,rfl,hR _ _ (Am.refl _) rfl⟩) fun l H' ys nl s' hl e1 hys=>hQ l H' nl s' ?_
 ·refine⟨_,rfl,rfl,_,rfl,?_⟩;rw[We];exact hR H' (Am.refl _)
 ·rw[hl]
  congr 2
  have:ys.map (·.2)=(ys.map (·.1)).map fun x=>V.str x.2.nm:=by
   rw[List.map_map];exact List.map_congr_left fun q hq=>hys q hq
  rw[this,e1,List.map_map,List.filter_map,List.map_map];rfl
theorem N9 {J:It}{H:Hp}{L:List Str}{wv:Str}{σ:St}{Q:VK}(hJ:HF J H (L.map V.str))(few:L.length<=1000)(hl:∀z∈L,z.length<=1000)(h12:σ[12]?=some (some (.str wv)))(hQ:∀l H',H l=none->Am H H'->H' l=some (.lst ((L.filter fun z=>decide (rp z=wv)).map V.str))->Q (.ref l) H') :
  Di [none,some 12] (Au 0) (KY (QA Xf (QA (Vm K) (WN K "str" RS (Ik 0) (IC (tC (V.str SL)) LP)) (tC (V.int 0))) (Ik 1))) (Ik 0) σ Q J H:=by
 have es:stC [none,some 12] σ=[none,some (.str wv)]:=by
  show[none,(σ[12]?).bind id]=_;rw[h12];rfl
 refine HB (ps:=L) (g:=V.str) (fun z=>decide (rp z=wv)) (fun z v _=>v=.str z) (fun _ _ _ _ h _=>h) (fun _ _ _ _ _ _ h _=>h) hJ (by omega) (fun x hx H' R s' hR=>?_) (fun x hx _ H' R s' hR=>?_) fun l H' ys nl s' hl e1 hys=>hQ l H' nl s' ?_
 ·rw[es];obtain⟨a,b,er⟩:=Rg x;rw[<-Uw] at er;refine⟨_,rfl,rfl,x,SL,rfl,rfl,(by decide +kernel),by have:=hl x hx;omega,fun tp ntp=>?_⟩;rw[er];refine⟨tp,_,_,_,rfl,rfl,A0.of Ac,rfl,_,rfl,rfl,_,rfl,?_⟩;rw[We];exact hR _ (Ai ntp _)
 ·rw[es];exact⟨_,rfl,hR _ _ (Am.refl _) rfl⟩
 ·rw[hl]
  congr 2
  have:ys.map (·.2)=(ys.map (·.1)).map V.str:=by
   rw[List.map_map];exact List.map_congr_left fun q hq=>hys q hq
  rw[this,e1]
theorem HK {c:TT}{t u:TS}{D:Ends}{σ:St}{H:Hp}(h:c σ H fun b H'=>if b=true then t { D with nx:=u D } σ H' else u D σ H'):IJ (GF c t Io) u D σ H:=h
def WU:Option (Int×Tg)->Tr
 |none=>.non
 |some (k,g)=>.tup [.int k,Hq g]
theorem QU {H:Hp}:∀{e:Option (Int×Tg)} {v:V},Gc H e v->Rep NL H (WU e) v
 |none,_,h=>h
 |some (k,g),_,⟨p,ta,e,h1,h2⟩=>⟨p,_,e,h1,_,_,rfl,rfl,_,_,rfl,Oi h2,rfl⟩
theorem UQ:∀e:Option (Int×Tg),(WU e).dep<=100
 |none=>by decide
 |some (k,g)=>by show Tr.dep (.tup [.int k,.tup [.int g.1,.int g.2.1,.int g.2.2]])<=100;simp[Tr.dep,Tr.deps]
theorem IS {H:Hp}{a:Addr}{t1 t2:Tr}{v1 v2:V}(h:H a=some (.tup [v1,v2]))(r1:Rep NL H t1 v1)(r2:Rep NL H t2 v2):Rep NL H (.tup [t1,t2]) (.ref a):=⟨a,_,rfl,h,_,_,rfl,r1,_,_,rfl,r2,rfl⟩
end
section
variable {P:Program}{w:World}{K:W.Frag}{mg:Str->Option Value}{base:Heap}{f Ah Aa Ad:Addr}{XC:Nat->Addr}{fd:FuncData}
theorem CV {CP CT:Addr}{H H':Hp}{p:Addr}{q q':Pl}{cs cs':List Cl}{bs bs':List (Int×Addr)}(h:PW CP CT H p q cs bs)(h':PW CP CT H' p q' cs' bs'){more:List Bk}(e:cs'.map (·.bk)=cs.map (·.bk)++more){n:Int}(hc:∃c∈cs,c.z=n):∃c∈cs',c.z=n:=by
 obtain⟨c,hc,rfl⟩:=hc;obtain⟨i,hi⟩:=List.mem_iff_getElem?.mp hc;have li:=(List.getElem?_eq_some_iff.mp hi).1;have l:=congrArg List.length e;rw[List.length_map,List.length_append,List.length_map] at l;have hi':i<cs'.length:=by omega
 refine⟨cs'[i],List.getElem_mem hi',?_⟩;rw[h.a.z i c hi,h'.a.z i cs'[i] (List.getElem?_eq_getElem hi')]
theorem VQ {zs:List Str}{m:Nat}{gF:Tg}{es:List En}(hz:∀z∈zs,T4 z)(nd:zs.Nodup)(lm:m<=16)(ok:Jl gF)(pm:es.Perm ((zs.take m).map (Se gF)))(so:PyProof.Rows.sortedS (es.map (·.nm))=true):Ke es:=by
 refine⟨?_,fun e he=>?_,so,?_⟩
 ·rw[pm.length_eq,List.length_map,List.length_take];omega
 ·obtain⟨z,hz',rfl⟩:=List.mem_map.mp (pm.mem_iff.mp he);exact⟨(hz z (List.mem_of_mem_take hz')).name,⟨by show(1:Int)<=1;decide,by show(1:Int)<=2;decide⟩,ok⟩
 ·rw[(pm.map _).nodup_iff,List.map_map];show((zs.take m).map fun z=>z).Nodup;rw[List.map_id'];exact nd.sublist (List.take_sublist _ _)
def Me (K:W.Frag):Sp:=fun vs H Q _=>∃(a:Addr) (ns:List Int),vs=[.ref a]/\AW K H a (ns.map V.int)/\ns.length<=63/\∀H',Q (.bl true) H'
theorem Vq (T:Txt K mg Ah Aa Ad XC)(F:Fun K "law" "law" GW f fd)(CI:Def P w K mg base 1 "_law_cell_at" ["_law_script","_law_k"] (Dp K))(FL:Oh P w K mg base 1 Ad "Pool" ["self","boards"] (E9 K Ad))(BE:CL P w K mg base 14 Ad "put" ["self","block","birth"] (C6 K Ad Aa))(EI:Def P w K mg base 1 "_law_names" ["_law_cell","_law_many"] (Ei K))(G0:Def P w K mg base 2 "all_in" ["pool","root"] (FT K Ad Aa))(Eh:Oh P w K mg base 3 Ah "Boards" ["self","many"] (DR K Ah))(GK:Def P w K mg base 1 "_law_row" ["_law_cell","_law_many"] (Fn K))(EN:Def P w K mg base 16 "_law_tried" ["_law_pool","_law_root","_law_path","_law_entry"] (Ec K Ad Aa))(GG:Def P w K mg base 4 "entry_at" ["pool","root","path"] (FF K Ad Aa)):FnOk P w K mg base DD 17 f fd ["_law_script"] (Me K):=by
 exists A3
 ·obtain⟨a,ns,rfl,_⟩:=h;rfl
 obtain⟨a,ns,rfl,hS,hlen,hq⟩:=h;have hu:=Cf hr;have hu9:=GH hr;refine⟨_,(!Af (@As _ _ (1) _ _ _ _ A3.nd rfl (by trivial) (!BD CI (by trivial) rfl (!Ab (pv 0) (!Ab (!Ak) (!Ae)))) (by rfl) (by trivial)) (!Af (@As _ _ (2) _ _ _ _ A3.nd rfl (by trivial) (!NK FL (by trivial) rfl (!Ab (!NK Eh (by trivial) rfl (!Ab (!Ak) (!Ae))) (!Ae))) (by rfl) (by trivial)) (!Af (@As _ _ (3) _ _ _ _ A3.nd rfl (by trivial) (!BG (pv 2) T.cl_Pool BE (by trivial) (!Ab (!AR (!Ab (!Ak) (!Ab (!Ak) (!Ab (!AR (!Ae)) (!Ae))))) (!Ab (!Ak) (!Ae)))) (by rfl) (by trivial)) (!Af (@As _ _ (4) _ _ _ _ A3.nd rfl (by trivial) (!BD EI (by trivial) rfl (!Ab (!Ay FX (pv 1) (!Ak)) (!Ab (!Ak) (!Ae)))) (by rfl) (by trivial)) (!Af (@As _ _ (5) _ _ _ _ A3.nd rfl (by trivial) (!Ay Cb (pv 1) (!Ak)) (by rfl) (by trivial)) (!Af (@As _ _ (6) _ _ _ _ A3.nd rfl (by trivial) (!BG (pv 2) T.cl_Pool BE (by trivial) (!Ab (!AR (!Ab (!Ak) (!Ab (!Dy Ep (by rfl) T.b_tuple JR (!Ab (!Av (D8 (K:=K) (by rfl)) (by rfl) T.b_sorted Et (!Ab (@Hc _ ["_law_name","_law_file"] [none,some 3] _ _ _ _ _ _ _ _ _ _ _ rfl (!Ck (!Fq IY (pv 4) (!IU) (!FV (pv 5)))) (by rfl) rfl (by repeat (first|exact trivial|refine⟨rfl,?_⟩)) (by repeat (first|exact trivial|refine⟨fun h=>(by first|exact⟨_,rfl⟩|cases h),?_⟩)) (fun C s H fp=>⟨(@An _ _ (0) _ (show(["_law_name","_law_file"]:List Str).Nodup by decide +kernel) rfl (by trivial) (by trivial)),(!Bp),(!AR (!Ab (pv 0) (!Ab (!Ak) (!Ab (pv 1) (!Ae)))))⟩) (by intro _;rfl)) (!Ae))) (!Ae))) (!Ae)))) (!Ab (!Ak) (!Ae)))) (by rfl) (by trivial)) (!Af (@As _ _ (7) _ _ _ _ A3.nd rfl (by trivial) (!BG (pv 2) T.cl_Pool BE (by trivial) (!Ab (!AR (!Ab (!Ak) (!Ab (!AR (!Ab (!AR (!Ab (!AG) (!Ab (!Ak) (!Ab (pv 6) (!Ae))))) (!Ab (!AR (!Ab (!AG) (!Ab (!Ak) (!Ab (pv 3) (!Ae))))) (!Ae)))) (!Ae)))) (!Ab (!Ak) (!Ae)))) (by rfl) (by trivial)) (!Af (@As _ _ (8) _ _ _ _ A3.nd rfl (by trivial) (!Bm (!Ab (!AR (!Ab (!AG) (!Ab (!Ak) (!Ab (pv 6) (!Ae))))) (!Ab (!AR (!Ab (!AG) (!Ab (!Ak) (!Ab (pv 3) (!Ae))))) (!Ab (!AR (!Ab (!AG) (!Ab (!Ak) (!Ab (pv 7) (!Ae))))) (!Ae))))) (by rfl) (by trivial)) (!Af (@As _ _ (8) _ _ _ _ A3.nd rfl (by trivial) (!Ay He (pv 8) (@Hc _ ["_law_name","_law_file"] [none,some 3] _ _ _ _ _ _ _ _ _ _ _ rfl (!Ck (!Fq IY (pv 4) (!IU) (!FV (!Ay Cb (!BD CI (by trivial) rfl (!Ab (pv 0) (!Ab (!Ak) (!Ae)))) (!Ak))))) (by rfl) rfl (by repeat (first|exact trivial|refine⟨rfl,?_⟩)) (by repeat (first|exact trivial|refine⟨fun h=>(by first|exact⟨_,rfl⟩|cases h),?_⟩)) (fun C s H fp=>⟨(@An _ _ (0) _ (show(["_law_name","_law_file"]:List Str).Nodup by decide +kernel) rfl (by trivial) (by trivial)),(!Bp),(!AR (!Ab (pv 0) (!Ab (!Ak) (!Ab (pv 1) (!Ae)))))⟩) (by intro _;rfl))) (by rfl) (by trivial)) (!Af (@As _ _ (9) _ _ _ _ A3.nd rfl (by trivial) (!BG (pv 2) T.cl_Pool BE (by trivial) (!Ab (!AR (!Ab (!Ak) (!Ab (!Dy Ep (by rfl) T.b_tuple JR (!Ab (!Av (D8 (K:=K) (by rfl)) (by rfl) T.b_sorted Et (!Ab (pv 8) (!Ae))) (!Ae))) (!Ae)))) (!Ab (!Ak) (!Ae)))) (by rfl) (by trivial)) (!Af (@As _ _ (10) _ _ _ _ A3.nd rfl (by trivial) (!BD G0 (by trivial) rfl (!Ab (pv 2) (!Ab (pv 9) (!Ae)))) (by rfl) (by trivial)) (!Af (!CW PassesOwn.never rfl (!Ck (!Fq IY (pv 0) (!FV (!Ak)) (!FV (!Ak)))) (@An _ _ (1) _ A3.nd rfl (by trivial) (by trivial)) (!Af (@As _ _ (11) _ _ _ _ A3.nd rfl (by trivial) (!BD GK (by trivial) rfl (!Ab (pv 1) (!Ab (!Ak) (!Ae)))) (by rfl) (by trivial)) (!Af (@As _ _ (12) _ _ _ _ A3.nd rfl (by trivial) (!AD Ci (!Bm (!Ab (!AG) (!Ab (!AG) (!Ab (!AG) (!Ab (!AG) (!Ae)))))) (!Ay Cb (!AD Ci (pv 11) (!Ak) (fun _ _=>rfl)) (!Ak)) (fun _ _=>rfl)) (by rfl) (by trivial)) (!Af (@As _ _ (13) _ _ _ _ A3.nd rfl (by trivial) (!AD Ci (!Ay He (pv 4) (!Bm (!Ab (!AG) (!Ab (!AG) (!Ae))))) (!Ay Cb (!AD Ci (pv 11) (!Ak) (fun _ _=>rfl)) (!Ak)) (fun _ _=>rfl)) (by rfl) (by trivial)) (!Af (@As _ _ (14) _ _ _ _ A3.nd rfl (by trivial) (!Fq U6 (!Ay Bb (!Ay Bb (pv 12) (!AG)) (pv 13)) (!FV (!Dy Kx (by rfl) T.b_int On (!Ab (!Lh Dq (pv 12) (!AG) (AL _)) (!Ae)))) (!IU)) (by rfl) (by trivial)) (!Af (@As _ _ (15) _ _ _ _ A3.nd rfl (by trivial) (!Bm (!Ab (!Ay Bb (!AG) (pv 13)) (!Ab (!Ay Bb (!AG) (pv 13)) (!Ab (!Ay Bb (!AG) (pv 13)) (!Ab (!Ay Bb (pv 14) (!AG)) (!Ae)))))) (by rfl) (by trivial)) (!Af (@As _ _ (15) _ _ _ _ A3.nd rfl (by trivial) (!Ay He (pv 15) (!Bm (!Ab (!Ay Bb (!AG) (pv 13)) (!Ab (!Ay Bb (!Ay Bb (!AG) (pv 13)) (!AG)) (!Ae))))) (by rfl) (by trivial)) (!Af (@As _ _ (16) _ _ _ _ A3.nd rfl (by trivial) (!AD Ci (!Bm (!Ab (pv 14) (!Ab (!AD Ci (pv 15) (!Ay Cb (!AD Ci (pv 11) (!Ak) (fun _ _=>rfl)) (!Ak)) (fun _ _=>rfl)) (!Ae)))) (!Ay Cb (!AD Ci (pv 11) (!Ak) (fun _ _=>rfl)) (!Ak)) (fun _ _=>rfl)) (by rfl) (by trivial)) (!Af (@As _ _ (17) _ _ _ _ A3.nd rfl (by trivial) (!AD Ci (!Bm (!Ab (!AR (!Ab (!Ak) (!Ab (pv 3) (!Ae)))) (!Ab (!AR (!Ab (!Ak) (!Ab (pv 6) (!Ae)))) (!Ab (!JG) (!Ae))))) (!Ay Cb (!Ay FX (!AD Ci (pv 11) (!Ak) (fun _ _=>rfl)) (!Ak)) (!Ak)) (fun _ _=>rfl)) (by rfl) (by trivial)) (!Af (@QX _ ["_law_other","_law_kind","_law_tag"] (18) _ _ _ _ _ _ _ _ _ _ _ _ _ A3.nd rfl (by trivial) rfl (!Ck (pv 10)) (by decide +kernel) (fun C s H fp=>⟨(@Hf _ (K) _ _ _ _ (3) (by rfl) rfl (!AF (@An _ _ (0) _ (show(["_law_other","_law_kind","_law_tag"]:List Str).Nodup by decide +kernel) rfl (by trivial) (by trivial)) (!AF (@An _ _ (1) _ (show(["_law_other","_law_kind","_law_tag"]:List Str).Nodup by decide +kernel) rfl (by trivial) (by trivial)) (!AF (@An _ _ (2) _ (show(["_law_other","_law_kind","_law_tag"]:List Str).Nodup by decide +kernel) rfl (by trivial) (by trivial)) (!Ds)))) (by rfl) (by rfl)),(!JW (!AA JF (pv 0) (!AG) (AL _))),(pv 0)⟩) (by intro _;rfl) (by rfl) (by trivial)) (!Af (@IR _ ["_law_other","_law_place"] [none,some 12] (19) _ _ _ _ _ _ _ _ _ _ _ _ _ _ A3.nd rfl (by trivial) rfl (!Ck (pv 18)) (by rfl) rfl (by repeat (first|exact trivial|refine⟨rfl,?_⟩)) (by repeat (first|exact trivial|refine⟨fun h=>(by first|exact⟨_,rfl⟩|cases h),?_⟩)) (fun C s H fp=>⟨(@An _ _ (0) _ (show(["_law_other","_law_place"]:List Str).Nodup by decide +kernel) rfl (by trivial) (by trivial)),(!JW (!AA Dq (!AD (Hk (K:=K) (by rfl)) (@Vl _ (K) _ _ _ _ _ _ _ _ _ _ _ rfl PySem.F.plainAttrs_str PySem.F.slot_str_rpartition PySem.F.type_str_rpartition Km (pv 0) (!Ab (!AG) (!Ae)) (by rfl) (by rfl) (by rfl) (by rfl) (by rfl)) (!Ak) (fun _ _=>rfl)) (pv 1) (AL _))),(pv 0)⟩) (by intro _;rfl) (by rfl) (by trivial)) (!Af (@As _ _ (20) _ _ _ _ A3.nd rfl (by trivial) (!AR (!Ab (!AG) (!Ab (pv 16) (!Ae)))) (by rfl) (by trivial)) (!Af (!A7 (!AA Dq (pv 16) (pv 14) (AL _)) (!Af (@As _ _ (20) _ _ _ _ A3.nd rfl (by trivial) (!AR (!Ab (!AG) (!Ab (!Ak) (!Ae)))) (by rfl) (by trivial)) (!Al (!A7 (@PW.pt _ _ _ (!Iw (!GE (!NC (pv 17)) (by first|exact Dd _ (by decide) (by decide)|rfl)) (!Iw (!AA Pw (pv 14) (pv 19)) (!Gk (!AA Pc (!Av Be (by rfl) T.b_len DP (!Ab (pv 19) (!Ae))) (!Ak) (AL _)))))) (!Al (@As _ _ (20) _ _ _ _ A3.nd rfl (by trivial) (!AR (!Ab (!AG) (!Ab (pv 17) (!Ae)))) (by rfl) (by trivial))) (!AB)))) (!AB)) (!Af (@As _ _ (21) _ _ _ _ A3.nd rfl (by trivial) (!BD EN (by trivial) rfl (!Ab (pv 2) (!Ab (pv 9) (!Ab (pv 16) (!Ab (pv 17) (!Ae)))))) (by rfl) (by trivial)) (!Af (!A7 (@PW.pt _ _ _ (!Iw (!AA JF (!AD AH (pv 21) (!Ak) (fun _ _=>rfl)) (!AD AH (pv 20) (!Ak) (fun _ _=>rfl)) (AL _)) (!Gk (@PW.pt _ _ _ (!Oo (!AA JF (!AD AH (pv 21) (!Ak) (fun _ _=>rfl)) (!AG) (AL _)) (!Ly (!AA (NT hu9) (pv 21) (pv 20) (AL _)))))))) (!Al (!Ar (!K7))) (!AB)) (!Af (!A7 (@PW.pt _ _ _ (!Oo (!AA Dq (!AD AH (pv 21) (!Ak) (fun _ _=>rfl)) (!AG) (AL _)) (!Ly (!AA (NT hu9) (!BD GG (by trivial) rfl (!Ab (pv 2) (!Ab (!AD AH (pv 21) (!Ak) (fun _ _=>rfl)) (!Ab (pv 16) (!Ae))))) (pv 17) (AL _))))) (!Al (!Ar (!K7))) (!AB)) (!Al (!A7 (!AA (NT hu9) (!BD G0 (by trivial) rfl (!Ab (pv 2) (!Ab (pv 9) (!Ae)))) (pv 10) (AL _)) (!Al (!Ar (!K7))) (!AB)))))))))))))))))) (by intro _;rfl)) (!Al (!Ar (!K7))))))))))))))),?_⟩
 try dsimp only[BB,Cx.nox,Cx.wish]
 refine AE ⟨_,rfl,a,ns,0,rfl,by decide,hS,fun c0=>?_⟩;dsimp only[Au];refine AE ?_;intro xb dxb nxb ndxb _;refine⟨xb,dxb,2,rfl,by decide,by decide,Ac,fun H1 ds B1 n1 k1=>⟨rfl,?_⟩⟩;have s1:=made nxb ndxb k1;intro x dx nx ndx _;refine⟨x,dx,xb,rfl,Ac,fun dt dz dd H2 k2 e1 e2 e3 hdt hdz hdd hx=>⟨rfl,?_⟩⟩;have s2:=made nx ndx k2;have hS2:=s2.seq (s1.seq hS);have pw2:PW Ad Aa H2 x ⟨dx,xb,dt,dz,dd,1⟩ [] []:=⟨⟨⟨hx,hdt,(fun _ h=>nomatch h),List.nodup_nil⟩,hdd,⟨hdz,List.nodup_nil,List.nodup_nil,(fun _ h=>nomatch h),(fun _ h=>nomatch h)⟩,e1,e2,e3,List.nodup_nil,(fun i e h=>by cases h),Nat.le_refl _,Int.le_refl _,(by show(1:Int)<=0+1;decide)⟩,(fun _ h=>nomatch h),(fun _ h=>nomatch h)⟩
 dsimp only[Au]
 clear k1 k2 B1
 refine AE ⟨_,rfl,x,_,_,rfl,pw2.a.t.1,rfl,LK,fun t0 nt0=>⟨Ge,fun t1 nt1=>?_⟩⟩;have s3:=Ai nt0 (.tup []);have s4:=Ai nt1 (.tup [.int 1,.int 1,.ref t0]);refine Ma (Kz ?_);refine GR (b:=.row 1 []) (pw2.same (s3.trans s4)) (by show 0<=9999;decide) ⟨t1,_,rfl,Ac,_,_,rfl,rfl,_,_,rfl,rfl,_,_,rfl,⟨t0,_,rfl,s4.get Ac,rfl⟩,rfl⟩ ⟨⟨by decide,by decide⟩,by show 0<=8;decide,(fun h=>by exact absurd h (by decide)),fun _ h=>nomatch h⟩ (fun _ h=>nomatch h) (fun es e=>by cases e) ⟨by decide,by decide⟩ fun tF gF H5 q5 cs5 bs5 more5 k5 pw5 em5 lm5 htF gF1 hbF tokF hexF=>?_
 have hS5:=k5.seq ((s3.trans s4).seq hS2);have l5:cs5.length<=1:=by
  have:=congrArg List.length em5;rw[List.length_map,List.length_append,List.length_map] at this;have:cs5.length=0+more5.length:=this;omega
 clear em5
 dsimp only[Au];refine AE ⟨_,rfl,_,_,rfl,rfl,⟨by decide,by decide⟩,_,16,rfl,by decide,by decide,fun ln H6 zs s6 nln hln lzs hz nd=>?_⟩;have pw6:=pw5.same s6;have hS6:=s6.seq hS5;have htF6:=s6.get htF;dsimp only[Au];refine AE ⟨_,rfl,_,_,rfl,rfl,(by show(0:Int)<17;decide),?_⟩;have m0:=Int.emod_nonneg c0 (show(17:Int)≠0 by decide);have m1:=Int.emod_lt_of_pos c0 (show(0:Int)<17 by decide);dsimp only[Au];generalize c0%17=m at m0 m1;refine AE ⟨_,rfl,x,_,_,rfl,pw6.a.t.1,rfl,_,rfl,_,rfl,_,rfl,ln,_,rfl,AW.of hln,fun l7 nl7=>?_⟩;rw[Si m0,<-List.map_take];have s7:=Ai nl7 (.lst ((zs.take m.toNat).map V.str));have hl7:(upd H6 l7 (.lst ((zs.take m.toNat).map V.str))) l7=some (.lst ((zs.take m.toNat).map V.str)):=Ac;generalize upd H6 l7 (.lst ((zs.take m.toNat).map V.str))=H7 at s7 hl7;refine⟨l7,rfl,⟨_,AW.of hl7⟩,?_⟩;have htF7:=s7.get htF6;refine Ml (g:=gF) (Es (AW.of hl7)) (by rw[List.length_take];omega) (fun z hz' H' R s' hR=>?_) fun l8 H8 rs8 nl8 s8 hl8 ers8 hrs8=>?_
 ·refine⟨_,rfl,_,rfl,Ge,fun pn npn=>?_⟩;have s9:=Ai npn (.tup [.str z,.int 1,.ref tF]);exact hR _ _ s9 ⟨tF,Ac,s9.get (s'.get htF7)⟩
 have nd8:((rs8.map (·.2)).map (·.nm)).Nodup:=by
  rw[ers8,List.map_map];show((zs.take m.toNat).map fun z=>z).Nodup;rw[List.map_id'];exact nd.sublist (List.take_sublist _ _)
 have s68:=s7.trans s8;have pw8:=pw6.same s68;refine Kz (ID (K:=K) (AW.of hl8) (by have:=congrArg List.length ers8;rw[List.length_map,List.length_map,List.length_take] at this;omega) hrs8 nd8 fun l9 rs9 H9a s9a pm9 soF hl9=>?_);refine⟨l9,_,rfl,.inl ⟨AW.of hl9,fun tp ntp=>⟨DV,fun fp nfp=>?_⟩⟩⟩;obtain⟨rF,s9b⟩:=MA hrs8 pm9 s9a ntp nfp;have pmF:=pm9.map (·.2);have s9:=s9a.trans s9b
 clear s9a s9b
 generalize upd (upd H9a tp (.tup (rs9.map fun p=>V.ref p.1))) fp (.tup [.int 2,.ref tp])=H9 at rF s9;generalize rs9.map (·.2)=esF at rF soF pmF;rw[ers8] at pmF;have lm:m.toNat<=16:=by omega
 refine Ma (Kz ?_);refine GR (b:=.folder esF) (pw8.same s9) (by omega) rF (VQ hz nd lm tokF pmF soF) (fun t ht=>?_) (fun es e x' hx' k2=>?_) ⟨by decide,by decide⟩ fun tU gU H10 q10 cs10 bs10 more10 k10 pw10 em10 lm10 htU gU1 hbU tokU hexU=>?_
 ·obtain⟨x',hx',rfl⟩:=List.mem_map.mp ht;obtain⟨z,_,rfl⟩:=List.mem_map.mp (pmF.mem_iff.mp hx');exact hexF
 ·cases e;obtain⟨z,_,rfl⟩:=List.mem_map.mp (pmF.mem_iff.mp hx');exact absurd k2 (by show ¬(1:Int)=2;decide)
 have k610:=(Kt.of (s68.trans s9)).trans k10;have hS10:=k610.seq hS6;have hln10:=k610.lst hln;have htF10:=k610.tup _ _ htF6;have l10:cs10.length<=2:=by
  have:=congrArg List.length em10;rw[List.length_map,List.length_append,List.length_map] at this;omega
 have hU10:Br (cs10.map (·.bk)) gU.1=some esF:=by
  unfold Br;rw[if_pos gU1,hbU]
 have hexF10:=CV pw8 pw10 em10 hexF
 clear em10 hbU
 dsimp only[Au];refine AE ⟨_,rfl,x,_,_,rfl,pw10.a.t.1,rfl,_,rfl,Ge,fun i1 ni1=>⟨_,rfl,Ge,fun i2 ni2=>⟨DV,fun i3 ni3=>⟨DV,fun i4 ni4=>?_⟩⟩⟩⟩;have t1:=Ai ni1 (.tup [.str GN,.int 2,.ref tU]);have t2:=Ai ni2 (.tup [.str sX,.int 1,.ref tF]);have t3:=Ai ni3 (.tup [.ref i1,.ref i2]);have t4:=Ai ni4 (.tup [.int 2,.ref i3]);have s11:=t1.trans (t2.trans (t3.trans t4));have hi1:=(t2.trans (t3.trans t4)).get (Ac (H:=H10) (a:=i1) (o:=.tup [.str GN,.int 2,.ref tU]));have hi2:=(t3.trans t4).get (Ac (a:=i2) (o:=.tup [.str sX,.int 1,.ref tF]));have hi3:=t4.get (Ac (a:=i3) (o:=.tup [.ref i1,.ref i2]));refine Ma (Kz ?_);refine GR (b:=.folder [⟨GN,2,gU⟩,⟨sX,1,gF⟩]) (pw10.same s11) (by omega) ⟨i4,_,rfl,Ac,_,_,rfl,rfl,_,_,rfl,⟨i3,_,rfl,hi3,G8 (ps:=[(i1,⟨GN,2,gU⟩),(i2,⟨sX,1,gF⟩)]) fun p hp=>?_⟩,rfl⟩ ⟨by show 2<=16;decide,fun e he=>?_,by show PyProof.Rows.sortedS [GN,sX]=true;decide +kernel,by show[GN,sX].Nodup;decide +kernel⟩ (fun t ht=>?_) (fun es e x' hx' k2=>?_) ⟨by decide,by decide⟩ fun tI gI H12 q12 cs12 bs12 more12 k12 pw12 em12 lm12 htI gI1 hbI tokI hexI=>?_
 ·rcases List.mem_cons.mp hp with rfl|hp
  ·exact⟨tU,hi1,s11.get htU⟩
  ·cases List.mem_singleton.mp hp;exact⟨tF,hi2,s11.get htF10⟩
 ·rcases List.mem_cons.mp he with rfl|he
  ·exact⟨(by decide +kernel:Bf (.str GN)=true),⟨by show(1:Int)<=2;decide,by show(2:Int)<=2;decide⟩,tokU⟩
  ·cases List.mem_singleton.mp he;exact⟨(by decide +kernel:Bf (.str sX)=true),⟨by show(1:Int)<=1;decide,by show(1:Int)<=2;decide⟩,tokF⟩
 ·rcases List.mem_cons.mp ht with rfl|ht
  ·exact hexU
  ·cases List.mem_singleton.mp ht;exact hexF10
 ·cases e;rcases List.mem_cons.mp hx' with rfl|hx'
  ·exact⟨esF,hU10⟩
  ·cases List.mem_singleton.mp hx';exact absurd k2 (by show ¬(1:Int)=2;decide)
 have k1012:=(Kt.of s11).trans k12;have hS12:=k1012.seq hS10;have hln12:=k1012.lst hln10;have htF12:=k1012.tup _ _ htF10;have htU12:=k1012.tup _ _ htU;have l12:cs12.length<=3:=by
  have:=congrArg List.length em12;rw[List.length_map,List.length_append,List.length_map] at this;omega
 have hU12:Br (cs12.map (·.bk)) gU.1=some esF:=by rw[em12];exact BL _ hU10
 have hI12:Br (cs12.map (·.bk)) gI.1=some [⟨GN,2,gU⟩,⟨sX,1,gF⟩]:=by
  unfold Br;rw[if_pos gI1,hbI]
 have hexF12:=CV pw10 pw12 em12 hexF10;have hexU12:=CV pw10 pw12 em12 hexU
 clear em12 hbI hi1 hi2 hi3 t1 t2 t3 t4
 dsimp only[Au];refine AE ⟨_,rfl,Ge,fun r1 nr1=>⟨_,rfl,Ge,fun r2 nr2=>⟨_,rfl,Ge,fun r3 nr3=>⟨Ge,fun lr nlr=>?_⟩⟩⟩⟩;have t1:=Ai nr1 (.tup [.str Bj,.int 2,.ref tU]);have t2:=Ai nr2 (.tup [.str BK,.int 1,.ref tF]);have t3:=Ai nr3 (.tup [.str Dg,.int 2,.ref tI]);have t4:=Ai nlr (.lst [.ref r1,.ref r2,.ref r3]);have s13:=t1.trans (t2.trans (t3.trans t4));have hr1:=(t2.trans (t3.trans t4)).get (Ac (H:=H12) (a:=r1) (o:=.tup [.str Bj,.int 2,.ref tU]));have hr2:=(t3.trans t4).get (Ac (a:=r2) (o:=.tup [.str BK,.int 1,.ref tF]));have hr3:=t4.get (Ac (a:=r3) (o:=.tup [.str Dg,.int 2,.ref tI]));have hlr:=Ac (H:=upd (upd (upd H12 r1 (.tup [.str Bj,.int 2,.ref tU])) r2 (.tup [.str BK,.int 1,.ref tF])) r3 (.tup [.str Dg,.int 2,.ref tI])) (a:=lr) (o:=.lst [.ref r1,.ref r2,.ref r3]);dsimp only[Au]
 clear t1 t2 t3 t4
 generalize upd (upd (upd (upd H12 r1 (.tup [.str Bj,.int 2,.ref tU])) r2 (.tup [.str BK,.int 1,.ref tF])) r3 (.tup [.str Dg,.int 2,.ref tI])) lr (.lst [.ref r1,.ref r2,.ref r3])=H13 at s13 hr1 hr2 hr3 hlr;have hS13:=s13.seq hS12;have hln13:=s13.get hln12;refine AE ⟨_,rfl,_,rfl,_,rfl,a,ns,1,rfl,by decide,hS13,fun c1=>?_⟩;refine⟨_,_,rfl,rfl,(by show(0:Int)<14;decide),_,rfl,ln,_,rfl,AW.of hln13,fun l14 nl14=>?_⟩;have j0:=Int.emod_nonneg c1 (show(14:Int)≠0 by decide);have j1:=Int.emod_lt_of_pos c1 (show(0:Int)<14 by decide);dsimp only;generalize c1%14=j at j0 j1;rw[Si j0,<-List.map_take];have s14:=Ai nl14 (.lst ((zs.take j.toNat).map V.str));have hl14:(upd H13 l14 (.lst ((zs.take j.toNat).map V.str))) l14=some (.lst ((zs.take j.toNat).map V.str)):=Ac;generalize upd H13 l14 (.lst ((zs.take j.toNat).map V.str))=H14 at s14 hl14;refine⟨l14,rfl,⟨_,AW.of hl14⟩,?_⟩;have htF14:=(s13.trans s14).get htF12;refine Ml (g:=gF) (Es (AW.of hl14)) (by rw[List.length_take];omega) (fun z hz' H' R s' hR=>?_) fun l15 H15 rs15 nl15 s15 hl15 ers15 hrs15=>?_
 ·refine⟨_,rfl,_,rfl,Ge,fun pn npn=>?_⟩;have s9:=Ai npn (.tup [.str z,.int 1,.ref tF]);exact hR _ _ s9 ⟨tF,Ac,s9.get (s'.get htF14)⟩
 have s1315:=s14.trans s15;have s1215:=s13.trans s1315;have n15:rs15.length<=13:=by
  have:=congrArg List.length ers15;rw[List.length_map,List.length_map,List.length_take] at this;omega
 refine⟨lr,l15,_,_,rfl,rfl,AW.of (s1315.get hlr),AW.of hl15,small (by rw[List.length_map];show 3+rs15.length<=1000000;omega),fun lc nlc=>?_⟩;have hrs16:∀p∈[(r1,(⟨Bj,2,gU⟩:En)),(r2,⟨BK,1,gF⟩),(r3,⟨Dg,2,gI⟩)]++rs15,Fj H15 p:=fun p hp=>by
  rcases List.mem_append.mp hp with hp|hp
  ·rcases List.mem_cons.mp hp with rfl|hp
   ·exact⟨tU,s1315.get hr1,s1215.get htU12⟩
   ·rcases List.mem_cons.mp hp with rfl|hp
    ·exact⟨tF,s1315.get hr2,s1215.get htF12⟩
    ·cases List.mem_singleton.mp hp;exact⟨tI,s1315.get hr3,s1215.get htI⟩
  ·exact hrs15 p hp
 have ers16:([(r1,(⟨Bj,2,gU⟩:En)),(r2,⟨BK,1,gF⟩),(r3,⟨Dg,2,gI⟩)]++rs15).map (·.2)=[⟨Bj,2,gU⟩,⟨BK,1,gF⟩,⟨Dg,2,gI⟩]++(zs.take j.toNat).map (Se gF):=by
  rw[List.map_append,ers15];rfl
 have l16:([(r1,(⟨Bj,2,gU⟩:En)),(r2,⟨BK,1,gF⟩),(r3,⟨Dg,2,gI⟩)]++rs15).length<=16:=by
  rw[List.length_append];show 3+rs15.length<=16;omega
 have eH:[V.ref r1,V.ref r2,V.ref r3]++rs15.map (fun p=>V.ref p.1)=([(r1,(⟨Bj,2,gU⟩:En)),(r2,⟨BK,1,gF⟩),(r3,⟨Dg,2,gI⟩)]++rs15).map fun p=>V.ref p.1:=by
  rw[List.map_append];rfl
 rw[eH];generalize [(r1,(⟨Bj,2,gU⟩:En)),(r2,⟨BK,1,gF⟩),(r3,⟨Dg,2,gI⟩)]++rs15=rs16 at hrs16 ers16 l16
 clear eH
 have s16:=Ai nlc (.lst (rs16.map fun p=>V.ref p.1));have hlc:(upd H15 lc (.lst (rs16.map fun p=>V.ref p.1))) lc=some (.lst (rs16.map fun p=>V.ref p.1)):=Ac;generalize upd H15 lc (.lst (rs16.map fun p=>V.ref p.1))=H16 at s16 hlc;dsimp only[Au];have s1216:=s1215.trans s16;have pw16:=pw12.same s1216;obtain⟨rn1,rn2,_⟩:=MN (k:=j.toNat) hz nd;have nd16:((rs16.map (·.2)).map (·.nm)).Nodup:=by rw[ers16,JT];exact rn2
 refine AE ⟨_,rfl,x,_,_,rfl,pw16.a.t.1,rfl,_,rfl,?_⟩;refine Kz (ID (K:=K) (AW.of hlc) (by omega) (fun p hp=>(hrs16 p hp).same s16) nd16 fun l17 rs17 H17a s17a pm17 soR hl17=>?_);refine⟨l17,_,rfl,.inl ⟨AW.of hl17,fun tp ntp=>⟨DV,fun fp nfp=>?_⟩⟩⟩;obtain⟨rR,s17b⟩:=MA (fun p hp=>(hrs16 p hp).same s16) pm17 s17a ntp nfp;have pmR:=pm17.map (·.2);have s17:=s17a.trans s17b
 clear s17a s17b
 generalize upd (upd H17a tp (.tup (rs17.map fun p=>V.ref p.1))) fp (.tup [.int 2,.ref tp])=H17 at rR s17;generalize rs17.map (·.2)=esR at rR soR pmR;have lR:esR.length<=16:=by
  rw[pmR.length_eq,List.length_map];exact l16
 rw[ers16] at pmR;have nmR:=pmR.map (·.nm);rw[JT] at nmR;refine Ma (Kz ?_);refine GR (b:=.folder esR) (pw16.same s17) (by omega) rR ⟨lR,fun e he=>?_,soR,nmR.nodup_iff.mpr rn2⟩ (fun t ht=>?_) (fun es e x' hx' k2=>?_) ⟨by decide,by decide⟩ fun tR gR H18 q18 cs18 bs18 more18 k18 pw18 em18 lm18 htR gR1 hbR tokR hexR=>?_
 ·refine⟨rn1 _ (nmR.mem_iff.mp (List.mem_map_of_mem he)),?_⟩;rcases List.mem_append.mp (pmR.mem_iff.mp he) with he|he
  ·rcases List.mem_cons.mp he with rfl|he
   ·exact⟨⟨by show(1:Int)<=2;decide,by show(2:Int)<=2;decide⟩,tokU⟩
   ·rcases List.mem_cons.mp he with rfl|he
    ·exact⟨⟨by show(1:Int)<=1;decide,by show(1:Int)<=2;decide⟩,tokF⟩
    ·cases List.mem_singleton.mp he;exact⟨⟨by show(1:Int)<=2;decide,by show(2:Int)<=2;decide⟩,tokI⟩
  ·obtain⟨z,_,rfl⟩:=List.mem_map.mp he;exact⟨⟨by show(1:Int)<=1;decide,by show(1:Int)<=2;decide⟩,tokF⟩
 ·obtain⟨e,he,rfl⟩:=List.mem_map.mp ht;rcases List.mem_append.mp (pmR.mem_iff.mp he) with he|he
  ·rcases List.mem_cons.mp he with rfl|he
   ·exact hexU12
   ·rcases List.mem_cons.mp he with rfl|he
    ·exact hexF12
    ·cases List.mem_singleton.mp he;exact hexI
  ·obtain⟨z,_,rfl⟩:=List.mem_map.mp he;exact hexF12
 ·cases e;rcases List.mem_append.mp (pmR.mem_iff.mp hx') with he|he
  ·rcases List.mem_cons.mp he with rfl|he
   ·exact⟨_,hU12⟩
   ·rcases List.mem_cons.mp he with rfl|he
    ·exact absurd k2 (by show ¬(1:Int)=2;decide)
    ·cases List.mem_singleton.mp he;exact⟨_,hI12⟩
  ·obtain⟨z,_,rfl⟩:=List.mem_map.mp he;exact absurd k2 (by show ¬(1:Int)=2;decide)
 have k1218:=(Kt.of (s1216.trans s17)).trans k18;have l18:cs18.length<=4:=by
  have:=congrArg List.length em18;rw[List.length_map,List.length_append,List.length_map] at this;omega
 have tre:Tree (cs18.map (·.bk)) zs m.toNat j.toNat gF gU gI gR esF esR:=by
  refine⟨hz,nd,lm,by omega,?_,pmF,?_,?_,pmR⟩
  ·rw[em18];exact BL _ hU12
  ·rw[em18];exact BL _ hI12
  ·unfold Br;rw[if_pos gR1,hbR]
 have hS18:=k1218.seq hS12;have hln18:=k1218.lst hln12;have htF18:=k1218.tup _ _ htF12;have htU18:=k1218.tup _ _ htU12;have hexF18:=CV pw12 pw18 em18 hexF12;have hexU18:=CV pw12 pw18 em18 hexU12
 clear em18 hbR
 dsimp only[Au];obtain⟨ta1,ta2⟩:=tre.all;obtain⟨tf1,tf2⟩:=tre.few;refine AE ⟨_,rfl,_,rfl,x,q18,cs18,bs18,tR,gR,4,rfl,pw18,htR,⟨esR,tre.hR⟩,ta2,by rw[ta1.length_eq];exact tf1,(ta1.map _).nodup_iff.mpr tre.nodup,fun x hx=>tf2 x (ta1.mem_iff.mp hx),fun la ps H19 s19 nla hla hps pmA soA=>?_⟩
 replace pmA:=pmA.trans ta1
 have pw19:=pw18.same s19;have hS19:=s19.seq hS18;have hln19:=s19.get hln18;have htF19:=s19.get htF18;have htU19:=s19.get htU18;have htR19:=s19.get htR
 clear k1218 k1012 k610 k5 k10 k12 k18 s19
 dsimp only[Au];refine D0 (t:=SW _ _ _) (fun _ _=>True) (fun N hN=>?_) fun _ H' _=>hq H'
 refine⟨_,rfl,_,rfl,_,rfl,a,_,rfl,hS19,fun ls nls=>?_⟩;obtain⟨ms,ems,lms,_⟩:=Ro ns (some 2) (some 60);rw[ems];have s20:=Ai nls (.lst (ms.map V.int));have hls:(upd H19 ls (.lst (ms.map V.int))) ls=some (.lst (ms.map V.int)):=Ac;generalize upd H19 ls (.lst (ms.map V.int))=H20 at s20 hls;refine⟨ls,rfl,⟨_,AW.of hls⟩,?_⟩;refine DJ (K:=K) (a:=ls) (xs:=ms.map V.int) (fun i σ H21=>∃(v1 v11 v12 v13 v14 v15 v16 v17 v18 v19 v20 v21:Option V) (q:Pl) (cs:List Cl) (bs:List (Int×Addr)) (more:List Bk),σ=[some (.ref a),v1,some (.ref x),some (.ref tF),some (.ref ln),some (.int m),some (.ref tU),some (.ref tI),some (.ref lc),some (.ref tR),some (.ref la),v11,v12,v13,v14,v15,v16,v17,v18,v19,v20,v21]/\PW Ad Aa H21 x q cs bs/\cs.map (·.bk)=cs18.map (·.bk)++more/\cs.length<=4+8*i/\Kt H20 H21) ⟨_,_,_,_,_,_,_,_,_,_,_,_,q18,cs18,bs18,[],rfl,pw19.same s20,(List.append_nil _).symm,by omega,Kt.of (Am.refl _)⟩ (fun i σ H21 _ ⟨_,_,_,_,_,_,_,_,_,_,_,_,_,_,_,_,_,_,_,_,k⟩=>AW.of (k.lst hls)) ?_ fun σ H21 _=>hN _ _ trivial
 rintro i xv σ H21 hi ⟨v1,v11,v12,v13,v14,v15,v16,v17,v18,v19,v20,v21,q,cs,bs,more,rfl,pw,em,lcs,kt⟩
 rw[List.getElem?_map] at hi;obtain⟨cc,ecc,rfl⟩:=Option.map_eq_some_iff.mp hi;have li:=(List.getElem?_eq_some_iff.mp ecc).1;have tr:Tree (cs.map (·.bk)) zs m.toNat j.toNat gF gU gI gR esF esR:=by rw[em];exact tre.more more
 have kA:Kt H19 H21:=(Kt.of s20).trans kt;have hexF:=CV pw19 pw em hexF18;have hexU:=CV pw19 pw em hexU18;dsimp only[Au];refine AE ⟨_,rfl,cc,4,rfl,by decide,by decide,fun r H22 rw s22 nr hr lr hrb=>?_⟩;obtain⟨a0,a1,a2,a3,rfl⟩:∃a0 a1 a2 a3,rw=[a0,a1,a2,a3]:=by
  match rw,lr with
  |[a0,a1,a2,a3],_=>exact⟨a0,a1,a2,a3,rfl⟩
 dsimp only[Au];obtain⟨wv,ini,esl,hw,plc⟩:=QR tr a0;obtain⟨nm,hnm,nmok⟩:=SX hz (by rw[lzs];rfl) a1;refine AE ⟨V0,fun lp nlp=>?_⟩;have s23:=Ai nlp (.lst [.str Bj,.str CF,.str Dg,.str EM]);refine⟨_,rfl,r,_,_,_,rfl,rfl,AW.of (s23.get hr),rfl,_,_,rfl,rfl,(by show(0:Int)<4;decide),lp,_,_,_,rfl,rfl,AW.of Ac,hw,?_⟩;have s2123:=s22.trans s23;have hr23:=s23.get hr;generalize upd H22 lp (.lst [.str Bj,.str CF,.str Dg,.str EM])=H23 at s2123 hr23
 clear s22 s23 hr
 dsimp only[Au];refine AE ⟨_,rfl,DV,fun l2 nl2=>?_⟩;have s24:=Ai nl2 (.lst [.str (PySem.Str.ofString "new1"),.str (PySem.Str.ofString "zz")]);have hln24:=s24.get (s2123.get (kA.lst hln19));refine⟨ln,l2,_,_,rfl,rfl,AW.of hln24,AW.of Ac,small (by rw[List.length_map,lzs];decide),fun l3 nl3=>?_⟩;have s25:=Ai nl3 (.lst (zs.map V.str++[.str (PySem.Str.ofString "new1"),.str (PySem.Str.ofString "zz")]));refine⟨_,rfl,r,_,_,_,rfl,rfl,AW.of ((s24.trans s25).get hr23),rfl,_,_,rfl,rfl,(by show(0:Int)<18;decide),l3,_,_,_,rfl,rfl,AW.of Ac,hnm,?_⟩;have s2125:=s2123.trans (s24.trans s25);have hr25:=(s24.trans s25).get hr23;generalize upd (upd H23 l2 (.lst [.str (PySem.Str.ofString "new1"),.str (PySem.Str.ofString "zz")])) l3 (.lst (zs.map V.str++[.str (PySem.Str.ofString "new1"),.str (PySem.Str.ofString "zz")]))=H25 at s2125 hr25
 clear s2123 s24 s25 hr23 hln24
 dsimp only[Au];obtain⟨gp,lgp⟩:=plc.good nmok;have lw:=plc.lw;have lnm:=(De nmok).2;have lsl:SL.length=1:=by decide +kernel
 have l1:(wv++SL).length=wv.length+1:=Str.length_append _ _;have l2':(wv++SL++nm).length=wv.length+1+nm.length:=(Str.length_append _ _).trans (by rw[l1]);refine AE ⟨_,rfl,_,_,rfl,rfl,small (by rw[lsl];omega),_,rfl,_,_,rfl,rfl,small (by rw[l1];omega),_,rfl,rfl,.inr ⟨_,rfl,_,rfl,_,rfl,small (by rw[l2'];omega),?_⟩⟩;rw[Oc];dsimp only[Au];have lf:(PySem.Str.ofString "file/").length<=10/\(PySem.Str.ofString "none/").length<=10/\(PySem.Str.ofString "up/x/").length<=10/\(PySem.Str.ofString "dir//").length<=10/\(PySem.Str.ofString "dir/").length<=10/\(PySem.Str.ofString "A").length<=10:=by decide +kernel
 obtain⟨lf1,lf2,lf3,lf4,lf5,lf6⟩:=lf;have lda:(PySem.Str.ofString "dir/"++nm).length=(PySem.Str.ofString "dir/").length+nm.length:=Str.length_append _ _;have bads:=tr.bad plc nmok;refine AE ⟨_,rfl,_,_,rfl,rfl,small (by omega),_,rfl,_,_,rfl,rfl,small (by omega),_,rfl,_,_,rfl,rfl,small (by omega),_,rfl,_,_,rfl,rfl,small (by rw[lsl];omega),V0,fun lb1 nlb1=>?_⟩;have s26:=Ai nlb1 (.lst [.str (PySem.Str.ofString "file/"++nm),.str (PySem.Str.ofString "none/"++nm),.str (PySem.Str.ofString "up/x/"++nm),.str (pj wv nm++SL)]);have hlb1:(upd H25 lb1 (.lst [.str (PySem.Str.ofString "file/"++nm),.str (PySem.Str.ofString "none/"++nm),.str (PySem.Str.ofString "up/x/"++nm),.str (pj wv nm++SL)])) lb1=some (.lst [.str (PySem.Str.ofString "file/"++nm),.str (PySem.Str.ofString "none/"++nm),.str (PySem.Str.ofString "up/x/"++nm),.str (pj wv nm++SL)]):=Ac;generalize upd H25 lb1 (.lst [.str (PySem.Str.ofString "file/"++nm),.str (PySem.Str.ofString "none/"++nm),.str (PySem.Str.ofString "up/x/"++nm),.str (pj wv nm++SL)])=H26 at s26 hlb1;dsimp only[Au];refine AE ⟨_,rfl,_,rfl,_,_,rfl,rfl,small (by omega),_,rfl,_,_,rfl,rfl,small (by omega),_,_,rfl,rfl,small (by rw[lda];omega),DV,fun lb2 nlb2=>?_⟩;have s27:=Ai nlb2 (.lst [.str (PySem.Str.ofString "dir//"++nm),.str (PySem.Str.ofString "dir/"++nm++PySem.Str.ofString "A")]);refine⟨lb1,lb2,_,_,rfl,rfl,AW.of (s27.get hlb1),AW.of Ac,small (by show 4+2<=1000000;decide),fun lb nlb=>?_⟩;have s28:=Ai nlb (.lst [.str (PySem.Str.ofString "file/"++nm),.str (PySem.Str.ofString "none/"++nm),.str (PySem.Str.ofString "up/x/"++nm),.str (pj wv nm++SL),.str (PySem.Str.ofString "dir//"++nm),.str (PySem.Str.ofString "dir/"++nm++PySem.Str.ofString "A")]);have hlb:=Ac (H:=upd H26 lb2 (.lst [.str (PySem.Str.ofString "dir//"++nm),.str (PySem.Str.ofString "dir/"++nm++PySem.Str.ofString "A")])) (a:=lb) (o:=.lst [.str (PySem.Str.ofString "file/"++nm),.str (PySem.Str.ofString "none/"++nm),.str (PySem.Str.ofString "up/x/"++nm),.str (pj wv nm++SL),.str (PySem.Str.ofString "dir//"++nm),.str (PySem.Str.ofString "dir/"++nm++PySem.Str.ofString "A")]);dsimp only[Au,List.cons_append,List.nil_append];generalize upd (upd H26 lb2 (.lst [.str (PySem.Str.ofString "dir//"++nm),.str (PySem.Str.ofString "dir/"++nm++PySem.Str.ofString "A")])) lb (.lst [.str (PySem.Str.ofString "file/"++nm),.str (PySem.Str.ofString "none/"++nm),.str (PySem.Str.ofString "up/x/"++nm),.str (pj wv nm++SL),.str (PySem.Str.ofString "dir//"++nm),.str (PySem.Str.ofString "dir/"++nm++PySem.Str.ofString "A")])=H28 at s28 hlb;have s2528:=s26.trans (s27.trans s28);have s2128:=s2125.trans s2528;have hr28:=s2528.get hr25
 clear s26 s27 s28 hlb1 s2125 s2528 hr25
 obtain⟨zb,hzb,badz⟩:=U3 bads a2;obtain⟨zp,hzp,zpc⟩:=Vo (pj wv nm) zb a3;refine AE ⟨_,rfl,_,rfl,_,rfl,r,_,_,_,rfl,rfl,AW.of hr28,rfl,_,_,rfl,rfl,(by show(0:Int)<6;decide),lb,_,_,_,rfl,rfl,AW.of hlb,hzb,DV,fun l4 nl4=>?_⟩;have s29:=Ai nl4 (.lst [.str (pj wv nm),.str zb]);refine⟨_,rfl,r,_,_,_,rfl,rfl,AW.of (s29.get hr28),rfl,_,_,rfl,rfl,(by show(0:Int)<2;decide),l4,_,_,_,rfl,rfl,AW.of Ac,hzp,?_⟩;have s2129:=s2128.trans s29;have hr29:=s29.get hr28;generalize upd H28 l4 (.lst [.str (pj wv nm),.str zb])=H29 at s2129 hr29;dsimp only[Au]
 clear s29 s2128 hr28 hlb
 refine AE ⟨_,rfl,DV,fun e1 ne1=>⟨_,rfl,DV,fun e2 ne2=>⟨Ge,fun l5 nl5=>?_⟩⟩⟩;have t1:=Ai ne1 (.tup [.int 1,.ref tF]);have t2:=Ai ne2 (.tup [.int 2,.ref tU]);have t3:=Ai nl5 (.lst [.ref e1,.ref e2,.non]);have s30:=t1.trans (t2.trans t3);have he1:=(t2.trans t3).get (Ac (H:=H29) (a:=e1) (o:=.tup [.int 1,.ref tF]));have he2:=t3.get (Ac (a:=e2) (o:=.tup [.int 2,.ref tU]));have hl5:=Ac (H:=upd (upd H29 e1 (.tup [.int 1,.ref tF])) e2 (.tup [.int 2,.ref tU])) (a:=l5) (o:=.lst [.ref e1,.ref e2,.non]);have s2130:=s2129.trans s30;have hr30:=s30.get hr29;generalize upd (upd (upd H29 e1 (.tup [.int 1,.ref tF])) e2 (.tup [.int 2,.ref tU])) l5 (.lst [.ref e1,.ref e2,.non])=H30 at s2130 hr30 he1 he2 hl5;obtain⟨u,e,hu5,heu,hein⟩:=RU (cs:=cs) he1 he2 (s2130.get (kA.tup _ _ htF19)) (s2130.get (kA.tup _ _ htU19)) tokF tokU hexF hexU tr.hU (a3/2);refine⟨_,rfl,r,_,_,_,rfl,rfl,AW.of hr30,rfl,_,_,rfl,rfl,⟨by decide,by decide⟩,_,_,rfl,rfl,(by show(0:Int)<3;decide),l5,_,_,_,rfl,rfl,AW.of hl5,hu5,?_⟩;dsimp only[Au]
 clear t1 t2 t3 s30 s2129 hr29 he1 he2 hl5
 have k30:Kt H19 H30:=kA.trans (Kt.of s2130);have hla30:=k30.lst hla;have hps30:∀p∈ps,Fj H30 p:=fun p hp=>(hps p hp).tup k30.tup
 have lps:ps.length<=63:=by
  have:=pmA.length_eq;rw[List.length_map] at this;omega
 refine AE ⟨_,rfl,la,rfl,⟨_,AW.of hla30⟩,?_⟩;refine Of (K:=K) (Es (AW.of hla30)) hps30 (by omega) fun l18 H31 nl18 s31 hl18=>?_
 dsimp only[Au];have lnA:∀z∈(ps.map (·.2)).map (·.nm),z.length<=900:=fun z hz'=>by
  obtain⟨e',he',rfl⟩:=List.mem_map.mp hz';exact tf2 e' (pmA.mem_iff.mp he')
 have lLA:((ps.map (·.2)).map (·.nm)).length=ps.length:=by rw[List.length_map,List.length_map]
 have pmN:=pmA.map (·.nm);generalize ((ps.map (·.2)).map (·.nm))=LA at hl18 lnA pmN lLA;refine AE ⟨_,rfl,l18,rfl,⟨_,AW.of hl18⟩,?_⟩;refine N9 (K:=K) (Es (AW.of hl18)) (by have:=List.length_filter_le (fun z=>!decide (z=EM)) LA;omega) (fun z hz'=>by have:=lnA z (List.mem_filter.mp hz').1;omega) rfl fun l19 H32 nl19 s32 hl19=>?_
 dsimp only[Au];have pT:((LA.filter fun z=>!decide (z=EM)).filter fun z=>decide (rp z=wv)).Perm (esl.map fun e=>pj wv e.nm):=by
  refine List.Perm.trans ?_ plc.th;rw[List.filter_filter];refine List.Perm.trans ?_ (pmN.filter _);rw[List.filter_congr fun z _=>Bool.and_comm _ _];exact List.Perm.refl _
 generalize ((LA.filter fun z=>!decide (z=EM)).filter fun z=>decide (rp z=wv))=TT at hl19 pT;have s2132:=s2130.trans (s31.trans s32);have heu32:=heu.same (s31.trans s32);obtain⟨⟨nl0,hnl0⟩,_⟩:(∃n,Br (cs.map (·.bk)) n=some esl)/\True:=by
  obtain⟨fs,hfs⟩:=plc.al;exact⟨(JX tr.hR hfs fs.length esl (by rw[List.getElem?_concat_length])).1,trivial⟩
 obtain⟨_,_,_,_,_,okl⟩:=Dc pw.a hnl0;have okl:Ke esl:=okl;have due:=TK (n:=nm) pT okl.1 okl.2.2.2 e
 clear s31 s32 hl18 heu s2130 hr30
 refine AE ⟨_,rfl,DV,fun d1 nd1=>?_⟩;have s33:=Ai nd1 (.tup [.str "path",.str zp]);have hd1:(upd H32 d1 (.tup [.str "path",.str zp])) d1=some (.tup [.str "path",.str zp]):=Ac;generalize upd H32 d1 (.tup [.str "path",.str zp])=H33 at s33 hd1;dsimp only[Au];have s2133:=s2132.trans s33;have heu33:=heu32.same s33;have hl19':=s33.get hl19;have gne:zp≠pj wv nm->Ms (cs.map (·.bk)) esR zp:=fun h=>by
  rcases zpc with z|z
  ·exact absurd z h
  ·rw[z];exact badz
 refine D0 (t:=GF _ _ _) (fun σ' H'=>∃d,σ'=[some (.ref a),some (.int cc),some (.ref x),some (.ref tF),some (.ref ln),some (.int m),some (.ref tU),some (.ref tI),some (.ref lc),some (.ref tR),some (.ref la),some (.ref r),some (.str wv),some (.str nm),some (.str (pj wv nm)),some (.ref lb),some (.str zp),some u,some (.ref l18),some (.ref l19),some (.ref d),v21]/\Am H33 H'/\((Ms (cs.map (·.bk)) esR zp/\H' d=some (.tup [.str "path",.str zp]))\/(zp=pj wv nm/\16<(Iq esl nm e).length/\H' d=some (.tup [.str "many",.int 1]))\/(zp=pj wv nm/\(Iq esl nm e).length<=16/\H' d=some (.tup [.str "tree",u])))) (fun N hN=>?_) ?_
 ·refine⟨_,rfl,_,rfl,rfl,_,rfl,C8 (fun c=>?_) (fun c=>?_)⟩
  ·have ez:zp=pj wv nm:=V.str.inj (of_decide_eq_true c);refine AE ⟨DV,fun d2 nd2=>?_⟩;have s34:=Ai nd2 (.tup [.str "many",.int 1]);have hd2:(upd H33 d2 (.tup [.str "many",.int 1])) d2=some (.tup [.str "many",.int 1]):=Ac;generalize upd H33 d2 (.tup [.str "many",.int 1])=H34 at s34 hd2;dsimp only[Au];have tree:(Iq esl nm e).length<=16->L6 (VG (IC (tC (V.str (PySem.Str.ofString "tree"))) (IC (Ik 17) LP))) (Au 20) { nx:=N,rt:=Q } [some (.ref a),some (.int cc),some (.ref x),some (.ref tF),some (.ref ln),some (.int m),some (.ref tU),some (.ref tI),some (.ref lc),some (.ref tR),some (.ref la),some (.ref r),some (.str wv),some (.str nm),some (.str (pj wv nm)),some (.ref lb),some (.str zp),some u,some (.ref l18),some (.ref l19),some (.ref d2),v21] H34:=fun le=>by
    refine⟨_,rfl,DV,fun d3 nd3=>?_⟩;exact hN _ _ ⟨d3,rfl,s34.trans (Ai nd3 _),.inr (.inr ⟨ez,le,Ac⟩)⟩
   have hl34:=s34.get hl19';cases e with
   |none=>
    cases(show u=V.non from heu33);exact⟨_,rfl,_,rfl,BW rfl (BW rfl (tree (due.mp (.inl rfl))))⟩
   |some kg=>
    obtain⟨pu,tu,rfl,hpu,htu⟩:=heu33;refine⟨_,rfl,_,rfl,AX rfl ?_⟩;refine⟨_,rfl,_,rfl,l19,_,rfl,.inl (AW.of hl34),rfl,by simp[G3],_,rfl,?_⟩;rw[if_neg Bool.false_ne_true,T8];refine C8 (fun c1=>BW rfl (tree (due.mp (.inr (.inl (of_decide_eq_true c1)))))) (fun c1=>?_);refine⟨_,rfl,l19,_,rfl,.inl (AW.of hl34),_,_,rfl,rfl,_,rfl,C8 (fun c2=>?_) (fun c2=>?_)⟩
    ·have c2':=of_decide_eq_true c2;rw[List.length_map] at c2';exact tree (due.mp (.inr (.inr (by omega))))
    ·have c2':=of_decide_eq_false (Bool.eq_false_iff.mpr c2);rw[List.length_map] at c2';refine hN _ _ ⟨d2,rfl,s34,.inr (.inl ⟨ez,?_,hd2⟩)⟩;refine Nat.lt_of_not_le fun le=>?_
     rcases due.mpr le with z|z|z
     ·cases z
     ·exact c1 (decide_eq_true z)
     ·omega
  ·exact hN _ _ ⟨d1,rfl,Am.refl _,.inl ⟨gne fun z=>c (decide_eq_true (by rw[z])),hd1⟩⟩
 rintro σ' H34 ⟨d,rfl,s34,cases3⟩
 have s2134:=s2133.trans s34;have heu34:=heu33.same s34;have pw34:=pw.same s2134;have k34:Kt H19 H34:=kA.trans (Kt.of s2134);have htR34:=k34.tup _ _ htR19
 clear due hl19' heu33 heu32 s2132 s2133 s33 hl19 hd1
 rcases cases3 with⟨bad,hd⟩|⟨ez,gt,hd⟩|⟨ez,le,hd⟩
 ·obtain⟨b1,b2,ini',st',b3,b4⟩:=bad;refine AE ⟨_,rfl,_,rfl,_,rfl,_,rfl,x,q,cs,bs,tR,gR,zp,u,e,esR,ini',st',rfl,pw34,by omega,htR34,tr.hR,heu34,hein,b1,b2,b3,fun _ rr H35 s35 hrr=>?_,fun fs esl' gd ea _ _ _ _=>?_,fun fs esl' gd ea _ _ _ _ _ _ _ _ _ _ _ _ _ _ _ _ _=>?_⟩
  ·dsimp only[Au];have hd35:=s35.get hd;refine HK ⟨_,rfl,rr,_,_,_,rfl,rfl,A0.of hrr,rfl,_,rfl,d,_,_,_,rfl,rfl,A0.of hd35,rfl,rfl,_,rfl,AX (by decide +kernel) ?_⟩;refine⟨_,rfl,rr,_,_,_,rfl,rfl,A0.of hrr,rfl,rfl,_,rfl,BW (by decide +kernel) ?_⟩;refine⟨_,rfl,_,rfl,.tup [.str "path",.str zp],NL,NL,by simp[Tr.dep,Tr.deps],IS hrr rfl rfl,IS hd35 rfl rfl,_,rfl,AX rfl ?_⟩;refine HK ⟨_,rfl,rr,_,_,_,rfl,rfl,A0.of hrr,rfl,rfl,_,rfl,AX (by decide +kernel) (AX rfl ?_)⟩;have htR35:=s35.get htR34;have kx:Kt H19 H35:=k34.trans (Kt.of s35);refine J8 (K:=K) (pw34.same s35) tr htR35 (kx.lst hla) (fun p hp=>(hps p hp).tup kx.tup) pmA soA rfl rfl rfl fun H36 s36=>?_
   exact⟨_,_,_,_,_,_,_,_,_,_,_,_,q,cs,bs,more,rfl,pw34.same (s35.trans s36),em,by omega,kt.trans (Kt.of (s2134.trans (s35.trans s36)))⟩
  ·rcases b4 with b4|b4
   ·rw[gd] at b4;cases b4
   ·rw[ea] at b4;cases b4
  ·rcases b4 with b4|b4
   ·rw[gd] at b4;cases b4
   ·rw[ea] at b4;cases b4
 ·obtain⟨b1,b2,b3,b4,fs,b5⟩:=gp;rw[<-ez] at b1 b2 b3;have eqf:∀{fs' esl'},AS (cs.map (·.bk)) esR ini=some (fs'++[esl'])->esl'=esl:=fun h=>by
   rw[b5] at h;exact(List.cons.inj (List.append_inj' (Option.some.inj h) rfl).2).1.symm
  refine AE ⟨_,rfl,_,rfl,_,rfl,_,rfl,x,q,cs,bs,tR,gR,zp,u,e,esR,ini,nm,rfl,pw34,by omega,htR34,tr.hR,heu34,hein,b1,b2,b3,fun h=>?_,fun fs' esl' gd ea gt' rr H35 s35 hrr=>?_,fun fs' esl' gd ea le'=>?_⟩
  ·rcases h with h|h
   ·rw[b4] at h;cases h
   ·rw[b5] at h;cases h
  ·dsimp only[Au];have hd35:=s35.get hd;refine HK ⟨_,rfl,rr,_,_,_,rfl,rfl,A0.of hrr,rfl,_,rfl,d,_,_,_,rfl,rfl,A0.of hd35,rfl,rfl,_,rfl,AX (by decide +kernel) ?_⟩;refine⟨_,rfl,rr,_,_,_,rfl,rfl,A0.of hrr,rfl,rfl,_,rfl,BW (by decide +kernel) ?_⟩;refine⟨_,rfl,_,rfl,.tup [.str "many",.int 1],NL,NL,by simp[Tr.dep,Tr.deps],IS hrr rfl rfl,IS hd35 rfl rfl,_,rfl,AX rfl ?_⟩;refine HK ⟨_,rfl,rr,_,_,_,rfl,rfl,A0.of hrr,rfl,rfl,_,rfl,AX (by decide +kernel) (AX rfl ?_)⟩;have htR35:=s35.get htR34;have kx:Kt H19 H35:=k34.trans (Kt.of s35);refine J8 (K:=K) (pw34.same s35) tr htR35 (kx.lst hla) (fun p hp=>(hps p hp).tup kx.tup) pmA soA rfl rfl rfl fun H36 s36=>?_
   exact⟨_,_,_,_,_,_,_,_,_,_,_,_,q,cs,bs,more,rfl,pw34.same (s35.trans s36),em,by omega,kt.trans (Kt.of (s2134.trans (s35.trans s36)))⟩
  ·rw[eqf ea] at le';omega
 ·obtain⟨b1,b2,b3,b4,fs,b5⟩:=gp;rw[<-ez] at b1 b2 b3;have eqf:∀{fs' esl'},AS (cs.map (·.bk)) esR ini=some (fs'++[esl'])->esl'=esl:=fun h=>by
   rw[b5] at h;exact(List.cons.inj (List.append_inj' (Option.some.inj h) rfl).2).1.symm
  refine AE ⟨_,rfl,_,rfl,_,rfl,_,rfl,x,q,cs,bs,tR,gR,zp,u,e,esR,ini,nm,rfl,pw34,by omega,htR34,tr.hR,heu34,hein,b1,b2,b3,fun h=>?_,fun fs' esl' gd ea gt'=>?_,fun fs' esl' gd ea le' rr tb g' H35 q' cs' bs' more' k35 pw35 em' lm' hrr htb hf hwk=>?_⟩
  ·rcases h with h|h
   ·rw[b4] at h;cases h
   ·rw[b5] at h;cases h
  ·rw[eqf ea] at gt';omega
  ·dsimp only[Au];have hd35:=k35.tup _ _ hd;have heu35:=heu34.tup k35.tup;refine HK ⟨_,rfl,rr,_,_,_,rfl,rfl,A0.of hrr,rfl,_,rfl,d,_,_,_,rfl,rfl,A0.of hd35,rfl,rfl,_,rfl,AX (by decide +kernel) ?_⟩;refine⟨_,rfl,rr,_,_,_,rfl,rfl,A0.of hrr,rfl,rfl,_,rfl,AX (by decide +kernel) (AX rfl ?_)⟩;refine HK ⟨_,rfl,rr,_,_,_,rfl,rfl,A0.of hrr,rfl,rfl,_,rfl,BW (by decide +kernel) ?_⟩;refine⟨_,rfl,_,rfl,rr,_,_,_,rfl,rfl,A0.of hrr,rfl,_,rfl,x,q',cs',bs',tb,g',zp,rfl,pw35.a,htb,pw35.f,hf,b1,b2,by rw[b3];exact b4,fun uu H36 s36 he36=>?_⟩;rw[b3,hwk] at he36;refine⟨_,rfl,WU e,NL,NL,UQ e,QU he36,QU (heu35.same s36),_,rfl,AX rfl ?_⟩;have k36:=(k34.trans k35).trans (Kt.of s36);have tr':Tree (cs'.map (·.bk)) zs m.toNat j.toNat gF gU gI gR esF esR:=by rw[em'];exact tr.more more'
   refine J8 (K:=K) (pw35.same s36) tr' (k36.tup _ _ htR19) (k36.lst hla) (fun p hp=>(hps p hp).tup k36.tup) pmA soA rfl rfl rfl fun H37 s37=>?_
   refine⟨_,_,_,_,_,_,_,_,_,_,_,_,q',cs',bs',more++more',rfl,pw35.same (s36.trans s37),by rw[em',em,List.append_assoc],?_,((kt.trans (Kt.of s2134)).trans k35).trans (Kt.of (s36.trans s37))⟩;have:=congrArg List.length em';rw[List.length_map,List.length_append,List.length_map] at this;omega
end
theorem all_mk {l:W.OpenLaw} {w:World} {K:W.Frag} {h:Heap} {mg:Str->Option Value} {fa:Addr} (X:K.In h) (G:h.Ns mainGlobals mg) (hfa:mg "law"=some (.ref fa))
  {f0:Addr} {od0 an0:Option Addr} {sl0:Array (Option Value)} {oc0 kV0 dc0 pm0 cd0 ct0:Value}
  {f1:Addr} {od1 an1:Option Addr} {sl1:Array (Option Value)} {oc1 kV1 dc1 pm1 cd1 ct1:Value}
  {f2:Addr} {od2 an2:Option Addr} {sl2:Array (Option Value)} {oc2 kV2 dc2 pm2 cd2 ct2:Value}
  {f3:Addr} {od3 an3:Option Addr} {sl3:Array (Option Value)} {oc3 kV3 dc3 pm3 cd3 ct3:Value}
  {f4:Addr} {od4 an4:Option Addr} {sl4:Array (Option Value)} {oc4 kV4 dc4 pm4 cd4 ct4:Value}
  {f5:Addr} {od5 an5:Option Addr} {sl5:Array (Option Value)} {oc5 kV5 dc5 pm5 cd5 ct5:Value}
  {f6:Addr} {od6 an6:Option Addr} {sl6:Array (Option Value)} {oc6 kV6 dc6 pm6 cd6 ct6:Value}
  {f7:Addr} {od7 an7:Option Addr} {sl7:Array (Option Value)} {oc7 kV7 dc7 pm7 cd7 ct7:Value}
  {f8:Addr} {od8 an8:Option Addr} {sl8:Array (Option Value)} {oc8 kV8 dc8 pm8 cd8 ct8:Value}
  {f9:Addr} {od9 an9:Option Addr} {sl9:Array (Option Value)} {oc9 kV9 dc9 pm9 cd9 ct9:Value}
  {f10:Addr} {od10 an10:Option Addr} {sl10:Array (Option Value)} {oc10 kV10 dc10 pm10 cd10 ct10:Value}
  {f11:Addr} {od11 an11:Option Addr} {sl11:Array (Option Value)} {oc11 kV11 dc11 pm11 cd11 ct11:Value}
  {f12:Addr} {od12 an12:Option Addr} {sl12:Array (Option Value)} {oc12 kV12 dc12 pm12 cd12 ct12:Value}
  {f13:Addr} {od13 an13:Option Addr} {sl13:Array (Option Value)} {oc13 kV13 dc13 pm13 cd13 ct13:Value}
  {f14:Addr} {od14 an14:Option Addr} {sl14:Array (Option Value)} {oc14 kV14 dc14 pm14 cd14 ct14:Value}
  {f15:Addr} {od15 an15:Option Addr} {sl15:Array (Option Value)} {oc15 kV15 dc15 pm15 cd15 ct15:Value}
  {f16:Addr} {od16 an16:Option Addr} {sl16:Array (Option Value)} {oc16 kV16 dc16 pm16 cd16 ct16:Value}
  {f17:Addr} {od17 an17:Option Addr} {sl17:Array (Option Value)} {oc17 kV17 dc17 pm17 cd17 ct17:Value}
  {f18:Addr} {od18 an18:Option Addr} {sl18:Array (Option Value)} {oc18 kV18 dc18 pm18 cd18 ct18:Value}
  {f19:Addr} {od19 an19:Option Addr} {sl19:Array (Option Value)} {oc19 kV19 dc19 pm19 cd19 ct19:Value}
  {f20:Addr} {od20 an20:Option Addr} {sl20:Array (Option Value)} {oc20 kV20 dc20 pm20 cd20 ct20:Value}
  {f21:Addr} {od21 an21:Option Addr} {sl21:Array (Option Value)} {oc21 kV21 dc21 pm21 cd21 ct21:Value}
  {f22:Addr} {od22 an22:Option Addr} {sl22:Array (Option Value)} {oc22 kV22 dc22 pm22 cd22 ct22:Value}
  {f23:Addr} {od23 an23:Option Addr} {sl23:Array (Option Value)} {oc23 kV23 dc23 pm23 cd23 ct23:Value}
  {f24:Addr} {od24 an24:Option Addr} {sl24:Array (Option Value)} {oc24 kV24 dc24 pm24 cd24 ct24:Value}
  {f25:Addr} {od25 an25:Option Addr} {sl25:Array (Option Value)} {oc25 kV25 dc25 pm25 cd25 ct25:Value}
  {f26:Addr} {od26 an26:Option Addr} {sl26:Array (Option Value)} {oc26 kV26 dc26 pm26 cd26 ct26:Value}
  {f27:Addr} {od27 an27:Option Addr} {sl27:Array (Option Value)} {oc27 kV27 dc27 pm27 cd27 ct27:Value}
  {f28:Addr} {od28 an28:Option Addr} {sl28:Array (Option Value)} {oc28 kV28 dc28 pm28 cd28 ct28:Value}
  {f29:Addr} {od29 an29:Option Addr} {sl29:Array (Option Value)} {oc29 kV29 dc29 pm29 cd29 ct29:Value}
  {f30:Addr} {od30 an30:Option Addr} {sl30:Array (Option Value)} {oc30 kV30 dc30 pm30 cd30 ct30:Value}
  {f31:Addr} {od31 an31:Option Addr} {sl31:Array (Option Value)} {oc31 kV31 dc31 pm31 cd31 ct31:Value}
  {f32:Addr} {od32 an32:Option Addr} {sl32:Array (Option Value)} {oc32 kV32 dc32 pm32 cd32 ct32:Value}
  {f33:Addr} {od33 an33:Option Addr} {sl33:Array (Option Value)} {oc33 kV33 dc33 pm33 cd33 ct33:Value}
  {f34:Addr} {od34 an34:Option Addr} {sl34:Array (Option Value)} {oc34 kV34 dc34 pm34 cd34 ct34:Value}
  {f35:Addr} {od35 an35:Option Addr} {sl35:Array (Option Value)} {oc35 kV35 dc35 pm35 cd35 ct35:Value}
  {f36:Addr} {od36 an36:Option Addr} {sl36:Array (Option Value)} {oc36 kV36 dc36 pm36 cd36 ct36:Value}
  {f37:Addr} {od37 an37:Option Addr} {sl37:Array (Option Value)} {oc37 kV37 dc37 pm37 cd37 ct37:Value}
  {Ah:Addr}
  {Aa:Addr}
  {Ad:Addr}
  {AC:Addr}
  {Fu:Addr}
  {BC:Addr}
  {C7:Addr}
  {AJ:Addr}
  {DZ:Addr}
  {t_SIGNS:Tok}
  {t_NUMBER_WORD:Tok}
  {t_TEXT_WORD:Tok}
  {t_TUPLE_WORD:Tok}
  {t_PIECE:Tok}
  {t_ROW:Tok}
  {t_FOLDER:Tok}
  {t_FOLDER_ENTRY:Tok}
  {t_NAME_SIGNS:Tok}
  {t_MOST_NAME_SIGNS:Tok}
  {t_SUM_RESTS:Tok}
  {t_MOST_ENTRIES:Tok}
  {t_MOST_STEPS:Tok}
  {t_LEAST_BOARDS:Tok}
  {t_MOST_BOARDS:Tok}
  (a0:W.nsIn K mainGlobals "is_whole"=some (some (.ref f0))) (l0:K.lookup f0=some ⟨oc0,od0,.func (W.fnOf "is_whole" "is_whole" (Aq CO) (Ao CO) (Aj CO) .none kV0 dc0 pm0 an0 cd0 ct0),sl0⟩) (c0:W.codeIn K cd0 "is_whole"=true) (k0:W.keepIn K (.ref f0)=true)
  (a1:W.nsIn K mainGlobals "is_between"=some (some (.ref f1))) (l1:K.lookup f1=some ⟨oc1,od1,.func (W.fnOf "is_between" "is_between" (Aq B2) (Ao B2) (Aj B2) .none kV1 dc1 pm1 an1 cd1 ct1),sl1⟩) (c1:W.codeIn K cd1 "is_between"=true) (k1:W.keepIn K (.ref f1)=true)
  (a2:W.nsIn K mainGlobals "number_of"=some (some (.ref f2))) (l2:K.lookup f2=some ⟨oc2,od2,.func (W.fnOf "number_of" "number_of" (Aq Cz) (Ao Cz) (Aj Cz) .none kV2 dc2 pm2 an2 cd2 ct2),sl2⟩) (c2:W.codeIn K cd2 "number_of"=true) (k2:W.keepIn K (.ref f2)=true)
  (a3:W.nsIn K mainGlobals "is_text"=some (some (.ref f3))) (l3:K.lookup f3=some ⟨oc3,od3,.func (W.fnOf "is_text" "is_text" (Aq DE) (Ao DE) (Aj DE) .none kV3 dc3 pm3 an3 cd3 ct3),sl3⟩) (c3:W.codeIn K cd3 "is_text"=true) (k3:W.keepIn K (.ref f3)=true)
  (a4:W.findIn K (.ref AC) "__init__"=some (some (.ref f4))) (i4:W.isFn K (.ref f4)=true) (l4:K.lookup f4=some ⟨oc4,od4,.func (W.fnOf "__init__" "NoPath.__init__" (Aq BQ) (Ao BQ) (Aj BQ) .none kV4 dc4 pm4 an4 cd4 ct4),sl4⟩) (c4:W.codeIn K cd4 "NoPath.__init__"=true) (k4:W.keepIn K (.ref f4)=true)
  (a5:W.nsIn K mainGlobals "words_of"=some (some (.ref f5))) (l5:K.lookup f5=some ⟨oc5,od5,.func (W.fnOf "words_of" "words_of" (Aq BS) (Ao BS) (Aj BS) .none kV5 dc5 pm5 an5 cd5 ct5),sl5⟩) (c5:W.codeIn K cd5 "words_of"=true) (k5:W.keepIn K (.ref f5)=true)
  (a6:W.nsIn K mainGlobals "is_name"=some (some (.ref f6))) (l6:K.lookup f6=some ⟨oc6,od6,.func (W.fnOf "is_name" "is_name" (Aq DB) (Ao DB) (Aj DB) .none kV6 dc6 pm6 an6 cd6 ct6),sl6⟩) (c6:W.codeIn K cd6 "is_name"=true) (k6:W.keepIn K (.ref f6)=true)
  (a7:W.nsIn K mainGlobals "sum_of"=some (some (.ref f7))) (l7:K.lookup f7=some ⟨oc7,od7,.func (W.fnOf "sum_of" "sum_of" (Aq EF) (Ao EF) (Aj EF) .none kV7 dc7 pm7 an7 cd7 ct7),sl7⟩) (c7:W.codeIn K cd7 "sum_of"=true) (k7:W.keepIn K (.ref f7)=true)
  (a8:W.nsIn K mainGlobals "numbers_told"=some (some (.ref f8))) (l8:K.lookup f8=some ⟨oc8,od8,.func (W.fnOf "numbers_told" "numbers_told" (Aq Bz) (Ao Bz) (Aj Bz) .none kV8 dc8 pm8 an8 cd8 ct8),sl8⟩) (c8:W.codeIn K cd8 "numbers_told"=true) (k8:W.keepIn K (.ref f8)=true)
  (a9:W.nsIn K mainGlobals "size_of"=some (some (.ref f9))) (l9:K.lookup f9=some ⟨oc9,od9,.func (W.fnOf "size_of" "size_of" (Aq Dv) (Ao Dv) (Aj Dv) .none kV9 dc9 pm9 an9 cd9 ct9),sl9⟩) (c9:W.codeIn K cd9 "size_of"=true) (k9:W.keepIn K (.ref f9)=true)
  (a10:W.nsIn K mainGlobals "tags_in"=some (some (.ref f10))) (l10:K.lookup f10=some ⟨oc10,od10,.func (W.fnOf "tags_in" "tags_in" (Aq DA) (Ao DA) (Aj DA) .none kV10 dc10 pm10 an10 cd10 ct10),sl10⟩) (c10:W.codeIn K cd10 "tags_in"=true) (k10:W.keepIn K (.ref f10)=true)
  (a11:W.nsIn K mainGlobals "steps_in"=some (some (.ref f11))) (l11:K.lookup f11=some ⟨oc11,od11,.func (W.fnOf "steps_in" "steps_in" (Aq CQ) (Ao CQ) (Aj CQ) .none kV11 dc11 pm11 an11 cd11 ct11),sl11⟩) (c11:W.codeIn K cd11 "steps_in"=true) (k11:W.keepIn K (.ref f11)=true)
  (a12:W.nsIn K mainGlobals "path_to"=some (some (.ref f12))) (l12:K.lookup f12=some ⟨oc12,od12,.func (W.fnOf "path_to" "path_to" (Aq Dw) (Ao Dw) (Aj Dw) .none kV12 dc12 pm12 an12 cd12 ct12),sl12⟩) (c12:W.codeIn K cd12 "path_to"=true) (k12:W.keepIn K (.ref f12)=true)
  (a13:W.nsIn K mainGlobals "entry_at"=some (some (.ref f13))) (l13:K.lookup f13=some ⟨oc13,od13,.func (W.fnOf "entry_at" "entry_at" (Aq CN) (Ao CN) (Aj CN) .none kV13 dc13 pm13 an13 cd13 ct13),sl13⟩) (c13:W.codeIn K cd13 "entry_at"=true) (k13:W.keepIn K (.ref f13)=true)
  (a14:W.nsIn K mainGlobals "entry_called"=some (some (.ref f14))) (l14:K.lookup f14=some ⟨oc14,od14,.func (W.fnOf "entry_called" "entry_called" (Aq Bx) (Ao Bx) (Aj Bx) .none kV14 dc14 pm14 an14 cd14 ct14),sl14⟩) (c14:W.codeIn K cd14 "entry_called"=true) (k14:W.keepIn K (.ref f14)=true)
  (a15:W.nsIn K mainGlobals "with_entry"=some (some (.ref f15))) (l15:K.lookup f15=some ⟨oc15,od15,.func (W.fnOf "with_entry" "with_entry" (Aq B9) (Ao B9) (Aj B9) .none kV15 dc15 pm15 an15 cd15 ct15),sl15⟩) (c15:W.codeIn K cd15 "with_entry"=true) (k15:W.keepIn K (.ref f15)=true)
  (a16:W.nsIn K mainGlobals "folders_along"=some (some (.ref f16))) (l16:K.lookup f16=some ⟨oc16,od16,.func (W.fnOf "folders_along" "folders_along" (Aq Bo) (Ao Bo) (Aj Bo) .none kV16 dc16 pm16 an16 cd16 ct16),sl16⟩) (c16:W.codeIn K cd16 "folders_along"=true) (k16:W.keepIn K (.ref f16)=true)
  (a17:W.nsIn K mainGlobals "folder_with"=some (some (.ref f17))) (l17:K.lookup f17=some ⟨oc17,od17,.func (W.fnOf "folder_with" "folder_with" (Aq BO) (Ao BO) (Aj BO) .none kV17 dc17 pm17 an17 cd17 ct17),sl17⟩) (c17:W.codeIn K cd17 "folder_with"=true) (k17:W.keepIn K (.ref f17)=true)
  (a18:W.nsIn K mainGlobals "all_in"=some (some (.ref f18))) (l18:K.lookup f18=some ⟨oc18,od18,.func (W.fnOf "all_in" "all_in" (Aq ED) (Ao ED) (Aj ED) .none kV18 dc18 pm18 an18 cd18 ct18),sl18⟩) (c18:W.codeIn K cd18 "all_in"=true) (k18:W.keepIn K (.ref f18)=true)
  (a19:W.findIn K (.ref Ah) "__init__"=some (some (.ref f19))) (i19:W.isFn K (.ref f19)=true) (l19:K.lookup f19=some ⟨oc19,od19,.func (W.fnOf "__init__" "Boards.__init__" (Aq BN) (Ao BN) (Aj BN) .none kV19 dc19 pm19 an19 cd19 ct19),sl19⟩) (c19:W.codeIn K cd19 "Boards.__init__"=true) (k19:W.keepIn K (.ref f19)=true)
  (a20:W.findIn K (.ref Aa) "__init__"=some (some (.ref f20))) (i20:W.isFn K (.ref f20)=true) (l20:K.lookup f20=some ⟨oc20,od20,.func (W.fnOf "__init__" "TakenCell.__init__" (Aq Bi) (Ao Bi) (Aj Bi) .none kV20 dc20 pm20 an20 cd20 ct20),sl20⟩) (c20:W.codeIn K cd20 "TakenCell.__init__"=true) (k20:W.keepIn K (.ref f20)=true)
  (a21:W.findIn K (.ref Ad) "__init__"=some (some (.ref f21))) (i21:W.isFn K (.ref f21)=true) (l21:K.lookup f21=some ⟨oc21,od21,.func (W.fnOf "__init__" "Pool.__init__" (Aq Cw) (Ao Cw) (Aj Cw) .none kV21 dc21 pm21 an21 cd21 ct21),sl21⟩) (c21:W.codeIn K cd21 "Pool.__init__"=true) (k21:W.keepIn K (.ref f21)=true)
  (a22:W.findIn K (.ref Ad) "put"=some (some (.ref f22))) (i22:W.isFn K (.ref f22)=true) (l22:K.lookup f22=some ⟨oc22,od22,.func (W.fnOf "put" "Pool.put" (Aq C2) (Ao C2) (Aj C2) .none kV22 dc22 pm22 an22 cd22 ct22),sl22⟩) (c22:W.codeIn K cd22 "Pool.put"=true) (k22:W.keepIn K (.ref f22)=true)
  (a23:W.findIn K (.ref Ad) "alike"=some (some (.ref f23))) (i23:W.isFn K (.ref f23)=true) (l23:K.lookup f23=some ⟨oc23,od23,.func (W.fnOf "alike" "Pool.alike" (Aq B8) (Ao B8) (Aj B8) .none kV23 dc23 pm23 an23 cd23 ct23),sl23⟩) (c23:W.codeIn K cd23 "Pool.alike"=true) (k23:W.keepIn K (.ref f23)=true)
  (a24:W.findIn K (.ref Ad) "free_number"=some (some (.ref f24))) (i24:W.isFn K (.ref f24)=true) (l24:K.lookup f24=some ⟨oc24,od24,.func (W.fnOf "free_number" "Pool.free_number" (Aq A2) (Ao A2) (Aj A2) .none kV24 dc24 pm24 an24 cd24 ct24),sl24⟩) (c24:W.codeIn K cd24 "Pool.free_number"=true) (k24:W.keepIn K (.ref f24)=true)
  (a25:W.findIn K (.ref Ad) "take"=some (some (.ref f25))) (i25:W.isFn K (.ref f25)=true) (l25:K.lookup f25=some ⟨oc25,od25,.func (W.fnOf "take" "Pool.take" (Aq CC) (Ao CC) (Aj CC) .none kV25 dc25 pm25 an25 cd25 ct25),sl25⟩) (c25:W.codeIn K cd25 "Pool.take"=true) (k25:W.keepIn K (.ref f25)=true)
  (a26:W.findIn K (.ref Ad) "entries_of"=some (some (.ref f26))) (i26:W.isFn K (.ref f26)=true) (l26:K.lookup f26=some ⟨oc26,od26,.func (W.fnOf "entries_of" "Pool.entries_of" (Aq A8) (Ao A8) (Aj A8) .none kV26 dc26 pm26 an26 cd26 ct26),sl26⟩) (c26:W.codeIn K cd26 "Pool.entries_of"=true) (k26:W.keepIn K (.ref f26)=true)
  (a27:W.findIn K (.ref Ad) "steps_of"=some (some (.ref f27))) (i27:W.isFn K (.ref f27)=true) (l27:K.lookup f27=some ⟨oc27,od27,.func (W.fnOf "steps_of" "Pool.steps_of" (Aq Bn) (Ao Bn) (Aj Bn) .none kV27 dc27 pm27 an27 cd27 ct27),sl27⟩) (c27:W.codeIn K cd27 "Pool.steps_of"=true) (k27:W.keepIn K (.ref f27)=true)
  (a28:W.findIn K (.ref Ad) "block"=some (some (.ref f28))) (i28:W.isFn K (.ref f28)=true) (l28:K.lookup f28=some ⟨oc28,od28,.func (W.fnOf "block" "Pool.block" (Aq BY) (Ao BY) (Aj BY) .none kV28 dc28 pm28 an28 cd28 ct28),sl28⟩) (c28:W.codeIn K cd28 "Pool.block"=true) (k28:W.keepIn K (.ref f28)=true)
  (a29:W.findIn K (.ref Ad) "hold"=some (some (.ref f29))) (i29:W.isFn K (.ref f29)=true) (l29:K.lookup f29=some ⟨oc29,od29,.func (W.fnOf "hold" "Pool.hold" (Aq CA) (Ao CA) (Aj CA) .none kV29 dc29 pm29 an29 cd29 ct29),sl29⟩) (c29:W.codeIn K cd29 "Pool.hold"=true) (k29:W.keepIn K (.ref f29)=true)
  (a30:W.findIn K (.ref Ad) "tag"=some (some (.ref f30))) (i30:W.isFn K (.ref f30)=true) (l30:K.lookup f30=some ⟨oc30,od30,.func (W.fnOf "tag" "Pool.tag" (Aq CM) (Ao CM) (Aj CM) .none kV30 dc30 pm30 an30 cd30 ct30),sl30⟩) (c30:W.codeIn K cd30 "Pool.tag"=true) (k30:W.keepIn K (.ref f30)=true)
  (a31:W.findIn K (.ref Ad) "entries"=some (some (.ref f31))) (i31:W.isFn K (.ref f31)=true) (l31:K.lookup f31=some ⟨oc31,od31,.func (W.fnOf "entries" "Pool.entries" (Aq Bv) (Ao Bv) (Aj Bv) .none kV31 dc31 pm31 an31 cd31 ct31),sl31⟩) (c31:W.codeIn K cd31 "Pool.entries"=true) (k31:W.keepIn K (.ref f31)=true)
  (a32:W.findIn K (.ref Ad) "deep"=some (some (.ref f32))) (i32:W.isFn K (.ref f32)=true) (l32:K.lookup f32=some ⟨oc32,od32,.func (W.fnOf "deep" "Pool.deep" (Aq CB) (Ao CB) (Aj CB) .none kV32 dc32 pm32 an32 cd32 ct32),sl32⟩) (c32:W.codeIn K cd32 "Pool.deep"=true) (k32:W.keepIn K (.ref f32)=true)
  (a33:W.nsIn K mainGlobals "_law_cell_at"=some (some (.ref f33))) (l33:K.lookup f33=some ⟨oc33,od33,.func (W.fnOf "_law_cell_at" "_law_cell_at" (Aq Bu) (Ao Bu) (Aj Bu) .none kV33 dc33 pm33 an33 cd33 ct33),sl33⟩) (c33:W.codeIn K cd33 "_law_cell_at"=true) (k33:W.keepIn K (.ref f33)=true)
  (a34:W.nsIn K mainGlobals "_law_row"=some (some (.ref f34))) (l34:K.lookup f34=some ⟨oc34,od34,.func (W.fnOf "_law_row" "_law_row" (Aq CU) (Ao CU) (Aj CU) .none kV34 dc34 pm34 an34 cd34 ct34),sl34⟩) (c34:W.codeIn K cd34 "_law_row"=true) (k34:W.keepIn K (.ref f34)=true)
  (a35:W.nsIn K mainGlobals "_law_names"=some (some (.ref f35))) (l35:K.lookup f35=some ⟨oc35,od35,.func (W.fnOf "_law_names" "_law_names" (Aq B0) (Ao B0) (Aj B0) .none kV35 dc35 pm35 an35 cd35 ct35),sl35⟩) (c35:W.codeIn K cd35 "_law_names"=true) (k35:W.keepIn K (.ref f35)=true)
  (a36:W.nsIn K mainGlobals "_law_tried"=some (some (.ref f36))) (l36:K.lookup f36=some ⟨oc36,od36,.func (W.fnOf "_law_tried" "_law_tried" (Aq BZ) (Ao BZ) (Aj BZ) .none kV36 dc36 pm36 an36 cd36 ct36),sl36⟩) (c36:W.codeIn K cd36 "_law_tried"=true) (k36:W.keepIn K (.ref f36)=true)
  (a37:W.nsIn K mainGlobals "law"=some (some (.ref f37))) (l37:K.lookup f37=some ⟨oc37,od37,.func (W.fnOf "law" "law" (Aq GW) (Ao GW) (Aj GW) .none kV37 dc37 pm37 an37 cd37 ct37),sl37⟩) (c37:W.codeIn K cd37 "law"=true) (k37:W.keepIn K (.ref f37)=true)
  (Ii:W.nsIn K mainGlobals "Boards"=some (some (.ref Ah))) (HJ:W.plainGet K Ah Str.empty=true) (HH:W.hasDictIn K Ah=true) (HZ:W.plainOver K Ah=true) (HA:W.findIn K (.ref Ah) "__setattr__"=some (some (.builtin "object.__setattr__"))) (HP:W.makesIn K Ah=true) (HR:W.keepIn K (.ref Ah)=true)
  (n_Boards_shelves:W.findIn K (.ref Ah) "shelves"=some none)
  (n_Boards_writes:W.findIn K (.ref Ah) "writes"=some none)
  (n_Boards_writes_left:W.findIn K (.ref Ah) "writes_left"=some none)
  (EK:W.nsIn K mainGlobals "TakenCell"=some (some (.ref Aa))) (EO:W.plainGet K Aa Str.empty=true) (E3:W.hasDictIn K Aa=true) (E6:W.plainOver K Aa=true) (EV:W.findIn K (.ref Aa) "__setattr__"=some (some (.builtin "object.__setattr__"))) (ER:W.makesIn K Aa=true) (E5:W.keepIn K (.ref Aa)=true)
  (n_TakenCell_own_tag:W.findIn K (.ref Aa) "own_tag"=some none)
  (n_TakenCell_own_size:W.findIn K (.ref Aa) "own_size"=some none)
  (n_TakenCell_named:W.findIn K (.ref Aa) "named"=some none)
  (n_TakenCell_times_named:W.findIn K (.ref Aa) "times_named"=some none)
  (n_TakenCell_entries_beneath:W.findIn K (.ref Aa) "entries_beneath"=some none)
  (n_TakenCell_steps_beneath:W.findIn K (.ref Aa) "steps_beneath"=some none)
  (L7:W.nsIn K mainGlobals "Pool"=some (some (.ref Ad))) (Lu:W.plainGet K Ad Str.empty=true) (L0:W.hasDictIn K Ad=true) (L9:W.plainOver K Ad=true) (Lr:W.findIn K (.ref Ad) "__setattr__"=some (some (.builtin "object.__setattr__"))) (LY:W.makesIn K Ad=true) (L5:W.keepIn K (.ref Ad)=true)
  (n_Pool_boards:W.findIn K (.ref Ad) "boards"=some none)
  (n_Pool_taken:W.findIn K (.ref Ad) "taken"=some none)
  (n_Pool_by_sums:W.findIn K (.ref Ad) "by_sums"=some none)
  (n_Pool_draft:W.findIn K (.ref Ad) "draft"=some none)
  (n_Pool_first_maybe_free:W.findIn K (.ref Ad) "first_maybe_free"=some none)
  (x_NoPath:W.nsIn K mainGlobals "NoPath"=some (some (.ref AC)))
  (x_Lost:W.nsIn K mainGlobals "Lost"=some (some (.ref Fu)))
  (x_StemError:W.nsIn K mainGlobals "StemError"=some (some (.ref BC)))
  (x_NoName:W.nsIn K mainGlobals "NoName"=some (some (.ref C7)))
  (x_TooMany:W.nsIn K mainGlobals "TooMany"=some (some (.ref AJ)))
  (x_Twice:W.nsIn K mainGlobals "Twice"=some (some (.ref DZ)))
  (q_TooMany:W.excIn K AJ [.type "ValueError",.type "Exception",.type "BaseException",.type "object"] "ValueError.__new__"=true)
  (m_NoPath_StemError:W.exmOne K (.ref AC) (.ref BC)=some true)
  (m_TooMany_StemError:W.exmOne K (.ref AJ) (.ref BC)=some true)
  (Ht:W.findIn K (.ref AC) "__getattribute__"=some (some (.builtin "BaseException.__getattribute__")))
  (Ig:W.findIn K (.ref AC) "__getattr__"=some none)
  (Ih:W.findIn K (.ref AC) "__class__"=some (some (.builtin "object.__class__")))
  (Hv:W.specialIn K (.builtin "object.__class__") "__get__"=some (some (.builtin "getset_descriptor.__get__")))
  (Ic:W.takesIn K (.builtin "object.__class__")=some true)
  (HQ:W.mroIn K AC (.type "object")=some true)
  (Hw:W.mroIn K AC (.type "BaseException")=some true)
  (Gr:W.findIn K (.ref AJ) "__getattribute__"=some (some (.builtin "BaseException.__getattribute__")))
  (Gv:W.findIn K (.ref AJ) "__getattr__"=some none)
  (GA:W.findIn K (.ref AJ) "__class__"=some (some (.builtin "object.__class__")))
  (Gz:W.specialIn K (.builtin "object.__class__") "__get__"=some (some (.builtin "getset_descriptor.__get__")))
  (GI:W.takesIn K (.builtin "object.__class__")=some true)
  (GB:W.mroIn K AJ (.type "object")=some true)
  (GD:W.mroIn K AJ (.type "BaseException")=some true)
  (HM:MJ K AC=true)
  (HY:Wn K AC=true)
  (Ij:W.findIn K (.ref AC) "__setattr__"=some (some (.builtin "object.__setattr__")))
  (Hr:W.hasDictIn K AC=true)
  (HG:W.keepIn K (.ref AC)=true)
  (HW:W.findIn K (.ref AC) "path"=some none)
  (k_NoPath_NoPath:W.kitOne K (.ref AC) (.ref AC)=some true)
  (k_NoPath_ValueError:W.kitOne K (.ref AC) (.type "ValueError")=some true)
  (k_NoPath_Lost:W.kitOne K (.ref AC) (.ref Fu)=some false)
  (k_NoPath_NoName:W.kitOne K (.ref AC) (.ref C7)=some false)
  (k_NoPath_TooMany:W.kitOne K (.ref AC) (.ref AJ)=some false)
  (k_NoPath_Twice:W.kitOne K (.ref AC) (.ref DZ)=some false)
  (k_TooMany_NoPath:W.kitOne K (.ref AJ) (.ref AC)=some false)
  (k_TooMany_ValueError:W.kitOne K (.ref AJ) (.type "ValueError")=some true)
  (k_TooMany_Lost:W.kitOne K (.ref AJ) (.ref Fu)=some false)
  (k_TooMany_NoName:W.kitOne K (.ref AJ) (.ref C7)=some false)
  (k_TooMany_TooMany:W.kitOne K (.ref AJ) (.ref AJ)=some true)
  (k_TooMany_Twice:W.kitOne K (.ref AJ) (.ref DZ)=some false)
  (Fc:W.nsIn K mainGlobals "ValueError"=some none)
  (QK:W.nsIn K mainGlobals "abs"=some none)
  (RX:W.nsIn K mainGlobals "all"=some none)
  (Oq:W.nsIn K mainGlobals "bool"=some none)
  (Re:W.nsIn K mainGlobals "int"=some none)
  (EU:W.nsIn K mainGlobals "isinstance"=some none)
  (Rn:W.nsIn K mainGlobals "len"=some none)
  (Ol:W.nsIn K mainGlobals "list"=some none)
  (RY:W.nsIn K mainGlobals "max"=some none)
  (LZ:W.nsIn K mainGlobals "range"=some none)
  (Gp:W.nsIn K mainGlobals "reversed"=some none)
  (Ja:W.nsIn K mainGlobals "sorted"=some none)
  (R5:W.nsIn K mainGlobals "str"=some none)
  (So:W.nsIn K mainGlobals "sum"=some none)
  (Lp:W.nsIn K mainGlobals "tuple"=some none)
  (Rc:W.nsIn K mainGlobals "zip"=some none)
  (LD:W.nsIn K mainGlobals "SIGNS"=some (some (.str (PySem.Str.ofString " !\"#$&'()*+,-./0123456789:;<=>?@ABCDEFGHIJKLMNOPQRSTUVWXYZ[\\]^_`abcdefghijklmnopqrstuvwxyz{|}~") t_SIGNS)))
  (Ea:W.nsIn K mainGlobals "NUMBER_WORD"=some (some (.int 0 t_NUMBER_WORD)))
  (FM:W.nsIn K mainGlobals "TEXT_WORD"=some (some (.int 1 t_TEXT_WORD)))
  (Fd:W.nsIn K mainGlobals "TUPLE_WORD"=some (some (.int 2 t_TUPLE_WORD)))
  (LU:W.nsIn K mainGlobals "PIECE"=some (some (.int 0 t_PIECE)))
  (R9:W.nsIn K mainGlobals "ROW"=some (some (.int 1 t_ROW)))
  (Ka:W.nsIn K mainGlobals "FOLDER"=some (some (.int 2 t_FOLDER)))
  (DS:W.nsIn K mainGlobals "FOLDER_ENTRY"=some (some (.int 2 t_FOLDER_ENTRY)))
  (E8:W.nsIn K mainGlobals "NAME_SIGNS"=some (some (.str (PySem.Str.ofString "0123456789abcdefghijklmnopqrstuvwxyz") t_NAME_SIGNS)))
  (CG:W.nsIn K mainGlobals "MOST_NAME_SIGNS"=some (some (.int 8 t_MOST_NAME_SIGNS)))
  (Fs:W.nsIn K mainGlobals "SUM_RESTS"=some (some (.int 997 t_SUM_RESTS)))
  (DW:W.nsIn K mainGlobals "MOST_ENTRIES"=some (some (.int 16 t_MOST_ENTRIES)))
  (Fg:W.nsIn K mainGlobals "MOST_STEPS"=some (some (.int 8 t_MOST_STEPS)))
  (DI:W.nsIn K mainGlobals "LEAST_BOARDS"=some (some (.int 2 t_LEAST_BOARDS)))
  (Eg:W.nsIn K mainGlobals "MOST_BOARDS"=some (some (.int 4 t_MOST_BOARDS))) :
  ∃fd:FuncData,(∀(s:Shared) (v:Value),BindsTo s fd ⟨[v],[]⟩ [("_law_script",v)])/\∀base:Heap,K.In base->base.Ns mainGlobals mg->FnOk l.prog w K mg base DD 17 fa fd ["_law_script"] (Me K):=by
 have e:=hfa.symm.trans (W.mg_of X G a37);cases e;have T:Txt K mg Ah Aa Ad (fun n=>match n with|0=>AC|1=>Fu|2=>BC|3=>C7|4=>AJ|5=>DZ|_=>0):=⟨⟨HJ,HH,HZ,HA⟩,n_Boards_shelves,n_Boards_writes,n_Boards_writes_left,⟨EO,E3,E6,EV⟩,n_TakenCell_own_tag,n_TakenCell_own_size,n_TakenCell_named,n_TakenCell_times_named,n_TakenCell_entries_beneath,n_TakenCell_steps_beneath,⟨Lu,L0,L9,Lr⟩,n_Pool_boards,n_Pool_taken,n_Pool_by_sums,n_Pool_draft,n_Pool_first_maybe_free,W.mg_of X G x_NoPath,W.mg_of X G x_Lost,W.mg_of X G x_StemError,W.mg_of X G x_NoName,W.mg_of X G x_TooMany,W.mg_of X G x_Twice,q_TooMany,m_NoPath_StemError,m_TooMany_StemError,⟨Gr,Gv,GA,Gz,GI,GB,GD⟩,⟨⟨Ht,Ig,Ih,Hv,Ic,HQ,Hw⟩,Ij,HY,Hr⟩,HW,k_NoPath_NoPath,k_NoPath_ValueError,k_NoPath_Lost,k_NoPath_NoName,k_NoPath_TooMany,k_NoPath_Twice,k_TooMany_NoPath,k_TooMany_ValueError,k_TooMany_Lost,k_TooMany_NoName,k_TooMany_TooMany,k_TooMany_Twice,W.mg_none_of X G Fc,W.mg_none_of X G QK,W.mg_none_of X G RX,W.mg_none_of X G Oq,W.mg_none_of X G Re,W.mg_none_of X G EU,W.mg_none_of X G Rn,W.mg_none_of X G Ol,W.mg_none_of X G RY,W.mg_none_of X G LZ,W.mg_none_of X G Gp,W.mg_none_of X G Ja,W.mg_none_of X G R5,W.mg_none_of X G So,W.mg_none_of X G Lp,W.mg_none_of X G Rc,⟨_,W.mg_of X G LD⟩,⟨_,W.mg_of X G Ea⟩,⟨_,W.mg_of X G FM⟩,⟨_,W.mg_of X G Fd⟩,⟨_,W.mg_of X G LU⟩,⟨_,W.mg_of X G R9⟩,⟨_,W.mg_of X G Ka⟩,⟨_,W.mg_of X G DS⟩,⟨_,W.mg_of X G E8⟩,⟨_,W.mg_of X G CG⟩,⟨_,W.mg_of X G Fs⟩,⟨_,W.mg_of X G DW⟩,⟨_,W.mg_of X G Fg⟩,⟨_,W.mg_of X G DI⟩,⟨_,W.mg_of X G Eg⟩⟩
 have F0:=AI (st:=CO) l0 c0 k0;have b0:=F0.binds (ps:=["thing"]) fun _ _ _ _ _ _ us hl=>match us,hl with|[_],_=>rfl
 have F1:=AI (st:=B2) l1 c1 k1;have b1:=F1.binds (ps:=["thing","least","most"]) fun _ _ _ _ _ _ us hl=>match us,hl with|[_,_,_],_=>rfl
 have F2:=AI (st:=Cz) l2 c2 k2;have b2:=F2.binds (ps:=["sign"]) fun _ _ _ _ _ _ us hl=>match us,hl with|[_],_=>rfl
 have F3:=AI (st:=DE) l3 c3 k3;have b3:=F3.binds (ps:=["thing","least","most"]) fun _ _ _ _ _ _ us hl=>match us,hl with|[_,_,_],_=>rfl
 have F4:=AI (st:=BQ) l4 c4 k4;have b4:=F4.binds (ps:=["self","path"]) fun _ _ _ _ _ _ us hl=>match us,hl with|[_,_],_=>rfl
 have F5:=AI (st:=BS) l5 c5 k5;have b5:=F5.binds (ps:=["thing"]) fun _ _ _ _ _ _ us hl=>match us,hl with|[_],_=>rfl
 have F6:=AI (st:=DB) l6 c6 k6;have b6:=F6.binds (ps:=["thing"]) fun _ _ _ _ _ _ us hl=>match us,hl with|[_],_=>rfl
 have F7:=AI (st:=EF) l7 c7 k7;have b7:=F7.binds (ps:=["block"]) fun _ _ _ _ _ _ us hl=>match us,hl with|[_],_=>rfl
 have F8:=AI (st:=Bz) l8 c8 k8;have b8:=F8.binds (ps:=["block"]) fun _ _ _ _ _ _ us hl=>match us,hl with|[_],_=>rfl
 have F9:=AI (st:=Dv) l9 c9 k9;have b9:=F9.binds (ps:=["block"]) fun _ _ _ _ _ _ us hl=>match us,hl with|[_],_=>rfl
 have F10:=AI (st:=DA) l10 c10 k10;have b10:=F10.binds (ps:=["block"]) fun _ _ _ _ _ _ us hl=>match us,hl with|[_],_=>rfl
 have F11:=AI (st:=CQ) l11 c11 k11;have b11:=F11.binds (ps:=["path"]) fun _ _ _ _ _ _ us hl=>match us,hl with|[_],_=>rfl
 have F12:=AI (st:=Dw) l12 c12 k12;have b12:=F12.binds (ps:=["folder","name"]) fun _ _ _ _ _ _ us hl=>match us,hl with|[_,_],_=>rfl
 have F13:=AI (st:=CN) l13 c13 k13;have b13:=F13.binds (ps:=["pool","root","path"]) fun _ _ _ _ _ _ us hl=>match us,hl with|[_,_,_],_=>rfl
 have F14:=AI (st:=Bx) l14 c14 k14;have b14:=F14.binds (ps:=["folder","name"]) fun _ _ _ _ _ _ us hl=>match us,hl with|[_,_],_=>rfl
 have F15:=AI (st:=B9) l15 c15 k15;have b15:=F15.binds (ps:=["pool","root","path","entry","birth"]) fun _ _ _ _ _ _ us hl=>match us,hl with|[_,_,_,_,_],_=>rfl
 have F16:=AI (st:=Bo) l16 c16 k16;have b16:=F16.binds (ps:=["pool","root","path"]) fun _ _ _ _ _ _ us hl=>match us,hl with|[_,_,_],_=>rfl
 have F17:=AI (st:=BO) l17 c17 k17;have b17:=F17.binds (ps:=["folder","name","entry"]) fun _ _ _ _ _ _ us hl=>match us,hl with|[_,_,_],_=>rfl
 have F18:=AI (st:=ED) l18 c18 k18;have b18:=F18.binds (ps:=["pool","root"]) fun _ _ _ _ _ _ us hl=>match us,hl with|[_,_],_=>rfl
 have F19:=AI (st:=BN) l19 c19 k19;have b19:=F19.binds (ps:=["self","many"]) fun _ _ _ _ _ _ us hl=>match us,hl with|[_,_],_=>rfl
 have F20:=AI (st:=Bi) l20 c20 k20;have b20:=F20.binds (ps:=["self","own_tag","block"]) fun _ _ _ _ _ _ us hl=>match us,hl with|[_,_,_],_=>rfl
 have F21:=AI (st:=Cw) l21 c21 k21;have b21:=F21.binds (ps:=["self","boards"]) fun _ _ _ _ _ _ us hl=>match us,hl with|[_,_],_=>rfl
 have F22:=AI (st:=C2) l22 c22 k22;have b22:=F22.binds (ps:=["self","block","birth"]) fun _ _ _ _ _ _ us hl=>match us,hl with|[_,_,_],_=>rfl
 have F23:=AI (st:=B8) l23 c23 k23;have b23:=F23.binds (ps:=["self","block"]) fun _ _ _ _ _ _ us hl=>match us,hl with|[_,_],_=>rfl
 have F24:=AI (st:=A2) l24 c24 k24;have b24:=F24.binds (ps:=["self"]) fun _ _ _ _ _ _ us hl=>match us,hl with|[_],_=>rfl
 have F25:=AI (st:=CC) l25 c25 k25;have b25:=F25.binds (ps:=["self","tag","block"]) fun _ _ _ _ _ _ us hl=>match us,hl with|[_,_,_],_=>rfl
 have F26:=AI (st:=A8) l26 c26 k26;have b26:=F26.binds (ps:=["self","folder"]) fun _ _ _ _ _ _ us hl=>match us,hl with|[_,_],_=>rfl
 have F27:=AI (st:=Bn) l27 c27 k27;have b27:=F27.binds (ps:=["self","folder"]) fun _ _ _ _ _ _ us hl=>match us,hl with|[_,_],_=>rfl
 have F28:=AI (st:=BY) l28 c28 k28;have b28:=F28.binds (ps:=["self","tag"]) fun _ _ _ _ _ _ us hl=>match us,hl with|[_,_],_=>rfl
 have F29:=AI (st:=CA) l29 c29 k29;have b29:=F29.binds (ps:=["self","tag"]) fun _ _ _ _ _ _ us hl=>match us,hl with|[_,_],_=>rfl
 have F30:=AI (st:=CM) l30 c30 k30;have b30:=F30.binds (ps:=["self","number"]) fun _ _ _ _ _ _ us hl=>match us,hl with|[_,_],_=>rfl
 have F31:=AI (st:=Bv) l31 c31 k31;have b31:=F31.binds (ps:=["self","number"]) fun _ _ _ _ _ _ us hl=>match us,hl with|[_,_],_=>rfl
 have F32:=AI (st:=CB) l32 c32 k32;have b32:=F32.binds (ps:=["self","number"]) fun _ _ _ _ _ _ us hl=>match us,hl with|[_,_],_=>rfl
 have F33:=AI (st:=Bu) l33 c33 k33;have b33:=F33.binds (ps:=["_law_script","_law_k"]) fun _ _ _ _ _ _ us hl=>match us,hl with|[_,_],_=>rfl
 have F34:=AI (st:=CU) l34 c34 k34;have b34:=F34.binds (ps:=["_law_cell","_law_many"]) fun _ _ _ _ _ _ us hl=>match us,hl with|[_,_],_=>rfl
 have F35:=AI (st:=B0) l35 c35 k35;have b35:=F35.binds (ps:=["_law_cell","_law_many"]) fun _ _ _ _ _ _ us hl=>match us,hl with|[_,_],_=>rfl
 have F36:=AI (st:=BZ) l36 c36 k36;have b36:=F36.binds (ps:=["_law_pool","_law_root","_law_path","_law_entry"]) fun _ _ _ _ _ _ us hl=>match us,hl with|[_,_,_,_],_=>rfl
 have F37:=AI (st:=GW) l37 c37 k37;refine⟨W.fnOf "law" "law" (Aq GW) (Ao GW) (Aj GW) .none kV37 dc37 pm37 an37 cd37 ct37,fun s v=>.of_eq rfl,fun base _ _=>?_⟩;have Bl:Def l.prog w K mg base 1 "is_whole" ["thing"] (Cv K):=⟨_,_,MS T F0 ,W.mg_of X G a0,k0,b0⟩
 have AZ:Def l.prog w K mg base 1 "number_of" ["sign"] (Ca K):=⟨_,_,LR T F2 ,W.mg_of X G a2,k2,b2⟩
 have HS:Def l.prog w K mg base 1 "is_text" ["thing","least","most"] (GJ K):=⟨_,_,Oz T F3 ,W.mg_of X G a3,k3,b3⟩
 have A5:RT l.prog w K mg base 1 "NoPath" AC "path" ["self","path"]:=⟨_,_,⟨HM,a4,i4,HG⟩,Jx T F4,W.mg_of X G x_NoPath,b4⟩
 have Hz:Def l.prog w K mg base 1 "tags_in" ["block"] (Gu K):=⟨_,_,Ow T F10 ,W.mg_of X G a10,k10,b10⟩
 have HE:Def l.prog w K mg base 1 "path_to" ["folder","name"] (GC K):=⟨_,_,OF T F12 ,W.mg_of X G a12,k12,b12⟩
 have Bw:Def l.prog w K mg base 1 "entry_called" ["folder","name"] (Co K):=⟨_,_,IF T F14 ,W.mg_of X G a14,k14,b14⟩
 have Ed:IP l.prog w K mg base 1 "folder_with" ["folder","name","entry"] (DN K (fun n=>match n with|0=>AC|1=>Fu|2=>BC|3=>C7|4=>AJ|5=>DZ|_=>0)):=⟨_,_,J9 T F17 ,W.mg_of X G a17,k17,b17⟩
 have FL:Oh l.prog w K mg base 1 Ad "Pool" ["self","boards"] (E9 K Ad):=⟨_,_,LW T F21 ,⟨LY,a21,i21,L5⟩,W.mg_of X G L7,b21⟩
 have Cs:CL l.prog w K mg base 1 Ad "free_number" ["self"] (Cc K Ad Aa):=⟨_,_,Gf T F24 ,⟨a24,i24,k24⟩,b24⟩
 have AM:CL l.prog w K mg base 1 Ad "block" ["self","tag"] (BP K Ad Aa):=⟨_,_,Kq T F28 ,⟨a28,i28,k28⟩,b28⟩
 have FC:CL l.prog w K mg base 1 Ad "hold" ["self","tag"] (EZ K Ad Aa):=⟨_,_,LM T F29 ,⟨a29,i29,k29⟩,b29⟩
 have Fe:CL l.prog w K mg base 1 Ad "tag" ["self","number"] (Fm K Ad Aa):=⟨_,_,Nt T F30 ,⟨a30,i30,k30⟩,b30⟩
 have DU:CL l.prog w K mg base 1 Ad "entries" ["self","number"] (Dh K Ad Aa):=⟨_,_,IE T F31 ,⟨a31,i31,k31⟩,b31⟩
 have FK:CL l.prog w K mg base 1 Ad "deep" ["self","number"] (EX K Ad Aa):=⟨_,_,LH T F32 ,⟨a32,i32,k32⟩,b32⟩
 have CI:Def l.prog w K mg base 1 "_law_cell_at" ["_law_script","_law_k"] (Dp K):=⟨_,_,IK T F33 ,W.mg_of X G a33,k33,b33⟩
 have GK:Def l.prog w K mg base 1 "_law_row" ["_law_cell","_law_many"] (Fn K):=⟨_,_,Mo T F34 ,W.mg_of X G a34,k34,b34⟩
 have EI:Def l.prog w K mg base 1 "_law_names" ["_law_cell","_law_many"] (Ei K):=⟨_,_,Kj T F35 ,W.mg_of X G a35,k35,b35⟩
 have ET:Def l.prog w K mg base 2 "is_between" ["thing","least","most"] (Ef K):=⟨_,_,Kp T F1 Bl,W.mg_of X G a1,k1,b1⟩
 have HX:Def l.prog w K mg base 2 "is_name" ["thing"] (Gq K):=⟨_,_,Nz T F6 HS,W.mg_of X G a6,k6,b6⟩
 have DO:Def l.prog w K mg base 2 "numbers_told" ["block"] (Dj K):=⟨_,_,IH T F8 AZ,W.mg_of X G a8,k8,b8⟩
 have G0:Def l.prog w K mg base 2 "all_in" ["pool","root"] (FT K Ad Aa):=⟨_,_,Pk T F18 HE AM,W.mg_of X G a18,k18,b18⟩
 have CD:CL l.prog w K mg base 2 Ad "entries_of" ["self","folder"] (Cr K Ad Aa):=⟨_,_,GL T F26 DU,⟨a26,i26,k26⟩,b26⟩
 have Do:CL l.prog w K mg base 2 Ad "steps_of" ["self","folder"] (CY K Ad Aa):=⟨_,_,HV T F27 FK,⟨a27,i27,k27⟩,b27⟩
 have EC:Def l.prog w K mg base 3 "sum_of" ["block"] (FR K):=⟨_,_,Po T F7 DO,W.mg_of X G a7,k7,b7⟩
 have BH:IP l.prog w K mg base 3 "steps_in" ["path"] (C9 K (fun n=>match n with|0=>AC|1=>Fu|2=>BC|3=>C7|4=>AJ|5=>DZ|_=>0)):=⟨_,_,Nk T F11 A5 HX,W.mg_of X G a11,k11,b11⟩
 have Eh:Oh l.prog w K mg base 3 Ah "Boards" ["self","many"] (DR K Ah):=⟨_,_,Jy T F19 ET,⟨HP,a19,i19,HR⟩,W.mg_of X G Ii,b19⟩
 have GG:Def l.prog w K mg base 4 "entry_at" ["pool","root","path"] (FF K Ad Aa):=⟨_,_,Mp T F13 BH Bw AM,W.mg_of X G a13,k13,b13⟩
 have Dl:IP l.prog w K mg base 4 "folders_along" ["pool","root","path"] (CS K Ad Aa (fun n=>match n with|0=>AC|1=>Fu|2=>BC|3=>C7|4=>AJ|5=>DZ|_=>0)):=⟨_,_,HU T F16 AM BH Bw A5,W.mg_of X G a16,k16,b16⟩
 have Fb:CL l.prog w K mg base 4 Ad "alike" ["self","block"] (D9 K Ad Aa):=⟨_,_,Kg T F23 EC AM Fe,⟨a23,i23,k23⟩,b23⟩
 have DQ:Def l.prog w K mg base 9 "words_of" ["thing"] (FJ K):=⟨_,_,Nl T F5 Bl AZ (W.mg_of X G a5) k5 b5,W.mg_of X G a5,k5,b5⟩
 have Hu:Def l.prog w K mg base 10 "size_of" ["block"] (GM K):=⟨_,_,Oe T F9 DQ,W.mg_of X G a9,k9,b9⟩
 have C1:Oh l.prog w K mg base 11 Aa "TakenCell" ["self","own_tag","block"] (CK K Aa):=⟨_,_,Hm T F20 Hu Hz,⟨ER,a20,i20,E5⟩,W.mg_of X G EK,b20⟩
 have FG:CL l.prog w K mg base 13 Ad "take" ["self","tag","block"] (EW K Ad Aa):=⟨_,_,Lj T F25 C1 CD Do FC,⟨a25,i25,k25⟩,b25⟩
 have BE:CL l.prog w K mg base 14 Ad "put" ["self","block","birth"] (C6 K Ad Aa):=⟨_,_,Nf T F22 Fb FG Cs EC,⟨a22,i22,k22⟩,b22⟩
 have EY:IP l.prog w K mg base 15 "with_entry" ["pool","root","path","entry","birth"] (El K Ad Aa (fun n=>match n with|0=>AC|1=>Fu|2=>BC|3=>C7|4=>AJ|5=>DZ|_=>0)):=⟨_,_,Kn T F15 BH Dl A5 BE Ed,W.mg_of X G a15,k15,b15⟩
 have EN:Def l.prog w K mg base 16 "_law_tried" ["_law_pool","_law_root","_law_path","_law_entry"] (Ec K Ad Aa):=⟨_,_,Kf T F36 EY,W.mg_of X G a36,k36,b36⟩
 exact Vq T F37 CI FL BE EI G0 Eh GK EN GG
theorem walk {l:W.OpenLaw} {q:Program} {loose:List Str} {XP:(Str->Option Value)->Heap->Prop} {YP:World->Heap->Prop} {d:DefRec} {K:Params->W.Frag} (hn:l.most=some 63) (hdf:d.params.defaults=[])
  (hY:∀(w:World) (h:Heap),YP w h->(K w.params).In h)
  (F:∀(w:World) (mg:Str->Option Value) (fa:Addr) (h:Heap),(K w.params).In h->h.Ns mainGlobals mg->mg d.name=some (.ref fa)->
   ∃fd:FuncData,(∀(s:Shared) (u:Value),BindsTo s fd ⟨[u],[]⟩ [("_law_script",u)])/\∀base:Heap,(K w.params).In base->base.Ns mainGlobals mg->FnOk l.prog w (K w.params) mg base DD 17 fa fd ["_law_script"] (Me (K w.params))) :
  W.WalkO q loose XP YP l.row.toRowW d [] (fun f vs=>PySem.call f vs):=
 L2.Ua (n:=63) (k:=17) (x:="_law_script") (CX:=fun _=>DD) (sp:=fun w=>Me (K w.params)) hn (by decide) hdf ⟨rfl,by decide,by decide⟩ hY F (fun _ _ a ns hl _ hS=>⟨a,ns,rfl,hS,hl,fun _=>rfl⟩) fun _ _ _ _ _ z=>z
end K35
def PySem.W.Fast.tw15641715125113993005:Type:=PySem.Expr
theorem PySem.W.Fast.te15641715125113993005:PySem.Expr = PySem.W.Fast.tw15641715125113993005:=rfl
def PySem.W.Fast.tw90343872475197607:Type:=PySem.Params
theorem PySem.W.Fast.te90343872475197607:PySem.Params = PySem.W.Fast.tw90343872475197607:=rfl
open PySem PySem.W PyProof.Rows
set_option maxRecDepth 100000 in
set_option maxHeartbeats 0 in
theorem PySem.Challenge.cw_stemshelf_k35_trees_refused_holds : PySem.Challenge.rw_stemshelf_k35_trees_refused.Holds := by
 w_on;o_law;k_head;(case hw=>w_witness2)
 k_fill
 refine K35.walk (l:=PySem.Challenge.rw_stemshelf_k35_trees_refused) rfl rfl (fun w h Y=>W.kIn_of Y) ?F
 case F=>
  intro w mg fa h KX G hmg
  refine' K35.all_mk KX G hmg ?a0 ?l0 ?c0 ?k0 ?a1 ?l1 ?c1 ?k1 ?a2 ?l2 ?c2 ?k2 ?a3 ?l3 ?c3 ?k3 ?a4 ?i4 ?l4 ?c4 ?k4 ?a5 ?l5 ?c5 ?k5 ?a6 ?l6 ?c6 ?k6 ?a7 ?l7 ?c7 ?k7 ?a8 ?l8 ?c8 ?k8 ?a9 ?l9 ?c9 ?k9 ?a10 ?l10 ?c10 ?k10 ?a11 ?l11 ?c11 ?k11 ?a12 ?l12 ?c12 ?k12 ?a13 ?l13 ?c13 ?k13 ?a14 ?l14 ?c14 ?k14 ?a15 ?l15 ?c15 ?k15 ?a16 ?l16 ?c16 ?k16 ?a17 ?l17 ?c17 ?k17 ?a18 ?l18 ?c18 ?k18 ?a19 ?i19 ?l19 ?c19 ?k19 ?a20 ?i20 ?l20 ?c20 ?k20 ?a21 ?i21 ?l21 ?c21 ?k21 ?a22 ?i22 ?l22 ?c22 ?k22 ?a23 ?i23 ?l23 ?c23 ?k23 ?a24 ?i24 ?l24 ?c24 ?k24 ?a25 ?i25 ?l25 ?c25 ?k25 ?a26 ?i26 ?l26 ?c26 ?k26 ?a27 ?i27 ?l27 ?c27 ?k27 ?a28 ?i28 ?l28 ?c28 ?k28 ?a29 ?i29 ?l29 ?c29 ?k29 ?a30 ?i30 ?l30 ?c30 ?k30 ?a31 ?i31 ?l31 ?c31 ?k31 ?a32 ?i32 ?l32 ?c32 ?k32 ?a33 ?l33 ?c33 ?k33 ?a34 ?l34 ?c34 ?k34 ?a35 ?l35 ?c35 ?k35 ?a36 ?l36 ?c36 ?k36 ?a37 ?l37 ?c37 ?k37 ?Ii ?HJ ?HH ?HZ ?HA ?HP ?HR ?n_Boards_shelves ?n_Boards_writes ?n_Boards_writes_left ?EK ?EO ?E3 ?E6 ?EV ?ER ?E5 ?n_TakenCell_own_tag ?n_TakenCell_own_size ?n_TakenCell_named ?n_TakenCell_times_named ?n_TakenCell_entries_beneath ?n_TakenCell_steps_beneath ?L7 ?Lu ?L0 ?L9 ?Lr ?LY ?L5 ?n_Pool_boards ?n_Pool_taken ?n_Pool_by_sums ?n_Pool_draft ?n_Pool_first_maybe_free ?x_NoPath ?x_Lost ?x_StemError ?x_NoName ?x_TooMany ?x_Twice ?q_TooMany ?m_NoPath_StemError ?m_TooMany_StemError ?Ht ?Ig ?Ih ?Hv ?Ic ?HQ ?Hw ?Gr ?Gv ?GA ?Gz ?GI ?GB ?GD ?HM ?HY ?Ij ?Hr ?HG ?HW ?k_NoPath_NoPath ?k_NoPath_ValueError ?k_NoPath_Lost ?k_NoPath_NoName ?k_NoPath_TooMany ?k_NoPath_Twice ?k_TooMany_NoPath ?k_TooMany_ValueError ?k_TooMany_Lost ?k_TooMany_NoName ?k_TooMany_TooMany ?k_TooMany_Twice ?Fc ?QK ?RX ?Oq ?Re ?EU ?Rn ?Ol ?RY ?LZ ?Gp ?Ja ?R5 ?So ?Lp ?Rc ?LD ?Ea ?FM ?Fd ?LU ?R9 ?Ka ?DS ?E8 ?CG ?Fs ?DW ?Fg ?DI ?Eg
  (case Ii|EK|L7|x_NoPath|x_Lost|x_StemError|x_NoName|x_TooMany|x_Twice|a0|l0|c0|k0|a1|l1|c1|k1|a2|l2|c2|k2|a3|l3|c3|k3|a4|i4|l4|c4|k4|a5|l5|c5|k5|a6|l6|c6|k6|a7|l7|c7|k7|a8|l8|c8|k8|a9|l9|c9|k9|a10|l10|c10|k10|a11|l11|c11|k11|a12|l12|c12|k12|a13|l13|c13|k13|a14|l14|c14|k14|a15|l15|c15|k15|a16|l16|c16|k16|a17|l17|c17|k17|a18|l18|c18|k18|a19|i19|l19|c19|k19|a20|i20|l20|c20|k20|a21|i21|l21|c21|k21|a22|i22|l22|c22|k22|a23|i23|l23|c23|k23|a24|i24|l24|c24|k24|a25|i25|l25|c25|k25|a26|i26|l26|c26|k26|a27|i27|l27|c27|k27|a28|i28|l28|c28|k28|a29|i29|l29|c29|k29|a30|i30|l30|c30|k30|a31|i31|l31|c31|k31|a32|i32|l32|c32|k32|a33|l33|c33|k33|a34|l34|c34|k34|a35|l35|c35|k35|a36|l36|c36|k36|a37|l37|c37|k37|HJ|HH|HZ|HA|HP|HR|n_Boards_shelves|n_Boards_writes|n_Boards_writes_left|EO|E3|E6|EV|ER|E5|n_TakenCell_own_tag|n_TakenCell_own_size|n_TakenCell_named|n_TakenCell_times_named|n_TakenCell_entries_beneath|n_TakenCell_steps_beneath|Lu|L0|L9|Lr|LY|L5|n_Pool_boards|n_Pool_taken|n_Pool_by_sums|n_Pool_draft|n_Pool_first_maybe_free=>k_is)
  (case q_TooMany=>k_exc)
  (case m_NoPath_StemError|m_TooMany_StemError=>kts_exm)
  (case Ht|Ig|Ih|Hv|Ic|HQ|Hw|Gr|Gv|GA|Gz|GI|GB|GD=>k_is)
  (case HM|HY=>kernel_rfl)
  (case Ij|Hr|HG|HW=>k_is)
  (case k_NoPath_NoPath|k_NoPath_ValueError|k_NoPath_Lost|k_NoPath_NoName|k_NoPath_TooMany|k_NoPath_Twice|k_TooMany_NoPath|k_TooMany_ValueError|k_TooMany_Lost|k_TooMany_NoName|k_TooMany_TooMany|k_TooMany_Twice=>kit_is)
  (case Fc|QK|RX|Oq|Re|EU|Rn|Ol|RY|LZ|Gp|Ja|R5|So|Lp|Rc|LD|Ea|FM|Fd|LU|R9|Ka|DS|E8|CG|Fs|DW|Fg|DI|Eg=>k_is)
