import PyProof.Rows.All
import Wide.All
import OpenK.AllK
import Wide.FinOn
import Lean
import PyProof.EqAt
import PyProof.EqKinds
import PyProof.TupleCall
import PySem.Challenge.RW_stemshelf_k38_heads_laid
set_option Elab.async false
set_option linter.all false
set_option maxRecDepth 100000
namespace L2
open PySem PySem.Spec PyProof.Rows
abbrev Key:=Sum Int Str
def keyIs:Key->Value->Bool
 | .inl k,v=>Value.isInt k v
 | .inr x,v=>Value.isStrOf x v
def keyH (w:World):Key->Int
 | .inl k=>hashInt k
 | .inr x=>hashStr w x
theorem keyIs_shape:∀{k:Key} {v:Value},keyIs k v=true->(∃i t,k=Sum.inl i/\v=Value.int i t)\/(∃x t,k=Sum.inr x/\v=Value.str x t)
 | .inl i,v,h=>by
  obtain⟨t,e⟩:=Value.isInt_shape (k:=i) (v:=v) h;exact .inl ⟨i,t,rfl,e⟩
 | .inr x,v,h=>by
  obtain⟨t,e⟩:=Value.isStrOf_shape (x:=x) (v:=v) h;exact .inr ⟨x,t,rfl,e⟩
theorem keyIs_int (i:Int)(t:Tok):keyIs (.inl i) (.int i t)=true:=by simp[keyIs,Value.isInt]
theorem keyIs_str (x:Str)(t:Tok):keyIs (.inr x) (.str x t)=true:=by simp[keyIs,Value.isStrOf]
theorem key_ll (a b:Int):decide ((Sum.inl a:Key)=Sum.inl b)=(a == b):=by
 by_cases e:a=b
 ·subst e;simp
 ·have h:¬(Sum.inl a:Key)=Sum.inl b:=fun q=>e (Sum.inl.inj q)
  rw[decide_eq_false h];exact(beq_eq_false_iff_ne.mpr e).symm
theorem key_rr (a b:Str):decide ((Sum.inr a:Key)=Sum.inr b)=decide (a=b):=by
 by_cases e:a=b
 ·subst e;simp
 ·have h:¬(Sum.inr a:Key)=Sum.inr b:=fun q=>e (Sum.inr.inj q)
  rw[decide_eq_false h,decide_eq_false e]
theorem key_lr (a:Int)(b:Str):decide ((Sum.inl a:Key)=Sum.inr b)=false:=decide_eq_false (fun q=>nomatch q)
theorem key_rl (a:Str)(b:Int):decide ((Sum.inr a:Key)=Sum.inl b)=false:=decide_eq_false (fun q=>nomatch q)
def mixKind (prog:Program)(w:World):PySem.KeyKind prog w Key where
 is:=keyIs
 hash:=keyH w
 inj:=fun v a b ha hb=>by
  rcases keyIs_shape ha with⟨i,t,rfl,rfl⟩|⟨x,t,rfl,rfl⟩
  ·rcases keyIs_shape hb with⟨j,u,rfl,e⟩|⟨y,u,rfl,e⟩
   ·injection e with e1 _;rw[e1]
   ·exact nomatch e
  ·rcases keyIs_shape hb with⟨j,u,rfl,e⟩|⟨y,u,rfl,e⟩
   ·exact nomatch e
   ·injection e with e1 _;rw[e1]
 byValue:=fun k v h=>by
  rcases keyIs_shape h with⟨i,t,rfl,rfl⟩|⟨x,t,rfl,rfl⟩<;>rfl
 pyHash:=fun hv h=>by
  rcases keyIs_shape hv with⟨i,t,rfl,rfl⟩|⟨x,t,rfl,rfl⟩
  ·exact wpAny_pyHash_int h
  ·exact wpAny_pyHash_str h
 eqBool:=fun hu hv h=>by
  rcases keyIs_shape hu with⟨i,t,rfl,rfl⟩|⟨x,t,rfl,rfl⟩
  ·rcases keyIs_shape hv with⟨j,u,rfl,rfl⟩|⟨y,u,rfl,rfl⟩
   ·rw[key_ll] at h;exact wpAny_eqBool_int h
   ·rw[key_lr] at h;exact SeqAt.EqAt.int_str i t y u _ _ _ _ h
  ·rcases keyIs_shape hv with⟨j,u,rfl,rfl⟩|⟨y,u,rfl,rfl⟩
   ·rw[key_rl] at h;exact SeqAt.EqAt.str_int x t j u _ _ _ _ h
   ·rw[key_rr] at h;exact wpAny_eqBool_str h
 «strs»:=fun k x t v h=>by
  rcases keyIs_shape h with⟨i,u,rfl,e⟩|⟨y,u,rfl,e⟩
  ·exact nomatch e
  ·injection e with e1 _
   subst e1;cases v<;>rfl
theorem mixKind_int (prog:Program)(w:World)(i:Int)(t:Tok):(mixKind prog w).is (.inl i) (.int i t)=true:=keyIs_int i t
theorem mixKind_str (prog:Program)(w:World)(x:Str)(t:Tok):(mixKind prog w).is (.inr x) (.str x t)=true:=keyIs_str x t
inductive V where
 |non|bl (b:Bool)|int (i:Int)|str (x:Str)|byt (b:Array UInt8)|flt (b:UInt64)|ref (a:Addr)|ty (n:String)
 deriving DecidableEq
def RelV:V->Value->Prop
 | .non,u=>u=Value.none
 | .bl b,u=>u=Value.bool b
 | .int i,u=>∃t,u=Value.int i t
 | .str x,u=>∃t,u=Value.str x t
 | .byt b,u=>∃t,u=Value.bytes b t
 | .flt b,u=>∃t,u=Value.float b t
 | .ref a,u=>u=Value.ref a
 | .ty n,u=>u=Value.type n
abbrev Vals:List V->List Value->Prop:=Paired RelV
theorem Vals.length {xs:List V}{us:List Value}(r:Vals xs us):xs.length=us.length:=Paired.length r
theorem Vals.get:∀{xs:List V} {us:List Value} {i:Nat} {x:V},Vals xs us->xs[i]?=some x->∃u,us[i]?=some u/\RelV x u
 |_,_,_,_,.nil,e=>by simp at e
 |_,_,0,_,.cons r _,e=>by simp at e;subst e;exact⟨_,rfl,r⟩
 |_,_,i+1,x,.cons _ t,e=>by
  obtain⟨u,h1,h2⟩:=Vals.get (i:=i) (x:=x) t (by simpa using e);exact⟨u,by simpa using h1,h2⟩
theorem Vals.set {x:V}{u:Value}(r:RelV x u):∀{xs:List V} {us:List Value} (i:Nat),Vals xs us->Vals (xs.set i x) (us.set i u)
 |_,_,_,.nil=>.nil
 |_,_,0,.cons _ t=>.cons r t
 |_,_,i+1,.cons q t=>.cons q (Vals.set r i t)
theorem Vals.append:∀{xs ys:List V} {us ws:List Value},Vals xs us->Vals ys ws->Vals (xs++ys) (us++ws)
 |_,_,_,_,.nil,s=>s
 |_,_,_,_,.cons r t,s=>.cons r (Vals.append t s)
theorem Vals.take:∀{xs:List V} {us:List Value} (n:Nat),Vals xs us->Vals (xs.take n) (us.take n)
 |_,_,0,_=>.nil
 |_,_,_+1,.nil=>.nil
 |_,_,n+1,.cons r t=>.cons r (Vals.take n t)
theorem Vals.drop:∀{xs:List V} {us:List Value} (n:Nat),Vals xs us->Vals (xs.drop n) (us.drop n)
 |_,_,0,r=>r
 |_,_,_+1,.nil=>.nil
 |_,_,n+1,.cons _ t=>Vals.drop n t
theorem Vals.none_of:∀{xs:List V} {us:List Value} {i:Nat},Vals xs us->xs[i]?=none->us[i]?=none:=fun{xs us i} r e=>by
 have h1:=r.length;have h2:xs.length<=i:=List.getElem?_eq_none_iff.mp e;exact List.getElem?_eq_none_iff.mpr (by omega)
def RelO:Option V->Option Value->Prop
 |some v,some u=>RelV v u
 |none,none=>True
 |_,_=>False
def KV {κ:Type}:List (κ×V)->List (κ×Value)->Prop:=Paired fun(p:κ×V) (q:κ×Value)=>p.1=q.1/\RelV p.2 q.2
def kV:Key->V
 | .inl i=>.int i
 | .inr x=>.str x
inductive HO where
 |lst (xs:List V)
 |tup (xs:List V)
 |dK (kvs:List (Key×V))|dT (kvs:List (List Key×V))
 |set (S:Int->Bool) (n:Nat)
 |ins (C dx:Addr) (fs:List (Str×V))
 |own (x:Addr)
 |xd (fs:List (Str×V))
 |met (f x:Addr)
 |rng (lo hi:Int)
 |frz (o:Obj) (u:HO)
 |tbl (ps:Array Value)
 |ext (φ:Heap->Prop)
abbrev Hp:=Addr->Option HO
def upd (H:Hp)(a:Addr)(o:HO):Hp:=fun b=>if b=a then some o else H b
theorem upd_same {H:Hp}{a:Addr}{o:HO}:upd H a o a=some o:=by unfold upd;rw[if_pos rfl]
theorem upd_ne {H:Hp}{a b:Addr}{o:HO}(h:b≠a):upd H a o b=H b:=by unfold upd;rw[if_neg h]
theorem upd_upd {H:Hp}{a:Addr}{o u:HO}:upd (upd H a o) a u=upd H a u:=by
 funext b;unfold upd;split<;>rfl
theorem ne_of {H:Hp}{a b:Addr}{o u:HO}(h:H a=some o)(h':H b=some u)(d:o≠u):a≠b:=by
 intro e;subst e;rw[h] at h';exact d (Option.some.inj h')
theorem ne_of_none {H:Hp}{a b:Addr}{o:HO}(h:H a=some o)(h':H b=none):a≠b:=by
 intro e;subst e;rw[h] at h';cases h'
def enuV:List V->Bool
 |[.int _,_]=>true
 |_=>false
def TupN (b:Bool)(h:Heap)(a:Addr)(items:Array Value):Prop:=∃o,h.get? a=some o/\o.cls=.type "tuple"/\∃n,o.data=.seq items n/\(b=false->o.dict=none)
theorem TupN.is {b:Bool}{h:Heap}{a:Addr}{items:Array Value}(x:TupN b h a items):IsTup h a items:=let⟨o,e,c,n,d,_⟩:=x;⟨o,e,c,n,d⟩
theorem TupN.lt {b:Bool}{h:Heap}{a:Addr}{items:Array Value}(x:TupN b h a items):a<h.objs.size:=x.is.lt
theorem TupN.new {b:Bool}(h:Heap)(items:Array Value):TupN b (h.push { cls:=.type "tuple",data:=.seq items }) h.objs.size items:=⟨_,Heap.get?_push_size _ rfl,rfl,_,rfl,fun _=>rfl⟩
section
variable (P:Program)(w:World)
def ObjOk (H:Hp)(h:Heap)(a:Addr):HO->Prop
 | .lst xs=>xs.length<=sizeLine/\∃(its:List Value) (n:Nat),Vals xs its/\h.get? a=some { cls:=.type "list",data:=.seq its.toArray n }
 | .tup xs=>xs.length<=sizeLine/\∃its:List Value,Vals xs its/\TupN (enuV xs) h a its.toArray
 | .dK kvs=>kvs.length<=sizeLine/\(a == sysModules)=false/\∃vs,KV kvs vs/\h.DictOf (mixKind P w) a vs
 | .dT kvs=>kvs.length<=sizeLine/\(a == sysModules)=false/\∃xs:List (List Key×Addr×Value),
   Paired (fun(p:List Key×V) (q:List Key×Addr×Value)=>p.1=q.1/\H q.2.1=some (.tup (p.1.map kV))/\RelV p.2 q.2.2) kvs xs/\
   ∃o es ep,h.get? a=some o/\o.ExactDict/\o.data=.dict es ep/\es.toList=xs.map (entryOfKey (tupleKind (mixKind P w)))/\(xs.map (·.1)).Nodup
 | .set S n=>h.SetOf (intKind P w) a S n
 | .ins C dx fs=>H dx=some (.own a)/\fs.length<=1000/\dx≠a/\h.get? a=some (PySem.W.instObj C dx)/\
   ∃mA,h.Ns1 dx mA/\(∀f,RelO (fs.lookup f) (mA f))/\PySem.Within mA (fs.map (·.1))
 | .own _=>∃o,h.get? a=some o
 | .xd fs=>∃mA,h.Ns1 a mA/\∀f,RelO (fs.lookup f) (mA f)
 | .rng lo hi=>∃t u v,h.get? a=some { cls:=.type "range",data:=.fields #[.int lo t,.int hi u,.int 1 v] }
 | .frz o u=>h.get? a=some o/\ObjOk H h a u
 | .tbl ps=>h.get? a=some { cls:=.none,data:=.fields ps }
 | .met f x=>h.get? a=some (PySem.W.methodObj (.ref f) (.ref x))
 | .ext φ=>φ h/\(∃o,h.get? a=some o)/\∀h1 h2:Heap,φ h1->(∀o,h1.get? a=some o->h2.get? a=some o)->φ h2
def HOk (H:Hp)(h:Heap):Prop:=∀a o,H a=some o->ObjOk P w H h a o
end
section
variable {P:Program}{w:World}{H H':Hp}{h h':Heap}{a:Addr}{o:HO}
theorem ObjOk.lt (x:ObjOk P w H h a o):a<h.objs.size:=by
 cases o with
 |lst xs=>obtain⟨_,_,_,_,e⟩:=x;exact Heap.lt_size e
 |tup xs=>obtain⟨_,_,_,p⟩:=x;exact p.lt
 |dK kvs=>obtain⟨_,_,_,_,o,_,_,e,_⟩:=x;exact Heap.lt_size e
 |dT kvs=>obtain⟨_,_,_,_,o,_,_,e,_⟩:=x;exact Heap.lt_size e
 |set S n=>obtain⟨o,_,_,_,e,_⟩:=x;exact Heap.lt_size e
 |ins C dx fs=>obtain⟨_,_,_,e,_⟩:=x;exact Heap.lt_size e
 |own y=>obtain⟨_,e⟩:=x;exact Heap.lt_size e
 |xd fs=>obtain⟨_,⟨_,_,_,e,_⟩,_⟩:=x;exact Heap.lt_size e
 |rng lo hi=>obtain⟨_,_,_,e⟩:=x;exact Heap.lt_size e
 |frz ob u=>obtain⟨e,_⟩:=x;exact Heap.lt_size e
 |tbl ps=>exact Heap.lt_size (show h.get? a=some _ from x)
 |met f y=>exact Heap.lt_size (show h.get? a=some _ from x)
 |ext φ=>obtain⟨_,⟨_,e⟩,_⟩:=x;exact Heap.lt_size e
theorem Paired.mapP {α β:Type}{F G:α->β->Prop}:∀{l₁:List α} {l₂:List β},Paired F l₁ l₂->(∀a b,F a b->G a b)->Paired G l₁ l₂
 |_,_,.nil,_=>.nil
 |_,_,.cons r t,f=>.cons (f _ _ r) (Paired.mapP t f)
theorem ObjOk.stay (x:ObjOk P w H h a o) (k:∀b u,(b=a\/H b=some (.own a))->h.get? b=some u->h'.get? b=some u)
  (ho:∀b,H b=some (.own a)->H' b=some (.own a)) (ht:∀b xs,H b=some (.tup xs)->H' b=some (.tup xs)):ObjOk P w H' h' a o:=by
 induction o with
 |lst xs=>obtain⟨z,its,n,r,e⟩:=x;exact⟨z,its,n,r,k _ _ (.inl rfl) e⟩
 |tup xs=>obtain⟨z,its,r,ob,e,c⟩:=x;exact⟨z,its,r,ob,k _ _ (.inl rfl) e,c⟩
 |dK kvs=>obtain⟨z,y,vs,r,ob,es,ep,e,c⟩:=x;exact⟨z,y,vs,r,ob,es,ep,k _ _ (.inl rfl) e,c⟩
 |dT kvs=>
  obtain⟨z,y,xs,r,ob,es,ep,e,c⟩:=x;exact⟨z,y,xs,Paired.mapP r fun p q z=>⟨z.1,ht _ _ z.2.1,z.2.2⟩,ob,es,ep,k _ _ (.inl rfl) e,c⟩
 |set S n=>obtain⟨ob,es,ep,t,e,c⟩:=x;exact⟨ob,es,ep,t,k _ _ (.inl rfl) e,c⟩
 |ins C dx fs=>
  obtain⟨d,z,ne,e,mA,⟨od,es,ep,e2,c⟩,r⟩:=x;exact⟨ho _ d,z,ne,k _ _ (.inl rfl) e,mA,⟨od,es,ep,k _ _ (.inr d) e2,c⟩,r⟩
 |own y=>obtain⟨ob,e⟩:=x;exact⟨ob,k _ _ (.inl rfl) e⟩
 |xd fs=>obtain⟨mA,⟨od,es,ep,e,c⟩,r⟩:=x;exact⟨mA,⟨od,es,ep,k _ _ (.inl rfl) e,c⟩,r⟩
 |rng lo hi=>obtain⟨t,u,v,e⟩:=x;exact⟨t,u,v,k _ _ (.inl rfl) e⟩
 |frz ob u ih=>obtain⟨e,q⟩:=x;exact⟨k _ _ (.inl rfl) e,ih q⟩
 |tbl ps=>
  have e:h.get? a=some { cls:=.none,data:=.fields ps }:=x;show h'.get? a=some { cls:=.none,data:=.fields ps };exact k a _ (.inl rfl) e
 |met f y=>
  have e:h.get? a=some (PySem.W.methodObj (.ref f) (.ref y)):=x;show h'.get? a=some (PySem.W.methodObj (.ref f) (.ref y));exact k a _ (.inl rfl) e
 |ext φ=>obtain⟨p,⟨o,e⟩,st⟩:=x;exact⟨st _ _ p fun o q=>k _ _ (.inl rfl) q,⟨o,k _ _ (.inl rfl) e⟩,st⟩
theorem HOk.lt (x:HOk P w H h)(e:H a=some o):a<h.objs.size:=(x a o e).lt
theorem HOk.fresh (x:HOk P w H h)(e:h.objs.size<=a):H a=none:=by
 cases q:H a with
 |none=>rfl
 |some u=>exact absurd (Nat.lt_of_lt_of_le (x.lt q) e) (Nat.lt_irrefl _)
theorem HOk.kept (x:HOk P w H h)(k:∀b u,h.get? b=some u->h'.get? b=some u):HOk P w H h':=fun a o e=>
 (x a o e).stay (fun b u _ q=>k b u q) (fun _ q=>q) fun _ _ q=>q
theorem HOk.laid (x:HOk P w H h)(k:∀b u,h.get? b=some u->h'.get? b=some u)(hp:h.objs.size<=a)(new:ObjOk P w (upd H a o) h' a o):HOk P w (upd H a o) h':=fun b u e=>by
 have hn:=x.fresh hp
 by_cases hb:b=a
 ·subst hb;rw[upd_same] at e;cases e;exact new
 ·rw[upd_ne hb] at e;exact(x b u e).stay (fun c v _ q=>k c v q) (fun c q=>by rw[upd_ne (ne_of_none q hn)];exact q) fun c xs q=>by rw[upd_ne (ne_of_none q hn)];exact q
end
def Rd (H:Hp)(a:Addr)(u:HO):Prop:=H a=some u\/∃o,H a=some (.frz o u)
theorem Rd.of {H:Hp}{a:Addr}{u:HO}(h:H a=some u):Rd H a u:=.inl h
theorem Rd.ok {P:Program}{w:World}{H:Hp}{h:Heap}{a:Addr}{u:HO}(r:Rd H a u)(x:HOk P w H h):ObjOk P w H h a u:=by
 rcases r with r|⟨o,r⟩
 ·exact x a u r
 ·obtain⟨_,q⟩:=x a _ r;exact q
def Mut:Option HO->Prop
 |some (.lst _)=>True
 |some (.dK _)=>True
 |some (.dT _)=>True
 |some (.set _ _)=>True
 |some (.ins _ _ _)=>True
 |some (.ext _)=>True
 |_=>False
section
variable {P:Program}{w:World}{H:Hp}{h h':Heap}{x e:Addr}{o':HO}
theorem HOk.write (ok:HOk P w H h) (mu:Mut (H x)) (he:e=x\/H e=some (.own x)) (k:∀b u,b≠e->h.get? b=some u->h'.get? b=some u) (heo:∃u,h'.get? e=some u)
  (new:ObjOk P w (upd H x o') h' x o'):HOk P w (upd H x o') h':=fun b u q=>by
 have nown:∀c y,H c=some (.own y)->c≠x:=fun c y r z=>by subst z;rw[r] at mu;exact mu
 have ntup:∀c xs,H c=some (.tup xs)->c≠x:=fun c xs r z=>by subst z;rw[r] at mu;exact mu
 by_cases hb:b=x
 ·subst hb;rw[upd_same] at q;cases q;exact new
 ·rw[upd_ne hb] at q
  by_cases hbe:b=e
  ·have q':H b=some (.own x):=by
    rcases he with z|z
    ·exact absurd (hbe.trans z) hb
    ·rw[hbe];exact z
   rw[q] at q';cases q';obtain⟨v,hv⟩:=heo;exact⟨v,by rw[hbe];exact hv⟩
  ·refine(ok b u q).stay (fun c v hc r=>k c v ?_ r) (fun c r=>by rw[upd_ne (nown c b r)];exact r) fun c xs r=>by rw[upd_ne (ntup c xs r)];exact r
   rcases hc with rfl|hc
   ·exact hbe
   ·rintro rfl
    rcases he with z|z
    ·exact nown c b hc z
    ·rw[hc] at z;cases z;exact hb rfl
end
structure Un (fs ex:List Addr) (H H':Hp) (h h':Heap):Prop where
 keep:∀b o,h.get? b=some o->H b=none->b∉fs->b∉ex->h'.get? b=some o
 slot:∀b o,h.get? b=some o->H b=none->b∈fs->b∉ex->∃sl,h'.get? b=some { o with slots:=sl }
 free:∀b o,h.get? b=some o->H b=none->b∉ex->H' b=none
 there:∀b o,h.get? b=some o->b∉ex->∃o',h'.get? b=some o'
 tups:∀b xs,H b=some (.tup xs)->H' b=some (.tup xs)
 frzs:∀b o u,H b=some (.frz o u)->H' b=some (.frz o u)
 tbls:∀b ps,H b=some (.tbl ps)->∃more,H' b=some (.tbl (ps++more))
section
variable {fs fs' ex ex':List Addr}{H H1 H2:Hp}{h h1 h2 h':Heap}{a x e:Addr}{o:HO}
theorem Un.any (u:Un fs ex H H1 h h1){b:Addr}{ob:Obj}(q:h.get? b=some ob)(n:H b=none)(hx:b∉ex):∃sl,h1.get? b=some { ob with slots:=sl }:=by
 by_cases hb:b∈fs
 ·exact u.slot b ob q n hb hx
 ·exact⟨ob.slots,u.keep b ob q n hb hx⟩
theorem Un.trans (a:Un fs ex H H1 h h1)(b:Un fs ex H1 H2 h1 h2):Un fs ex H H2 h h2 where
 keep:=fun c ob q n hc hx=>b.keep c ob (a.keep c ob q n hc hx) (a.free c ob q n hx) hc hx
 slot:=fun c ob q n hc hx=>by
  obtain⟨sl,e1⟩:=a.slot c ob q n hc hx;obtain⟨sl',e2⟩:=b.slot c _ e1 (a.free c ob q n hx) hc hx;exact⟨sl',e2⟩
 free:=fun c ob q n hx=>by
  obtain⟨o',e1⟩:=a.there c ob q hx;exact b.free c o' e1 (a.free c ob q n hx) hx
 there:=fun c ob q hx=>by
  obtain⟨o',e1⟩:=a.there c ob q hx;exact b.there c o' e1 hx
 tups:=fun c xs q=>b.tups c xs (a.tups c xs q)
 frzs:=fun c ob xs q=>b.frzs c ob xs (a.frzs c ob xs q)
 tbls:=fun c ps q=>by
  obtain⟨m1,e1⟩:=a.tbls c ps q;obtain⟨m2,e2⟩:=b.tbls c _ e1;exact⟨m1++m2,by rw[e2,Array.append_assoc]⟩
theorem Un.kept (k:∀b u,h.get? b=some u->h'.get? b=some u):Un fs ex H H h h':=
 ⟨fun b ob q _ _ _=>k b ob q,fun b ob q _ _ _=>⟨ob.slots,k b ob q⟩,fun _ _ _ n _=>n,fun b ob q _=>⟨ob,k b ob q⟩,fun _ _ q=>q,fun _ _ _ q=>q,fun _ ps q=>⟨#[],by rw[q];simp⟩⟩
theorem Un.refl:Un fs ex H H h h:=Un.kept fun _ _ q=>q
theorem Un.laid (k:∀b u,h.get? b=some u->h'.get? b=some u)(hp:h.objs.size<=a)(hn:H a=none):Un fs ex H (upd H a o) h h' where
 keep:=fun b u q _ _ _=>k b u q
 slot:=fun b u q _ _ _=>⟨u.slots,k b u q⟩
 free:=fun b u q n _=>by rw[upd_ne (Nat.ne_of_lt (Nat.lt_of_lt_of_le (Heap.lt_size q) hp))];exact n
 there:=fun b u q _=>⟨u,k b u q⟩
 tups:=fun b xs q=>by rw[upd_ne (ne_of_none q hn)];exact q
 frzs:=fun b u xs q=>by rw[upd_ne (ne_of_none q hn)];exact q
 tbls:=fun b ps q=>⟨#[],by rw[upd_ne (ne_of_none q hn),q];simp⟩
theorem Un.write (mu:Mut (H x))(he:e=x\/H e=some (.own x))(k:∀b u,b≠e->h.get? b=some u->h'.get? b=some u)(heo:∃u,h'.get? e=some u):Un fs ex H (upd H x o) h h':=by
 have hx:∀b,H b=none->b≠x:=fun b n z=>by subst z;rw[n] at mu;exact mu
 have hb:∀b,H b=none->b≠e:=fun b n z=>by
  subst z;rcases he with r|r
  ·exact hx b n r
  ·rw[n] at r;cases r
 have hm:∀b u,H b=some u->¬Mut (some u)->b≠x:=fun b u q nm z=>by subst z;rw[q] at mu;exact nm mu
 refine⟨fun b u q n _ _=>k b u (hb b n) q,fun b u q n _ _=>⟨u.slots,k b u (hb b n) q⟩,fun b u q n _=>by rw[upd_ne (hx b n)];exact n,fun b u q _=>?_,
  fun b xs q=>by rw[upd_ne (hm b _ q fun z=>z)];exact q,fun b u xs q=>by rw[upd_ne (hm b _ q fun z=>z)];exact q,fun b ps q=>⟨#[],by rw[upd_ne (hm b _ q fun z=>z),q];simp⟩⟩
 by_cases hbe:b=e
 ·subst hbe;exact heo
 ·exact⟨u,k b u hbe q⟩
theorem Un.mono (u:Un fs ex H H1 h h1)(hs:∀b∈fs,b∈fs')(hx:∀b∈ex,b∈ex'):Un fs' ex' H H1 h h1:=
 ⟨fun b ob q n hb he=>u.keep b ob q n (fun z=>hb (hs b z)) fun z=>he (hx b z),fun _ _ q n _ he=>u.any q n fun z=>he (hx _ z),fun b ob q n he=>u.free b ob q n fun z=>he (hx b z),fun b ob q he=>u.there b ob q fun z=>he (hx b z),u.tups,u.frzs,u.tbls⟩
end
def trk (h:Heap)(H:Hp):List Addr:=(List.range h.objs.size).filter fun a=>(H a).isSome
def hidT (h:Heap)(H:Hp):Heap:=PySem.W.hideAll h (trk h H)
theorem hidT_size (h:Heap)(H:Hp):(hidT h H).objs.size=h.objs.size:=PySem.W.hideAll_size _ _
theorem hidT_get {h:Heap}{H:Hp}{b:Addr}{o:Obj}(e:h.get? b=some o)(n:H b=none):(hidT h H).get? b=some o:=
 PySem.W.hideAll_get _ e fun hm=>by
  have q:(H b).isSome=true:=(List.mem_filter.mp hm).2;rw[n] at q;simp at q
theorem of_hidT {h:Heap}{H:Hp}{b:Addr}{o:Obj}(e:(hidT h H).get? b=some o):h.get? b=some o/\H b=none:=by
 have e':h.get? b=some o:=PySem.W.of_hideAll (trk h H) e;refine⟨e',?_⟩;cases q:H b with
 |none=>rfl
 |some x=>
  have hm:b∈trk h H:=List.mem_filter.mpr ⟨List.mem_range.mpr (Heap.lt_size e'),by simp[q]⟩;have z:(hidT h H).get? b=none:=PySem.W.hideAll_none (trk h H) hm;rw[z] at e;cases e
def allNews (g h:Heap)(L:Addr):List (Addr×Obj):=(List.range h.objs.size).filterMap fun a=>if a=L\/(g.get? a).isSome=true then none else(h.get? a).map fun o=>(a,o)
def rest (g h:Heap)(L d:Addr):List (Addr×Obj):=(allNews g h L).filter fun p=>decide (p.1≠d)
structure Mod (K:PySem.W.Frag) (mg:Str->Option Value) (base:Heap):Prop where
 kin:K.In base
 glob:base.Ns mainGlobals mg
 blt:∃mb,base.Ns builtinsNs mb/\∀x:Str,x≠"__name__"->mb x=bootBuiltins x
 nolimit:base.NoLimit
structure Cx where
 prog:Program
 w:World
 K:PySem.W.Frag
 mg:Str->Option Value
 base:Heap
 A:Around
 N:List Str
 s₀:Shared
 H₀:Hp
 env:Env
 outer:List Env
 stack:List Env
 ex:List Addr
 fn:Str->Bool
 calm:Bool
 pn:List (Addr×Obj)
 xe:Value->Shared->Prop
def frs (l:List Env):List Addr:=l.filterMap (·.frame)
abbrev Cx.fs (X:Cx):List Addr:=frs X.outer
def Vis (sc:Scope)(x:Str):Prop:=sc.names.lookup x=some .local\/sc.names.lookup x=some .cell\/sc.names.lookup x=some .free
def Loc (sc:Scope)(x:Str):Prop:=sc.names.lookup x=some .local\/sc.names.lookup x=some .cell
def Look (env:Env)(h:Heap)(m:Str->Option Value)(x:Str)(u:Value):Prop:=
 (env.kindOf x=some .local/\m x=some u)\/((env.kindOf x=some .cell\/env.kindOf x=some .free)/\∃c,env.cells.lookup x=some c/\h.IsCell c (some u))
structure Cx.Ok (X:Cx):Prop where
 mod:Mod X.K X.mg X.base
 kind:X.env.scope.kind=.function
 glob:X.env.globals=mainGlobals
 blt:X.env.builtins=builtinsNs
 above:X.s₀.heap.objs.size<=X.env.locals
 inj:∀x y c,X.env.cells.lookup x=some c->X.env.cells.lookup y=some c->x=y
 has:∀x,(X.env.kindOf x=some .cell\/X.env.kindOf x=some .free)->∃c,X.env.cells.lookup x=some c
 cab:∀x c,X.fn x=true->X.env.cells.lookup x=some c->X.s₀.heap.objs.size<=c
 hd:X.calm=true->X.A.handled=none
 frames:X.A.frames=some X.stack
 stk:X.stack=X.outer\/(X.stack=X.env::X.outer/\X.env.frame=some X.env.locals)
 exf:∀b∈X.ex,b≠X.env.locals/\∀x c,X.env.cells.lookup x=some c->c≠b
 bs:∀b o,X.base.get? b=some o->X.s₀.heap.get? b=some o/\X.H₀ b=none
 bsz:X.base.objs.size<=X.s₀.heap.objs.size
 noex:∀b o,X.base.get? b=some o->b∉X.ex
 exfs:∀b∈X.ex,b∉X.fs
 funs:X.s₀.heap.FunFrames X.base X.outer
 frf:∀b∈X.fs,X.H₀ b=none
structure Inv (X:Cx) (pins:List (Addr×Obj)) (σ:List (Option V)) (H:Hp) (s:Shared):Prop where
 ok:X.Ok
 os:s.os=X.s₀.os
 bare:AllBare s.gens
 base:Un X.fs X.ex X.H₀ H X.s₀.heap s.heap
 loc:∃m,s.heap.Ns X.env.locals m/\∀(i:Nat) (x:Str) (v:V),X.N[i]?=some x->σ[i]?=some (some v)->Vis X.env.scope x->∃u,RelV v u/\Look X.env s.heap m x u
 cell:∀x c,X.env.cells.lookup x=some c->∃v,s.heap.IsCell c v
 free:H X.env.locals=none
 freeC:∀x c,X.env.cells.lookup x=some c->H c=none
 pin:∀p∈X.pn++pins,s.heap.get? p.1=some p.2/\H p.1=none/\p.1≠X.env.locals/\p.1∉X.fs/\∀v,p.2.data≠.cell v
 hok:HOk X.prog X.w H s.heap
 len:σ.length=X.N.length
section
variable {X:Cx}{pins:List (Addr×Obj)}{σ:List (Option V)}{H H':Hp}{s:Shared}{h':Heap}
theorem Cx.Ok.nofr (ok:X.Ok){b:Addr}{o:Obj}(e:X.base.get? b=some o):b∉X.fs:=fun hb=>by
 have:=(ok.funs.mem hb).1;rw[e] at this;cases this
theorem Inv.bs (I:Inv X pins σ H s):∀b o,X.base.get? b=some o->s.heap.get? b=some o/\H b=none:=fun b o e=>
 ⟨I.base.keep b o (I.ok.bs b o e).1 (I.ok.bs b o e).2 (I.ok.nofr e) (I.ok.noex b o e),I.base.free b o (I.ok.bs b o e).1 (I.ok.bs b o e).2 (I.ok.noex b o e)⟩
theorem Inv.bk (I:Inv X pins σ H s):∀b o,X.base.get? b=some o->s.heap.get? b=some o:=fun b o e=>(I.bs b o e).1
theorem Inv.mod (I:Inv X pins σ H s):Mod X.K X.mg X.base:=I.ok.mod
theorem Inv.kIn (I:Inv X pins σ H s):X.K.In s.heap:=I.ok.mod.kin.keeps I.bk
theorem Inv.nolimit (I:Inv X pins σ H s):s.heap.NoLimit:=I.ok.mod.nolimit.keeps I.bk
theorem Inv.fr (I:Inv X pins σ H s):∃m,Fr X.base X.env.locals s.heap m:=
 let⟨m,hn,_⟩:=I.loc
 ⟨m,hn,I.bk,Nat.le_trans I.ok.bsz I.ok.above⟩
theorem Inv.lt (I:Inv X pins σ H s):X.env.locals<s.heap.objs.size:=let⟨_,hn,_⟩:=I.loc;hn.lt
theorem Inv.sz (I:Inv X pins σ H s):X.s₀.heap.objs.size<=s.heap.objs.size:=Nat.le_trans I.ok.above (Nat.le_of_lt I.lt)
theorem Inv.nofs (I:Inv X pins σ H s){a:Addr}(h:s.heap.objs.size<=a):a∉X.fs:=fun hb=>by
 obtain⟨_,o,ho,_⟩:=I.ok.funs.mem hb;exact absurd (Nat.lt_of_lt_of_le (Heap.lt_size ho) (Nat.le_trans I.sz h)) (Nat.lt_irrefl _)
theorem Inv.cne (I:Inv X pins σ H s):∀x c,X.env.cells.lookup x=some c->c≠X.env.locals:=fun x c e z=>by
 obtain⟨v,o,ho,hd⟩:=I.cell x c e;obtain⟨m,⟨o',es,ep,ho',hd',_⟩,_⟩:=I.loc;rw[z,ho'] at ho;cases ho;rw[hd'] at hd;cases hd
theorem Inv.funs (I:Inv X pins σ H s):s.heap.FunFrames X.base X.outer:=by
 have all:∀(l:List Env),(∀b∈frs l,b∈X.fs)->X.s₀.heap.FunFrames X.base l->s.heap.FunFrames X.base l:=by
  intro l
  induction l with
  |nil=>intro _ _;trivial
  |cons env r ih=>
   intro hs hl;obtain⟨hk,⟨L,o,hf,hn,ho,hd⟩,hr⟩:=hl;have hL:L∈X.fs:=hs L (by unfold frs;rw[List.filterMap_cons,hf];exact List.mem_cons_self);obtain⟨sl,e⟩:=I.base.slot L o ho (I.ok.frf L hL) hL fun z=>I.ok.exfs L z hL
   exact⟨hk,⟨L,_,hf,hn,e,hd⟩,ih (fun b hb=>hs b (by unfold frs;rw[List.filterMap_cons,hf];exact List.mem_cons_of_mem _ hb)) hr⟩
 exact all X.outer (fun _ hb=>hb) I.ok.funs
theorem Inv.stack (I:Inv X pins σ H s):s.heap.FunFrames X.base X.stack:=by
 rcases I.ok.stk with e|⟨e,hf⟩
 ·rw[e];exact I.funs
 ·rw[e];obtain⟨m,hn,_⟩:=I.loc;refine .cons (by rw[I.ok.kind];decide) hf hn ?_ I.funs;exact Heap.get?_none_of_le (Nat.le_trans I.ok.bsz I.ok.above)
theorem Inv.stkSub (I:Inv X pins σ H s):∀b∈frs X.stack,b∈X.env.locals::X.fs:=fun b hb=>by
 rcases I.ok.stk with e|⟨e,hf⟩
 ·rw[e] at hb;exact List.mem_cons_of_mem _ hb
 ·rw[e] at hb;unfold frs at hb;rw[List.filterMap_cons,hf] at hb;exact hb
theorem Inv.stkFree (I:Inv X pins σ H s):∀b∈frs X.stack,H b=none:=fun b hb=>by
 rcases List.mem_cons.mp (I.stkSub b hb) with e|hb
 ·rw[e];exact I.free
 ·obtain⟨_,o,ho,_⟩:=I.ok.funs.mem hb;exact I.base.free b o ho (I.ok.frf b hb) fun z=>I.ok.exfs b z hb
theorem Inv.step {g':Array GenState} {t':Nat} {d':Drawn} {ch:List Addr} (I:Inv X pins σ H s)
  (hch:∀b∈ch,(b∈X.ex\/X.s₀.heap.objs.size<=b)/\b≠X.env.locals/\(∀x c,X.env.cells.lookup x=some c->c≠b)/\∀p∈X.pn++pins,p.1≠b)
  (keep:∀b o,b≠X.env.locals->b∉X.fs->b∉ch->s.heap.get? b=some o->H b=none->h'.get? b=some o)
  (slot:∀b o,b≠X.env.locals->b∈X.fs->b∉ch->s.heap.get? b=some o->H b=none->∃sl,h'.get? b=some { o with slots:=sl }) (free:∀b o,b∉ch->s.heap.get? b=some o->H b=none->H' b=none)
  (there:∀b o,b∉ch->s.heap.get? b=some o->∃o',h'.get? b=some o')
  (tups:∀b xs,H b=some (.tup xs)->H' b=some (.tup xs)) (frzs:∀b o u,H b=some (.frz o u)->H' b=some (.frz o u)) (tbls:∀b ps,H b=some (.tbl ps)->∃more,H' b=some (.tbl (ps++more)))
  (ns:∀m,s.heap.Ns X.env.locals m->h'.Ns X.env.locals m) (hok:HOk X.prog X.w H' h') (hg:AllBare g') :
  Inv X pins σ H' { s with heap:=h',gens:=g',drawn:=d',toks:=t' }:=by
 have neL:∀b o,X.s₀.heap.get? b=some o->b≠X.env.locals:=fun b o e=>Nat.ne_of_lt (Nat.lt_of_lt_of_le (Heap.lt_size e) I.ok.above)
 have neC:∀b o,X.s₀.heap.get? b=some o->b∉X.ex->b∉ch:=fun b o e hx hb=>by
  rcases(hch b hb).1 with z|z
  ·exact hx z
  ·exact absurd (Nat.lt_of_lt_of_le (Heap.lt_size e) z) (Nat.lt_irrefl _)
 have cellK:∀x c,X.env.cells.lookup x=some c->∀v,s.heap.IsCell c v->h'.IsCell c v:=fun x c e v ⟨o,ho,hd⟩=>by
  have nch:c∉ch:=fun z=>(hch c z).2.2.1 x c e rfl
  by_cases hc:c∈X.fs
  ·obtain⟨sl,q⟩:=slot c o (I.cne x c e) hc nch ho (I.freeC x c e);exact⟨_,q,hd⟩
  ·exact⟨o,keep c o (I.cne x c e) hc nch ho (I.freeC x c e),hd⟩
 refine⟨I.ok,I.os,hg,⟨fun b o e n hb hx=>?_,fun b o e n hb hx=>?_,fun b o e n hx=>?_,fun b o e hx=>?_,fun b xs e=>tups b xs (I.base.tups b xs e),fun b o xs e=>frzs b o xs (I.base.frzs b o xs e),fun b ps e=>?_⟩,?_,fun x c e=>?_,?_,fun x c e=>?_,fun p hp=>?_,hok,I.len⟩
 ·exact keep b o (neL b o e) hb (neC b o e hx) (I.base.keep b o e n hb hx) (I.base.free b o e n hx)
 ·obtain⟨sl,e1⟩:=I.base.slot b o e n hb hx;obtain⟨sl',e2⟩:=slot b _ (neL b o e) hb (neC b o e hx) e1 (I.base.free b o e n hx);exact⟨sl',e2⟩
 ·obtain⟨o',e1⟩:=I.base.there b o e hx;exact free b o' (neC b o e hx) e1 (I.base.free b o e n hx)
 ·obtain⟨o',e1⟩:=I.base.there b o e hx;exact there b o' (neC b o e hx) e1
 ·obtain⟨m1,e1⟩:=I.base.tbls b ps e;obtain⟨m2,e2⟩:=tbls b _ e1;exact⟨m1++m2,by rw[e2,Array.append_assoc]⟩
 ·obtain⟨m,hn,hl⟩:=I.loc;refine⟨m,ns m hn,fun i x v e1 e2 e3=>?_⟩;obtain⟨u,r,l⟩:=hl i x v e1 e2 e3;refine⟨u,r,?_⟩;rcases l with l|⟨k,c,e,z⟩
  ·exact .inl l
  ·exact .inr ⟨k,c,e,cellK x c e _ z⟩
 ·obtain⟨v,z⟩:=I.cell x c e;exact⟨v,cellK x c e v z⟩
 ·obtain⟨m,⟨o,_,_,ho,_⟩,_⟩:=I.loc;exact free _ o (fun z=>(hch _ z).2.1 rfl) ho I.free
 ·obtain⟨v,o,ho,hd⟩:=I.cell x c e;exact free c o (fun z=>(hch c z).2.2.1 x c e rfl) ho (I.freeC x c e)
 ·obtain⟨e,n,ne,nf,d⟩:=I.pin p hp;have nch:p.1∉ch:=fun z=>(hch p.1 z).2.2.2 p hp rfl
  exact⟨keep p.1 p.2 ne nf nch e n,free p.1 p.2 nch e n,ne,nf,d⟩
theorem Inv.un {t':Nat}(I:Inv X pins σ H s)(u:Un X.fs [] H H' s.heap h')(hok:HOk X.prog X.w H' h'):Inv X pins σ H' { s with heap:=h',toks:=t' }:=by
 obtain⟨m,⟨o,es,ep,ho,r⟩,_⟩:=id I.loc;obtain⟨sl,hL⟩:=u.any ho I.free (by simp);exact I.step (g':=s.gens) (d':=s.drawn) (ch:=[]) (fun _ z=>nomatch z) (fun b o _ hb _ e n=>u.keep b o e n hb (by simp)) (fun b o _ hb _ e n=>u.slot b o e n hb (by simp)) (fun b o _ e n=>u.free b o e n (by simp)) (fun b o _ e=>u.there b o e (by simp)) u.tups u.frzs u.tbls (fun m' hm=>by
  obtain⟨o',es',ep',ho',r'⟩:=hm;rw[ho] at ho';cases ho';exact⟨_,es',ep',hL,r'⟩) hok I.bare
theorem Inv.call {g':Array GenState} {t':Nat} {d':Drawn} {ch:List Addr} (I:Inv X pins σ H s) (u:Un (frs X.stack) ch H H' s.heap h') (hok:HOk X.prog X.w H' h') (hg:AllBare g')
  (hch:∀b∈ch,(b∈X.ex\/X.s₀.heap.objs.size<=b)/\b≠X.env.locals/\(∀x c,X.env.cells.lookup x=some c->c≠b)/\∀p∈X.pn++pins,p.1≠b) :
  Inv X pins σ H' { s with heap:=h',gens:=g',drawn:=d',toks:=t' }:=by
 obtain⟨m,⟨o,es,ep,ho,r⟩,_⟩:=id I.loc;obtain⟨sl,hL⟩:=u.any ho I.free fun z=>(hch _ z).2.1 rfl
 exact I.step (ch:=ch) hch (fun b o hL hb hc e n=>u.keep b o e n (fun z=>(List.mem_cons.mp (I.stkSub b z)).elim hL hb) hc) (fun b o _ _ hc e n=>u.any e n hc) (fun b o hc e n=>u.free b o e n hc) (fun b o hc e=>u.there b o e hc) u.tups u.frzs u.tbls (fun m' hm=>by
  obtain⟨o',es',ep',ho',r'⟩:=hm;rw[ho] at ho';cases ho';exact⟨_,es',ep',hL,r'⟩) hok hg
theorem Inv.turned {t':Nat} {it:Addr} (I:Inv X pins σ H s) (k:∀b o,b≠it->s.heap.get? b=some o->h'.get? b=some o) (hn:H it=none) (hL:it≠X.env.locals)
  (h1:it∈X.ex\/X.s₀.heap.objs.size<=it) (h2:∀x c,X.env.cells.lookup x=some c->c≠it) (h3:∀p∈X.pn++pins,p.1≠it):Inv X pins σ H { s with heap:=h',toks:=t' }:=by
 have nit:∀b u,H b=some u->b≠it:=fun b u e z=>by rw[z,hn] at e;cases e
 refine I.step (g':=s.gens) (d':=s.drawn) (ch:=[it]) (fun b hb=>?_) (fun b o _ _ hc e _=>k b o (fun z=>hc (by simp[z])) e) (fun b o _ _ hc e _=>⟨o.slots,k b o (fun z=>hc (by simp[z])) e⟩) (fun _ _ _ _ n=>n)
  (fun b o hc e=>⟨o,k b o (fun z=>hc (by simp[z])) e⟩) (fun _ _ e=>e) (fun _ _ _ e=>e) (fun b ps e=>⟨#[],by rw[e];simp⟩) (fun m hm=>?_) (fun b u e=>?_) I.bare
 ·have e:b=it:=by simpa using hb
  subst e;exact⟨h1,hL,h2,h3⟩
 ·obtain⟨o,es,ep,ho,r⟩:=hm;exact⟨o,es,ep,k _ o (Ne.symm hL) ho,r⟩
 ·refine(I.hok b u e).stay (fun c v hc q=>k c v ?_ q) (fun _ q=>q) fun _ _ q=>q
  rcases hc with z|z
  ·rw[z];exact nit b u e
  ·exact nit c _ z
theorem Inv.tok (I:Inv X pins σ H s)(t:Nat):Inv X pins σ H { s with toks:=t }:=I.un (h':=s.heap) (t':=t) Un.refl I.hok
theorem Inv.kept {t':Nat}(I:Inv X pins σ H s)(k:∀b u,s.heap.get? b=some u->h'.get? b=some u):Inv X pins σ H { s with heap:=h',toks:=t' }:=I.un (Un.kept k) (I.hok.kept k)
theorem Inv.laid {a:Addr}{o:HO}{t':Nat}(I:Inv X pins σ H s)(k:∀b u,s.heap.get? b=some u->h'.get? b=some u)(hp:s.heap.objs.size<=a)(new:ObjOk X.prog X.w (upd H a o) h' a o) :
  Inv X pins σ (upd H a o) { s with heap:=h',toks:=t' }:=I.un (Un.laid k hp (I.hok.fresh hp)) (I.hok.laid k hp new)
theorem Inv.write {x e:Addr} {o:HO} {t':Nat} (I:Inv X pins σ H s) (mu:Mut (H x)) (he:e=x\/H e=some (.own x)) (k:∀b u,b≠e->s.heap.get? b=some u->h'.get? b=some u) (heo:∃u,h'.get? e=some u)
  (new:ObjOk X.prog X.w (upd H x o) h' x o):Inv X pins σ (upd H x o) { s with heap:=h',toks:=t' }:=I.un (Un.write mu he k heo) (I.hok.write mu he k heo new)
theorem Inv.pins_of {pins':List (Addr×Obj)}(I:Inv X pins σ H s)(h:∀p∈pins',s.heap.get? p.1=some p.2/\H p.1=none/\p.1≠X.env.locals/\p.1∉X.fs/\∀v,p.2.data≠.cell v):Inv X pins' σ H s:=
 ⟨I.ok,I.os,I.bare,I.base,I.loc,I.cell,I.free,I.freeC,fun p hp=>(List.mem_append.mp hp).elim (fun z=>I.pin p (List.mem_append_left _ z)) (h p),I.hok,I.len⟩
theorem nodup_ix {N:List Str}(hN:N.Nodup){i j:Nat}{x:Str}(a:N[i]?=some x)(b:N[j]?=some x):i=j:=by
 obtain⟨h1,e1⟩:=List.getElem?_eq_some_iff.mp a;obtain⟨h2,e2⟩:=List.getElem?_eq_some_iff.mp b;exact(List.getElem_inj hN).mp (e1.trans e2.symm)
theorem store_ok2 {M:Model} {A:Around} {E:Value->Shared->Prop} {i:Nat} {x:Str} {v:V} {u:Value} {Q:Unit->Shared->Prop} (I:Inv X pins σ H s) (hN:X.N.Nodup) (hi:X.N[i]?=some x) (hx:Loc X.env.scope x) (r:RelV v u)
  (h:∀s',Inv X pins (σ.set i (some v)) H s'->(∃a,Heap.SameBut a s.heap s'.heap/\(a=X.env.locals\/X.env.cells.lookup x=some a))->Q () s') (hf:X.fn x=true\/X.env.scope.names.lookup x=some .local:=by first|exact .inl rfl|exact .inr rfl|assumption):wpAny M A (storeName X.env x u) Q E s:=by
 obtain⟨m,hn,hl⟩:=id I.loc;have hcls:(X.env.scope.kind == .class||(X.env.scope.kind == .module&&X.env.locals != X.env.globals))=false:=by rw[I.ok.kind];rfl
 have hiσ:i<σ.length:=by rw[I.len];exact(List.getElem?_eq_some_iff.mp hi).1
 have cne:=I.cne;have tracked:∀{a:Addr} {h':Heap},(∃o,s.heap.get? a=some o/\H a=none)->Heap.SameBut a s.heap h'->HOk X.prog X.w H h':=fun{a h'} ha hs b ob e=>by
  obtain⟨_,_,hfree⟩:=ha;refine(I.hok b ob e).stay (fun c w' hc q=>(hs.2 c ?_).trans q) (fun _ q=>q) fun _ _ q=>q
  rintro rfl
  rcases hc with rfl|hc
  ·rw[hfree] at e;cases e
  ·rw[hfree] at hc;cases hc
 rcases hx with hk|hk
 ·refine wpAny_storeName_local hk hn (fun h' hn' hs=>?_) hcls;obtain⟨oL,_,_,hoL,_⟩:=id hn;refine h _ ⟨I.ok,I.os,I.bare,⟨fun b o e n hb hx=>?_,fun b o e n hb hx=>?_,I.base.free,fun b o e hx=>?_,I.base.tups,I.base.frzs,I.base.tbls⟩,⟨_,hn',fun j y v' e1 e2 e3=>?_⟩,fun y c e=>?_,I.free,I.freeC,fun p hp=>?_,tracked ⟨oL,hoL,I.free⟩ hs,by simpa using I.len⟩ ⟨_,hs,.inl rfl⟩
  ·exact(hs.2 b (Nat.ne_of_lt (Nat.lt_of_lt_of_le (Heap.lt_size e) I.ok.above))).trans (I.base.keep b o e n hb hx)
  ·obtain⟨sl,e1⟩:=I.base.slot b o e n hb hx;exact⟨sl,(hs.2 b (Nat.ne_of_lt (Nat.lt_of_lt_of_le (Heap.lt_size e) I.ok.above))).trans e1⟩
  ·obtain⟨o',e1⟩:=I.base.there b o e hx;exact⟨o',(hs.2 b (Nat.ne_of_lt (Nat.lt_of_lt_of_le (Heap.lt_size e) I.ok.above))).trans e1⟩
  ·by_cases hj:j=i
   ·subst hj;rw[hi] at e1;cases e1;rw[List.getElem?_set_self hiσ] at e2;cases e2;exact⟨u,r,.inl ⟨hk,by simp⟩⟩
   ·rw[List.getElem?_set_ne (Ne.symm hj)] at e2;obtain⟨u',r',q⟩:=hl j y v' e1 e2 e3;refine⟨u',r',?_⟩;rcases q with⟨k,e⟩|⟨k,c,e,z⟩
    ·refine .inl ⟨k,?_⟩;have:y≠x:=fun e=>hj (nodup_ix hN e1 (e▸hi))
     simp[this,e]
    ·exact .inr ⟨k,c,e,z.sameBut hs (cne y c e)⟩
  ·obtain⟨w',z⟩:=I.cell y c e;exact⟨w',z.sameBut hs (cne y c e)⟩
  ·obtain⟨e,n,ne,nf,d⟩:=I.pin p hp;exact⟨(hs.2 p.1 ne).trans e,n,ne,nf,d⟩
 ·have hfn:X.fn x=true:=by
   rcases hf with z|z
   ·exact z
   ·rw[z] at hk;cases hk
  obtain⟨c,hc⟩:=I.ok.has x (.inl hk);obtain⟨w',z⟩:=I.cell x c hc;refine wpAny_storeName_cell I.ok.kind hk hc z (fun h' hc' hs=>?_);obtain⟨oc,hoc,hocd⟩:=id z;refine h { s with heap:=h' } ⟨I.ok,I.os,I.bare,⟨fun b o e n hb hx=>?_,fun b o e n hb hx=>?_,I.base.free,fun b o e hx=>?_,I.base.tups,I.base.frzs,I.base.tbls⟩,⟨m,hn.sameBut hs (Ne.symm (cne x c hc)),fun j y v' e1 e2 e3=>?_⟩,fun y c' e=>?_,I.free,I.freeC,fun p hp=>?_,tracked ⟨oc,hoc,I.freeC x c hc⟩ hs,by simpa using I.len⟩ ⟨c,hs,.inr hc⟩
  ·exact(hs.2 b (Nat.ne_of_lt (Nat.lt_of_lt_of_le (Heap.lt_size e) (I.ok.cab x c hfn hc)))).trans (I.base.keep b o e n hb hx)
  ·obtain⟨sl,e1⟩:=I.base.slot b o e n hb hx;exact⟨sl,(hs.2 b (Nat.ne_of_lt (Nat.lt_of_lt_of_le (Heap.lt_size e) (I.ok.cab x c hfn hc)))).trans e1⟩
  ·obtain⟨o',e1⟩:=I.base.there b o e hx;exact⟨o',(hs.2 b (Nat.ne_of_lt (Nat.lt_of_lt_of_le (Heap.lt_size e) (I.ok.cab x c hfn hc)))).trans e1⟩
  ·by_cases hj:j=i
   ·subst hj;rw[hi] at e1;cases e1;rw[List.getElem?_set_self hiσ] at e2;cases e2;exact⟨u,r,.inr ⟨.inl hk,c,hc,hc'⟩⟩
   ·rw[List.getElem?_set_ne (Ne.symm hj)] at e2;obtain⟨u',r',q⟩:=hl j y v' e1 e2 e3;refine⟨u',r',?_⟩;rcases q with q|⟨k,c',e,z'⟩
    ·exact .inl q
    ·refine .inr ⟨k,c',e,z'.sameBut hs ?_⟩
     rintro rfl
     exact hj (nodup_ix hN e1 (I.ok.inj _ _ _ e hc▸hi))
  ·by_cases hcc:c'=c
   ·subst hcc;exact⟨_,hc'⟩
   ·obtain⟨w2,z2⟩:=I.cell y c' e;exact⟨w2,z2.sameBut hs hcc⟩
  ·obtain⟨e,n,ne,nf,d⟩:=I.pin p hp;refine⟨(hs.2 p.1 ?_).trans e,n,ne,nf,d⟩;intro q;rw[q,hoc] at e;have q':oc=p.2:=Option.some.inj e;exact d w' (by rw[<-q'];exact hocd)
theorem store_ok {M:Model} {A:Around} {E:Value->Shared->Prop} {i:Nat} {x:Str} {v:V} {u:Value} {Q:Unit->Shared->Prop} (I:Inv X pins σ H s) (hN:X.N.Nodup) (hi:X.N[i]?=some x) (hx:Loc X.env.scope x) (r:RelV v u)
  (h:∀s',Inv X pins (σ.set i (some v)) H s'->Q () s') (hf:X.fn x=true\/X.env.scope.names.lookup x=some .local:=by first|exact .inl rfl|exact .inr rfl|assumption):wpAny M A (storeName X.env x u) Q E s:=
 store_ok2 I hN hi hx r (fun s' I' _=>h s' I') hf
theorem Inv.call' {s':Shared} {ch:List Addr} (I:Inv X pins σ H s) (ho:s'.os=s.os) (u:Un (frs X.stack) ch H H' s.heap s'.heap) (hok:HOk X.prog X.w H' s'.heap) (hg:AllBare s'.gens)
  (hch:∀b∈ch,(b∈X.ex\/X.s₀.heap.objs.size<=b)/\b≠X.env.locals/\(∀x c,X.env.cells.lookup x=some c->c≠b)/\∀p∈X.pn++pins,p.1≠b):Inv X pins σ H' s':=by
 obtain⟨h',g',d',t',o'⟩:=s';have e:o'=s.os:=ho;subst e;exact I.call (g':=g') (t':=t') (d':=d') u hok hg hch
end
abbrev XK:=Value->Option Addr->Hp->Prop
abbrev St:=List (Option V)
abbrev VK:=V->Hp->Prop
abbrev TE:=St->Hp->VK->Prop
abbrev TT:=St->Hp->(Bool->Hp->Prop)->Prop
abbrev TA:=St->Hp->(List V->Hp->Prop)->Prop
structure Ends where
 nx:St->Hp->Prop
 rt:VK
 bk:St->Hp->Prop:=fun _ _=>False
 ct:St->Hp->Prop:=fun _ _=>False
abbrev TS:=Ends->St->Hp->Prop
def EP (X:Cx)(pins:List (Addr×Obj))(σ:St)(Q:VK)(u:Value)(s':Shared):Prop:=∃v H',Inv X pins σ H' s'/\RelV v u/\Q v H'
def TP (X:Cx)(pins:List (Addr×Obj))(σ:St)(Q:Bool->Hp->Prop)(b:Bool)(s':Shared):Prop:=∃H',Inv X pins σ H' s'/\Q b H'
def AP (X:Cx)(pins:List (Addr×Obj))(σ:St)(Q:List V->Hp->Prop)(us:List Value)(s':Shared):Prop:=∃vs H',Inv X pins σ H' s'/\Vals vs us/\Q vs H'
def SP (X:Cx)(pins:List (Addr×Obj))(D:Ends)(f:Flow)(s':Shared):Prop:=
 match f with
 | .next=>∃σ' H',Inv X pins σ' H' s'/\D.nx σ' H'
 | .brk=>∃σ' H',Inv X pins σ' H' s'/\D.bk σ' H'
 | .cont=>∃σ' H',Inv X pins σ' H' s'/\D.ct σ' H'
 | .ret u=>∃v σ' H',Inv X pins σ' H' s'/\RelV v u/\D.rt v H'
def PE (X:Cx)(e:Expr)(t:TE):Prop:=
 ∀(pins:List (Addr×Obj)) (s:Shared) (σ:St) (H:Hp) (Q:VK),Inv X pins σ H s->t σ H Q->wpAny (model X.prog X.w) X.A (eval e X.env) (EP X pins σ Q) X.xe s
def PT (X:Cx)(e:Expr)(t:TT):Prop:=
 ∀(pins:List (Addr×Obj)) (s:Shared) (σ:St) (H:Hp) (Q:Bool->Hp->Prop),Inv X pins σ H s->t σ H Q->wpAny (model X.prog X.w) X.A (isTrue e X.env (eval e X.env)) (TP X pins σ Q) X.xe s
def PW (X:Cx)(e:Expr)(t:TT):Prop:=
 ∀(whole:Sem Value) (pins:List (Addr×Obj)) (s:Shared) (σ:St) (H:Hp) (Q:Bool->Hp->Prop),Inv X pins σ H s->t σ H Q->wpAny (model X.prog X.w) X.A (isTrue e X.env whole) (TP X pins σ Q) X.xe s
theorem PW.pt {X:Cx}{e:Expr}{t:TT}(h:PW X e t):PT X e t:=h _
def PA (X:Cx)(es:List Expr)(t:TA):Prop:=
 ∀(pos:Pos) (pins:List (Addr×Obj)) (s:Shared) (σ:St) (H:Hp) (Q:List V->Hp->Prop),Inv X pins σ H s->t σ H Q->wpAny (model X.prog X.w) X.A (spliced (backTo pos (starEach es X.env))) (AP X pins σ Q) X.xe s
def PS (X:Cx)(st:Stmt)(t:TS):Prop:=
 ∀(pins:List (Addr×Obj)) (s:Shared) (σ:St) (H:Hp) (D:Ends),Inv X pins σ H s->t D σ H->wpAny (model X.prog X.w) X.A (exec st X.env) (SP X pins D) X.xe s
def PSs (X:Cx)(st:List Stmt)(t:TS):Prop:=
 ∀(pins:List (Addr×Obj)) (s:Shared) (σ:St) (H:Hp) (D:Ends),Inv X pins σ H s->t D σ H->wpAny (model X.prog X.w) X.A (execs st X.env) (SP X pins D) X.xe s
theorem thn {α:Type}{t:Sem α}{Q Q':α->Shared->Prop}{M:Model}{A:Around}{E:Value->Shared->Prop}{s:Shared}(h:wpAny M A t Q E s)(hQ:∀a s,Q a s->Q' a s):wpAny M A t Q' E s:=wpAny_mono h hQ fun _ _ x=>x
section
variable {X:Cx}
def tVar (i:Nat):TE:=fun σ H Q=>∃v,σ[i]?=some (some v)/\Q v H
def tC (v:V):TE:=fun _ H Q=>Q v H
theorem pe_var {i:Nat}{x:Str}{pos:Pos}(hN:X.N[i]?=some x)(hv:Vis X.env.scope x)(hd:(x == ("__debug__":Str))=false:=by decide)(hcd:(x == ("__classdict__":Str))=false:=by decide):PE X (.Name x pos) (tVar i):=by
 intro pins s σ H Q I h;obtain⟨v,e,h⟩:=h;obtain⟨m,hn,hl⟩:=I.loc;obtain⟨u,r,l⟩:=hl i x v hN e hv;have fin:EP X pins σ Q u s:=⟨v,H,I,r,h⟩
 rcases l with⟨hk,hm⟩|⟨hk,c,hc,hcell⟩
 ·exact wpAny_Name (wpAny_loadName_local I.ok.kind hk hn hm fin) hd
 ·rcases hk with hk|hk
  ·exact wpAny_Name (wpAny_loadName_cell I.ok.kind hk hc hcell fin) hd
  ·exact wpAny_Name (wpAny_loadName_free I.ok.kind hk hc hcell fin hcd) hd
theorem pe_int {i j pos}:PE X (.Constant (.int i) j pos) (tC (.int i)):=fun _ _ _ H _ I h=>wpAny_Constant_int ⟨.int i,H,I.tok _,⟨_,rfl⟩,h⟩
theorem pe_bl {b j pos}:PE X (.Constant (.bool b) j pos) (tC (.bl b)):=fun _ _ _ H _ I h=>Constant_bool ⟨.bl b,H,I,rfl,h⟩
theorem pe_non {j pos}:PE X (.Constant .none j pos) (tC .non):=fun _ _ _ H _ I h=>Constant_none ⟨.non,H,I,rfl,h⟩
theorem pe_str {x j pos}:PE X (.Constant (.str x) j pos) (tC (.str x)):=fun _ _ _ H _ I h=>Calls.Constant_str ⟨.str x,H,I.tok _,⟨_,rfl⟩,h⟩
def Gl (X:Cx)(x:Str):Prop:=X.env.kindOf x=some .globalImplicit
theorem ld_glob {E:Value->Shared->Prop} {pins:List (Addr×Obj)} {s:Shared} {σ:St} {H:Hp} {x:Str} {u:Value} {pos:Pos} {Q:Value->Shared->Prop} (I:Inv X pins σ H s) (hg:Gl X x) (hm:X.mg x=some u) (h:Q u s)
  (hd:(x == ("__debug__":Str))=false:=by decide):wpAny (model X.prog X.w) X.A (eval (.Name x pos) X.env) Q E s:=
 Calls.Name_function_global I.ok.kind hg (Calls.loadGlobal_global (by rw[I.ok.glob];exact I.mod.glob.keeps I.bk) hm h) hd
theorem ld_blt {E:Value->Shared->Prop} {pins:List (Addr×Obj)} {s:Shared} {σ:St} {H:Hp} {x:Str} {u:Value} {pos:Pos} {Q:Value->Shared->Prop} (I:Inv X pins σ H s) (hg:Gl X x) (hm:X.mg x=none) (hv:bootBuiltins x=some u) (h:Q u s)
  (hn:x≠"__name__":=by decide) (hd:(x == ("__debug__":Str))=false:=by decide):wpAny (model X.prog X.w) X.A (eval (.Name x pos) X.env) Q E s:=by
 obtain⟨mb,h1,h2⟩:=I.mod.blt;exact Calls.Name_function_global I.ok.kind hg (Calls.loadGlobal_builtin (by rw[I.ok.glob];exact I.mod.glob.keeps I.bk) hm (by rw[I.ok.blt];exact h1.keeps I.bk) ((h2 x hn).trans hv) h) hd
theorem pe_glob {x:Str}{v:V}{u:Value}{pos:Pos}(hg:Gl X x)(hm:X.mg x=some u)(r:RelV v u)(hd:(x == ("__debug__":Str))=false:=by decide):PE X (.Name x pos) (tC v):=
 fun _ _ _ H _ I h=>ld_glob I hg hm ⟨v,H,I,r,h⟩ hd
theorem pe_bltn {x:Str}{v:V}{u:Value}{pos:Pos}(hg:Gl X x)(hm:X.mg x=none)(hv:bootBuiltins x=some u)(r:RelV v u)(hn:x≠"__name__":=by decide)(hd:(x == ("__debug__":Str))=false:=by decide):PE X (.Name x pos) (tC v):=
 fun _ _ _ H _ I h=>ld_blt I hg hm hv ⟨v,H,I,r,h⟩ hn hd
variable {a b:Expr}{ta tb:TE}{pos:Pos}
def PC (X:Cx)(op:CmpOp)(a b:Expr)(t:TE):Prop:=
 ∀(pins:List (Addr×Obj)) (s:Shared) (σ:St) (H:Hp) (Q:VK),Inv X pins σ H s->t σ H Q->
  wpAny (model X.prog X.w) X.A (eval a X.env) (fun v s₁=>wpAny (model X.prog X.w) X.A (eval b X.env) (fun u s₂=>wpAny (model X.prog X.w) X.A (compareOp op v u) (EP X pins σ Q) X.xe s₂) X.xe s₁) X.xe s
theorem nobehind (b:Expr){op:CmpOp}(h:op≠.In)(h2:op≠.NotIn):behindInMarks op b=false:=by
 have e1:(op == CmpOp.In)=false:=by cases op<;>first|rfl|exact absurd rfl h
 have e2:(op == CmpOp.NotIn)=false:=by cases op<;>first|rfl|exact absurd rfl h2
 cases b<;>simp[behindInMarks,e1,e2]
def tIsN (ta:TE):TE:=fun σ H Q=>ta σ H fun x H1=>Q (.bl (decide (x=.non))) H1
def tNotN (ta:TE):TE:=fun σ H Q=>ta σ H fun x H1=>Q (.bl (!decide (x=.non))) H1
theorem RelV.none_iff {x:V}{v:Value}(r:RelV x v):(v == Value.none)=decide (x=.non):=by
 cases x with
 |non=>cases r;rfl
 |bl _=>cases r;rfl
 |int _=>obtain⟨t,rfl⟩:=r;rfl
 |str _=>obtain⟨t,rfl⟩:=r;rfl
 |byt _=>obtain⟨t,rfl⟩:=r;rfl
 |flt _=>obtain⟨t,rfl⟩:=r;rfl
 |ref _=>cases r;rfl
 |ty _=>cases r;rfl
theorem pc_isN {j pos'}(ha:PE X a ta):PC X .Is a (.Constant .none j pos') (tIsN ta):=by
 intro pins s σ H Q I h;refine thn (ha pins s σ H _ I h) fun v s1 ⟨x,H1,I1,r1,q1⟩=>?_
 exact Constant_none (is_none_gen ⟨.bl _,H1,I1,by rw[r1.none_iff];rfl,q1⟩)
theorem pc_notN {j pos'}(ha:PE X a ta):PC X .IsNot a (.Constant .none j pos') (tNotN ta):=by
 intro pins s σ H Q I h;refine thn (ha pins s σ H _ I h) fun v s1 ⟨x,H1,I1,r1,q1⟩=>?_
 exact Constant_none (isnot_none_gen ⟨.bl _,H1,I1,by rw[r1.none_iff];rfl,q1⟩)
def tB (t:TE):TT:=fun σ H Q=>t σ H fun x H1=>∃c,x=.bl c/\Q c H1
theorem pe_cmp {op:CmpOp}{t:TE}(h:PC X op a b t)(h1:behindInMarks op b=false:=by first|exact nobehind _ (by decide) (by decide)|rfl):PE X (.Compare a [op] [b] pos) t:=fun pins s σ H Q I hw=>wpAny_Compare1 (h pins s σ H Q I hw) h1
theorem pt_cmp {op:CmpOp}{t:TE}(h:PC X op a b t)(h1:behindInMarks op b=false:=by first|exact nobehind _ (by decide) (by decide)|rfl):PT X (.Compare a [op] [b] pos) (tB t):=by
 intro pins s σ H Q I hw;refine wpAny_isTrue_Compare1 (thn (h pins s σ H _ I hw) fun v s1 h1=>thn h1 fun u s2 h2=>thn h2 fun c s3 ⟨x,H1,I1,r1,q1⟩=>?_) h1;obtain⟨d,rfl,q⟩:=q1;cases r1;exact wpAny_truthy_bool ⟨H1,I1,q⟩
theorem pt_val {e:Expr}{t:TE}(h:PE X e t)(he:∀whole,isTrue e X.env whole=(do let v <-whole;standAt e.pos;holding [v] (truthy v)):=by intro _;rfl):PT X e (tB t):=by
 intro pins s σ H Q I hw;refine isTrue_plain (thn (h pins s σ H _ I hw) fun v s1 ⟨x,H1,I1,r1,q1⟩=>?_) (he _);obtain⟨d,rfl,q⟩:=q1;cases r1;exact wpAny_truthy_bool ⟨H1,I1,q⟩
variable {tA tB':TT}{rest:List Expr}
def tAnd (t u:TT):TT:=fun σ H Q=>t σ H fun c H1=>if c=true then u σ H1 Q else Q false H1
def tOr (t u:TT):TT:=fun σ H Q=>t σ H fun c H1=>if c=true then Q true H1 else u σ H1 Q
def tNot (t:TT):TT:=fun σ H Q=>t σ H fun c H1=>Q (!c) H1
theorem pw_and1 (ha:PT X a tA):PW X (.BoolOp .And [a] pos) tA:=by
 intro wh pins s σ H Q I h;refine isTrue_and (thn (ha pins s σ H Q I h) fun c s1 e=>?_);cases c with
 |true=>exact isTrue_and_nil e
 |false=>exact e
theorem pw_or1 (ha:PT X a tA):PW X (.BoolOp .Or [a] pos) tA:=by
 intro wh pins s σ H Q I h;refine isTrue_or (thn (ha pins s σ H Q I h) fun c s1 e=>?_);cases c with
 |false=>exact isTrue_or_nil e
 |true=>exact e
theorem pw_and (ha:PT X a tA)(hb:PW X (.BoolOp .And (b::rest) pos) tB'):PW X (.BoolOp .And (a::b::rest) pos) (tAnd tA tB'):=by
 intro wh pins s σ H Q I h;refine isTrue_and (thn (ha pins s σ H _ I h) fun c s1 ⟨H1,I1,q1⟩=>?_);cases c with
 |true=>exact hb wh pins s1 σ H1 Q I1 q1
 |false=>exact⟨H1,I1,q1⟩
theorem pw_or (ha:PT X a tA)(hb:PW X (.BoolOp .Or (b::rest) pos) tB'):PW X (.BoolOp .Or (a::b::rest) pos) (tOr tA tB'):=by
 intro wh pins s σ H Q I h;refine isTrue_or (thn (ha pins s σ H _ I h) fun c s1 ⟨H1,I1,q1⟩=>?_);cases c with
 |true=>exact⟨H1,I1,q1⟩
 |false=>exact hb wh pins s1 σ H1 Q I1 q1
theorem pt_not (ha:PT X a tA):PT X (.UnaryOp .Not a pos) (tNot tA):=by
 intro pins s σ H Q I h;exact isTrue_not (ha pins s σ H (fun c H1=>Q (!c) H1) I h)
def tAndV (ta tb:TE):TE:=fun σ H Q=>ta σ H fun x H1=>∃c,x=.bl c/\if c=true then tb σ H1 Q else Q (.bl false) H1
def tOrV (ta tb:TE):TE:=fun σ H Q=>ta σ H fun x H1=>∃c,x=.bl c/\if c=true then Q (.bl true) H1 else tb σ H1 Q
def tNotV (ta:TE):TE:=fun σ H Q=>ta σ H fun x H1=>∃c,x=.bl c/\Q (.bl (!c)) H1
theorem pe_one {op}{t:TE}(h:PE X a t):PE X (.BoolOp op [a] pos) t:=fun pins s σ H Q I hw=>BoolOp_one (h pins s σ H Q I hw)
theorem pe_and (ha:PE X a ta)(hb:PE X (.BoolOp .And (b::rest) pos) tb):PE X (.BoolOp .And (a::b::rest) pos) (tAndV ta tb):=by
 intro pins s σ H Q I h;refine BoolOp_and (thn (ha pins s σ H _ I h) fun v s1 ⟨x,H1,I1,r1,q1⟩=>?_);obtain⟨c,rfl,q1⟩:=q1;cases r1;refine wpAny_truthy_bool ?_;cases c with
 |true=>exact hb pins s1 σ H1 Q I1 q1
 |false=>exact⟨.bl false,H1,I1,rfl,q1⟩
theorem pe_or (ha:PE X a ta)(hb:PE X (.BoolOp .Or (b::rest) pos) tb):PE X (.BoolOp .Or (a::b::rest) pos) (tOrV ta tb):=by
 intro pins s σ H Q I h;refine BoolOp_or (thn (ha pins s σ H _ I h) fun v s1 ⟨x,H1,I1,r1,q1⟩=>?_);obtain⟨c,rfl,q1⟩:=q1;cases r1;refine wpAny_truthy_bool ?_;cases c with
 |false=>exact hb pins s1 σ H1 Q I1 q1
 |true=>exact⟨.bl true,H1,I1,rfl,q1⟩
theorem pe_not (ha:PE X a ta):PE X (.UnaryOp .Not a pos) (tNotV ta):=by
 intro pins s σ H Q I h;refine UnaryOp_ (thn (ha pins s σ H _ I h) fun v s1 ⟨x,H1,I1,r1,q1⟩=>?_);obtain⟨c,rfl,q1⟩:=q1;cases r1;exact not_of (wpAny_truthy_bool ⟨.bl (!c),H1,I1,rfl,q1⟩)
end
def SqL (K:PySem.W.Frag)(H:Hp)(a:Addr)(xs:List V):Prop:=
 Rd H a (.lst xs)\/
  ∃(o:Obj) (its:Array Value) (n:Nat),K.lookup a=some o/\o.cls=.type "list"/\o.dict=none/\o.data=.seq its n/\its.size<=sizeLine/\Vals xs its.toList
def SqT (K:PySem.W.Frag)(H:Hp)(a:Addr)(xs:List V):Prop:=
 Rd H a (.tup xs)\/
  ∃(o:Obj) (its:Array Value) (n:Nat),K.lookup a=some o/\o.cls=.type "tuple"/\o.data=.seq its n/\its.size<=sizeLine/\Vals xs its.toList
def absV:Value->Option V
 | .none=>some .non
 | .bool b=>some (.bl b)
 | .int i _=>some (.int i)
 | .str x _=>some (.str x)
 | .bytes b _=>some (.byt b)
 | .float b _=>some (.flt b)
 | .ref a=>some (.ref a)
 | .type n=>some (.ty n)
 |_=>none
theorem RelV.abs {x:V}{u:Value}(r:RelV x u):absV u=some x:=by
 cases x with
 |non=>cases r;rfl
 |bl _=>cases r;rfl
 |int _=>obtain⟨t,rfl⟩:=r;rfl
 |str _=>obtain⟨t,rfl⟩:=r;rfl
 |byt _=>obtain⟨t,rfl⟩:=r;rfl
 |flt _=>obtain⟨t,rfl⟩:=r;rfl
 |ref _=>cases r;rfl
 |ty _=>cases r;rfl
theorem RelV.inj {x y:V}{u:Value}(r:RelV x u)(q:RelV y u):x=y:=Option.some.inj (r.abs.symm.trans q.abs)
theorem Vals.inj:∀{xs ys:List V} {us:List Value},Vals xs us->Vals ys us->xs=ys
 |_,_,_,.nil,.nil=>rfl
 |_,_,_,.cons r t,.cons r' t'=>by rw[r.inj r',Vals.inj t t']
section
variable {X:Cx}{pins:List (Addr×Obj)}{σ:St}{H:Hp}{s:Shared}{a:Addr}{xs ys:List V}
theorem SqL.of {K:PySem.W.Frag}(h:H a=some (.lst xs)):SqL K H a xs:=.inl (.inl h)
theorem SqT.of {K:PySem.W.Frag}(h:H a=some (.tup xs)):SqT K H a xs:=.inl (.inl h)
theorem Inv.list (I:Inv X pins σ H s)(h:SqL X.K H a xs):∃its:List Value,Vals xs its/\PlainL s.heap a its.toArray/\xs.length<=sizeLine:=by
 rcases h with h|⟨o,its,n,hk,hc,hd,hs,hz,r⟩
 ·obtain⟨z,its,n,r,e⟩:=h.ok I.hok;exact⟨its,r,⟨_,n,e,rfl,rfl,rfl⟩,z⟩
 ·refine⟨its.toList,r,⟨o,n,I.kIn a o hk,hc,hd,by simpa using hs⟩,?_⟩;have e:=r.length;simp only[Array.length_toList] at e;omega
theorem Inv.tuple (I:Inv X pins σ H s)(h:SqT X.K H a xs):∃its:List Value,Vals xs its/\IsTup s.heap a its.toArray/\xs.length<=sizeLine:=by
 rcases h with h|⟨o,its,n,hk,hc,hs,hz,r⟩
 ·obtain⟨z,its,r,p⟩:=h.ok I.hok;exact⟨its,r,p.is,z⟩
 ·refine⟨its.toList,r,⟨o,I.kIn a o hk,hc,n,by simpa using hs⟩,?_⟩;have e:=r.length;simp only[Array.length_toList] at e;omega
theorem Inv.list_inj (I:Inv X pins σ H s)(h:SqL X.K H a xs)(h':SqL X.K H a ys):xs=ys:=by
 obtain⟨its,r,⟨o,n,e,_,_,d⟩,_⟩:=I.list h;obtain⟨its',r',⟨o',n',e',_,_,d'⟩,_⟩:=I.list h';rw[e] at e';cases e';rw[d] at d';injection d' with d1 _
 have:its=its':=by simpa using congrArg Array.toList d1
 subst this;exact r.inj r'
theorem Inv.tuple_inj (I:Inv X pins σ H s)(h:SqT X.K H a xs)(h':SqT X.K H a ys):xs=ys:=by
 obtain⟨its,r,⟨o,e,_,n,d⟩,_⟩:=I.tuple h;obtain⟨its',r',⟨o',e',_,n',d'⟩,_⟩:=I.tuple h';rw[e] at e';cases e';rw[d] at d';injection d' with d1 _
 have:its=its':=by simpa using congrArg Array.toList d1
 subst this;exact r.inj r'
end
abbrev Cx.wish (X:Cx)(E:Value->Shared->Prop):Cx:={ X with xe:=E }
abbrev Cx.nox (X:Cx):Cx:=X.wish fun _ _=>False
theorem Cx.Ok.wish {X:Cx}(ok:X.Ok)(E:Value->Shared->Prop):(X.wish E).Ok:=
 ⟨ok.mod,ok.kind,ok.glob,ok.blt,ok.above,ok.inj,ok.has,ok.cab,ok.hd,ok.frames,ok.stk,ok.exf,ok.bs,ok.bsz,ok.noex,ok.exfs,ok.funs,ok.frf⟩
theorem Cx.Ok.unwish {X:Cx}{E:Value->Shared->Prop}(ok:(X.wish E).Ok):X.Ok:=
 ⟨ok.mod,ok.kind,ok.glob,ok.blt,ok.above,ok.inj,ok.has,ok.cab,ok.hd,ok.frames,ok.stk,ok.exf,ok.bs,ok.bsz,ok.noex,ok.exfs,ok.funs,ok.frf⟩
section
variable {X:Cx}{pins:List (Addr×Obj)}{σ:St}{H:Hp}{s:Shared}{E:Value->Shared->Prop}
theorem Inv.wish (I:Inv X pins σ H s)(E:Value->Shared->Prop):Inv (X.wish E) pins σ H s:=⟨I.ok.wish E,I.os,I.bare,I.base,I.loc,I.cell,I.free,I.freeC,I.pin,I.hok,I.len⟩
theorem Inv.unwish (I:Inv (X.wish E) pins σ H s):Inv X pins σ H s:=⟨I.ok.unwish,I.os,I.bare,I.base,I.loc,I.cell,I.free,I.freeC,I.pin,I.hok,I.len⟩
theorem SP.unwish {D:Ends}{f:Flow}{s':Shared}(h:SP (X.wish E) pins D f s'):SP X pins D f s':=by
 cases f with
 |next=>obtain⟨σ',H',I,q⟩:=h;exact⟨σ',H',I.unwish,q⟩
 |brk=>obtain⟨σ',H',I,q⟩:=h;exact⟨σ',H',I.unwish,q⟩
 |cont=>obtain⟨σ',H',I,q⟩:=h;exact⟨σ',H',I.unwish,q⟩
 |ret u=>obtain⟨v,σ',H',I,r,q⟩:=h;exact⟨v,σ',H',I.unwish,r,q⟩
theorem PE.nox {e:Expr}{t:TE}(h:PE X.nox e t):PE X e t:=fun pins s σ H Q I hw=>
 wpAny_mono (h pins s σ H Q (I.wish _) hw) (fun _ _ ⟨v,H',I',r,q⟩=>⟨v,H',I'.unwish,r,q⟩) fun _ _ z=>False.elim z
theorem PT.nox {e:Expr}{t:TT}(h:PT X.nox e t):PT X e t:=fun pins s σ H Q I hw=>
 wpAny_mono (h pins s σ H Q (I.wish _) hw) (fun _ _ ⟨H',I',q⟩=>⟨H',I'.unwish,q⟩) fun _ _ z=>False.elim z
theorem PSs.nox {st:List Stmt}{t:TS}(h:PSs X.nox st t):PSs X st t:=fun pins s σ H D I hw=>
 wpAny_mono (h pins s σ H D (I.wish _) hw) (fun _ _ q=>q.unwish) fun _ _ z=>False.elim z
end
section
variable {X:Cx}{st:Stmt}{rest:List Stmt}{t u:TS}{e:Expr}{te:TE}{pos:Pos}
def tNext:TS:=fun D σ H=>D.nx σ H
def tSeq (t u:TS):TS:=fun D σ H=>t { D with nx:=u D } σ H
theorem pss_nil:PSs X [] tNext:=fun _ _ σ H _ I h=>wpAny_execs_nil ⟨σ,H,I,h⟩
theorem pss_cons (h1:PS X st t)(h2:PSs X rest u):PSs X (st::rest) (tSeq t u):=by
 intro pins s σ H D I h;refine wpAny_execs_cons (thn (h1 pins s σ H { D with nx:=u D } I h) fun f s1 q=>?_);cases f with
 |next=>
  obtain⟨σ',H',I',q⟩:=q;exact h2 pins s1 σ' H' D I' q
 |ret v=>exact q
 |brk=>exact q
 |cont=>exact q
theorem pss_one (h1:PS X st t):PSs X [st] t:=by
 intro pins s σ H D I h;refine wpAny_execs_cons (thn (h1 pins s σ H D I h) fun f s1 q=>?_);cases f with
 |next=>exact wpAny_execs_nil q
 |ret v=>exact q
 |brk=>exact q
 |cont=>exact q
theorem Inv.quiet {pins:List (Addr×Obj)}{σ:St}{H:Hp}{s:Shared}(I:Inv X pins σ H s):interactive X.env=false:=by simp[interactive,I.ok.kind]
def tDrop (te:TE):TS:=fun D σ H=>te σ H fun _ H1=>D.nx σ H1
theorem ps_expr (he:PE X e te)(hs:swapsWith e none pos.line X.env=pure false:=by rfl):PS X (.Expr e pos) (tDrop te):=by
 intro pins s σ H D I h;exact wpAny_Expr_any (thn (he pins s σ H _ I h) fun v s1 ⟨x,H1,I1,r1,q1⟩=>⟨σ,H1,I1,q1⟩) I.quiet hs
def tRet (te:TE):TS:=fun D σ H=>te σ H D.rt
theorem ps_ret (he:PE X e te):PS X (.Return (some e) pos) (tRet te):=by
 intro pins s σ H D I h;exact wpAny_Return_some (thn (he pins s σ H _ I h) fun v s1 ⟨x,H1,I1,r1,q1⟩=>⟨x,σ,H1,I1,r1,q1⟩)
def tIfS (c:TT)(t u:TS):TS:=fun D σ H=>c σ H fun b H1=>if b=true then t D σ H1 else u D σ H1
theorem ps_if {c:Expr}{a b:List Stmt}{tc:TT}(hc:PT X c tc)(ha:PSs X a t)(hb:PSs X b u):PS X (.If c a b pos) (tIfS tc t u):=by
 intro pins s σ H D I h;refine wpAny_If (thn (hc pins s σ H _ I h) fun d s1 ⟨H1,I1,q1⟩=>?_);cases d with
 |true=>exact ha pins s1 σ H1 D I1 q1
 |false=>exact hb pins s1 σ H1 D I1 q1
def tNever:TS:=fun _ _ _=>False
theorem ps_never:PS X st tNever:=fun _ _ _ _ _ _ h=>h.elim
end
abbrev TG:=V->St->Hp->(St->Hp->Prop)->Prop
abbrev TGs:=List V->St->Hp->(St->Hp->Prop)->Prop
def PG (X:Cx)(target:Expr)(t:TG):Prop:=
 ∀(pins:List (Addr×Obj)) (s:Shared) (σ:St) (H:Hp) (v:V) (u:Value) (Q:St->Hp->Prop),Inv X pins σ H s->RelV v u->t v σ H Q->
  wpAny (model X.prog X.w) X.A (assign target X.env u) (fun _ s'=>∃σ' H',Inv X pins σ' H' s'/\Q σ' H') X.xe s
def PGs (X:Cx)(ts:List Expr)(t:TGs):Prop:=
 ∀(pins:List (Addr×Obj)) (s:Shared) (σ:St) (H:Hp) (vs:List V) (us:List Value) (Q:St->Hp->Prop),Inv X pins σ H s->Vals vs us->t vs σ H Q->
  wpAny (model X.prog X.w) X.A (assignInOrder ((assignEach ts X.env).map (·.2)) us) (fun _ s'=>∃σ' H',Inv X pins σ' H' s'/\Q σ' H') X.xe s
abbrev TSet:=V->V->V->Hp->(Hp->Prop)->Prop
def PSet (X:Cx)(t:TSet):Prop:=
 ∀(pins:List (Addr×Obj)) (s:Shared) (σ:St) (H:Hp) (o i v:V) (ov iv u:Value) (Q:Hp->Prop),Inv X pins σ H s->RelV o ov->RelV i iv->RelV v u->t o i v H Q->
  wpAny (model X.prog X.w) X.A (setItem ov iv u) (fun _ s'=>∃H',Inv X pins σ H' s'/\Q H') X.xe s
section
variable {X:Cx}{pos:Pos}
def gName (i:Nat):TG:=fun v σ H Q=>Q (σ.set i (some v)) H
theorem pg_name {i:Nat}{x:Str}(hN:X.N.Nodup)(hi:X.N[i]?=some x)(hx:Loc X.env.scope x)(hf:X.fn x=true\/X.env.scope.names.lookup x=some .local:=by first|exact .inl rfl|exact .inr rfl|assumption):PG X (.Name x pos) (gName i):=by
 intro pins s σ H v u Q I r h;exact wpAny_assign_Name (store_ok I hN hi hx r (fun s' I'=>⟨_,H,I',h⟩) hf)
def gNil:TGs:=fun vs σ H Q=>vs=[]/\Q σ H
def gCons (t:TG)(u:TGs):TGs:=fun vs σ H Q=>∃v r,vs=v::r/\t v σ H fun σ' H'=>u r σ' H' Q
theorem pgs_nil:PGs X [] gNil:=by
 intro pins s σ H vs us Q I r h;obtain⟨e,h⟩:=h;subst e;cases r;exact assignInOrder_nil ⟨σ,H,I,h⟩
theorem pgs_cons {e:Expr} {es:List Expr} {t:TG} {u:TGs} (h1:PG X e t) (h2:PGs X es u)
  (hs:(assignEach (e::es) X.env).map (·.2)=assign e X.env::(assignEach es X.env).map (·.2):=by rfl):PGs X (e::es) (gCons t u):=by
 intro pins s σ H vs us Q I r h;obtain⟨v,vr,e1,h⟩:=h;subst e1;cases r with
 |cons r rr=>
  rw[hs];refine assignInOrder_cons (thn (h1 pins s σ H _ _ _ I r h) fun _ s1 ⟨σ1,H1,I1,q1⟩=>?_);exact h2 pins s1 σ1 H1 _ _ Q I1 rr q1
def gTup (K:PySem.W.Frag)(n:Nat)(t:TGs):TG:=fun v σ H Q=>∃a xs,v=.ref a/\SqT K H a xs/\xs.length=n/\t xs σ H Q
theorem pg_tup {es:List Expr} {k:Nat} {t:TGs} {n:Nat} (hc:X.calm=true) (h:PGs X es t)
  (hn:(assignEach es X.env).length=n:=by rfl) (hst:(assignEach es X.env).findIdx? (·.1)=none:=by rfl):PG X (.Tuple es k pos) (gTup X.K n t):=by
 intro pins s σ H v u Q I r hw;obtain⟨a,xs,e1,hq,hl,hw⟩:=hw;subst e1;cases r;obtain⟨its,rv,ht,hz⟩:=I.tuple hq;refine assign_Tuple_tuple (I.ok.hd hc) ht (by simp[hn,<-hl,rv.length]) hst fun h' hx=>?_
 have I1:Inv X pins σ H { s with heap:=h' }:=I.kept (t':=s.toks) fun b o e=>hx b o (Nat.ne_of_lt (Heap.lt_size e)) e
 exact h pins _ σ H xs _ Q I1 (by simpa using rv) hw
def gSub (to ti:TE)(t:TSet):TG:=fun v σ H Q=>to σ H fun o H1=>ti σ H1 fun i H2=>t o i v H2 fun H3=>Q σ H3
theorem pg_sub {o i:Expr} {to ti:TE} {t:TSet} (ho:PE X o to) (hi:PE X i ti) (hs:PSet X t)
  (ha:∀v,assign (.Subscript o i pos) X.env v=(do
   let ov <-holding [v] (eval o X.env)
   let iv <-holding [v,ov] (eval i X.env)
   standAt pos
   holding [v,ov,iv] (setItem ov iv v)
   release [v,ov,iv] []):=by intro _;rfl):PG X (.Subscript o i pos) (gSub to ti t):=by
 intro pins s σ H v u Q I r h;rw[ha];refine wpAny_bind (wpAny_holding (thn (ho pins s σ H _ I h) fun ov s1 ⟨x,H1,I1,r1,q1⟩=>?_));refine wpAny_bind (wpAny_holding (thn (hi pins s1 σ H1 _ I1 q1) fun iv s2 ⟨y,H2,I2,r2,q2⟩=>?_));refine wpAny_bind (wpAny_standAt (wpAny_bind (wpAny_holding (thn (hs pins s2 σ H2 x y v ov iv u _ I2 r1 r2 r q2) fun _ s3 ⟨H3,I3,q3⟩=>?_))));exact wpAny_release ⟨σ,H3,I3,q3⟩
def tAsg (te:TE)(g:TG):TS:=fun D σ H=>te σ H fun x H1=>g x σ H1 D.nx
theorem ps_asg {tg e:Expr} {te:TE} {g:TG} (he:PE X e te) (hg:PG X tg g) (hs:swapsWithSole [tg] e pos.line X.env=pure false:=by rfl) (hw:swappedStores [tg] e X.env=pure none:=by rfl)
  (h1:(assignEach [tg] X.env).map (·.2)=[assign tg X.env]:=by rfl):PS X (.Assign [tg] e pos) (tAsg te g):=by
 intro pins s σ H D I h;refine wpAny_Assign_stores (thn (he pins s σ H _ I h) fun v s1 ⟨x,H1,I1,r1,q1⟩=>?_) hs hw;rw[h1];exact thn (hg pins s1 σ H1 x v _ I1 r1 q1) fun _ s2 q=>q
theorem ps_set {i:Nat}{x:Str}{e:Expr}{te:TE}{pos':Pos}(hN:X.N.Nodup)(hi:X.N[i]?=some x)(hx:Loc X.env.scope x)(he:PE X e te)(hs:swapsWith e (some (.Name x pos')) pos.line X.env=pure false:=by rfl)(hf:X.fn x=true\/X.env.scope.names.lookup x=some .local:=by first|exact .inl rfl|exact .inr rfl|assumption) :
  PS X (.Assign [.Name x pos'] e pos) (tAsg te (gName i)):=by
 intro pins s σ H D I h;refine wpAny_Assign_Name (thn (he pins s σ H _ I h) fun v s1 ⟨y,H1,I1,r1,q1⟩=>?_) hs;exact store_ok I1 hN hi hx r1 (fun s2 I2=>⟨_,H1,I2,q1⟩) hf
end
structure It where
 go:Nat->Hp->Prop
 yld:Nat->Hp->V->Hp->Prop
 stop:Nat->Hp->Prop
def FpOk (X:Cx)(pins:List (Addr×Obj))(H:Hp)(b:Addr):Prop:=
 H b=none/\b≠X.env.locals/\b∉X.fs/\(b∈X.ex\/X.s₀.heap.objs.size<=b)/\(∀x c,X.env.cells.lookup x=some c->c≠b)/\∀p∈X.pn++pins,p.1≠b
theorem Inv.fpOk {X:Cx}{pins:List (Addr×Obj)}{σ:St}{H H':Hp}{s:Shared}{b:Addr}(I:Inv X pins σ H s)(hb:s.heap.objs.size<=b)(hn:H' b=none):FpOk X pins H' b:=by
 refine⟨hn,Nat.ne_of_gt (Nat.lt_of_lt_of_le I.lt hb),I.nofs hb,.inr (Nat.le_trans I.sz hb),fun x c e z=>?_,fun p hp z=>?_⟩
 ·obtain⟨v,q⟩:=I.cell x c e;exact absurd (Nat.lt_of_lt_of_le q.lt (by rw[z];exact hb)) (Nat.lt_irrefl _)
 ·exact absurd (Nat.lt_of_lt_of_le (Heap.lt_size (I.pin p hp).1) (by rw[z];exact hb)) (Nat.lt_irrefl _)
structure Turn (P:Program) (w:World) (K:PySem.W.Frag) (tg:Expr) (J:It) (fp:List Addr) (it:Addr) (tn:Nat->Heap->Prop):Prop where
 mem:it∈fp
 obj:∀i h,tn i h->∀b∈fp,∃o,h.get? b=some o/\∀v,o.data≠.cell v
 keep:∀i h h',tn i h->(∀b∈fp,∀o,h.get? b=some o->h'.get? b=some o)->tn i h'
 item:∀(X:Cx),X.prog=P->X.w=w->X.K=K->X.calm=true->∀(i:Nat) (pins:List (Addr×Obj)) (s:Shared) (σ:St) (H:Hp) (E:Value->Shared->Prop),Inv X pins σ H s->(∀b∈fp,FpOk X pins H b)->tn i s.heap->J.go i H->
  wpAny (model P w) X.A (pyNext (.ref it)) (fun r s1=>∃u,r=some u/\
   wpAny (model P w) X.A (letOwnedTupleGo tg (.ref it) u) (fun _ s2=>∃x H',Inv X pins σ H' s2/\RelV x u/\J.yld i H x H'/\tn (i+1) s2.heap/\∀b∈fp,H' b=none) E s1) E s
 done:∀(X:Cx),X.prog=P->X.w=w->X.K=K->X.calm=true->∀(i:Nat) (pins:List (Addr×Obj)) (s:Shared) (σ:St) (H:Hp) (E:Value->Shared->Prop),Inv X pins σ H s->(∀b∈fp,FpOk X pins H b)->tn i s.heap->J.stop i H->
  wpAny (model P w) X.A (pyNext (.ref it)) (fun r s1=>r=none/\Inv X pins σ H s1) E s
 self:∀(A:Around) (i:Nat) (s:Shared) (Q:Value->Shared->Prop) (E:Value->Shared->Prop),tn i s.heap->Q (.ref it) s->wpAny (model P w) A (pyIter (.ref it)) Q E s
abbrev TI:=St->Hp->(It->Hp->Prop)->Prop
def PIE (X:Cx)(pins:List (Addr×Obj))(σ:St)(tg:Expr)(R:It->Hp->Prop)(itv:Value)(s2:Shared):Prop:=
 ∃(it:Addr) (fp:List Addr) (tn:Nat->Heap->Prop) (J:It) (H':Hp),itv=.ref it/\Inv X pins σ H' s2/\Turn X.prog X.w X.K tg J fp it tn/\tn 0 s2.heap/\(∀b∈fp,FpOk X pins H' b)/\R J H'
def PI (X:Cx)(tg iter:Expr)(wi:TI):Prop:=
 ∀(pins:List (Addr×Obj)) (s:Shared) (σ:St) (H:Hp) (R:It->Hp->Prop),Inv X pins σ H s->wi σ H R->
  wpAny (model X.prog X.w) X.A (eval iter X.env) (fun v s1=>wpAny (model X.prog X.w) X.A (pyIter v) (PIE X pins σ tg R) X.xe s1) X.xe s
theorem go_of {M:Model} {A:Around} {E:Value->Shared->Prop} {s:Shared} {tg:Expr} {it:Addr} {u:Value} {o:Obj} {n:String} {vs:Array Value} {Q:Unit->Shared->Prop} (ho:s.heap.get? it=some o) (hc:o.cls=.type n) (hd:o.data=.fields vs)
  (hn:["enumerate","zip","dict_itemiterator","dict_reverseitemiterator","odict_iterator","itertools.zip_longest","itertools.pairwise"].contains n=false) (hQ:Q () s):wpAny M A (letOwnedTupleGo tg (.ref it) u) Q E s:=by
 unfold letOwnedTupleGo;cases tg<;>first
  |exact wpAny_pure hQ
  |(cases u<;>first
    |exact wpAny_pure hQ
    |(refine wpAny_bind (wpAny_load ho ?_)
      rw[hc,hd];show wpAny M A (if(["enumerate","zip","dict_itemiterator","dict_reverseitemiterator","odict_iterator","itertools.zip_longest","itertools.pairwise"].contains n&&vs[0]? == some (rawInt _))=true then _ else _) Q E s;rw[if_neg (by intro h;rw[hn,Bool.false_and] at h;cases h)];exact wpAny_pure hQ))
def Itl (K:PySem.W.Frag)(a:Addr):It:=
 ⟨fun i H=>∃xs x,SqL K H a xs/\xs[i]?=some x,fun i H x H'=>H'=H/\∀xs,SqL K H a xs->xs[i]?=some x,fun i H=>∃xs,SqL K H a xs/\xs.length<=i⟩
def Itt (K:PySem.W.Frag)(a:Addr):It:=
 ⟨fun i H=>∃xs x,SqT K H a xs/\xs[i]?=some x,fun i H x H'=>H'=H/\∀xs,SqT K H a xs->xs[i]?=some x,fun i H=>∃xs,SqT K H a xs/\xs.length<=i⟩
def Itr (lo:Int)(n:Nat):It:=⟨fun i _=>i<n,fun i H x H'=>H'=H/\x=.int (lo+i),fun i _=>n<=i⟩
theorem turn_list {P:Program}{w:World}{K:PySem.W.Frag}{tg:Expr}(a it:Addr):Turn P w K tg (Itl K a) [it] it (fun i h=>h.IsListIter it a i) where
 mem:=by simp
 obj:=fun i h st b hb=>by
  have e:b=it:=by simpa using hb
  subst e;obtain⟨o,e,c,d⟩:=st;exact⟨o,e,fun v z=>by rw[d] at z;cases z⟩
 keep:=fun i h h' st k=>st.at fun o e=>k it (by simp) o e
 item:=by
  intro X hP hw hK hc i pins s σ H E I hf st hg;subst hP hw hK;obtain⟨xs,x,hq,hx⟩:=hg;obtain⟨its,rv,p,hz⟩:=I.list hq;obtain⟨u,hu,ru⟩:=rv.get hx;obtain⟨f0,f1,f2,f3,f4,f5⟩:=hf it (by simp);refine wpAny_pyNext_list_item st p.isList (x:=u) (by simpa using hu) fun h' st' sb=>?_
  have I1:Inv X pins σ H { s with heap:=h' }:=I.turned (t':=s.toks) (fun b o hb e=>(sb.2 b hb).trans e) f0 f1 f3 f4 f5;obtain⟨o,e,c,d⟩:=id st';exact⟨u,rfl,go_of (s:={ s with heap:=h' }) e c d (by decide) ⟨x,H,I1,ru,⟨rfl,fun ys hy=>by rw[I.list_inj hy hq];exact hx⟩,st',fun b hb=>(hf b hb).1⟩⟩
 done:=by
  intro X hP hw hK hc i pins s σ H E I hf st hg;subst hP hw hK;obtain⟨xs,hq,hx⟩:=hg;obtain⟨its,rv,p,hz⟩:=I.list hq;obtain⟨f0,f1,f2,f3,f4,f5⟩:=hf it (by simp);have hl:=rv.length;exact wpAny_pyNext_list_end (I.ok.hd hc) st p.isList (by simp;omega) fun h' eb=>⟨rfl,I.turned (t':=s.toks) (fun b o hb e=>eb b o hb e) f0 f1 f3 f4 f5⟩
 self:=fun _ _ _ _ _ st h=>wpAny_pyIter_listiter st h
theorem turn_tuple {P:Program}{w:World}{K:PySem.W.Frag}{tg:Expr}(a it:Addr):Turn P w K tg (Itt K a) [it] it (fun i h=>h.IsTupleIter it a i) where
 mem:=by simp
 obj:=fun i h st b hb=>by
  have e:b=it:=by simpa using hb
  subst e;obtain⟨o,e,c,d⟩:=st;exact⟨o,e,fun v z=>by rw[d] at z;cases z⟩
 keep:=fun i h h' st k=>st.at fun o e=>k it (by simp) o e
 item:=by
  intro X hP hw hK hc i pins s σ H E I hf st hg;subst hP hw hK;obtain⟨xs,x,hq,hx⟩:=hg;obtain⟨its,rv,p,hz⟩:=I.tuple hq;obtain⟨u,hu,ru⟩:=rv.get hx;obtain⟨f0,f1,f2,f3,f4,f5⟩:=hf it (by simp);refine wpAny_pyNext_tuple_item st (show s.heap.IsTuple a its.toArray from p) (x:=u) (by simpa using hu) fun h' st' sb=>?_
  have I1:Inv X pins σ H { s with heap:=h' }:=I.turned (t':=s.toks) (fun b o hb e=>(sb.2 b hb).trans e) f0 f1 f3 f4 f5;obtain⟨o,e,c,d⟩:=id st';exact⟨u,rfl,go_of (s:={ s with heap:=h' }) e c d (by decide) ⟨x,H,I1,ru,⟨rfl,fun ys hy=>by rw[I.tuple_inj hy hq];exact hx⟩,st',fun b hb=>(hf b hb).1⟩⟩
 done:=by
  intro X hP hw hK hc i pins s σ H E I hf st hg;subst hP hw hK;obtain⟨xs,hq,hx⟩:=hg;obtain⟨its,rv,p,hz⟩:=I.tuple hq;obtain⟨f0,f1,f2,f3,f4,f5⟩:=hf it (by simp);have hl:=rv.length;exact wpAny_pyNext_tuple_end (I.ok.hd hc) st (show s.heap.IsTuple a its.toArray from p) (by simp;omega) fun h' eb=>⟨rfl,I.turned (t':=s.toks) (fun b o hb e=>eb b o hb e) f0 f1 f3 f4 f5⟩
 self:=fun _ _ _ _ _ st h=>wpAny_pyIter_tupleiter st h
theorem turn_range {P:Program}{w:World}{K:PySem.W.Frag}{tg:Expr}(it:Addr)(lo:Int)(n:Nat):Turn P w K tg (Itr lo n) [it] it (fun i h=>IsRangeIter h it (lo+(i:Nat)*1) ((n:Int)-(i:Nat)) 1) where
 mem:=by simp
 obj:=fun i h st b hb=>by
  have e:b=it:=by simpa using hb
  subst e;exact⟨_,st,fun v z=>by
   have z':Data.fields _=Data.cell v:=z;cases z'⟩
 keep:=fun i h h' st k=>k it (by simp) _ st
 item:=by
  intro X hP hw hK hc i pins s σ H E I hf st hg;subst hP hw hK;obtain⟨f0,f1,f2,f3,f4,f5⟩:=hf it (by simp);have W:=Walks.range (prog:=X.prog) (w:=X.w) (I.ok.hd hc) it lo 1 n;refine W.item i s _ _ hg st fun v h' tk hv st' kk=>?_
  obtain⟨t,rfl⟩:=hv;have I1:Inv X pins σ H { s with heap:=h',toks:=tk }:=I.turned (fun b o hb e=>kk b o (by simpa using hb) e) f0 f1 f3 f4 f5;refine⟨_,rfl,go_of (s:={ s with heap:=h',toks:=tk }) (n:="range_iterator") st' rfl rfl (by decide) ⟨.int (lo+i),H,I1,⟨t,?_⟩,⟨rfl,rfl⟩,st',fun b hb=>(hf b hb).1⟩⟩;rw[Int.mul_one]
 done:=by
  intro X hP hw hK hc i pins s σ H E I hf st hg;subst hP hw hK;obtain⟨f0,f1,f2,f3,f4,f5⟩:=hf it (by simp);exact wpAny_pyNext_range_end (I.ok.hd hc) st (by have:n<=i:=hg;omega) fun h' eb=>⟨rfl,I.turned (t':=s.toks) (fun b o hb e=>eb b o hb e) f0 f1 f3 f4 f5⟩
 self:=fun _ _ _ _ _ st h=>wpAny_pyIter_rangeiter st h
section
variable {X:Cx}{tg:Expr}
def iList (K:PySem.W.Frag)(tl:TE):TI:=fun σ H R=>tl σ H fun x H1=>∃a,x=.ref a/\(∃xs,SqL K H1 a xs)/\R (Itl K a) H1
def iTup (K:PySem.W.Frag)(tl:TE):TI:=fun σ H R=>tl σ H fun x H1=>∃a,x=.ref a/\(∃xs,SqT K H1 a xs)/\R (Itt K a) H1
theorem pi_list {l:Expr}{tl:TE}(hl:PE X l tl):PI X tg l (iList X.K tl):=by
 intro pins s σ H R I h;refine thn (hl pins s σ H _ I h) fun v s1 ⟨x,H1,I1,r1,q1⟩=>?_
 obtain⟨a,e,⟨xs,hq⟩,q⟩:=q1;subst e;cases r1;obtain⟨its,rv,p,hz⟩:=I1.list hq;refine wpAny_pyIter_list p.isList ?_;refine⟨s1.heap.objs.size,[s1.heap.objs.size],_,_,H1,rfl,I1.kept (t':=s1.toks) fun b o e=>Heap.get?_push_of_some _ e,turn_list a _,⟨_,Heap.get?_push_size _ rfl,rfl,rfl⟩,fun b hb=>?_,q⟩;have e:b=s1.heap.objs.size:=by simpa using hb
 subst e;exact I1.fpOk (Nat.le_refl _) (I1.hok.fresh (Nat.le_refl _))
theorem pi_tup {l:Expr}{tl:TE}(hl:PE X l tl):PI X tg l (iTup X.K tl):=by
 intro pins s σ H R I h;refine thn (hl pins s σ H _ I h) fun v s1 ⟨x,H1,I1,r1,q1⟩=>?_
 obtain⟨a,e,⟨xs,hq⟩,q⟩:=q1;subst e;cases r1;obtain⟨its,rv,p,hz⟩:=I1.tuple hq;refine wpAny_pyIter_tuple (show s1.heap.IsTuple a its.toArray from p) ?_;refine⟨s1.heap.objs.size,[s1.heap.objs.size],_,_,H1,rfl,I1.kept (t':=s1.toks) fun b o e=>Heap.get?_push_of_some _ e,turn_tuple a _,⟨_,Heap.get?_push_size _ rfl,rfl,rfl⟩,fun b hb=>?_,q⟩;have e:b=s1.heap.objs.size:=by simpa using hb
 subst e;exact I1.fpOk (Nat.le_refl _) (I1.hok.fresh (Nat.le_refl _))
theorem range_it {pins:List (Addr×Obj)} {σ:St} {H:Hp} {s:Shared} {R:It->Hp->Prop} {E:Value->Shared->Prop} {lo hi:Int} {t u v:Tok} {tk:Nat} (I:Inv X pins σ H s) (h1:-(2^62)<=lo) (h2:lo<2^62) (h3:-(2^62)<=hi) (h4:hi<2^62)
  (q:R (Itr lo (hi-lo).toNat) H):wpAny (model X.prog X.w) X.A (pyIter (.ref s.heap.objs.size)) (PIE X pins σ tg R) E { s with heap:=s.heap.push { cls:=.type "range",data:=.fields #[.int lo t,.int hi u,.int 1 v] },toks:=tk }:=by
 refine wpAny_pyIter_range (IsRange.new ..) (small_one h1 h2 h3 h4) ?_;have I1:Inv X pins σ H { s with heap:=s.heap.push { cls:=.type "range",data:=.fields #[.int lo t,.int hi u,.int 1 v] },toks:=tk }:=I.kept fun b o e=>Heap.get?_push_of_some _ e
 refine⟨(s.heap.push { cls:=.type "range",data:=.fields #[.int lo t,.int hi u,.int 1 v] }).objs.size,[(s.heap.push { cls:=.type "range",data:=.fields #[.int lo t,.int hi u,.int 1 v] }).objs.size],_,_,H,rfl,
  I1.kept (t':=tk) fun b o e=>Heap.get?_push_of_some _ e,turn_range _ lo (hi-lo).toNat,?_,fun b hb=>?_,q⟩
 ·have e1:lo+((0:Nat):Int)*1=lo:=by simp
  have e2:(((hi-lo).toNat:Nat):Int)-((0:Nat):Int)=Builtin.Range.rangeSize lo hi 1:=by rw[rangeSize_one];split<;>omega
  show IsRangeIter _ _ (lo+((0:Nat):Int)*1) ((((hi-lo).toNat:Nat):Int)-((0:Nat):Int)) 1;rw[e1,e2];exact Heap.get?_push_size _ rfl
 ·have e:b=(s.heap.push { cls:=.type "range",data:=.fields #[.int lo t,.int hi u,.int 1 v] }).objs.size:=by simpa using hb
  subst e;exact I1.fpOk (Nat.le_refl _) (I1.hok.fresh (Nat.le_refl _))
def iRng1 (ta:TA):TI:=fun σ H R=>ta σ H fun vs H1=>∃j:Int,vs=[.int j]/\-(2^62)<=j/\j<2^62/\R (Itr 0 j.toNat) H1
theorem pi_range1 {a:Expr}{ta:TA}{p pos:Pos}(hg:Gl X "range")(hm:X.mg "range"=none)(ha:PA X [a] ta)(hs:starEach [a] X.env=[(false,eval a X.env)]:=by rfl):PI X tg (.Call (.Name "range" p) [a] [] pos) (iRng1 ta):=by
 intro pins s σ H R I h;refine Call_ (ld_blt I hg hm boot_range (PyProof.Rows.callWith_type1 (thn (ha pos pins s σ H _ I h) fun us s1 ⟨vs,H1,I1,r1,q1⟩=>?_) hs rfl));obtain⟨j,e,q1,q2,q⟩:=q1;subst e;cases r1 with
 |cons r rr=>
  cases rr;obtain⟨t,rfl⟩:=r;exact call_range_1 (range_it I1 (by omega) (by omega) q1 q2 (by simpa using q))
def tFor (wi:TI)(g:TG)(tb:TS):TS:=fun D σ H=>wi σ H fun J H1=>∃W:Nat->Nat->St->Hp->Prop,(∃m,W 0 m σ H1)/\∀i m σ H,W i m σ H->
 (J.stop i H/\D.nx σ H)\/(J.go i H/\∃N:St->Hp->Prop,(∀σ' H',N σ' H'->∃m',m'<m/\W (i+1) m' σ' H')/\∀x H',J.yld i H x H'->g x σ H' fun σ2 H2=>tb { D with nx:=N,ct:=N,bk:=D.nx } σ2 H2)
def pinsAt (fp:List Addr)(h:Heap):List (Addr×Obj):=fp.filterMap fun b=>(h.get? b).map fun o=>(b,o)
theorem mem_pinsAt {fp:List Addr}{h:Heap}{b:Addr}{o:Obj}(hb:b∈fp)(e:h.get? b=some o):(b,o)∈pinsAt fp h:=List.mem_filterMap.mpr ⟨b,hb,by rw[e];rfl⟩
theorem of_pinsAt {fp:List Addr}{h:Heap}{p:Addr×Obj}(hp:p∈pinsAt fp h):p.1∈fp/\h.get? p.1=some p.2:=by
 obtain⟨b,hb,e⟩:=List.mem_filterMap.mp hp;cases q:h.get? b with
 |none=>rw[q] at e;cases e
 |some o=>
  rw[q] at e;have e':(b,o)=p:=Option.some.inj e;subst e';exact⟨hb,q⟩
theorem Inv.pinned {pins:List (Addr×Obj)}{σ:St}{H:Hp}{s:Shared}{fp:List Addr}(I:Inv X pins σ H s)(hf:∀b∈fp,FpOk X pins H b)(ho:∀b∈fp,∃o,s.heap.get? b=some o/\∀v,o.data≠.cell v):Inv X (pins++pinsAt fp s.heap) σ H s:=
 I.pins_of fun p hp=>(List.mem_append.mp hp).elim (fun z=>I.pin p (List.mem_append_right _ z)) fun z=>by
  obtain⟨hb,e⟩:=of_pinsAt z;obtain⟨f0,f1,f2,_⟩:=hf p.1 hb;obtain⟨o,e',d⟩:=ho p.1 hb;rw[e] at e';cases e';exact⟨e,f0,f1,f2,d⟩
theorem Inv.unpinned {pins pl:List (Addr×Obj)}{σ:St}{H:Hp}{s:Shared}(I:Inv X (pins++pl) σ H s):Inv X pins σ H s:=I.pins_of fun p hp=>I.pin p (List.mem_append_right _ (List.mem_append_left _ hp))
theorem ps_for {iter:Expr} {body:List Stmt} {wi:TI} {g:TG} {tb:TS} {pos:Pos} (hp:PassesOwn (model X.prog X.w) X.A X.env X.xe) (hc:X.calm=true) (hi:PI X tg iter wi) (hg:PG X tg g) (hb:PSs X body tb)
  (hs:∀x,foldedSetIterable iter X.env x=pure x:=by intro _;rfl):PS X (.For tg iter body [] pos) (tFor wi g tb):=by
 intro pins s σ H D I h;refine wpAny_For (thn (hi pins s σ H _ I h) fun v s1 h1=>thn h1 fun itv s2 h2=>?_) hs;obtain⟨it,fp,tn,J,H2,e,I2,T,st2,f2,W,⟨m0,w0⟩,turn⟩:=h2;subst e;have stat:∀{H':Hp},(∀b∈fp,H' b=none)->∀b∈fp,FpOk X pins H' b:=fun hn b hb=>⟨hn b hb,(f2 b hb).2⟩
 refine codeAny_forLoop_any (fun n s'=>∃i σ' H',Inv X pins σ' H' s'/\tn i s'.heap/\(∀b∈fp,H' b=none)/\W i n σ' H') ?_ m0 ⟨0,σ,H2,I2,st2,fun b hb=>(f2 b hb).1,w0⟩
 rintro n s3 ⟨i,σ3,H3,I3,st3,fr3,w3⟩
 rcases turn i n σ3 H3 w3 with⟨stop,qn⟩|⟨go,N,hN,step⟩
 ·refine wpAny_passesOwn hp (thn (T.done X rfl rfl rfl hc i pins s3 σ3 H3 X.xe I3 (stat fr3) st3 stop) fun r s4 ⟨hr,I4⟩=>?_);subst hr;exact wpAny_execs_nil ⟨σ3,H3,I4,qn⟩
 ·refine wpAny_passesOwn hp (thn (T.item X rfl rfl rfl hc i pins s3 σ3 H3 X.xe I3 (stat fr3) st3 go) fun r s4 ⟨u,hr,h4⟩=>?_);subst hr;refine wpAny_passesOwn hp (thn h4 fun _ s5 ⟨x,H5,I5,r5,y5,st5,fr5⟩=>?_);have I5':=I5.pinned (stat fr5) (T.obj _ _ st5);refine wpAny_passesOwn hp (thn (hg _ s5 σ3 H5 x u _ I5' r5 (step x H5 y5)) fun _ s6 ⟨σ6,H6,I6,q6⟩=>?_);refine wpAny_passesOwn hp (thn (hb _ s6 σ6 H6 _ I6 q6) fun f s7 q7=>?_);have again:∀{σ7:St} {H7:Hp},Inv X (pins++pinsAt fp s5.heap) σ7 H7 s7->N σ7 H7->∃m,m<n/\∃i σ' H',Inv X pins σ' H' s7/\tn i s7.heap/\(∀b∈fp,H' b=none)/\W i m σ' H':=fun{σ7 H7} I7 n7=>by
   obtain⟨m',hm,w7⟩:=hN σ7 H7 n7;refine⟨m',hm,i+1,σ7,H7,I7.unpinned,T.keep _ _ _ st5 fun b hb o e=>(I7.pin (b,o) (List.mem_append_right _ (List.mem_append_right _ (mem_pinsAt hb e)))).1,fun b hb=>?_,w7⟩;obtain⟨o,e,d⟩:=T.obj _ _ st5 b hb;exact(I7.pin (b,o) (List.mem_append_right _ (List.mem_append_right _ (mem_pinsAt hb e)))).2.1
  cases f with
  |next=>obtain⟨σ7,H7,I7,n7⟩:=q7;exact again I7 n7
  |cont=>obtain⟨σ7,H7,I7,n7⟩:=q7;exact again I7 n7
  |brk=>obtain⟨σ7,H7,I7,q7⟩:=q7;exact⟨σ7,H7,I7.unpinned,q7⟩
  |ret v=>obtain⟨x7,σ7,H7,I7,r7,q7⟩:=q7;exact⟨x7,σ7,H7,I7.unpinned,r7,q7⟩
end
theorem for_list {K:PySem.W.Frag} {a:Addr} {xs:List V} {g:TG} {tb:TS} {D:Ends} {σ:St} {H:Hp} (Pv:Nat->St->Hp->Prop) (h0:Pv 0 σ H) (hl:∀i σ H,i<=xs.length->Pv i σ H->SqL K H a xs)
  (hs:∀i x σ H,xs[i]?=some x->Pv i σ H->g x σ H fun σ2 H2=>tb { D with nx:=Pv (i+1),ct:=Pv (i+1),bk:=D.nx } σ2 H2) (hd:∀σ H,Pv xs.length σ H->D.nx σ H) :
  ∃W:Nat->Nat->St->Hp->Prop,(∃m,W 0 m σ H)/\∀i m σ H,W i m σ H->
   ((Itl K a).stop i H/\D.nx σ H)\/((Itl K a).go i H/\∃N:St->Hp->Prop,(∀σ' H',N σ' H'->∃m',m'<m/\W (i+1) m' σ' H')/\∀x H',(Itl K a).yld i H x H'->g x σ H' fun σ2 H2=>tb { D with nx:=N,ct:=N,bk:=D.nx } σ2 H2):=by
 refine⟨fun i m σ H=>m=xs.length-i/\i<=xs.length/\Pv i σ H,⟨xs.length,by simp,Nat.zero_le _,h0⟩,?_⟩
 rintro i m σ H ⟨rfl,hi,p⟩
 have q:=hl i σ H hi p
 by_cases hlt:i<xs.length
 ·refine .inr ⟨⟨xs,xs[i],q,by simp[hlt]⟩,Pv (i+1),fun σ' H' p'=>⟨xs.length-(i+1),by omega,rfl,hlt,p'⟩,fun x H' y=>?_⟩;obtain⟨e,y⟩:=y;subst e;exact hs i x σ _ (y xs q) p
 ·have e:i=xs.length:=by omega
  subst e;exact .inl ⟨⟨xs,q,Nat.le_refl _⟩,hd σ H p⟩
theorem for_tup {K:PySem.W.Frag} {a:Addr} {xs:List V} {g:TG} {tb:TS} {D:Ends} {σ:St} {H:Hp} (Pv:Nat->St->Hp->Prop) (h0:Pv 0 σ H) (hl:∀i σ H,i<=xs.length->Pv i σ H->SqT K H a xs)
  (hs:∀i x σ H,xs[i]?=some x->Pv i σ H->g x σ H fun σ2 H2=>tb { D with nx:=Pv (i+1),ct:=Pv (i+1),bk:=D.nx } σ2 H2) (hd:∀σ H,Pv xs.length σ H->D.nx σ H) :
  ∃W:Nat->Nat->St->Hp->Prop,(∃m,W 0 m σ H)/\∀i m σ H,W i m σ H->
   ((Itt K a).stop i H/\D.nx σ H)\/((Itt K a).go i H/\∃N:St->Hp->Prop,(∀σ' H',N σ' H'->∃m',m'<m/\W (i+1) m' σ' H')/\∀x H',(Itt K a).yld i H x H'->g x σ H' fun σ2 H2=>tb { D with nx:=N,ct:=N,bk:=D.nx } σ2 H2):=by
 refine⟨fun i m σ H=>m=xs.length-i/\i<=xs.length/\Pv i σ H,⟨xs.length,by simp,Nat.zero_le _,h0⟩,?_⟩
 rintro i m σ H ⟨rfl,hi,p⟩
 have q:=hl i σ H hi p
 by_cases hlt:i<xs.length
 ·refine .inr ⟨⟨xs,xs[i],q,by simp[hlt]⟩,Pv (i+1),fun σ' H' p'=>⟨xs.length-(i+1),by omega,rfl,hlt,p'⟩,fun x H' y=>?_⟩;obtain⟨e,y⟩:=y;subst e;exact hs i x σ _ (y xs q) p
 ·have e:i=xs.length:=by omega
  subst e;exact .inl ⟨⟨xs,q,Nat.le_refl _⟩,hd σ H p⟩
theorem for_range {lo:Int} {n:Nat} {g:TG} {tb:TS} {D:Ends} {σ:St} {H:Hp} (Pv:Nat->St->Hp->Prop) (h0:Pv 0 σ H)
  (hs:∀i σ H,i<n->Pv i σ H->g (.int (lo+i)) σ H fun σ2 H2=>tb { D with nx:=Pv (i+1),ct:=Pv (i+1),bk:=D.nx } σ2 H2) (hd:∀σ H,Pv n σ H->D.nx σ H) :
  ∃W:Nat->Nat->St->Hp->Prop,(∃m,W 0 m σ H)/\∀i m σ H,W i m σ H->
   ((Itr lo n).stop i H/\D.nx σ H)\/((Itr lo n).go i H/\∃N:St->Hp->Prop,(∀σ' H',N σ' H'->∃m',m'<m/\W (i+1) m' σ' H')/\∀x H',(Itr lo n).yld i H x H'->g x σ H' fun σ2 H2=>tb { D with nx:=N,ct:=N,bk:=D.nx } σ2 H2):=by
 refine⟨fun i m σ H=>m=n-i/\i<=n/\Pv i σ H,⟨n,by simp,Nat.zero_le _,h0⟩,?_⟩
 rintro i m σ H ⟨rfl,hi,p⟩
 by_cases hlt:i<n
 ·refine .inr ⟨hlt,Pv (i+1),fun σ' H' p'=>⟨n-(i+1),by omega,rfl,hlt,p'⟩,fun x H' y=>?_⟩;obtain⟨e,y⟩:=y;subst e y;exact hs i σ _ hlt p
 ·have e:i=n:=by omega
  subst e;exact .inl ⟨Nat.le_refl _,hd σ H p⟩
abbrev R2:=V->V->Hp->VK->Prop
def OpR (X:Cx)(f:Value->Value->Sem Value)(r:R2):Prop:=
 ∀(pins:List (Addr×Obj)) (s:Shared) (σ:St) (H:Hp) (x y:V) (v u:Value) (Q:VK),Inv X pins σ H s->RelV x v->RelV y u->r x y H Q->
  wpAny (model X.prog X.w) X.A (f v u) (EP X pins σ Q) X.xe s
def UnR (X:Cx)(f:Value->Sem Value)(r:V->Hp->VK->Prop):Prop:=
 ∀(pins:List (Addr×Obj)) (s:Shared) (σ:St) (H:Hp) (x:V) (v:Value) (Q:VK),Inv X pins σ H s->RelV x v->r x H Q->
  wpAny (model X.prog X.w) X.A (f v) (EP X pins σ Q) X.xe s
def CallR (X:Cx)(f:Value)(r:List V->Hp->VK->Prop):Prop:=
 ∀(pins:List (Addr×Obj)) (s:Shared) (σ:St) (H:Hp) (xs:List V) (us:List Value) (Q:VK),Inv X pins σ H s->Vals xs us->r xs H Q->
  wpAny (model X.prog X.w) X.A (call f us) (EP X pins σ Q) X.xe s
def tOp (r:R2)(ta tb:TE):TE:=fun σ H Q=>ta σ H fun x H1=>tb σ H1 fun y H2=>r x y H2 Q
def tUn (r:V->Hp->VK->Prop)(ta:TE):TE:=fun σ H Q=>ta σ H fun x H1=>r x H1 Q
def rI (C:Int->Int->Prop)(g:Int->Int->V):R2:=fun x y H Q=>∃i j,x=.int i/\y=.int j/\C i j/\Q (g i j) H
def rI0 (g:Int->Int->V):R2:=fun x y H Q=>∃i j,x=.int i/\y=.int j/\Q (g i j) H
def rU (g:Int->V):V->Hp->VK->Prop:=fun x H Q=>∃i,x=.int i/\Q (g i) H
section
variable {X:Cx}{a b c:Expr}{ta tb tc:TE}{pos:Pos}
theorem binT (ha:PE X a ta) (hb:PE X b tb) {pins:List (Addr×Obj)} {s:Shared} {σ:St} {H:Hp} {R:V->V->Hp->Prop} (I:Inv X pins σ H s)
  (h:ta σ H fun x H1=>tb σ H1 fun y H2=>R x y H2) {Q:Value->Shared->Prop} {f:Value->Value->Sem Value}
  (hf:∀v u s2 x y H2,Inv X pins σ H2 s2->RelV x v->RelV y u->R x y H2->wpAny (model X.prog X.w) X.A (f v u) Q X.xe s2) :
  wpAny (model X.prog X.w) X.A (eval a X.env) (fun v s₁=>wpAny (model X.prog X.w) X.A (eval b X.env) (fun u s₂=>wpAny (model X.prog X.w) X.A (f v u) Q X.xe s₂) X.xe s₁) X.xe s:=by
 refine thn (ha pins s σ H _ I h) fun v s1 ⟨x,H1,I1,r1,q1⟩=>?_
 refine thn (hb pins s1 σ H1 _ I1 q1) fun u s2 ⟨y,H2,I2,r2,q2⟩=>?_
 exact hf v u s2 x y H2 I2 r1 r2 q2
theorem pe_op {op:Operator}{r:R2}(ho:OpR X (binaryOp op) r)(ha:PE X a ta)(hb:PE X b tb):PE X (.BinOp a op b pos) (tOp r ta tb):=by
 intro pins s σ H Q I h;exact wpAny_BinOp (binT ha hb I h fun v u s2 x y H2 I2 rx ry q=>ho pins s2 σ H2 x y v u Q I2 rx ry q)
theorem pe_un {op:UnaryOp}{r:V->Hp->VK->Prop}(ho:UnR X (unaryOp op) r)(ha:PE X a ta):PE X (.UnaryOp op a pos) (tUn r ta):=by
 intro pins s σ H Q I h;exact UnaryOp_ (thn (ha pins s σ H _ I h) fun v s1 ⟨x,H1,I1,r1,q1⟩=>ho pins s1 σ H1 x v Q I1 r1 q1)
theorem opI {f:Value->Value->Sem Value} {C:Int->Int->Prop} {g:Int->Int->Int}
  (rule:∀(i j:Int) (t u:Tok) (s:Shared) (Q:Value->Shared->Prop) (E:Value->Shared->Prop),C i j->Q (.int (g i j) s.toks) { s with toks:=s.toks+1 }->wpAny (model X.prog X.w) X.A (f (.int i t) (.int j u)) Q E s) :
  OpR X f (rI C fun i j=>.int (g i j)):=by
 intro pins s σ H x y v u Q I rx ry h;obtain⟨i,j,rfl,rfl,hc,q⟩:=h;obtain⟨t,rfl⟩:=rx;obtain⟨t',rfl⟩:=ry;exact rule i j t t' s _ _ hc ⟨.int (g i j),H,I.tok _,⟨_,rfl⟩,q⟩
theorem opI0 {f:Value->Value->Sem Value} {g:Int->Int->Int}
  (rule:∀(i j:Int) (t u:Tok) (s:Shared) (Q:Value->Shared->Prop) (E:Value->Shared->Prop),Q (.int (g i j) s.toks) { s with toks:=s.toks+1 }->wpAny (model X.prog X.w) X.A (f (.int i t) (.int j u)) Q E s) :
  OpR X f (rI0 fun i j=>.int (g i j)):=by
 intro pins s σ H x y v u Q I rx ry h;obtain⟨i,j,rfl,rfl,q⟩:=h;obtain⟨t,rfl⟩:=rx;obtain⟨t',rfl⟩:=ry;exact rule i j t t' s _ _ ⟨.int (g i j),H,I.tok _,⟨_,rfl⟩,q⟩
theorem opB0 {f:Value->Value->Sem Value} {g:Int->Int->Bool}
  (rule:∀(i j:Int) (t u:Tok) (s:Shared) (Q:Value->Shared->Prop) (E:Value->Shared->Prop),Q (.bool (g i j)) s->wpAny (model X.prog X.w) X.A (f (.int i t) (.int j u)) Q E s) :
  OpR X f (rI0 fun i j=>.bl (g i j)):=by
 intro pins s σ H x y v u Q I rx ry h;obtain⟨i,j,rfl,rfl,q⟩:=h;obtain⟨t,rfl⟩:=rx;obtain⟨t',rfl⟩:=ry;exact rule i j t t' s _ _ ⟨.bl (g i j),H,I,rfl,q⟩
def CDiv (i j:Int):Prop:=0<j/\j<1073741824
def CPow (i j:Int):Prop:=0<=j/\j<=1000000/\i.natAbs<2^64
def CMul (i j:Int):Prop:=(-(2^64)<i/\i<2^64)\/(-(2^64)<j/\j<2^64)
theorem CMul.ok {i j:Int}(h:CMul i j):IntMulOk i j:=by
 rcases h with⟨h1,h2⟩|⟨h1,h2⟩
 ·exact .of_left (intBits_le_64 h1 h2)
 ·exact .of_right (intBits_le_64 h1 h2)
theorem op_add:OpR X (binaryOp .Add) (rI0 fun i j=>.int (i+j)):=opI0 fun _ _ _ _ _ _ _ q=>add_int q
theorem op_sub:OpR X (binaryOp .Sub) (rI0 fun i j=>.int (i-j)):=opI0 fun _ _ _ _ _ _ _ q=>sub_int q
theorem op_mul:OpR X (binaryOp .Mult) (rI CMul fun i j=>.int (i*j)):=opI fun _ _ _ _ _ _ _ hc q=>mul_int q hc.ok
theorem op_fdiv:OpR X (binaryOp .FloorDiv) (rI CDiv fun i j=>.int (i/j)):=opI fun i j _ _ _ _ _ hc q=>by
 have h1:(0:Int)<j:=hc.1;have h2:j<1073741824:=hc.2;exact floordiv_int (by omega) (by rw[Int.fdiv_eq_ediv_of_nonneg i (by omega)];exact q) (.inl (PyProof.noPylong_small (by omega)))
theorem op_mod:OpR X (binaryOp .Mod) (rI (fun _ j=>0<j) fun i j=>.int (i%j)):=opI fun i j _ _ _ _ _ hc q=>by
 have h1:(0:Int)<j:=hc;exact mod_int' (by omega) (by rw[Int.fmod_eq_emod_of_nonneg i (by omega)];exact q)
theorem op_pow:OpR X (binaryOp .Pow) (rI CPow fun i j=>.int (i^j.toNat)):=opI fun _ _ _ _ _ _ _ hc q=>pow_int_small hc.1 hc.2.1 hc.2.2 q
theorem iop_add:OpR X (inplaceOp .Add) (rI0 fun i j=>.int (i+j)):=opI0 fun _ _ _ _ _ _ _ q=>iadd_int q
theorem iop_sub:OpR X (inplaceOp .Sub) (rI0 fun i j=>.int (i-j)):=opI0 fun _ _ _ _ _ _ _ q=>isub_int q
theorem unI {f:Value->Sem Value} {g:Int->Int}
  (rule:∀(i:Int) (t:Tok) (s:Shared) (Q:Value->Shared->Prop) (E:Value->Shared->Prop),Q (.int (g i) s.toks) { s with toks:=s.toks+1 }->wpAny (model X.prog X.w) X.A (f (.int i t)) Q E s) :
  UnR X f (rU fun i=>.int (g i)):=by
 intro pins s σ H x v Q I rx h;obtain⟨i,rfl,q⟩:=h;obtain⟨t,rfl⟩:=rx;exact rule i t s _ _ ⟨.int (g i),H,I.tok _,⟨_,rfl⟩,q⟩
theorem un_neg:UnR X (unaryOp .USub) (rU fun i=>.int (-i)):=unI fun _ _ _ _ _ q=>neg_int q
end
def scal:V->V->Bool
 | .non,.non=>true | .non,.int _=>true | .int _,.non=>true | .non,.bl _=>true | .bl _,.non=>true | .non,.str _=>true | .str _,.non=>true
 | .int _,.int _=>true | .bl _,.bl _=>true | .str _,.str _=>true | .byt _,.byt _=>true
 | .int _,.str _=>true | .str _,.int _=>true | .bl _,.str _=>true | .str _,.bl _=>true
 |_,_=>false
def rEq:R2:=fun x y H Q=>scal x y=true/\Q (.bl (decide (x=y))) H
def rNe:R2:=fun x y H Q=>scal x y=true/\Q (.bl (!decide (x=y))) H
theorem dec_int {i j:Int}:decide (V.int i=V.int j)=(i == j):=by
 rw[Bool.eq_iff_iff];simp
theorem dec_bl {i j:Bool}:decide (V.bl i=V.bl j)=(i == j):=by
 rw[Bool.eq_iff_iff];simp
theorem dec_str {i j:Str}:decide (V.str i=V.str j)=(i == j):=by
 rw[Bool.eq_iff_iff];simp
theorem dec_byt {i j:Array UInt8}:decide (V.byt i=V.byt j)=(i.toList == j.toList):=by
 rw[Bool.eq_iff_iff];cases i;cases j;simp
section
variable {X:Cx}{a b c:Expr}{ta tb tc:TE}{pos:Pos}
theorem fin_bl {pins:List (Addr×Obj)}{σ:St}{H:Hp}{s:Shared}{Q:VK}{k k':Bool}(I:Inv X pins σ H s)(q:Q (.bl k) H)(e:k=k'):EP X pins σ Q (.bool k') s:=by
 subst e;exact⟨.bl k,H,I,rfl,q⟩
theorem op_eq:OpR X (compareOp .Eq) rEq:=by
 intro pins s σ H x y v u Q I rx ry h;obtain⟨hs,q⟩:=h;cases x with
 |non=>
  cases rx;cases y with
  |non=>cases ry;exact PySem.EqNone.eq_none_none (fin_bl I q (by simp))
  |bl j=>cases ry;exact PySem.EqNone.eq_none_bool (fin_bl I q (by simp))
  |int j=>obtain⟨t',rfl⟩:=ry;exact PySem.EqNone.eq_none_int (fin_bl I q (by simp))
  |str j=>obtain⟨t',rfl⟩:=ry;exact PySem.EqNone.eq_none_str (fin_bl I q (by simp))
  |_=>exact absurd (show false=true from hs) Bool.false_ne_true
 |bl i=>
  cases rx;cases y with
  |non=>cases ry;exact PySem.EqNone.eq_bool_none (fin_bl I q (by simp))
  |bl j=>cases ry;exact eq_bool (fin_bl I q dec_bl)
  |str j=>obtain⟨t',rfl⟩:=ry;exact PySem.EqMixed.eq_bool_str (fin_bl I q (by simp))
  |_=>exact absurd (show false=true from hs) Bool.false_ne_true
 |int i=>
  obtain⟨t,rfl⟩:=rx;cases y with
  |non=>cases ry;exact PySem.EqNone.eq_int_none (fin_bl I q (by simp))
  |int j=>obtain⟨t',rfl⟩:=ry;exact eq_int (fin_bl I q dec_int)
  |str j=>obtain⟨t',rfl⟩:=ry;exact PySem.EqMixed.eq_int_str (fin_bl I q (by simp))
  |_=>exact absurd (show false=true from hs) Bool.false_ne_true
 |str i=>
  obtain⟨t,rfl⟩:=rx;cases y with
  |non=>cases ry;exact PySem.EqNone.eq_str_none (fin_bl I q (by simp))
  |bl j=>cases ry;exact PySem.EqMixed.eq_str_bool (fin_bl I q (by simp))
  |int j=>obtain⟨t',rfl⟩:=ry;exact PySem.EqMixed.eq_str_int (fin_bl I q (by simp))
  |str j=>obtain⟨t',rfl⟩:=ry;exact eq_str (fin_bl I q dec_str)
  |_=>exact absurd (show false=true from hs) Bool.false_ne_true
 |byt i=>
  obtain⟨t,rfl⟩:=rx;cases y with
  |byt j=>obtain⟨t',rfl⟩:=ry;exact PySem.W.eq_bytes (fin_bl I q dec_byt)
  |_=>exact absurd (show false=true from hs) Bool.false_ne_true
 |_=>cases y<;>exact absurd (show false=true from hs) Bool.false_ne_true
theorem op_ne:OpR X (compareOp .NotEq) rNe:=by
 intro pins s σ H x y v u Q I rx ry h;obtain⟨hs,q⟩:=h;cases x with
 |non=>
  cases rx;cases y with
  |non=>cases ry;exact PySem.EqNone.ne_none_none (fin_bl I q (by simp))
  |bl j=>cases ry;exact PySem.EqNone.ne_none_bool (fin_bl I q (by simp))
  |int j=>obtain⟨t',rfl⟩:=ry;exact PySem.EqNone.ne_none_int (fin_bl I q (by simp))
  |str j=>obtain⟨t',rfl⟩:=ry;exact PySem.EqNone.ne_none_str (fin_bl I q (by simp))
  |_=>exact absurd (show false=true from hs) Bool.false_ne_true
 |bl i=>
  cases rx;cases y with
  |non=>cases ry;exact PySem.EqNone.ne_bool_none (fin_bl I q (by simp))
  |bl j=>cases ry;exact ne_bool (fin_bl I q (congrArg not dec_bl))
  |str j=>obtain⟨t',rfl⟩:=ry;exact PySem.EqMixed.ne_bool_str (fin_bl I q (by simp))
  |_=>exact absurd (show false=true from hs) Bool.false_ne_true
 |int i=>
  obtain⟨t,rfl⟩:=rx;cases y with
  |non=>cases ry;exact PySem.EqNone.ne_int_none (fin_bl I q (by simp))
  |int j=>obtain⟨t',rfl⟩:=ry;exact ne_int (fin_bl I q (congrArg not dec_int))
  |str j=>obtain⟨t',rfl⟩:=ry;exact PySem.EqMixed.ne_int_str (fin_bl I q (by simp))
  |_=>exact absurd (show false=true from hs) Bool.false_ne_true
 |str i=>
  obtain⟨t,rfl⟩:=rx;cases y with
  |non=>cases ry;exact PySem.EqNone.ne_str_none (fin_bl I q (by simp))
  |bl j=>cases ry;exact PySem.EqMixed.ne_str_bool (fin_bl I q (by simp))
  |int j=>obtain⟨t',rfl⟩:=ry;exact PySem.EqMixed.ne_str_int (fin_bl I q (by simp))
  |str j=>obtain⟨t',rfl⟩:=ry;exact ne_str (fin_bl I q (congrArg not dec_str))
  |_=>exact absurd (show false=true from hs) Bool.false_ne_true
 |byt i=>
  obtain⟨t,rfl⟩:=rx;cases y with
  |byt j=>obtain⟨t',rfl⟩:=ry;exact PySem.W.ne_bytes (fin_bl I q (congrArg not dec_byt))
  |_=>exact absurd (show false=true from hs) Bool.false_ne_true
 |_=>cases y<;>exact absurd (show false=true from hs) Bool.false_ne_true
theorem op_lt:OpR X (compareOp .Lt) (rI0 fun i j=>.bl (decide (i<j))):=opB0 fun _ _ _ _ _ _ _ q=>lt_int q
theorem op_le:OpR X (compareOp .LtE) (rI0 fun i j=>.bl (decide (i<=j))):=opB0 fun _ _ _ _ _ _ _ q=>le_int q
theorem op_gt:OpR X (compareOp .Gt) (rI0 fun i j=>.bl (decide (j<i))):=opB0 fun _ _ _ _ _ _ _ q=>gt_int q
theorem op_in_str:OpR X (compareOp .In) (fun x y H Q=>∃i j,x=.str i/\y=.str j/\Q (.bl (!(Builtin.Str.occurrences j i 0 j.length 1).isEmpty)) H):=by
 intro pins s σ H x y v u Q I rx ry h;obtain⟨i,j,rfl,rfl,q⟩:=h;obtain⟨t,rfl⟩:=rx;obtain⟨t',rfl⟩:=ry;exact in_str (fin_bl I q rfl)
theorem nomark (b:Expr){op:CmpOp}(h:op≠.In:=by decide)(h2:op≠.NotIn:=by decide):behindInMarks op b=false:=by
 have e1:(op == CmpOp.In)=false:=by cases op<;>first|rfl|exact absurd rfl h
 have e2:(op == CmpOp.NotIn)=false:=by cases op<;>first|rfl|exact absurd rfl h2
 cases b<;>simp[behindInMarks,e1,e2]
theorem pe_cmpR {op:CmpOp}{r:R2}(ho:OpR X (compareOp op) r)(ha:PE X a ta)(hb:PE X b tb)(hm:behindInMarks op b=false):PE X (.Compare a [op] [b] pos) (tOp r ta tb):=by
 intro pins s σ H Q I h;exact wpAny_Compare1 (binT ha hb I h fun v u s2 x y H2 I2 rx ry q=>ho pins s2 σ H2 x y v u Q I2 rx ry q) hm
def tTest (t:TE):TT:=fun σ H Q=>t σ H fun x H'=>∃k,x=.bl k/\Q k H'
theorem pt_cmpR {op:CmpOp}{r:R2}(ho:OpR X (compareOp op) r)(ha:PE X a ta)(hb:PE X b tb)(hm:behindInMarks op b=false):PT X (.Compare a [op] [b] pos) (tTest (tOp r ta tb)):=by
 intro pins s σ H Q I h;refine wpAny_isTrue_Compare1 (thn (ha pins s σ H _ I h) fun v s1 ⟨x,H1,I1,r1,q1⟩=>thn (hb pins s1 σ H1 _ I1 q1) fun u s2 ⟨y,H2,I2,r2,q2⟩=>
  thn (ho pins s2 σ H2 x y v u _ I2 r1 r2 q2) fun c s3 ⟨z,H3,I3,r3,k,e,q3⟩=>?_) hm
 subst e;cases r3;exact wpAny_truthy_bool ⟨H3,I3,q3⟩
def tChain (r r':R2)(ta tb tc:TE):TE:=fun σ H Q=>ta σ H fun x H1=>tb σ H1 fun y H2=>r x y H2 fun z H3=>∃k,z=.bl k/\
 (if k=true then tc σ H3 fun w' H4=>r' y w' H4 Q else Q (.bl false) H3)
theorem pe_chain {op op':CmpOp} {r r':R2} (ho:OpR X (compareOp op) r) (ho':OpR X (compareOp op') r') (ha:PE X a ta) (hb:PE X b tb) (hc:PE X c tc)
  (hm:lastMarks [op,op'] [b,c]=false:=by with_unfolding_all rfl):PE X (.Compare a [op,op'] [b,c] pos) (tChain r r' ta tb tc):=by
 intro pins s σ H Q I h;refine Compare_chain (thn (ha pins s σ H _ I h) fun v s1 ⟨x,H1,I1,r1,q1⟩=>chain_link (thn (hb pins s1 σ H1 _ I1 q1) fun u s2 ⟨y,H2,I2,r2,q2⟩=>
  thn (ho pins s2 σ H2 x y v u _ I2 r1 r2 q2) fun d s3 ⟨z,H3,I3,r3,k,e,q3⟩=>?_)) hm
 subst e;cases r3;refine wpAny_truthy_bool ?_;cases k with
 |false=>exact ite_ff ⟨.bl false,H3,I3,rfl,q3⟩
 |true=>exact ite_tt (chain_last (thn (hc pins s3 σ H3 _ I3 q3) fun w' s4 ⟨z',H4,I4,r4,q4⟩=>ho' pins s4 σ H4 y z' u w' Q I4 r2 r4 q4))
theorem pt_chain {op op':CmpOp} {r r':R2} (ho:OpR X (compareOp op) r) (ho':OpR X (compareOp op') r') (ha:PE X a ta) (hb:PE X b tb) (hc:PE X c tc)
  (hm:lastMarks [op,op'] [b,c]=false:=by with_unfolding_all rfl):PT X (.Compare a [op,op'] [b,c] pos) (tTest (tChain r r' ta tb tc)):=by
 intro pins s σ H Q I h;refine isTrue_chain (thn (ha pins s σ H _ I h) fun v s1 ⟨x,H1,I1,r1,q1⟩=>test_link (thn (hb pins s1 σ H1 _ I1 q1) fun u s2 ⟨y,H2,I2,r2,q2⟩=>
  thn (ho pins s2 σ H2 x y v u _ I2 r1 r2 q2) fun d s3 ⟨z,H3,I3,r3,k,e,q3⟩=>?_)) hm
 subst e;cases r3;refine wpAny_truthy_bool ?_;cases k with
 |false=>
  obtain⟨k',e',q'⟩:=q3;cases e';exact ite_ff ⟨H3,I3,q'⟩
 |true=>
  refine ite_tt (test_last (thn (hc pins s3 σ H3 _ I3 q3) fun w' s4 ⟨z',H4,I4,r4,q4⟩=>thn (ho' pins s4 σ H4 y z' u w' _ I4 r2 r4 q4) fun d' s5 ⟨z2,H5,I5,r5,k2,e2,q5⟩=>?_));subst e2;cases r5;exact wpAny_truthy_bool ⟨H5,I5,q5⟩
theorem line63:(sizeLine:Nat)<2^63:=by rw[sizeLine_eq];decide
theorem vals1 {x:V}{us:List Value}(r:Vals [x] us):∃u,us=[u]/\RelV x u:=by
 cases r with
 |cons r1 r2=>cases r2;exact⟨_,rfl,r1⟩
theorem vals2 {x y:V}{us:List Value}(r:Vals [x,y] us):∃u w',us=[u,w']/\RelV x u/\RelV y w':=by
 cases r with
 |cons r1 r2=>
  cases r2 with
  |cons r3 r4=>cases r4;exact⟨_,_,rfl,r1,r3⟩
theorem call_abs:CallR X (.builtin "abs") (fun xs H Q=>∃i,xs=[.int i]/\Q (.int (if i<0 then -i else i)) H):=by
 intro pins s σ H xs us Q I r h;obtain⟨i,rfl,q⟩:=h;obtain⟨u,rfl,t,rfl⟩:=vals1 r;exact call_abs_int fun u tk=>⟨.int (if i<0 then -i else i),H,I.tok _,⟨_,rfl⟩,q⟩
theorem call_min2 (hc:X.calm=true):CallR X (.builtin "min") (fun xs H Q=>∃i j,xs=[.int i,.int j]/\Q (.int (if j<i then j else i)) H):=by
 intro pins s σ H xs us Q I r h;obtain⟨i,j,rfl,q⟩:=h;obtain⟨u,w',rfl,⟨t,rfl⟩,⟨t',rfl⟩⟩:=vals2 r;refine min_two_ints (I.ok.hd hc) fun h' tk k=>⟨_,H,I.kept k,?_,q⟩
 by_cases hj:j<i
 ·rw[if_pos hj,if_pos hj];exact⟨_,rfl⟩
 ·rw[if_neg hj,if_neg hj];exact⟨_,rfl⟩
theorem call_int1:CallR X (.type "int") (fun xs H Q=>(∃i,xs=[.int i]/\Q (.int i) H)\/∃k,xs=[.bl k]/\Q (.int (if k then 1 else 0)) H):=by
 intro pins s σ H xs us Q I r h;rcases h with⟨i,rfl,q⟩|⟨k,rfl,q⟩
 ·obtain⟨u,rfl,t,rfl⟩:=vals1 r;exact call_int_int ⟨.int i,H,I,⟨_,rfl⟩,q⟩
 ·obtain⟨u,rfl,r1⟩:=vals1 r;cases r1;exact call_int_bool ⟨.int (if k then 1 else 0),H,I.tok _,⟨_,rfl⟩,q⟩
end
structure ObjM (h:Heap) (x dx C:Addr) (mA:Str->Option Value):Prop where
 obj:h.get? x=some (PySem.W.instObj C dx)
 ns:h.Ns1 dx mA
 ne:dx≠x
theorem lookIn_ns {h:Heap}{dx:Addr}{mA:Str->Option Value}(n:h.Ns1 dx mA):∃od,h.get? dx=some od/\∀name,PySem.W.lookIn name od=some (mA name):=by
 obtain⟨o,es,ep,ho,hd,hk,_,hm⟩:=n;refine⟨o,ho,fun name=>?_⟩;have e:=hm name;unfold nsFind findBy at e;rw[<-Array.find?_toList] at e;unfold PySem.W.lookIn;rw[hd];dsimp only
 split
 ·rename_i y q
  rw[q] at e;exact congrArg some e
 ·rename_i q
  rw[q] at e;have a:es.toList.any (·.refKey)=false:=by
   rw[List.any_eq_false];intro y hy;obtain⟨z,t,hkey⟩:=hk y (Array.mem_toList_iff.mp hy);simp[DictEntry.refKey,hkey]
  have a':¬es.toList.any (·.refKey)=true:=by rw[a];exact Bool.false_ne_true
  rw[if_neg a'];exact congrArg some e
theorem ObjM.look {h:Heap}{x dx C:Addr}{mA:Str->Option Value}(I:ObjM h x dx C mA):∃od,PySem.W.InstAt h x (PySem.W.instObj C dx) C (some od)/\∀name,PySem.W.lookIn name od=some (mA name):=
 let⟨od,ho,hl⟩:=lookIn_ns I.ns
 ⟨od,⟨I.obj,rfl,rfl,ho⟩,hl⟩
section
variable {prog:Program}{w:World}{A:Around}{E:Value->Shared->Prop}{s:Shared}{K:PySem.W.Frag}{x dx C f:Addr}{mA:Str->Option Value}{name:Str}{v:Value}
theorem get_map {expr:Bool} {Q:Value->Shared->Prop} (X:K.In s.heap) (I:ObjM s.heap x dx C mA) (hg:PySem.W.plainGet K C name=true) (hh:PySem.W.hasDictIn K C=true)
  (ha:PySem.W.findIn K (.ref C) name=some none) (hv:mA name=some v) (hv':PySem.W.handedIn v=true) (h:Q v { s with toks:=s.toks+1 }) :
  wpAny (model prog w) A (getAttr (.ref x) name expr) Q E s:=by
 obtain⟨od,J,hl⟩:=I.look;exact PySem.W.get_value X J (PySem.W.plainGet_of hg).1 (PySem.W.findObj_own hh ha rfl (by rw[hl,hv])) hv' h
theorem get_meth {pl:Sem Bool} {Q:Value×List Value->Shared->Prop} (X:K.In s.heap) (I:ObjM s.heap x dx C mA) (hg:PySem.W.plainGet K C name=true)
  (hf:PySem.W.findIn K (.ref C) name=some (some (.ref f))) (ht:PySem.W.isFn K (.ref f)=true) (hv:mA name=none) (h:Q (.ref f,[.ref x]) s) :
  wpAny (model prog w) A (getMethod (.ref x) name pl) Q E s:=by
 obtain⟨od,J,hl⟩:=I.look;exact PySem.W.method_fn X J (PySem.W.plainGet_of hg).1 (PySem.W.plainGet_of hg).2 hf (beq_iff_eq.mp ht) (by show(PySem.W.lookIn name od).map (·.isSome)=some false;rw[hl,hv];rfl) h
theorem set_map {ns:List Str} {Q:Unit->Shared->Prop} (X:K.In s.heap) (I:ObjM s.heap x dx C mA)
  (hs:PySem.W.findIn K (.ref C) "__setattr__"=some (some (.builtin "object.__setattr__"))) (hp:PySem.W.plainOver K C=true) (ht:PySem.W.takerIn K C name=some none) (hh:PySem.W.hasDictIn K C=true)
  (hw:PySem.Within mA ns) (hsz:ns.length<=sizeLine)
  (h:∀h',ObjM h' x dx C (fun y=>if y=name then some v else mA y)->Heap.SameBut dx s.heap h'->Q () { s with heap:=h',toks:=s.toks+2 }) :
  wpAny (model prog w) A (setAttr (.ref x) name v) Q E s:=by
 obtain⟨od,J,hl⟩:=I.look;refine PySem.W.set_plain X J hs (PySem.W.osa_open (s:={ s with toks:=s.toks+1 }) (r:=none) X J hp ht fun b=>?_);obtain⟨cd,hc,hd'⟩:=PySem.W.any_some hh;have hx:s.heap.get? x=some ⟨.ref C,some dx,.plain,#[]⟩:=I.obj;refine wpAny_bind (wpAny_pure (wpAny_bind (wpAny_bind (wpAny_loadPart hx (wpAny_bind (PySem.W.Looks.here (s:={ s with toks:=s.toks+1 }) (PySem.W.looks_clsIn X hc) ?_))))));rw[hd'];refine wpAny_pure (a:=some dx) (wpAny_bind (wpAny_pure (wpAny_bind ?_)));refine wpAny_nsSet1 (s:={ s with toks:=s.toks+1 }) I.ns fun h' hn2 hs2=>?_
 obtain⟨oD,esD,epD,hoD,hdD,hcD⟩:=hn2.count (PySem.Within.cons name v hw);refine wpAny_bind (wpAny_lookBehind hoD (by rw[hdD];exact pastItsLine_dict (Nat.le_trans hcD (by rw[List.length_cons];omega))) ?_);exact wpAny_pure (h _ ⟨(hs2.2 _ (Ne.symm I.ne)).trans I.obj,hn2,I.ne⟩ hs2)
theorem make_map {R:Result->Shared->Prop} {vs:List Value} {kw:List (Str×Value)} (X:K.In s.heap) (hm:PySem.W.makesIn K C=true)
  (hi:PySem.W.findIn K (.ref C) "__init__"=some (some (.ref f))) (hf:PySem.W.typeIn K (.ref f)=some (.type "function"))
  (h:codeAny (model prog w) (A.under (.builtin "type.__call__" ⟨.ref C::vs,kw⟩)) (.call (.ref f) ⟨.ref (s.heap.objs.size+1)::vs,kw⟩) (PySem.W.InitBack (s.heap.objs.size+1) R)
   { s with heap:=(s.heap.push PySem.W.emptyDict).push (PySem.W.instObj C s.heap.objs.size) }) :
  codeAny (model prog w) A (.call (.ref C) ⟨vs,kw⟩) R s:=by
 obtain⟨hh,g,d,t,os⟩:=s;exact PySem.W.make_core (PySem.W.makes_of X hm) (PySem.W.looks_findIn X hi) (fun self=>PySem.W.bind_fn X self hf) (.inl rfl) h
end
def putF (f:Str)(v:V):List (Str×V)->List (Str×V)
 |[]=>[(f,v)]
 |(g,x)::r=>if g=f then(g,v)::r else(g,x)::putF f v r
theorem lookup_putF (f g:Str)(v:V):∀fs:List (Str×V),(putF f v fs).lookup g=if g=f then some v else fs.lookup g
 |[]=>by
  show List.lookup g [(f,v)]=_
  by_cases h:g=f
  ·have hb:(g == f)=true:=beq_iff_eq.mpr h;simp only[List.lookup,hb,if_pos h]
  ·have hb:(g == f)=false:=beq_eq_false_iff_ne.mpr h;simp only[List.lookup,hb,if_neg h]
 |(k,x)::r=>by
  have ih:=lookup_putF f g v r;rw[show putF f v ((k,x)::r)=(if k=f then(k,v)::r else(k,x)::putF f v r) from rfl]
  by_cases hk:k=f
  ·rw[if_pos hk]
   by_cases h:g=k
   ·have hb:(g == k)=true:=beq_iff_eq.mpr h;simp only[List.lookup,hb,if_pos (h.trans hk)]
   ·have hb:(g == k)=false:=beq_eq_false_iff_ne.mpr h;simp only[List.lookup,hb,if_neg (fun e:g=f=>h (e.trans hk.symm))]
  ·rw[if_neg hk]
   by_cases h:g=k
   ·have hb:(g == k)=true:=beq_iff_eq.mpr h;simp only[List.lookup,hb,if_neg (fun e:g=f=>hk (h.symm.trans e))]
   ·have hb:(g == k)=false:=beq_eq_false_iff_ne.mpr h;simp only[List.lookup,hb];exact ih
theorem keys_putF (f:Str)(v:V):∀fs:List (Str×V),f∈(putF f v fs).map (·.1)/\∀g,g∈fs.map (·.1)->g∈(putF f v fs).map (·.1)
 |[]=>⟨by simp[putF],fun g h=>by simp at h⟩
 |(k,x)::r=>by
  obtain⟨i1,i2⟩:=keys_putF f v r;rw[show putF f v ((k,x)::r)=(if k=f then(k,v)::r else(k,x)::putF f v r) from rfl]
  by_cases hk:k=f
  ·rw[if_pos hk];subst hk;exact⟨by simp,fun g h=>by simpa using h⟩
  ·rw[if_neg hk];refine⟨?_,fun g h=>?_⟩
   ·rw[List.map_cons];exact List.mem_cons_of_mem _ i1
   ·rw[List.map_cons] at h ⊢;rcases List.mem_cons.mp h with e|e
    ·exact List.mem_cons.mpr (.inl e)
    ·exact List.mem_cons_of_mem _ (i2 g e)
theorem length_putF (f:Str)(v:V):∀fs:List (Str×V),(putF f v fs).length<=fs.length+1
 |[]=>by simp[putF]
 |(k,x)::r=>by
  have ih:=length_putF f v r;rw[show putF f v ((k,x)::r)=(if k=f then(k,v)::r else(k,x)::putF f v r) from rfl]
  by_cases hk:k=f
  ·rw[if_pos hk,List.length_cons,List.length_cons];omega
  ·rw[if_neg hk,List.length_cons,List.length_cons];omega
theorem RelO.some_of {v:V}{o:Option Value}(r:RelO (some v) o):∃u,o=some u/\RelV v u:=by
 cases o with
 |none=>exact(show False from r).elim
 |some u=>exact⟨u,rfl,r⟩
theorem RelO.none_of {o:Option Value}(r:RelO none o):o=none:=by
 cases o with
 |none=>rfl
 |some u=>exact(show False from r).elim
theorem handed_of {v:V}{u:Value}(r:RelV v u):PySem.W.handedIn u=true:=by
 cases v with
 |non=>cases(show u=Value.none from r);rfl
 |bl b=>cases(show u=Value.bool b from r);rfl
 |int i=>obtain⟨t,e⟩:=(show ∃t,u=Value.int i t from r);cases e;rfl
 |str x=>obtain⟨t,e⟩:=(show ∃t,u=Value.str x t from r);cases e;rfl
 |byt b=>obtain⟨t,e⟩:=(show ∃t,u=Value.bytes b t from r);cases e;rfl
 |flt b=>obtain⟨t,e⟩:=(show ∃t,u=Value.float b t from r);cases e;rfl
 |ref a=>cases(show u=Value.ref a from r);rfl
 |ty n=>cases(show u=Value.type n from r);rfl
section
variable {P:Program}{w:World}{H H':Hp}{h h':Heap}{a C dx:Addr}{fs fs':List (Str×V)}
theorem ins_get (hok:HOk P w H h)(e:H a=some (.ins C dx fs)):∃mA,ObjM h a dx C mA/\(∀f,RelO (fs.lookup f) (mA f))/\PySem.Within mA (fs.map (·.1))/\fs.length<=1000/\H dx=some (.own a):=by
 obtain⟨d,z,ne,ob,mA,n,r,q⟩:=(show ObjOk P w H h a (.ins C dx fs) from hok a _ e)
 exact⟨mA,⟨ob,n,ne⟩,r,q,z,d⟩
end
structure Cls (K:PySem.W.Frag) (C:Addr):Prop where
 pg:PySem.W.plainGet K C Str.empty=true
 hd:PySem.W.hasDictIn K C=true
 po:PySem.W.plainOver K C=true
 sa:PySem.W.findIn K (.ref C) "__setattr__"=some (some (.builtin "object.__setattr__"))
theorem Cls.get {K:PySem.W.Frag}{C:Addr}(c:Cls K C)(f:Str):PySem.W.plainGet K C f=true:=c.pg
def NoAttr (K:PySem.W.Frag)(C:Addr)(f:Str):Prop:=PySem.W.findIn K (.ref C) f=some none
theorem NoAttr.taker {K:PySem.W.Frag}{C:Addr}{f:Str}(n:NoAttr K C f):PySem.W.takerIn K C f=some none:=by
 unfold PySem.W.takerIn;rw[show PySem.W.findIn K (.ref C) f=some none from n];rfl
structure Con (K:PySem.W.Frag) (C:Addr) (f:Str) (v:V) (u:Value):Prop where
 at_:PySem.W.findIn K (.ref C) f=some (some u)
 rel:RelV v u
 get:PySem.W.specialIn K u "__get__"=some none
 cp:PySem.W.copiedNames.contains f=false
structure Meth (K:PySem.W.Frag) (C:Addr) (m:Str) (f:Addr):Prop where
 at_:PySem.W.findIn K (.ref C) m=some (some (.ref f))
 fn:PySem.W.isFn K (.ref f)=true
 kp:PySem.W.keepIn K (.ref f)=true
section
variable {X:Cx}{pins:List (Addr×Obj)}{σ:St}{H:Hp}{s:Shared}{a C dx:Addr}{fs:List (Str×V)}{f:Str}{v:V}{A:Around}{E:Value->Shared->Prop}
theorem getattr_ok {b:Bool} {Q:Value->Shared->Prop} (I:Inv X pins σ H s) (e:H a=some (.ins C dx fs)) (c:Cls X.K C) (n:NoAttr X.K C f) (l:fs.lookup f=some v)
  (h:∀u s',Inv X pins σ H s'->RelV v u->Q u s'):wpAny (model X.prog X.w) A (getAttr (.ref a) f b) Q E s:=by
 obtain⟨mA,O,r,_,_,_⟩:=ins_get I.hok e;obtain⟨u,hu,ru⟩:=RelO.some_of (v:=v) (o:=mA f) (by rw[<-l];exact r f);exact get_map I.kIn O (c.get f) c.hd n hu (handed_of ru) (h u _ (I.tok _) ru)
theorem getmeth_ok {m:Str} {g:Addr} {pl:Sem Bool} {Q:Value×List Value->Shared->Prop} (I:Inv X pins σ H s) (e:H a=some (.ins C dx fs)) (c:Cls X.K C) (k:Meth X.K C m g) (l:fs.lookup m=none)
  (h:Q (.ref g,[.ref a]) s):wpAny (model X.prog X.w) A (getMethod (.ref a) m pl) Q E s:=by
 obtain⟨mA,O,r,_,_,_⟩:=ins_get I.hok e;have hn:mA m=none:=RelO.none_of (by rw[<-l];exact r m);exact get_meth I.kIn O (c.get m) k.at_ k.fn hn h
theorem setattr_ok {y:V} {u:Value} {Q:Unit->Shared->Prop} (I:Inv X pins σ H s) (e:H a=some (.ins C dx fs)) (c:Cls X.K C) (n:NoAttr X.K C f) (hl:fs.length<1000) (ry:RelV y u)
  (h:∀s',Inv X pins σ (upd H a (.ins C dx (putF f y fs))) s'->Q () s'):wpAny (model X.prog X.w) A (setAttr (.ref a) f u) Q E s:=by
 obtain⟨mA,O,r,wi,_,ho⟩:=ins_get I.hok e;have hz:(fs.map (·.1)).length<=sizeLine:=by rw[List.length_map,sizeLine_eq];omega
 refine set_map I.kIn O c.sa c.po n.taker c.hd wi hz fun h' O' sb=>h _ ?_
 have hd:∃o,h'.get? dx=some o:=let⟨o,_,_,e',_⟩:=O'.ns;⟨o,e'⟩;refine I.write (x:=a) (e:=dx) (by rw[e];exact True.intro) (.inr ho) (fun b q hb z=>(sb.2 b hb).trans z) hd ?_;refine⟨by rw[upd_ne O.ne];exact ho,?_,O.ne,O'.obj,_,O'.ns,fun g=>?_,fun g hg=>?_⟩
 ·have:=length_putF f y fs;omega
 ·show RelO ((putF f y fs).lookup g) (if g=f then some u else mA g);rw[lookup_putF]
  by_cases q:g=f
  ·rw[if_pos q,if_pos q];exact ry
  ·rw[if_neg q,if_neg q];exact r g
 ·by_cases q:g=f
  ·rw[q];exact(keys_putF f y fs).1
  ·refine(keys_putF f y fs).2 g (wi g fun z=>hg ?_);show(if g=f then some u else mA g)=none;rw[if_neg q];exact z
theorem Inv.made (I:Inv X pins σ H s):Inv X pins σ (upd (upd H s.heap.objs.size (.own (s.heap.objs.size+1))) (s.heap.objs.size+1) (.ins C s.heap.objs.size []))
  { s with heap:=(s.heap.push PySem.W.emptyDict).push (PySem.W.instObj C s.heap.objs.size) }:=by
 have e1:(s.heap.push PySem.W.emptyDict).get? s.heap.objs.size=some PySem.W.emptyDict:=Heap.get?_push_size s.heap rfl;have e2:((s.heap.push PySem.W.emptyDict).push (PySem.W.instObj C s.heap.objs.size)).get? (s.heap.objs.size+1)=some (PySem.W.instObj C s.heap.objs.size):=by
  have:=Heap.get?_push_size (s.heap.push PySem.W.emptyDict) (o:=PySem.W.instObj C s.heap.objs.size) rfl
  rwa [Heap.size_push] at this
 have e3:(s.heap.push PySem.W.emptyDict).Ns s.heap.objs.size (fun _=>none):=⟨PySem.W.emptyDict,#[],_,e1,rfl,(fun e he=>absurd he (by simp)),fun _=>rfl⟩
 have I1:=I.laid (a:=s.heap.objs.size) (o:=.own (s.heap.objs.size+1)) (h':=s.heap.push PySem.W.emptyDict) (t':=s.toks) (fun b u q=>Heap.get?_push_of_some _ q) (Nat.le_refl _) ⟨_,e1⟩;refine I1.laid (a:=s.heap.objs.size+1) (o:=.ins C s.heap.objs.size []) (t':=s.toks) (fun b u q=>Heap.get?_push_of_some _ q) (Nat.le_of_eq (Heap.size_push _ _)) ?_;have ne:s.heap.objs.size≠s.heap.objs.size+1:=Nat.ne_of_lt (Nat.lt_succ_self _);refine⟨by rw[upd_ne ne,upd_same],Nat.zero_le _,ne,e2,fun _=>none,(Heap.Ns1.of_empty e3).at fun o q=>Heap.get?_push_of_some _ q,fun _=>True.intro,fun y hy=>absurd rfl hy⟩
theorem attr_of {prog:Program} {w:World} {env:Env} {e:Expr} {f:Str} {pos:Pos} {s:Shared} {Q:Value->Shared->Prop} (hb:attributeBase e f env (eval e env)=eval e env)
  (h:wpAny (model prog w) A (eval e env) (fun o s₁=>wpAny (model prog w) A (getAttr o f true) Q E s₁) E s):wpAny (model prog w) A (eval (.Attribute e f pos) env) Q E s:=
 Attribute_any_ h (by rw[arm_eval_Attribute,hb])
end
def tFld (K:PySem.W.Frag)(ta:TE)(f:Str):TE:=fun σ H Q=>ta σ H fun x H1=>∃a C dx fs v,x=.ref a/\H1 a=some (.ins C dx fs)/\Cls K C/\NoAttr K C f/\fs.lookup f=some v/\Q v H1
def sFld (K:PySem.W.Frag)(ta tv:TE)(f:Str):TS:=fun D σ H=>tv σ H fun y H1=>ta σ H1 fun x H2=>∃a C dx fs,x=.ref a/\H2 a=some (.ins C dx fs)/\Cls K C/\NoAttr K C f/\fs.length<1000/\
 D.nx σ (upd H2 a (.ins C dx (putF f y fs)))
def InOp (X:Cx)(op:Operator)(rd:V->V->Hp->VK->Prop):Prop:=
 ∀(pins:List (Addr×Obj)) (s:Shared) (σ:St) (H:Hp) (x y:V) (u v:Value) (Q:VK),Inv X pins σ H s->RelV x u->RelV y v->rd x y H Q->wpAny (model X.prog X.w) X.A (inplaceOp op u v) (EP X pins σ Q) X.xe s
def sFldAug (K:PySem.W.Frag)(ta tv:TE)(rd:V->V->Hp->VK->Prop)(f:Str):TS:=fun D σ H=>ta σ H fun x H1=>∃a C dx fs v,x=.ref a/\H1 a=some (.ins C dx fs)/\Cls K C/\NoAttr K C f/\fs.lookup f=some v/\
 tv σ H1 fun y H2=>rd v y H2 fun z H3=>∃dx' fs',H3 a=some (.ins C dx' fs')/\fs'.length<1000/\D.nx σ (upd H3 a (.ins C dx' (putF f z fs')))
section
variable {X:Cx}{o e value:Expr}{f:Str}{pos pos' tpos:Pos}{ta tv:TE}
theorem pe_fld (he:PE X e ta)(hb:attributeBase e f X.env (eval e X.env)=eval e X.env):PE X (.Attribute e f pos) (tFld X.K ta f):=by
 intro pins s σ H Q I h;refine attr_of hb (thn (he pins s σ H _ I h) fun u s1 ⟨x,H1,I1,rx,a,C,dx,fs,v,ex,ea,c,n,l,q⟩=>?_);subst ex;obtain rfl:u=Value.ref a:=rx;exact getattr_ok I1 ea c n l fun u' s2 I2 ru=>⟨v,H1,I2,ru,q⟩
theorem ps_fld (ha:PE X o ta)(hv:PE X value tv)(hs:swapsWith value (some (.Attribute o f pos')) pos.line X.env=pure false):PS X (.Assign [.Attribute o f pos'] value pos) (sFld X.K ta tv f):=by
 intro pins s σ H D I h;refine plainObj_wpAny_Assign_Attribute (thn (hv pins s σ H _ I h) fun u s1 ⟨y,H1,I1,ry,q⟩=>thn (ha pins s1 σ H1 _ I1 q) fun ov s2 ⟨x,H2,I2,rx,a,C,dx,fs,ex,ea,c,n,l,q2⟩=>?_) hs;subst ex;obtain rfl:ov=Value.ref a:=rx;exact setattr_ok I2 ea c n l ry fun s3 I3=>⟨σ,_,I3,q2⟩
theorem ps_fldaug {op:Operator}{rd:V->V->Hp->VK->Prop}(ha:PE X o ta)(hv:PE X value tv)(hop:InOp X op rd):PS X (.AugAssign (.Attribute o f tpos) op value pos) (sFldAug X.K ta tv rd f):=by
 intro pins s σ H D I h;refine wpAny_AugAssign_AttributeAny (thn (ha pins s σ H _ I h) fun ov s1 ⟨x,H1,I1,rx,a,C,dx,fs,v,ex,ea,c,n,l,q⟩=>?_);subst ex;obtain rfl:ov=Value.ref a:=rx;refine getattr_ok I1 ea c n l fun u s2 I2 ru=>thn (hv pins s2 σ H1 _ I2 q) fun w3 s3 ⟨y,H2,I3,ry,q3⟩=>thn (hop pins s3 σ H2 v y u w3 _ I3 ru ry q3) fun w4 s4 ⟨z,H3,I4,rz,dx',fs',ea',l',q4⟩=>?_
 exact setattr_ok I4 ea' c n l' rz fun s5 I5=>⟨σ,_,I5,q4⟩
end
section
variable {X:Cx}{pins:List (Addr×Obj)}{σ:St}{H:Hp}{s:Shared}{A:Around}{E:Value->Shared->Prop}{Q:Value->Shared->Prop}{c:Value}{b:Bool}
inductive TyOf (K:PySem.W.Frag) (H:Hp):V->Value->Prop where
 |non:TyOf K H .non (.type "NoneType")
 |bl (x:Bool):TyOf K H (.bl x) (.type "bool")
 |int (i:Int):TyOf K H (.int i) (.type "int")
 |str (x:Str):TyOf K H (.str x) (.type "str")
 |flt (x:UInt64):TyOf K H (.flt x) (.type "float")
 |lst {a:Addr} {xs:List V} (e:H a=some (.lst xs)):TyOf K H (.ref a) (.type "list")
 |frz {a:Addr} {o:Obj} {xs:List V} (e:H a=some (.frz o (.lst xs))):TyOf K H (.ref a) (.type "list")
 |tup {a:Addr} {xs:List V} (e:H a=some (.tup xs)):TyOf K H (.ref a) (.type "tuple")
 |dK {a:Addr} {kvs:List (Key×V)} (e:H a=some (.dK kvs)):TyOf K H (.ref a) (.type "dict")
 |dT {a:Addr} {kvs:List (List Key×V)} (e:H a=some (.dT kvs)):TyOf K H (.ref a) (.type "dict")
 |ins {a C dx:Addr} {fs:List (Str×V)} (e:H a=some (.ins C dx fs)) (cl:Cls K C) (ha:PySem.W.findIn K (.ref C) "__class__"=some (some (.builtin "object.__class__")))
   (hn:PySem.W.specialIn K (.builtin "object.__class__") "__get__"=some (some (.builtin "getset_descriptor.__get__"))) (htk:PySem.W.takesIn K (.builtin "object.__class__")=some true)
   (hm:PySem.W.mroIn K C (.type "object")=some true):TyOf K H (.ref a) (.ref C)
theorem isinst_ok {x:V}{u t:Value}(I:Inv X pins σ H s)(rx:RelV x u)(ty:TyOf X.K H x t)(e:PySem.W.kitOne X.K t c=some b)(h:∀tk,Q (.bool b) { s with toks:=tk }) :
  wpAny (model X.prog X.w) A (call (.builtin "isinstance") [u,c]) Q E s:=by
 cases ty with
 |non=>cases(show u=Value.none from rx);exact PySem.W.kia_one PySem.W.kitx_none I.kIn True.intro e (fun z=>nomatch z) h
 |bl y=>cases(show u=Value.bool y from rx);exact PySem.W.kia_one PySem.W.kitx_bool I.kIn True.intro e (fun z=>nomatch z) h
 |int i=>obtain⟨t,q⟩:=(show ∃t,u=Value.int i t from rx);cases q;exact PySem.W.kia_one PySem.W.kitx_int I.kIn True.intro e (fun z=>nomatch z) h
 |str y=>obtain⟨t,q⟩:=(show ∃t,u=Value.str y t from rx);cases q;exact PySem.W.kia_one PySem.W.kitx_str I.kIn True.intro e (fun z=>nomatch z) h
 |flt y=>obtain⟨t,q⟩:=(show ∃t,u=Value.float y t from rx);cases q;exact PySem.W.kia_one PySem.W.kitx_float I.kIn True.intro e (fun z=>nomatch z) h
 |@lst a xs ea=>
  cases(show u=Value.ref a from rx);obtain⟨_,_,n,_,h1⟩:=(show ObjOk X.prog X.w H s.heap a (.lst xs) from I.hok a _ ea)
  exact PySem.W.kia_one PySem.W.kitx_list I.kIn ⟨_,h1,rfl⟩ e (fun z=>nomatch z) h
 |@frz a ob xs ea=>
  cases(show u=Value.ref a from rx);obtain⟨_,_,_,n,_,h1⟩:=(show ObjOk X.prog X.w H s.heap a (.frz ob (.lst xs)) from I.hok a _ ea)
  exact PySem.W.kia_one PySem.W.kitx_list I.kIn ⟨_,h1,rfl⟩ e (fun z=>nomatch z) h
 |@tup a xs ea=>
  cases(show u=Value.ref a from rx);obtain⟨_,_,_,p⟩:=(show ObjOk X.prog X.w H s.heap a (.tup xs) from I.hok a _ ea)
  obtain⟨o,h1,h2,_⟩:=p;exact PySem.W.kia_one PySem.W.kitx_tuple I.kIn ⟨o,h1,h2⟩ e (fun z=>nomatch z) h
 |@dK a kvs ea=>
  cases(show u=Value.ref a from rx);obtain⟨_,_,vs,_,p⟩:=(show ObjOk X.prog X.w H s.heap a (.dK kvs) from I.hok a _ ea)
  obtain⟨o,es,ep,h1,h2,_⟩:=p;exact PySem.W.kia_one PySem.W.kitx_dict I.kIn ⟨o,h1,h2.1⟩ e (fun z=>nomatch z) h
 |@dT a kvs ea=>
  cases(show u=Value.ref a from rx);obtain⟨_,_,xs,_,o,es,ep,h1,h2,_⟩:=(show ObjOk X.prog X.w H s.heap a (.dT kvs) from I.hok a _ ea)
  exact PySem.W.kia_one PySem.W.kitx_dict I.kIn ⟨o,h1,h2.1⟩ e (fun z=>nomatch z) h
 |@ins a C dx fs ea cl ha hn htk hm=>
  cases(show u=Value.ref a from rx);obtain⟨mA,O,_⟩:=ins_get I.hok ea;obtain⟨od,J,_⟩:=O.look;exact PySem.W.kia_one (PySem.W.kitx_own (cl.get _) cl.hd ha hn htk hm) I.kIn J e (fun z=>nomatch z) h
end
structure Room (k:Nat) (A:Around):Prop where
 hd:A.handled=none
 dp:A.depth+3*k+5<recursionLimit
 un:A.units+16*k+200<cLine
theorem Room.mono {j k:Nat}{A:Around}(r:Room k A)(h:j<=k):Room j A:=⟨r.hd,by have:=r.dp;omega,by have:=r.un;omega⟩
theorem Room.deeper {k:Nat}{A:Around}(r:Room (k+1) A)(env:Env):Room k (A.deeper env):=
 ⟨r.hd,by have:=r.dp;show A.depth+1+3*k+5<_;omega,by have:=r.un;show A.units+3+16*k+200<_;omega⟩
theorem Room.in1 {k:Nat}{A:Around}(r:Room (k+1) A):Room k A.in1:=
 ⟨r.hd,by have:=r.dp;show A.depth+3*k+5<_;omega,by have:=r.un;show A.units+1+16*k+200<_;omega⟩
theorem make_depth {A:Around}{C:Addr}{us:List Value}{kw:List (Str×Value)}:(A.under (.builtin "type.__call__" ⟨.ref C::us,kw⟩)).depth=A.depth+1:=by
 first|rfl|simp[Around.under,Code.weight,Code.isCreation,Code.isGuard,Code.isCaller,Code.frames,Code.isFrame,guardIds]
theorem make_units {A:Around}{C:Addr}{us:List Value}{kw:List (Str×Value)}:(A.under (.builtin "type.__call__" ⟨.ref C::us,kw⟩)).units=A.units+1:=by
 first|rfl|simp[Around.under,Code.cUnits,Code.frames,Code.isFrame]
theorem Room.make {k:Nat}{A:Around}(r:Room (k+1) A)(C:Addr)(us:List Value)(kw:List (Str×Value)):Room k (A.under (.builtin "type.__call__" ⟨.ref C::us,kw⟩)):=
 ⟨r.hd,by have:=r.dp;rw[make_depth];omega,by have:=r.un;rw[make_units];omega⟩
theorem Room.depth {k:Nat}{A:Around}(r:Room k A):A.depth<recursionLimit:=by have:=r.dp;omega
theorem Room.units {k:Nat}{A:Around}(r:Room k A):A.units+64<cLine:=by have:=r.un;omega
def tNil:TA:=fun _ H Q=>Q [] H
def tCons (ta:TE)(tr:TA):TA:=fun σ H Q=>ta σ H fun x H1=>tr σ H1 fun xs H2=>Q (x::xs) H2
section
variable {X:Cx}{e:Expr}{es:List Expr}{te:TE}{t:TA}{pos:Pos}
theorem pa_nil:PA X [] tNil:=fun _ _ _ _ H Q I h=>Calls.spliced_nil ⟨[],H,I,.nil,h⟩
theorem pa_cons (ha:PE X e te)(hr:PA X es t)(hs:starEach (e::es) X.env=(false,eval e X.env)::starEach es X.env:=by rfl):PA X (e::es) (tCons te t):=by
 intro pos pins s σ H Q I h;rw[hs];show wpAny _ _ (spliced ((false,eval e X.env)::backTo pos (starEach es X.env))) _ _ s;refine Calls.spliced_cons (thn (ha pins s σ H _ I h) fun u s1 ⟨x,H1,I1,r1,q1⟩=>?_);exact thn (hr pos pins s1 σ H1 _ I1 q1) fun us s2 ⟨xs,H2,I2,r2,q2⟩=>⟨x::xs,H2,I2,.cons r1 r2,q2⟩
def tTup (t:TA):TE:=fun σ H Q=>t σ H fun xs H1=>xs.length<=sizeLine/\∀p,H1 p=none->Q (.ref p) (upd H1 p (.tup xs))
def tLst (t:TA):TE:=fun σ H Q=>t σ H fun xs H1=>xs.length<=sizeLine/\∀p,H1 p=none->Q (.ref p) (upd H1 p (.lst xs))
theorem pe_tup {x1}(h:PA X es t):PE X (.Tuple es x1 pos) (tTup t):=by
 intro pins s σ H Q I hq;refine wpAny_Tuple_spliced (thn (h pos pins s σ H _ I hq) fun us s1 ⟨xs,H1,I1,r,z,q⟩=>⟨by rw[<-r.length];exact z,?_⟩);have hf:H1 s1.heap.objs.size=none:=I1.hok.fresh (Nat.le_refl _);refine⟨.ref s1.heap.objs.size,upd H1 s1.heap.objs.size (.tup xs),I1.laid (t':=s1.toks) (fun b u e=>Heap.get?_push_of_some _ e) (Nat.le_refl _) ?_,rfl,q _ hf⟩;exact⟨z,us,r,⟨_,Heap.get?_push_size _ rfl,rfl,_,rfl,fun _=>rfl⟩⟩
theorem pe_lst (h:PA X es t):PE X (.List es pos) (tLst t):=by
 intro pins s σ H Q I hq;refine wpAny_List_spliced (thn (h pos pins s σ H _ I hq) fun us s1 ⟨xs,H1,I1,r,z,q⟩=>⟨by rw[<-r.length];exact z,?_⟩);have hf:H1 s1.heap.objs.size=none:=I1.hok.fresh (Nat.le_refl _);refine⟨.ref s1.heap.objs.size,upd H1 s1.heap.objs.size (.lst xs),I1.laid (t':=s1.toks) (fun b u e=>Heap.get?_push_of_some _ e) (Nat.le_refl _) ?_,rfl,q _ hf⟩;exact⟨z,us,0,r,Heap.get?_push_size _ rfl⟩
end
abbrev Sp:=List V->Hp->VK->XK->Prop
abbrev CXT:=List Env->Hp->Shared->XK->Value->Shared->Prop
structure Env0 (P:Program) (w:World) (K:PySem.W.Frag) (mg:Str->Option Value) (base:Heap) (A:Around) (outer:List Env) (s:Shared) (H:Hp):Prop where
 frames:A.frames=some outer
 mod:Mod K mg base
 bs:∀b o,base.get? b=some o->s.heap.get? b=some o/\H b=none
 bsz:base.objs.size<=s.heap.objs.size
 funs:s.heap.FunFrames base outer
 frf:∀b∈frs outer,H b=none
 hok:HOk P w H s.heap
 bare:AllBare s.gens
def CE (outer:List Env)(P:Program)(w:World)(H:Hp)(s:Shared)(Q:VK)(u:Value)(s':Shared):Prop:=
 ∃v H',s'.os=s.os/\AllBare s'.gens/\Un (frs outer) [] H H' s.heap s'.heap/\HOk P w H' s'.heap/\RelV v u/\Q v H'
def CR (CX:CXT)(outer:List Env)(P:Program)(w:World)(H:Hp)(s:Shared)(Q:VK)(E:XK)(r:Result)(s':Shared):Prop:=
 match r with
 | .ok (.ret u)=>CE outer P w H s Q u s'
 | .ok _=>False
 | .error e=>CX outer H s E e s'
structure FnOk (P:Program) (w:World) (K:PySem.W.Frag) (mg:Str->Option Value) (base:Heap) (CX:CXT) (k:Nat) (f:Addr) (fd:FuncData) (ps:List Str) (sp:Sp):Prop where
 len:∀vs H Q E,sp vs H Q E->vs.length=ps.length
 run:∀(A:Around) (outer:List Env) (s:Shared) (H:Hp) (args:Args) (us:List Value) (vs:List V) (Q:VK) (E:XK),Room k A->Env0 P w K mg base A outer s H->BindsTo s fd args (ps.zip us)->Vals vs us->sp vs H Q E->
  codeAny (model P w) A (.call (.ref f) args) (CR CX outer P w H s Q E) s
theorem FnOk.mono {P:Program}{w:World}{K:PySem.W.Frag}{mg:Str->Option Value}{base:Heap}{CX:CXT}{j k:Nat}{f:Addr}{fd:FuncData}{ps:List Str}{sp:Sp}(F:FnOk P w K mg base CX j f fd ps sp)(h:j<=k) :
  FnOk P w K mg base CX k f fd ps sp:=⟨F.len,fun A outer s H args us vs Q E hr=>F.run A outer s H args us vs Q E (hr.mono h)⟩
theorem FnOk.imp {P:Program} {w:World} {K:PySem.W.Frag} {mg:Str->Option Value} {base:Heap} {CX:CXT} {k:Nat} {f:Addr} {fd:FuncData} {ps:List Str} {sp sp':Sp} (F:FnOk P w K mg base CX k f fd ps sp)
  (h:∀vs H Q E,sp' vs H Q E->sp vs H Q E):FnOk P w K mg base CX k f fd ps sp':=
 ⟨fun vs H Q E q=>F.len vs H Q E (h _ _ _ _ q),fun A outer s H args us vs Q E hr he hb hv hs=>F.run A outer s H args us vs Q E hr he hb hv (h _ _ _ _ hs)⟩
theorem Env0.make {P:Program}{w:World}{K:PySem.W.Frag}{mg:Str->Option Value}{base:Heap}{A:Around}{outer:List Env}{s:Shared}{H:Hp}(e:Env0 P w K mg base A outer s H)(C:Addr)(us:List Value)(kw:List (Str×Value)) :
  Env0 P w K mg base (A.under (.builtin "type.__call__" ⟨.ref C::us,kw⟩)) outer s H:=⟨by first|exact e.frames|(simpa [Around.under,Code.envs,Code.isFrame,pushEnvs] using e.frames),e.mod,e.bs,e.bsz,e.funs,e.frf,e.hok,e.bare⟩
theorem Env0.in1 {P:Program}{w:World}{K:PySem.W.Frag}{mg:Str->Option Value}{base:Heap}{A:Around}{outer:List Env}{s:Shared}{H:Hp}(e:Env0 P w K mg base A outer s H) :
  Env0 P w K mg base A.in1 outer s H:=⟨e.frames,e.mod,e.bs,e.bsz,e.funs,e.frf,e.hok,e.bare⟩
section
variable {X:Cx}{pins:List (Addr×Obj)}{σ:St}{H:Hp}{s s':Shared}
theorem Inv.env0 (I:Inv X pins σ H s):Env0 X.prog X.w X.K X.mg X.base X.A X.stack s H:=
 ⟨I.ok.frames,I.ok.mod,I.bs,Nat.le_trans I.ok.bsz I.sz,I.stack,I.stkFree,I.hok,I.bare⟩
theorem Inv.after {Q:VK}{u:Value}(I:Inv X pins σ H s)(h:CE X.stack X.prog X.w H s Q u s'):EP X pins σ Q u s':=by
 obtain⟨v,H',os,bare,un,hok,r,q⟩:=h;obtain⟨hh,g,d,t,os'⟩:=s';obtain rfl:os'=s.os:=os;exact⟨v,H',I.call (h':=hh) (g':=g) (d':=d) (t':=t) (ch:=[]) un hok bare (fun b z=>absurd z (by simp)),r,q⟩
end
def tCall (sp:Sp)(dvs:List V)(E:XK)(t:TA):TE:=fun σ H Q=>t σ H fun vs H1=>sp (vs++dvs) H1 Q E
def tMeth (C:Addr)(m:Str)(sp:Sp)(dvs:List V)(E:XK)(ta:TE)(t:TA):TE:=fun σ H Q=>ta σ H fun x H1=>∃a dx fs,x=.ref a/\H1 a=some (.ins C dx fs)/\fs.lookup m=none/\
 t σ H1 fun vs H2=>sp (x::(vs++dvs)) H2 Q E
def tMake (C:Addr)(sp:Sp)(dvs:List V)(E:XK)(t:TA):TE:=fun σ H Q=>t σ H fun vs H1=>∀x dx,H1 x=none->H1 dx=none->dx≠x->
 sp (.ref x::(vs++dvs)) (upd (upd H1 dx (.own x)) x (.ins C dx [])) (fun v H2=>v=.non/\Q (.ref x) H2) E
def Binds (K:PySem.W.Frag)(fd:FuncData)(ps:List Str)(ds:List Value):Prop:=
 ∀(s:Shared) (us:List Value),K.In s.heap->(us++ds).length=ps.length->BindsTo s fd ⟨us,[]⟩ (ps.zip (us++ds))
theorem Binds.all {K:PySem.W.Frag}{fd:FuncData}{ps:List Str}(h:∀us:List Value,us.length=ps.length->bindArgs fd ⟨us,[]⟩=pure (ps.zip us)):Binds K fd ps []:=fun s us _ hl=>by
 rw[List.append_nil] at hl ⊢;exact .of_eq (h us hl)
def Passes (CX:CXT)(X:Cx)(E:XK):Prop:=∀(pins:List (Addr×Obj)) (σ:St) (H:Hp) (s:Shared) (e:Value) (s':Shared),Inv X pins σ H s->CX X.stack H s E e s'->X.xe e s'
section
variable {X:Cx}{CX:CXT}{k:Nat}{f C:Addr}{fd:FuncData}{ps:List Str}{sp:Sp}{dvs:List V}{ds:List Value}{E:XK}{x m:Str}{p pos apos:Pos}{e o:Expr}{es:List Expr}{ta:TE}{t:TA}
theorem run_fn {pins:List (Addr×Obj)} {σ:St} {H:Hp} {s:Shared} {Q:VK} {us:List Value} {vs:List V} (F:FnOk X.prog X.w X.K X.mg X.base CX k f fd ps sp) (hr:Room k X.A) (hb:Binds X.K fd ps ds) (hd:Vals dvs ds) (hx:Passes CX X E)
  (I:Inv X pins σ H s) (r:Vals vs us) (h:sp (vs++dvs) H Q E):wpAny (model X.prog X.w) X.A (call (.ref f) us) (EP X pins σ Q) X.xe s:=by
 have r2:Vals (vs++dvs) (us++ds):=r.append hd;have hl:(us++ds).length=ps.length:=by rw[<-r2.length];exact F.len _ _ _ _ h
 refine wpAny_call (codeAny_mono (F.run X.A X.stack s H ⟨us,[]⟩ (us++ds) (vs++dvs) Q E hr I.env0 (hb s us I.kIn hl) r2 h) fun r s' hq=>?_);cases r with
 |error e=>exact hx pins σ H s e s' I hq
 |ok fl=>
  cases fl with
  |ret u=>exact I.after hq
  |next=>exact False.elim hq
  |brk=>exact False.elim hq
  |cont=>exact False.elim hq
theorem pe_call (F:FnOk X.prog X.w X.K X.mg X.base CX k f fd ps sp) (hr:Room k X.A) (hg:Gl X x) (hm:X.mg x=some (.ref f)) (hk:PySem.W.keepIn X.K (.ref f)=true) (hb:Binds X.K fd ps ds) (hd:Vals dvs ds) (hx:Passes CX X E)
  (ha:PA X (e::es) t) (hdb:(x == ("__debug__":Str))=false:=by decide) (he:starEach (e::es) X.env=(false,eval e X.env)::starEach es X.env:=by rfl) (hpl:(backTo pos (starEach es X.env)).any (·.1)=false:=by rfl) :
  PE X (.Call (.Name x p) (e::es) [] pos) (tCall sp dvs E t):=by
 intro pins s σ H Q I h;refine wpAny_Call_Name_kw (ld_glob I hg hm ?_ hdb);refine PySem.W.callWith_K (h₀:=X.base) I.ok.mod.kin hk (thn (ha pos pins s σ H _ I h) fun us s1 ⟨vs,H1,I1,r,q⟩=>⟨I1.kIn,?_⟩) he hpl;exact run_fn F hr hb hd hx I1 r q
theorem pe_meth {pl:Sem Bool} (he:PE X o ta) (c:Cls X.K C) (hm:Meth X.K C m f) (F:FnOk X.prog X.w X.K X.mg X.base CX k f fd ps sp) (hr:Room k X.A) (hb:Binds X.K fd ps ds) (hd:Vals dvs ds) (hx:Passes CX X E) (ha:PA X (e::es) t)
  (hst:starEach (e::es) X.env=(false,eval e X.env)::starEach es X.env:=by rfl) (hpl:(backTo pos (starEach es X.env)).any (·.1)=false:=by rfl)
  (ht:eval (.Call (.Attribute o m apos) (e::es) [] pos) X.env=(do
   let ov <-eval o X.env
   standAt apos.atName
   let(f,first) <-holding [ov] (getMethod ov m pl)
   callWith pos f first (backTo pos (starEach (e::es) X.env)) (backToKw pos (keywordEach [] X.env))):=by rfl) :
  PE X (.Call (.Attribute o m apos) (e::es) [] pos) (tMeth C m sp dvs E ta t):=by
 intro pins s σ H Q I h;refine PySem.W.methodCall_KW (pl:=pl) (thn (he pins s σ H _ I h) fun u s1 ⟨x,H1,I1,rx,a,dx,fs,ex,ea,l,q⟩=>?_) ht;subst ex;obtain rfl:u=Value.ref a:=rx;refine getmeth_ok I1 ea c hm l ?_;refine PySem.W.callWith_K (first:=[.ref a]) (h₀:=X.base) I.ok.mod.kin hm.kp (thn (ha pos pins s1 σ H1 _ I1 q) fun us s2 ⟨vs,H2,I2,r,q2⟩=>⟨I2.kIn,?_⟩) hst hpl;exact run_fn (us:=.ref a::us) (vs:=.ref a::vs) F hr hb hd hx I2 (.cons rfl r) q2
theorem pe_meth0 {pl:Sem Bool} (he:PE X o ta) (c:Cls X.K C) (hm:Meth X.K C m f) (F:FnOk X.prog X.w X.K X.mg X.base CX k f fd ps sp) (hr:Room k X.A) (hb:Binds X.K fd ps ds) (hd:Vals dvs ds) (hx:Passes CX X E)
  (ht:eval (.Call (.Attribute o m apos) [] [] pos) X.env=(do
   let ov <-eval o X.env
   standAt apos.atName
   let(f,first) <-holding [ov] (getMethod ov m pl)
   callWith pos f first (backTo pos (starEach [] X.env)) (backToKw pos (keywordEach [] X.env))):=by rfl) :
  PE X (.Call (.Attribute o m apos) [] [] pos) (tMeth C m sp dvs E ta tNil):=by
 intro pins s σ H Q I h;refine PySem.W.methodCall_KW (pl:=pl) (thn (he pins s σ H _ I h) fun u s1 ⟨x,H1,I1,rx,a,dx,fs,ex,ea,l,q⟩=>?_) ht;subst ex;obtain rfl:u=Value.ref a:=rx;refine getmeth_ok I1 ea c hm l ?_;exact PySem.W.callWith_K0 (first:=[.ref a]) I1.kIn hm.kp (run_fn (us:=[.ref a]) (vs:=[.ref a]) F hr hb hd hx I1 (.cons rfl .nil) q)
structure Mk (K:PySem.W.Frag) (C f:Addr):Prop where
 makes:PySem.W.makesIn K C=true
 init:PySem.W.findIn K (.ref C) "__init__"=some (some (.ref f))
 fn:PySem.W.isFn K (.ref f)=true
 kp:PySem.W.keepIn K (.ref C)=true
theorem run_make {pins:List (Addr×Obj)} {σ:St} {H:Hp} {s:Shared} {Q:VK} {us:List Value} {vs:List V} (M:Mk X.K C f) (F:FnOk X.prog X.w X.K X.mg X.base CX k f fd ps sp) (hr:Room (k+1) X.A) (hb:Binds X.K fd ps ds) (hd:Vals dvs ds)
  (hx:Passes CX X E) (I:Inv X pins σ H s) (r:Vals vs us)
  (h:∀x dx,H x=none->H dx=none->dx≠x->sp (.ref x::(vs++dvs)) (upd (upd H dx (.own x)) x (.ins C dx [])) (fun v H2=>v=.non/\Q (.ref x) H2) E) :
  wpAny (model X.prog X.w) X.A (call (.ref C) us) (EP X pins σ Q) X.xe s:=by
 have hq:=h (s.heap.objs.size+1) s.heap.objs.size (I.hok.fresh (Nat.le_succ _)) (I.hok.fresh (Nat.le_refl _)) (Nat.ne_of_lt (Nat.lt_succ_self _));have I2:=Inv.made (C:=C) I;have r2:Vals (V.ref (s.heap.objs.size+1)::(vs++dvs)) (Value.ref (s.heap.objs.size+1)::(us++ds)):=.cons rfl (r.append hd);have hl:(Value.ref (s.heap.objs.size+1)::us++ds).length=ps.length:=by
  have e:=r2.length;rw[F.len _ _ _ _ hq] at e;exact e.symm
 refine wpAny_call (make_map (f:=f) I.kIn M.makes M.init (beq_iff_eq.mp M.fn) (codeAny_mono (F.run _ X.stack _ _ ⟨Value.ref (s.heap.objs.size+1)::us,[]⟩ (Value.ref (s.heap.objs.size+1)::(us++ds)) _ _ E (hr.make C us [])
  (I2.env0.make C us []) (hb _ (Value.ref (s.heap.objs.size+1)::us) I2.kIn hl) r2 hq) fun r s' hq'=>?_))
 cases r with
 |error e=>exact hx pins σ _ _ e s' I2 hq'
 |ok fl=>
  cases fl with
  |ret u=>
   obtain⟨v,H',I3,rv,ev,q3⟩:=I2.after hq';subst ev;exact⟨rv,⟨V.ref (s.heap.objs.size+1),H',I3,rfl,q3⟩⟩
  |next=>exact False.elim hq'
  |brk=>exact False.elim hq'
  |cont=>exact False.elim hq'
theorem pe_make (M:Mk X.K C f) (F:FnOk X.prog X.w X.K X.mg X.base CX k f fd ps sp) (hr:Room (k+1) X.A) (hg:Gl X x) (hm:X.mg x=some (.ref C)) (hb:Binds X.K fd ps ds) (hd:Vals dvs ds) (hx:Passes CX X E)
  (ha:PA X (e::es) t) (hdb:(x == ("__debug__":Str))=false:=by decide) (he:starEach (e::es) X.env=(false,eval e X.env)::starEach es X.env:=by rfl) (hpl:(backTo pos (starEach es X.env)).any (·.1)=false:=by rfl) :
  PE X (.Call (.Name x p) (e::es) [] pos) (tMake C sp dvs E t):=by
 intro pins s σ H Q I h;refine wpAny_Call_Name_kw (ld_glob I hg hm ?_ hdb);refine PySem.W.callWith_K (h₀:=X.base) I.ok.mod.kin M.kp (thn (ha pos pins s σ H _ I h) fun us s1 ⟨vs,H1,I1,r,q⟩=>⟨I1.kIn,?_⟩) he hpl;exact run_make M F hr hb hd hx I1 r q
end
section
variable {X:Cx}{CX:CXT}{k:Nat}{f C:Addr}{fd:FuncData}{ps ks:List Str}{sp:Sp}{E:XK}{x m:Str}{p pos apos kpos:Pos}{e o:Expr}{es:List Expr}{kws:List Keyword}{te ta:TE}{t tk:TA}{nm:Option Str}
structure KBinds (K:PySem.W.Frag) (fd:FuncData) (ps ks:List Str) (g:List Value->List Value->List Value) (gV:List V->List V->List V):Prop where
 to:∀(s:Shared) (us ws:List Value),K.In s.heap->(g us ws).length=ps.length->BindsTo s fd ⟨us,ks.zip ws⟩ (ps.zip (g us ws))
 rel:∀{vs:List V} {us:List Value} {zs:List V} {ws:List Value},Vals vs us->Vals zs ws->Vals (gV vs zs) (g us ws)
variable {g:List Value->List Value->List Value}{gV:List V->List V->List V}
end
structure FnScope (N P:List Str) (sc:Scope):Prop where
 kind:sc.kind=.function
 co:sc.isCoroutine=false
 gen:sc.isGenerator=false
 nd:N.Nodup
 pre:N.take P.length=P
 par:∀x∈P,sc.names.lookup x=some .local\/sc.names.lookup x=some .cell
 nofree:∀y∈sc.names,y.2≠.free
theorem bindL_out {kindOf:Str->Option NameKind}{x:Str}:∀{binds:List (Str×Value)} {m:Str->Option Value},(∀v,(x,v)∉binds)->bindL kindOf binds m x=m x
 |[],_,_=>rfl
 |(n,v)::r,m,h=>by
  unfold bindL;rw[bindL_out fun w hw=>h w (List.mem_cons_of_mem _ hw)]
  split
  ·have:x≠n:=by rintro rfl;exact h v List.mem_cons_self
   simp[this]
  ·rfl
theorem bindC_out {kindOf:Str->Option NameKind}{x:Str}:∀{binds:List (Str×Value)} {m:Str->Option Value},(∀v,(x,v)∉binds)->bindC kindOf binds m x=m x
 |[],_,_=>rfl
 |(n,v)::r,m,h=>by
  unfold bindC;rw[bindC_out fun w hw=>h w (List.mem_cons_of_mem _ hw)]
  split
  ·rfl
  ·have:x≠n:=by rintro rfl;exact h v List.mem_cons_self
   simp[this]
theorem bindL_get {kindOf:Str->Option NameKind}{x:Str}{v:Value}:∀{P:List Str} {vs:List Value} {i:Nat} {m:Str->Option Value},P.Nodup->P[i]?=some x->vs[i]?=some v->kindOf x=some .local->
  bindL kindOf (P.zip vs) m x=some v
 |[],_,_,_,_,h,_,_=>by simp at h
 |_::_,[],_,_,_,_,h,_=>by simp at h
 |p::P,w::vs,0,m,nd,h1,h2,hk=>by
  simp at h1 h2;subst h1;subst h2;show bindL kindOf ((p,w)::P.zip vs) m p=_;unfold bindL;rw[bindL_out fun v hv=>(List.nodup_cons.mp nd).1 (List.of_mem_zip hv).1,if_pos hk];simp
 |p::P,w::vs,i+1,m,nd,h1,h2,hk=>by
  show bindL kindOf ((p,w)::P.zip vs) m x=_;unfold bindL;exact bindL_get (i:=i) (List.nodup_cons.mp nd).2 (by simpa using h1) (by simpa using h2) hk
theorem bindC_get {kindOf:Str->Option NameKind}{x:Str}{v:Value}:∀{P:List Str} {vs:List Value} {i:Nat} {m:Str->Option Value},P.Nodup->P[i]?=some x->vs[i]?=some v->kindOf x≠some .local->
  bindC kindOf (P.zip vs) m x=some v
 |[],_,_,_,_,h,_,_=>by simp at h
 |_::_,[],_,_,_,_,h,_=>by simp at h
 |p::P,w::vs,0,m,nd,h1,h2,hk=>by
  simp at h1 h2;subst h1;subst h2;show bindC kindOf ((p,w)::P.zip vs) m p=_;unfold bindC;rw[bindC_out fun v hv=>(List.nodup_cons.mp nd).1 (List.of_mem_zip hv).1,if_neg hk];simp
 |p::P,w::vs,i+1,m,nd,h1,h2,hk=>by
  show bindC kindOf ((p,w)::P.zip vs) m x=_;unfold bindC;exact bindC_get (i:=i) (List.nodup_cons.mp nd).2 (by simpa using h1) (by simpa using h2) hk
def start (N:List Str)(vs:List V):St:=vs.map some++List.replicate (N.length-vs.length) none
def cxOf (CX:CXT)(P:Program)(w:World)(K:PySem.W.Frag)(mg:Str->Option Value)(base:Heap)(N:List Str)(qual:Str)(scope:Scope)(f:Addr)(cd:Value)(A:Around)(outer:List Env)(s:Shared)(H:Hp)(E:XK):Cx where
 prog:=P
 w:=w
 K:=K
 mg:=mg
 base:=base
 A:=A.deeper (envOfC qual scope s.heap.objs.size f cd)
 N:=N
 s₀:=s
 H₀:=H
 env:=envOfC qual scope s.heap.objs.size f cd
 outer:=outer
 stack:=envOfC qual scope s.heap.objs.size f cd::outer
 ex:=[]
 calm:=true
 fn:=fun _=>true
 pn:=[]
 xe:=fun e s'=>wpAny (model P w) (A.deeper (envOfC qual scope s.heap.objs.size f cd)) (leaving (envOfC qual scope s.heap.objs.size f cd) e) (fun _ s''=>CX outer H s E e s'') (fun e' s''=>CX outer H s E e' s'') s'
theorem cell_has {sc:Scope}{n:Nat}{x:Str}(h:sc.names.lookup x=some .cell):∃c,(cellsFrom n sc.names []).lookup x=some c:=by
 have q:=PySem.W.cellsFrom_some sc.names n [] (.inl h);exact Option.isSome_iff_exists.mp q
theorem inv_start {CX:CXT} {P:Program} {w:World} {K:PySem.W.Frag} {mg:Str->Option Value} {base:Heap} {N ps:List Str} {qual:Str} {scope:Scope} {f:Addr} {cd:Value} {A:Around} {outer:List Env} {s s1:Shared} {H:Hp} {E:XK} {us:List Value} {vs:List V}
  (S:FnScope N ps scope) (hd:A.handled=none) (e0:Env0 P w K mg base A outer s H) (hl:vs.length=ps.length) (r:Vals vs us)
  (x:InCallC s s.heap.objs.size (bindL (envOfC qual scope s.heap.objs.size f cd).kindOf (ps.zip us) fun _=>none) (cellsFrom (s.heap.objs.size+1) scope.names []) (bindC (envOfC qual scope s.heap.objs.size f cd).kindOf (ps.zip us) fun _=>none) s1) :
  Inv (cxOf CX P w K mg base N qual scope f cd A outer s H E) [] (start N vs) H s1:=by
 have hpl:ps.length<=N.length:=by have:=congrArg List.length S.pre;rw[List.length_take] at this;omega
 obtain⟨h1,tk,rfl,hk⟩:=x.done;have noA:∀b:Addr,b∉(cxOf CX P w K mg base N qual scope f cd A outer s H E).ex:=fun b z=>absurd (show b∈([]:List Addr) from z) (by simp)
 refine⟨⟨e0.mod,S.kind,rfl,rfl,Nat.le_refl _,fun y z c h1 h2=>?_,fun y hy=>?_,fun y c _ h=>?_,fun _=>hd,Around.frames_deeper e0.frames,.inr ⟨rfl,rfl⟩,fun b z=>absurd z (noA b),e0.bs,e0.bsz,fun b _ _=>noA b,fun b z=>absurd z (noA b),e0.funs,e0.frf⟩,
  rfl,e0.bare,Un.kept hk,⟨_,x.toInCall.ns,fun i y v h1 h2 h3=>?_⟩,fun y c h=>⟨_,x.cell y c h⟩,e0.hok.fresh (Nat.le_refl _),fun y c h=>?_,fun p hp=>absurd (show p∈([]:List (Addr×Obj)) from hp) (by simp),e0.hok.kept hk,?_⟩
 ·exact name_of_addr x.apart (PySem.mem_of_lookup h1) (PySem.mem_of_lookup h2)
 ·have hy:scope.names.lookup y=some .cell\/scope.names.lookup y=some .free:=hy;rcases hy with hy|hy
  ·exact cell_has hy
  ·exact absurd rfl (S.nofree _ (PySem.mem_of_lookup hy))
 ·exact Nat.le_of_lt (x.above y c (PySem.mem_of_lookup h))
 ·have hi:i<vs.length:=by
   unfold start at h2
   by_cases hi:i<vs.length
   ·exact hi
   ·rw[List.getElem?_append_right (by simpa using hi)] at h2;rw[List.getElem?_replicate] at h2
    split at h2<;>cases h2
  have ha:vs[i]?=some v:=by
   unfold start at h2;rw[List.getElem?_append_left (by simpa using hi),List.getElem?_map] at h2;cases e:vs[i]? with
   |none=>rw[e] at h2;cases h2
   |some a=>rw[e] at h2;cases h2;rfl
  obtain⟨u,hu,rv⟩:=r.get ha;have hp:ps[i]?=some y:=by
   rw[<-S.pre,List.getElem?_take_of_lt (by omega)];exact h1
  have ndP:ps.Nodup:=by rw[<-S.pre];exact S.nd.sublist (List.take_sublist _ _)
  refine⟨u,rv,?_⟩;rcases S.par y (List.mem_of_getElem? hp) with k|k
  ·exact .inl ⟨k,bindL_get ndP hp hu k⟩
  ·obtain⟨c,e⟩:=cell_has (n:=s.heap.objs.size+1) k;refine .inr ⟨.inl k,c,e,?_⟩;have q:=x.cell y c e;rw[bindC_get ndP hp hu (by show scope.names.lookup y≠_;rw[k];decide)] at q;exact q
 ·exact e0.hok.fresh (Nat.le_of_lt (x.above y c (PySem.mem_of_lookup h)))
 ·unfold start;show _=N.length;rw[List.length_append,List.length_map,List.length_replicate];omega
theorem fn_of {CX:CXT} {P:Program} {w:World} {K:PySem.W.Frag} {mg:Str->Option Value} {base:Heap} {k:Nat} {f:Addr} {name qual:Str} {params:Arguments} {body:List Stmt} {scope:Scope} {dV kV doc pm cdv ct oc:Value} {an od:Option Addr}
  {osl:Array (Option Value)} {N ps:List Str} {sp:Sp} (lk:K.lookup f=some ⟨oc,od,.func (PySem.W.fnOf name qual params body scope dV kV doc pm an cdv ct),osl⟩) (hcd:PySem.W.codeIn K cdv qual=true) (S:FnScope N ps scope)
  (len:∀vs H Q E,sp vs H Q E->vs.length=ps.length)
  (hbody:∀(A:Around) (outer:List Env) (s:Shared) (H:Hp) (vs:List V) (Q:VK) (E:XK),Room k (A.deeper (envOfC qual scope s.heap.objs.size f cdv))->sp vs H Q E->
   ∃t,PSs (cxOf CX P w K mg base N qual scope f cdv A outer s H E) body t/\t { nx:=fun _ H'=>Q .non H',rt:=Q } (start N vs) H) :
  FnOk P w K mg base CX (k+1) f (PySem.W.fnOf name qual params body scope dV kV doc pm an cdv ct) ps sp:=by
 refine⟨len,fun A outer s H args us vs Q E hr e0 hb r hsp=>?_⟩;have hl:=len _ _ _ _ hsp;have KX:K.In s.heap:=e0.mod.kin.keeps fun b o e=>(e0.bs b o e).1
 have lim:s.heap.NoLimit:=e0.mod.nolimit.keeps fun b o e=>(e0.bs b o e).1
 have hkind:∀y∈ps.zip us,scope.names.lookup y.1=some .local\/(scope.names.lookup y.1=some .cell/\((cellsFrom (s.heap.objs.size+1) scope.names []).lookup y.1).isSome=true):=fun⟨n,v⟩ hy=>by
  rcases S.par n (List.of_mem_zip hy).1 with q|q
  ·exact .inl q
  ·exact .inr ⟨q,PySem.W.cellsFrom_some _ _ _ (.inl q)⟩
 refine codeAny_call_function hr.depth (KX _ _ lk) rfl S.co S.gen rfl (PySem.W.codeRec_of KX hcd) (hb _ _ _ _ ?_);refine wpAny_newFunctionEnv_cells S.kind hkind fun env he s1 x=>?_
 subst he;refine⟨lim.keeps x.toInCall.keep,codeAny_func ?_⟩;obtain⟨t,ht,hq⟩:=hbody A outer s H vs Q E (hr.deeper _) hsp;have I:Inv (cxOf CX P w K mg base N qual scope f cdv A outer s H E) [] (start N vs) H s1:=inv_start S hr.hd e0 hl r x;refine wpAny_mono (ht [] s1 (start N vs) H _ I hq) (fun fl s' hs=>?_) fun e s' hs=>hs
 have fin:∀{σ':St} {H':Hp} {v:V} {u:Value},Inv (cxOf CX P w K mg base N qual scope f cdv A outer s H E) [] σ' H' s'->RelV v u->Q v H'->CE outer P w H s Q u s':=
  fun{σ' H' v u} J rv q=>⟨v,H',J.os,J.bare,J.base,J.hok,rv,q⟩
 cases fl with
 |ret u=>
  obtain⟨v,σ',H',J,rv,q⟩:=hs;exact fin J rv q
 |next=>
  obtain⟨σ',H',J,q⟩:=hs;exact fin (v:=V.non) (u:=Value.none) J rfl q
 |brk=>
  obtain⟨_,_,_,q⟩:=hs;exact False.elim q
 |cont=>
  obtain⟨_,_,_,q⟩:=hs;exact False.elim q
section
variable {X:Cx}{x:Str}{p pos:Pos}{e:Expr}{es:List Expr}{t:TA}{id T:String}{r:List V->Hp->VK->Prop}
def tCB (r:List V->Hp->VK->Prop)(t:TA):TE:=fun σ H Q=>t σ H fun vs H1=>r vs H1 Q
theorem pe_callB (hc:CallR X (.builtin id) r) (hg:Gl X x) (hm:X.mg x=none) (hv:bootBuiltins x=some (.builtin id)) (ha:PA X (e::es) t) (hn:x≠"__name__":=by decide) (hdb:(x == ("__debug__":Str))=false:=by decide)
  (he:starEach (e::es) X.env=(false,eval e X.env)::starEach es X.env:=by rfl) (hpl:(backTo pos (starEach es X.env)).any (·.1)=false:=by rfl):PE X (.Call (.Name x p) (e::es) [] pos) (tCB r t):=by
 intro pins s σ H Q I h;refine wpAny_Call_Name_kw (ld_blt I hg hm hv ?_ hn hdb);exact PyProof.Rows.callWith_builtin1 (thn (ha pos pins s σ H _ I h) fun us s1 ⟨vs,H1,I1,r1,q1⟩=>hc pins s1 σ H1 vs us Q I1 r1 q1) he hpl
theorem pe_callTy (hc:CallR X (.type T) r) (hg:Gl X x) (hm:X.mg x=none) (hv:bootBuiltins x=some (.type T)) (ha:PA X (e::es) t) (hn:x≠"__name__":=by decide) (hdb:(x == ("__debug__":Str))=false:=by decide)
  (he:starEach (e::es) X.env=(false,eval e X.env)::starEach es X.env:=by rfl) (hpl:(backTo pos (starEach es X.env)).any (·.1)=false:=by rfl):PE X (.Call (.Name x p) (e::es) [] pos) (tCB r t):=by
 intro pins s σ H Q I h;refine wpAny_Call_Name_kw (ld_blt I hg hm hv ?_ hn hdb);exact PyProof.Rows.callWith_type1 (thn (ha pos pins s σ H _ I h) fun us s1 ⟨vs,H1,I1,r1,q1⟩=>hc pins s1 σ H1 vs us Q I1 r1 q1) he hpl
end
end L2
namespace HT
open PySem PyProof.Rows
section
variable {prog:Program}{w:World}{A:Around}{E:Value->Shared->Prop}{s:Shared}
def sIx (n d:Nat):Option Int->Nat
 |none=>d
 |some v=>if v<0 then(v+(n:Int)).toNat else min v.toNat n
theorem sIx_none (n d:Nat):sIx n d none=d:=rfl
theorem sIx_nat (n d k:Nat):sIx n d (some (k:Int))=min k n:=by
 show(if(k:Int)<0 then((k:Int)+(n:Int)).toNat else min (k:Int).toNat n)=min k n;rw[if_neg (by omega),Int.toNat_natCast]
end
end HT
namespace L2
open PySem PySem.Spec PyProof.Rows
abbrev TO:=St->Hp->(Option Int->Hp->Prop)->Prop
def PO (X:Cx)(e:Option Expr)(t:TO):Prop:=
 ∀(pins:List (Addr×Obj)) (s:Shared) (σ:St) (H:Hp) (Q:Option Int->Hp->Prop),Inv X pins σ H s->t σ H Q->
  wpAny (model X.prog X.w) X.A (evalPart e X.env) (fun u s'=>∃o H',Inv X pins σ H' s'/\IsPart u o/\Q o H') X.xe s
def tNoPart:TO:=fun _ H Q=>Q none H
def tPart (t:TE):TO:=fun σ H Q=>t σ H fun x H1=>∃i,x=.int i/\Q (some i) H1
theorem intsAre_of {ns:List Int}:∀{us:List Value},Vals (ns.map V.int) us->IntsAre us ns:=by
 induction ns with
 |nil=>intro us r;rw[List.map_nil] at r;cases r;exact .nil
 |cons n ns ih=>
  intro us r;rw[List.map_cons] at r;cases r with
  |cons r1 r2=>
   obtain⟨t,e⟩:=r1;subst e;exact .cons n t (ih r2)
section
variable {X:Cx}{e:Expr}{te:TE}{lo hi:Option Expr}{tl th:TO}{pos p2:Pos}
theorem po_none:PO X none tNoPart:=by
 intro pins s σ H Q I h;rw[evalPart_none];exact wpAny_pure ⟨none,H,I,.none,h⟩
theorem po_some (h:PE X e te):PO X (some e) (tPart te):=by
 intro pins s σ H Q I hw;rw[evalPart_some];refine thn (h pins s σ H _ I hw) fun u s1 ⟨x,H1,I1,r1,q1⟩=>?_
 obtain⟨i,rfl,q⟩:=q1;obtain⟨t,rfl⟩:=r1;exact⟨some i,H1,I1,.int i t,q⟩
def SlR (X:Cx)(r:V->Option Int->Option Int->Hp->VK->Prop):Prop:=
 ∀(pins:List (Addr×Obj)) (s:Shared) (σ:St) (H:Hp) (x:V) (v vl vu:Value) (lo hi:Option Int) (sl:Addr) (Q:VK),Inv X pins σ H s->RelV x v->s.heap.IsSliceOf sl vl vu .none->IsPart vl lo->IsPart vu hi->r x lo hi H Q->
  ∃T id,typeLookup (.type T) "__getitem__"=pure (some (.builtin id))/\s.TypeIs v T/\wpAny (model X.prog X.w) X.A (getItem v (.ref sl)) (EP X pins σ Q) X.xe s
def tSl (r:V->Option Int->Option Int->Hp->VK->Prop)(te:TE)(tl th:TO):TE:=fun σ H Q=>te σ H fun x H1=>tl σ H1 fun l H2=>th σ H2 fun u H3=>r x l u H3 Q
theorem pe_slice {r:V->Option Int->Option Int->Hp->VK->Prop}(hr:SlR X r)(he:PE X e te)(hl:PO X lo tl)(hu:PO X hi th):PE X (.Subscript e (.Slice lo hi none p2) pos) (tSl r te tl th):=by
 intro pins s σ H Q I h;refine Subscript_ (thn (he pins s σ H _ I h) fun v s1 ⟨x,H1,I1,r1,q1⟩=>?_);refine wpAny_Slice (thn (hl pins s1 σ H1 _ I1 q1) fun vl s2 ⟨l,H2,I2,pl,q2⟩=>thn (hu pins s2 σ H2 _ I2 q2) fun vu s3 ⟨u,H3,I3,pu,q3⟩=>?_);rw[evalPart_none];refine wpAny_pure ?_;have I4:Inv X pins σ H3 { s3 with heap:=s3.heap.push { cls:=.type "slice",data:=.fields #[vl,vu,.none] } }:=I3.kept (t':=s3.toks) fun b ob q=>Heap.get?_push_of_some _ q
 obtain⟨T,id,hT,ht,hg⟩:=hr pins { s3 with heap:=s3.heap.push { cls:=.type "slice",data:=.fields #[vl,vu,.none] } } σ H3 x v vl vu l u s3.heap.objs.size Q I4 r1 (Heap.IsSliceOf.new ..) pl pu q3;show wpAny (model X.prog X.w) X.A (subscriptTail e (.Slice lo hi none p2) v (.ref s3.heap.objs.size)) (EP X pins σ Q) X.xe { s3 with heap:=s3.heap.push { cls:=.type "slice",data:=.fields #[vl,vu,.none] } };exact tail_any (ops:=[.ref s3.heap.objs.size,v]) ht hT hg (by with_unfolding_all rfl)
def cutV (xs:List V)(lo hi:Option Int):List V:=(xs.drop (HT.sIx xs.length 0 lo)).take (HT.sIx xs.length xs.length hi-HT.sIx xs.length 0 lo)
theorem cutV_length (xs:List V)(lo hi:Option Int):(cutV xs lo hi).length<=xs.length:=by
 unfold cutV;rw[List.length_take,List.length_drop];omega
end
def ixN (n:Nat)(i:Int):Option Nat:=if 0<=i then(if i<n then some i.toNat else none) else if -(n:Int)<=i then some (i+n).toNat else none
def atI {α:Type}(xs:List α)(i:Int):Option α:=(ixN xs.length i).bind fun j=>xs[j]?
theorem ixN_seq {n:Nat}{i:Int}{j:Nat}(h:ixN n i=some j):seqIndex? i n=some j/\j<n/\-(n:Int)<=i/\i<n:=by
 unfold ixN at h
 by_cases h0:0<=i
 ·rw[if_pos h0] at h
  by_cases h1:i<n
  ·rw[if_pos h1] at h;have e:i.toNat=j:=Option.some.inj h;exact⟨by rw[seqIndex_of h0 h1,e],by omega,by omega,h1⟩
  ·rw[if_neg h1] at h;cases h
 ·rw[if_neg h0] at h
  by_cases h1:-(n:Int)<=i
  ·rw[if_pos h1] at h;have e:(i+n).toNat=j:=Option.some.inj h;exact⟨by rw[seqIndex_neg (by omega) h1,e],by omega,h1,by omega⟩
  ·rw[if_neg h1] at h;cases h
theorem atI_get {α:Type}{xs:List α}{i:Int}{v:α}(h:atI xs i=some v):∃j,seqIndex? i xs.length=some j/\xs[j]?=some v/\j<xs.length/\-(xs.length:Int)<=i/\i<xs.length:=by
 unfold atI at h;cases e:ixN xs.length i with
 |none=>rw[e] at h;cases h
 |some j=>
  rw[e] at h;obtain⟨h1,h2,h3,h4⟩:=ixN_seq e;exact⟨j,h1,h,h2,h3,h4⟩
theorem atI_nat {α:Type}{xs:List α}{j:Nat}{v:α}(h:xs[j]?=some v):atI xs (j:Int)=some v:=by
 have hj:j<xs.length:=(List.getElem?_eq_some_iff.mp h).1;have e:ixN xs.length (j:Int)=some j:=by
  unfold ixN;rw[if_pos (by omega),if_pos (by omega)];simp
 unfold atI;rw[e];exact h
theorem atI_last {α:Type}(xs:List α)(v:α):atI (xs++[v]) (-1)=some v:=by
 have hl:(xs++[v]).length=xs.length+1:=by simp
 have e:ixN (xs++[v]).length (-1)=some xs.length:=by
  unfold ixN;rw[hl,if_neg (by decide),if_pos (by omega)]
  congr 1
  omega
 unfold atI;rw[e];show(xs++[v])[xs.length]?=some v;simp
def PlainIx (b:Expr):Prop:=∀o i,subscripted b false o i=operate [o,i] (getItem o i)
def IxR (X:Cx)(r:R2):Prop:=
 ∀(value slice:Expr) (pins:List (Addr×Obj)) (s:Shared) (σ:St) (H:Hp) (x y:V) (v u:Value) (Q:VK),Inv X pins σ H s->RelV x v->RelV y u->r x y H Q->
  subscripted slice false v u=operate [v,u] (getItem v u)->wpAny (model X.prog X.w) X.A (subscriptTail value slice v u) (EP X pins σ Q) X.xe s
def MtR (X:Cx)(id:String)(r:V->List V->Hp->VK->Prop):Prop:=
 ∀(pins:List (Addr×Obj)) (s:Shared) (σ:St) (H:Hp) (x:V) (xs:List V) (v:Value) (us:List Value) (Q:VK),Inv X pins σ H s->RelV x v->Vals xs us->r x xs H Q->
  wpAny (model X.prog X.w) X.A (call (.builtin id) (v::us)) (EP X pins σ Q) X.xe s
section
variable {X:Cx}{a b:Expr}{ta tb:TE}{pos:Pos}
theorem pe_ix {r:R2}(hr:IxR X r)(ha:PE X a ta)(hb:PE X b tb)(hs:PlainIx b):PE X (.Subscript a b pos) (tOp r ta tb):=by
 intro pins s σ H Q I h;exact Subscript_ (binT ha hb I h fun v u s2 x y H2 I2 rx ry q=>hr a b pins s2 σ H2 x y v u Q I2 rx ry q (hs _ _))
def rIxL (K:PySem.W.Frag):R2:=fun x y H Q=>∃p xs i v,x=.ref p/\y=.int i/\SqL K H p xs/\atI xs i=some v/\Q v H
def rIxT (K:PySem.W.Frag):R2:=fun x y H Q=>∃p xs i v,x=.ref p/\y=.int i/\SqT K H p xs/\atI xs i=some v/\Q v H
def rIxS:R2:=fun x y H Q=>∃z i c,x=.str z/\y=.int i/\z.length<=sizeLine/\atI z.cps.toList i=some c/\Q (.str ⟨#[c]⟩) H
theorem ix_list:IxR X (rIxL X.K):=by
 intro value slice pins s σ H x y v u Q I rx ry h hs;obtain⟨p,xs,i,z,rfl,rfl,hq,he,q⟩:=h;cases rx;obtain⟨t,rfl⟩:=ry;obtain⟨its,r,pl,hz⟩:=I.list hq;obtain⟨j,h1,h2,h3,h4,h5⟩:=atI_get he;obtain⟨w,ew,rw'⟩:=r.get h2;have hl:=r.length;have hn:=line63;have fin:EP X pins σ Q w s:=⟨z,H,I,rw',q⟩
 by_cases h0:0<=i
 ·have hj:i.toNat=j:=by
   rw[seqIndex_of h0 h5] at h1;exact Option.some.inj h1
  exact item_listR pl.isList h0 (by omega) (by rw[hj];simpa using ew) fin hs
 ·have hj:(i+(its.toArray.size:Int)).toNat=j:=by
   rw[seqIndex_neg (by omega) h4] at h1;rw[List.size_toArray,<-hl];exact Option.some.inj h1
  exact subscriptTail_builtinR (x:=w) pl.isList.typeIs slot_list_getitem.lookup
   (wpAny_getItem_list_neg (Q:=fun r s'=>r=w/\EP X pins σ Q r s') pl.isList (by omega) (by rw[List.size_toArray]<;>omega) (by omega) (by rw[hj];simpa using ew) ⟨rfl,fin⟩) hs
theorem ix_tup:IxR X (rIxT X.K):=by
 intro value slice pins s σ H x y v u Q I rx ry h hs;obtain⟨p,xs,i,z,rfl,rfl,hq,he,q⟩:=h;cases rx;obtain⟨t,rfl⟩:=ry;obtain⟨its,r,pl,hz⟩:=I.tuple hq;obtain⟨j,h1,h2,h3,h4,h5⟩:=atI_get he;obtain⟨w,ew,rw'⟩:=r.get h2;have hl:=r.length;have hn:=line63;have fin:EP X pins σ Q w s:=⟨z,H,I,rw',q⟩
 exact subscriptTail_builtinR (x:=w) pl.typeIs slot_tuple_getitem.lookup
  (getItem_tuple (j:=j) (Q:=fun r s'=>r=w/\EP X pins σ Q r s') pl (by omega) (by omega) (by rw[List.size_toArray,<-hl];exact h1) (by simpa using ew) ⟨rfl,fin⟩) hs
theorem ix_str:IxR X rIxS:=by
 intro value slice pins s σ H x y v u Q I rx ry h hs;obtain⟨z,i,c,rfl,rfl,hz,he,q⟩:=h;obtain⟨t,rfl⟩:=rx;obtain⟨t',rfl⟩:=ry;obtain⟨j,h1,h2,h3,h4,h5⟩:=atI_get he;have hl:z.cps.toList.length=z.length:=by simp[Str.length]
 rw[hl] at h1 h4 h5;have hn:=line63;exact tail_any (typeIs_str s z t) slot_str_getitem.lookup (getItem_str (c:=c) (by
  have e1:decide (i < -(2^63:Int))=false:=decide_eq_false (by omega);have e2:decide (i≥2^63)=false:=decide_eq_false (by omega);rw[e1,e2,Bool.or_false]) (by rw[h1];simpa using h2) ⟨.str ⟨#[c]⟩,H,I.tok _,⟨_,rfl⟩,q⟩) hs
theorem mapSeq_set (its:List Value)(n j:Nat)(u:Value):Obj.mapSeq (·.setIfInBounds j u) { cls:=.type "list",data:=.seq its.toArray n }={ cls:=.type "list",data:=.seq (its.set j u).toArray n }:=by
 simp[Obj.mapSeq]
theorem Inv.lst {pins:List (Addr×Obj)}{σ:St}{H:Hp}{s:Shared}{p:Addr}{xs:List V}(I:Inv X pins σ H s)(h:H p=some (.lst xs)) :
  ∃(its:List Value) (n:Nat),Vals xs its/\s.heap.get? p=some { cls:=.type "list",data:=.seq its.toArray n }/\xs.length<=sizeLine:=by
 obtain⟨z,its,n,r,e⟩:=I.hok p _ h;exact⟨its,n,r,e,z⟩
theorem Inv.lstUpd {pins:List (Addr×Obj)} {σ:St} {H:Hp} {s:Shared} {p:Addr} {xs ys:List V} {its its':List Value} {n n':Nat} {f:Obj->Obj} (I:Inv X pins σ H s) (h:H p=some (.lst xs))
  (ho:s.heap.get? p=some { cls:=.type "list",data:=.seq its.toArray n }) (hf:f { cls:=.type "list",data:=.seq its.toArray n }={ cls:=.type "list",data:=.seq its'.toArray n' }) (r:Vals ys its') (hz:ys.length<=sizeLine) (t:Nat) :
  Inv X pins σ (upd H p (.lst ys)) { s with heap:=s.heap.update p f,toks:=t }:=by
 have e:(s.heap.update p f).get? p=some { cls:=.type "list",data:=.seq its'.toArray n' }:=by
  rw[Heap.get?_update_self f ho (by rw[hf]<;>rfl),hf]
 refine I.write (x:=p) (e:=p) (by rw[h];trivial) (.inl rfl) (fun b u hb q=>(Heap.get?_update_other _ _ (Ne.symm hb)).trans q) ⟨_,e⟩ ?_;exact⟨hz,its',n',r,e⟩
def rSetL:V->V->V->Hp->(Hp->Prop)->Prop:=fun o i v H Q=>∃p xs k j,o=.ref p/\i=.int k/\H p=some (.lst xs)/\ixN xs.length k=some j/\Q (upd H p (.lst (xs.set j v)))
theorem set_list:PSet X rSetL:=by
 intro pins s σ H o i v ov iv u Q I ro ri rv h;obtain⟨p,xs,k,j,rfl,rfl,hp,hj,q⟩:=h;cases ro;obtain⟨t,rfl⟩:=ri;obtain⟨its,n,r,ho,hz⟩:=I.lst hp;obtain⟨h1,h2,h3,h4⟩:=ixN_seq hj;have hl:=r.length;have hn:=line63;have I':Inv X pins σ (upd H p (.lst (xs.set j v))) { s with heap:=s.heap.update p (Obj.mapSeq (·.setIfInBounds j u)) }:=
  I.lstUpd hp ho (mapSeq_set its n j u) (r.set rv j) (by rw[List.length_set];exact hz) s.toks
 by_cases h0:0<=k
 ·have hk:k.toNat=j:=by
   rw[seqIndex_of h0 h4] at h1;exact Option.some.inj h1
  exact PySem.W.ki_setAt ho h0 (by omega) (by rw[List.size_toArray,<-hl];exact h4) (by rw[hk];exact⟨_,I',q⟩)
 ·have hk:(k+(its.toArray.size:Int)).toNat=j:=by
   rw[seqIndex_neg (by omega) h3] at h1;rw[List.size_toArray,<-hl];exact Option.some.inj h1
  exact PySem.W.ki_setBack ho (by omega) (by rw[List.size_toArray,<-hl];exact h3) (by omega) (by rw[hk];exact⟨_,I',q⟩)
theorem slice_bounds (lo hi:Option Int)(n:Nat):(sliceBounds lo hi none n).1=((HT.sIx n 0 lo:Nat):Int)/\(sliceBounds lo hi none n).2.1=((HT.sIx n n hi:Nat):Int)/\(sliceBounds lo hi none n).2.2=1:=by
 refine⟨?_,?_,rfl⟩
 ·cases lo with
  |none=>simp[sliceBounds,HT.sIx]
  |some i=>
   simp only[sliceBounds,HT.sIx,Option.getD_none,show(1:Int)>0 by decide,if_true]
   by_cases h:i<0
   ·simp only[h,if_true]<;>omega
   ·simp only[h,if_false]<;>omega
 ·cases hi with
  |none=>simp[sliceBounds,HT.sIx]
  |some i=>
   simp only[sliceBounds,HT.sIx,Option.getD_none,show(1:Int)>0 by decide,if_true]
   by_cases h:i<0
   ·simp only[h,if_true]<;>omega
   ·simp only[h,if_false]<;>omega
theorem slicePick_cut (its:List Value)(lo hi:Option Int):slicePick its.toArray lo hi none=((its.drop (HT.sIx its.length 0 lo)).take (HT.sIx its.length its.length hi-HT.sIx its.length 0 lo)).toArray:=by
 obtain⟨h1,h2,h3⟩:=slice_bounds lo hi its.toArray.size;unfold slicePick;rw[h1,h2,h3];simp only[sliceRange_one,pick_run,List.size_toArray]<;>rfl
def rSlL (K:PySem.W.Frag):V->Option Int->Option Int->Hp->VK->Prop:=fun x lo hi H Q=>∃a xs,x=.ref a/\SqL K H a xs/\∀p,H p=none->Q (.ref p) (upd H p (.lst (cutV xs lo hi)))
theorem sl_list:SlR X (rSlL X.K):=by
 intro pins s σ H x v vl vu lo hi sl Q I rx hs pl pu h;obtain⟨a,xs,rfl,hx,q⟩:=h;cases rx;obtain⟨its,r,ht,hz⟩:=I.list hx;have hlen:=r.length;refine⟨"list",_,slot_list_getitem.lookup,ht.isList.typeIs,?_⟩;refine wpAny_getItem_list_slice ht.isList hs pl pu .none (by simp) ?_ (by rw[List.size_toArray]<;>omega);rw[slicePick_cut,<-hlen];refine⟨.ref s.heap.objs.size,_,I.laid (t':=s.toks) (o:=.lst (cutV xs lo hi)) (fun b ob q=>Heap.get?_push_of_some _ q) (Nat.le_refl _) ?_,rfl,q _ (I.hok.fresh (Nat.le_refl _))⟩;exact⟨Nat.le_trans (cutV_length xs lo hi) hz,_,0,(r.drop (HT.sIx xs.length 0 lo)).take (HT.sIx xs.length xs.length hi-HT.sIx xs.length 0 lo),Heap.get?_push_size _ rfl⟩
def flatV:V->Bool
 | .non=>true
 | .bl _=>true
 | .int _=>true
 | .str _=>true
 |_=>false
def eqV:V->V->Bool
 | .non,.non=>true
 | .bl a,.bl b=>a == b
 | .bl a,.int b=>(if a then 1 else 0) == b
 | .int a,.bl b=>a == (if b then 1 else 0)
 | .int a,.int b=>a == b
 | .str a,.str b=>a == b
 |_,_=>false
theorem eqAt_V {A:Around}{s:Shared}{y x:V}{u v:Value}(ry:RelV y u)(rx:RelV x v)(fy:flatV y=true)(fx:flatV x=true):SeqAt.EqAt A s u v (eqV y x):=by
 cases y with
 |non=>
  cases ry;cases x with
  |non=>cases rx;exact SeqAt.EqAt.same _
  |bl b=>cases rx;exact SeqAt.EqAt.none_bool b
  |int b=>obtain⟨t,rfl⟩:=rx;exact SeqAt.EqAt.none_int b t
  |str b=>obtain⟨t,rfl⟩:=rx;exact SeqAt.EqAt.none_str b t
  |_=>exact absurd (show false=true from fx) Bool.false_ne_true
 |bl a=>
  cases ry;cases x with
  |non=>cases rx;exact SeqAt.EqAt.bool_none a
  |bl b=>cases rx;exact SeqAt.EqAt.bool_bool a b
  |int b=>obtain⟨t,rfl⟩:=rx;exact SeqAt.EqAt.bool_int a b t
  |str b=>obtain⟨t,rfl⟩:=rx;exact SeqAt.EqAt.bool_str a b t
  |_=>exact absurd (show false=true from fx) Bool.false_ne_true
 |int a=>
  obtain⟨t',rfl⟩:=ry;cases x with
  |non=>cases rx;exact SeqAt.EqAt.int_none a t'
  |bl b=>cases rx;exact SeqAt.EqAt.int_bool a t' b
  |int b=>obtain⟨t,rfl⟩:=rx;exact SeqAt.EqAt.int_int a t' b t
  |str b=>obtain⟨t,rfl⟩:=rx;exact SeqAt.EqAt.int_str a t' b t
  |_=>exact absurd (show false=true from fx) Bool.false_ne_true
 |str a=>
  obtain⟨t',rfl⟩:=ry;cases x with
  |non=>cases rx;exact SeqAt.EqAt.str_none a t'
  |bl b=>cases rx;exact SeqAt.EqAt.str_bool a t' b
  |int b=>obtain⟨t,rfl⟩:=rx;exact SeqAt.EqAt.str_int a t' b t
  |str b=>obtain⟨t,rfl⟩:=rx;exact SeqAt.EqAt.str_str a t' b t
  |_=>exact absurd (show false=true from fx) Bool.false_ne_true
 |_=>exact absurd (show false=true from fy) Bool.false_ne_true
def eqU (x:V)(u:Value):Bool:=match u with
 | .none=>eqV .non x
 | .bool b=>eqV (.bl b) x
 | .int i _=>eqV (.int i) x
 | .str z _=>eqV (.str z) x
 |_=>false
theorem eqU_of {x y:V}{u:Value}(r:RelV y u)(f:flatV y=true):eqU x u=eqV y x:=by
 cases y with
 |non=>cases r;rfl
 |bl b=>cases r;rfl
 |int i=>obtain⟨t,rfl⟩:=r;rfl
 |str z=>obtain⟨t,rfl⟩:=r;rfl
 |_=>exact absurd (show false=true from f) Bool.false_ne_true
theorem any_eqU {x:V}:∀{xs:List V} {us:List Value},Vals xs us->xs.all flatV=true->us.any (eqU x)=xs.any fun y=>eqV y x
 |_,_,.nil,_=>rfl
 |y::xs,u::us,.cons r t,f=>by
  rw[List.all_cons,Bool.and_eq_true] at f;rw[List.any_cons,List.any_cons,eqU_of r f.1,any_eqU t f.2]
theorem mem_eqAt {A:Around}{s:Shared}{x:V}{v:Value}(rx:RelV x v)(fx:flatV x=true):∀{xs:List V} {us:List Value},Vals xs us->xs.all flatV=true->∀u∈us,SeqAt.EqAt A s u v (eqU x u)
 |_,_,.nil,_=>fun u hu=>by cases hu
 |y::xs,u::us,.cons r t,f=>fun u' hu=>by
  rw[List.all_cons,Bool.and_eq_true] at f;rcases List.mem_cons.mp hu with rfl|hu
  ·rw[eqU_of r f.1];exact eqAt_V r rx f.1 fx
  ·exact mem_eqAt rx fx t f.2 u' hu
def inV (x:V)(xs:List V):Bool:=xs.any fun y=>eqV y x
def rIn (K:PySem.W.Frag)(neg:Bool):R2:=fun x y H Q=>∃p xs,y=.ref p/\(SqL K H p xs\/SqT K H p xs)/\flatV x=true/\xs.all flatV=true/\Q (.bl (if neg then !inV x xs else inV x xs)) H
theorem op_in_seq:OpR X (compareOp .In) (rIn X.K false):=by
 intro pins s σ H x y v u Q I rx ry h;obtain⟨p,xs,rfl,hq,fx,fs,q⟩:=h;cases ry;rcases hq with hq|hq
 ·obtain⟨its,r,pl,hz⟩:=I.list hq;refine SeqAt.in_listAt (eqU x) pl.isList (fun w hw=>mem_eqAt rx fx r fs w (by simpa using hw)) ⟨.bl _,H,I,rfl,?_⟩;rw[show its.toArray.any (eqU x)=its.any (eqU x) by simp,any_eqU r fs];exact q
 ·obtain⟨its,r,pl,hz⟩:=I.tuple hq;refine SeqAt.in_tupleAt (eqU x) pl (fun w hw=>mem_eqAt rx fx r fs w (by simpa using hw)) ⟨.bl _,H,I,rfl,?_⟩;rw[show its.toArray.any (eqU x)=its.any (eqU x) by simp,any_eqU r fs];exact q
theorem call_len_seq:CallR X (.builtin "len") (fun xs H Q=>∃p ys,xs=[.ref p]/\(SqL X.K H p ys\/SqT X.K H p ys)/\Q (.int ys.length) H):=by
 intro pins s σ H xs us Q I r h;obtain⟨p,ys,rfl,hq,q⟩:=h;obtain⟨u,rfl,rx⟩:=vals1 r;cases rx;have hn:=line63;rcases hq with hq|hq
 ·obtain⟨its,r',pl,hz⟩:=I.list hq;have hlen:=r'.length;exact Calls.call_len_list pl.isList (by simp only[List.size_toArray]<;>omega) ⟨.int ys.length,H,I.tok _,⟨s.toks+1,by rw[List.size_toArray,hlen]⟩,q⟩
 ·obtain⟨its,r',pl,hz⟩:=I.tuple hq;have hlen:=r'.length;exact len_tuple pl (by simp only[List.size_toArray]<;>omega) ⟨.int ys.length,H,I.tok _,⟨s.toks+1,by rw[List.size_toArray,hlen]⟩,q⟩
theorem call_len_str:CallR X (.builtin "len") (fun xs H Q=>∃z,xs=[.str z]/\z.length<=sizeLine/\Q (.int z.length) H):=by
 intro pins s σ H xs us Q I r h;obtain⟨z,rfl,hz,q⟩:=h;obtain⟨u,rfl,t,rfl⟩:=vals1 r;have hn:=line63;exact len_str (by omega) ⟨.int z.length,H,I.tok _,⟨_,rfl⟩,q⟩
theorem call_list_of:CallR X (.type "list") (fun xs H Q=>∃p ys,xs=[.ref p]/\(SqL X.K H p ys\/SqT X.K H p ys)/\∀l,H l=none->Q (.ref l) (upd H l (.lst ys))):=by
 intro pins s σ H xs us Q I r h;obtain⟨p,ys,rfl,hq,q⟩:=h;obtain⟨u,rfl,rx⟩:=vals1 r;cases rx;have fin:∀(its:List Value),Vals ys its->ys.length<=sizeLine->∀(h':Heap) (c':Nat),(∀b o',s.heap.get? b=some o'->h'.get? b=some o')->
   h'.get? s.heap.objs.size=some { cls:=.type "list",dict:=none,data:=.seq its.toArray c',slots:=#[] }->EP X pins σ Q (.ref s.heap.objs.size) { s with heap:=h' }:=fun its r' hz h' c' kp e=>
  ⟨.ref s.heap.objs.size,_,I.laid (t':=s.toks) kp (Nat.le_refl _) (show ObjOk X.prog X.w _ h' _ (.lst ys) from⟨hz,its,c',r',e⟩),rfl,q _ (I.hok.fresh (Nat.le_refl _))⟩
 rcases hq with hq|hq
 ·obtain⟨its,r',pl,hz⟩:=I.list hq;have hlen:=r'.length;obtain⟨o,ho,hc,n,hd⟩:=pl.isList;exact call_list_seq p (.inl rfl) ho hc hd (fun h' c' kp e=>fin its r' hz h' c' kp e) (by simp only[List.size_toArray]<;>omega)
 ·obtain⟨its,r',pl,hz⟩:=I.tuple hq;have hlen:=r'.length;obtain⟨o,ho,hc,n,hd⟩:=pl;exact call_list_seq p (.inr rfl) ho hc hd (fun h' c' kp e=>fin its r' hz h' c' kp e) (by simp only[List.size_toArray]<;>omega)
theorem call_tuple_of:CallR X (.type "tuple") (fun xs H Q=>∃p ys,xs=[.ref p]/\((SqL X.K H p ys/\∀l,H l=none->Q (.ref l) (upd H l (.tup ys)))\/(SqT X.K H p ys/\Q (.ref p) H))):=by
 intro pins s σ H xs us Q I r h;obtain⟨p,ys,rfl,h⟩:=h;obtain⟨u,rfl,rx⟩:=vals1 r;cases rx;rcases h with⟨hq,q⟩|⟨hq,q⟩
 ·obtain⟨its,r',pl,hz⟩:=I.list hq;have hlen:=r'.length;refine call_tuple_list pl.isList (fun h' kp=>?_) (by simp only[List.size_toArray]<;>omega);have I1:Inv X pins σ H { s with heap:=h' }:=I.kept (t':=s.toks) kp;have I2:Inv X pins σ (upd H h'.objs.size (.tup ys)) { s with heap:=h'.push { cls:=.type "tuple",data:=.seq its.toArray } }:=
   I1.laid (t':=s.toks) (fun b o e=>Heap.get?_push_of_some _ e) (Nat.le_refl _) (show ObjOk X.prog X.w _ _ _ (.tup ys) from⟨hz,its,r',TupN.new _ _⟩)
  exact⟨.ref h'.objs.size,_,I2,rfl,q _ (I1.hok.fresh (Nat.le_refl _))⟩
 ·obtain⟨its,r',pl,hz⟩:=I.tuple hq;exact call_tuple_same pl ⟨.ref p,H,I,rfl,q⟩
def tyV (K:PySem.W.Frag)(T:String)(x:V)(H:Hp):Prop:=match x with
 | .str _=>T="str"
 | .int _=>T="int"
 | .ref p=>(T="list"/\∃xs,SqL K H p xs)\/(T="tuple"/\∃o,K.lookup p=some o/\o.cls=.type "tuple"/\o.dict=none)\/
   (T="dict"/\((∃kvs,H p=some (.dK kvs))\/∃kvs,H p=some (.dT kvs)))\/(T="set"/\∃S n,H p=some (.set S n))
 |_=>False
theorem tyV_is {pins:List (Addr×Obj)}{σ:St}{H:Hp}{s:Shared}{T:String}{x:V}{v:Value}(I:Inv X pins σ H s)(r:RelV x v)(ty:tyV X.K T x H) :
  s.TypeIs v T/\∀a,v=.ref a->∃ob,s.heap.get? a=some ob/\ob.dict=none:=by
 cases x with
 |str z=>
  obtain⟨t,rfl⟩:=r;cases(show T="str" from ty);exact⟨typeIs_str s z t,fun _ e=>nomatch e⟩
 |int i=>
  obtain⟨t,rfl⟩:=r;cases(show T="int" from ty);exact⟨typeIs_int s i t,fun _ e=>nomatch e⟩
 |ref p=>
  cases r;rcases ty with⟨rfl,xs,hq⟩|⟨rfl,o,hk,hc,hd⟩|⟨rfl,hk⟩|⟨rfl,S,n,hk⟩
  ·obtain⟨its,_,pl,_⟩:=I.list hq;refine⟨pl.isList.typeIs,fun a e=>?_⟩;cases e;obtain⟨o,n,e,c,hd,_⟩:=pl;exact⟨o,e,hd⟩
  ·refine⟨⟨o,I.kIn p o hk,hc⟩,fun a e=>?_⟩;cases e;exact⟨o,I.kIn _ o hk,hd⟩
  ·have z:∃o,s.heap.get? p=some o/\o.ExactDict:=by
    rcases hk with⟨kvs,hk⟩|⟨kvs,hk⟩
    ·obtain⟨_,_,_,_,o,_,_,e,ex,_⟩:=I.hok p _ hk;exact⟨o,e,ex⟩
    ·obtain⟨_,_,_,_,o,_,_,e,ex,_⟩:=I.hok p _ hk;exact⟨o,e,ex⟩
   obtain⟨o,e,ex⟩:=z;refine⟨⟨o,e,ex.1⟩,fun a e2=>?_⟩;cases e2;exact⟨o,e,ex.2.1⟩
  ·obtain⟨o,_,_,_,e,ex,_⟩:=I.hok p _ hk;refine⟨⟨o,e,ex.1⟩,fun a e2=>?_⟩;cases e2;exact⟨o,e,ex.2.1⟩
 |_=>exact False.elim ty
def tBM (K:PySem.W.Frag)(T:String)(r:V->List V->Hp->VK->Prop)(to:TE)(t:TA):TE:=fun σ H Q=>to σ H fun x H1=>tyV K T x H1/\t σ H1 fun xs H2=>r x xs H2 Q
variable {o e:Expr}{es:List Expr}{to:TE}{t:TA}{name:Str}{apos cpos:Pos}{T id:String}{r:V->List V->Hp->VK->Prop}
theorem pe_bm (pa:PlainAttrs T) (slot:Slot T name id) (hty:typeOf (.builtin id)=pure (.type "method_descriptor")) (hm:MtR X id r) (ho:PE X o to) (ha:PA X (e::es) t)
  (hbase:attributeBase o name X.env (eval o X.env)=eval o X.env:=by rfl)
  (hfew:((backTo cpos (starEach (e::es) X.env)).all (fun x=>!x.1)&&(backToKw cpos (keywordEach [] X.env)).all (fun x=>x.1.isSome)
   && decide ((e::es).length+([]:List Keyword).length+(if([]:List Keyword).isEmpty then 0 else 1)<30))=true:=by rfl)
  (hline:(apos.endLine == cpos.line)=true:=by rfl) (hs:starEach (e::es) X.env=(false,eval e X.env)::starEach es X.env:=by rfl) (hplain:(backTo cpos (starEach es X.env)).any (·.1)=false:=by rfl) :
  PE X (.Call (.Attribute o name apos) (e::es) [] cpos) (tBM X.K T r to t):=by
 intro pins s σ H Q I h;refine wpAny_Call_method_late hbase hfew hline rfl (thn (ho pins s σ H _ I h) fun v s1 ⟨x,H1,I1,r1,ty,q1⟩=>?_);obtain⟨h1,h2⟩:=tyV_is I1 r1 ty;refine⟨T,id,pa,slot,hty,h1,h2,?_⟩;have hA:=ha cpos pins s1 σ H1 _ I1 q1;rw[hs] at hA ⊢;refine Calls.callWith_builtin (by show(false||(backTo cpos (starEach es X.env)).any (·.1))=false;rw[hplain]<;>rfl) (Calls.evalArgs_plain ?_);exact thn hA fun us s2 ⟨vs,H2,I2,r2,q2⟩=>hm pins s2 σ H2 x vs v us Q I2 r1 r2 q2
end
def MtM (X:Cx)(id:String)(r:V->List V->Hp->VK->Prop):Prop:=
 ∀(pins:List (Addr×Obj)) (s:Shared) (σ:St) (H:Hp) (x:V) (xs:List V) (v:Value) (us:List Value) (Q:VK),Inv X pins σ H s->RelV x v->Vals xs us->r x xs H Q->
  wpAny (model X.prog X.w) X.A (call (.builtin id) (v::us)) (EP X pins σ Q) X.xe s
theorem Vals.one:∀{x:V} {us:List Value},Vals [x] us->∃u,us=[u]/\RelV x u
 |_,_,.cons r .nil=>⟨_,rfl,r⟩
theorem Vals.zero:∀{us:List Value},Vals [] us->us=[]
 |_,.nil=>rfl
theorem Vals.dropLast {xs:List V}{us:List Value}(h:Vals xs us):Vals xs.dropLast us.dropLast:=by
 induction h with
 |nil=>exact .nil
 |cons r t ih=>
  cases t with
  |nil=>exact .nil
  |cons q t'=>exact .cons r ih
theorem Vals.eraseIdx:∀{xs:List V} {us:List Value} (i:Nat),Vals xs us->Vals (xs.eraseIdx i) (us.eraseIdx i)
 |_,_,_,.nil=>.nil
 |_,_,0,.cons _ t=>t
 |_,_,i+1,.cons r t=>.cons r (Vals.eraseIdx i t)
theorem Vals.reverse {xs:List V}{us:List Value}(h:Vals xs us):Vals xs.reverse us.reverse:=by
 induction h with
 |nil=>exact .nil
 |cons r t ih=>rw[List.reverse_cons,List.reverse_cons];exact Vals.append ih (.cons r .nil)
theorem Vals.rep {xs:List V}{us:List Value}(h:Vals xs us):∀k:Nat,Vals (List.replicate k xs).flatten (List.replicate k us).flatten
 |0=>.nil
 |k+1=>by
  rw[List.replicate_succ,List.replicate_succ,List.flatten_cons,List.flatten_cons];exact Vals.append h (Vals.rep h k)
theorem foldl_rep (its:List Value):∀(k:Nat) (acc:List Value),
  List.foldl (fun x1 x2=>x1++x2) acc.toArray (List.replicate k its.toArray)=(acc++(List.replicate k its).flatten).toArray
 |0,acc=>by simp
 |k+1,acc=>by
  have e:acc.toArray++its.toArray=(acc++its).toArray:=by simp
  have e2:(acc++its)++(List.replicate k its).flatten=acc++(List.replicate (k+1) its).flatten:=by
   rw[List.replicate_succ,List.flatten_cons,List.append_assoc]
  rw[<-e2,<-foldl_rep its k (acc++its),<-e,List.replicate_succ,List.foldl_cons]
section
variable {X:Cx}{pins:List (Addr×Obj)}{σ:St}{H:Hp}{s:Shared}{l b:Addr}{xs ys zs:List V}
theorem Inv.lset {its its':List Value} {n:Nat} {f:Array Value->Array Value} {t':Nat} (I:Inv X pins σ H s) (hH:H l=some (.lst xs))
  (e:s.heap.get? l=some { cls:=.type "list",data:=.seq its.toArray n }) (hf:f its.toArray=its'.toArray) (hv:Vals ys its') (hz:ys.length<=sizeLine) :
  Inv X pins σ (upd H l (.lst ys)) { s with heap:=s.heap.update l (Obj.mapSeq f),toks:=t' }:=by
 have q:=PySem.IsL.update e f;rw[hf] at q;refine I.write (x:=l) (e:=l) (by rw[hH];exact trivial) (.inl rfl) (fun b' u hb hu=>(Heap.get?_update_other s.heap (Obj.mapSeq f) (Ne.symm hb)).trans hu) ⟨_,q⟩ ?_;exact⟨hz,its',_,hv,q⟩
theorem Inv.lnew {its:List Value}{t':Nat}(I:Inv X pins σ H s)(hv:Vals ys its)(hz:ys.length<=sizeLine) :
  Inv X pins σ (upd H s.heap.objs.size (.lst ys)) { s with heap:=s.heap.push { cls:=.type "list",data:=.seq its.toArray },toks:=t' }:=
 I.laid (fun _ _ q=>Heap.get?_push_of_some _ q) (Nat.le_refl _) ⟨hz,its,0,hv,Heap.get?_push_size _ rfl⟩
theorem Inv.fresh (I:Inv X pins σ H s):H s.heap.objs.size=none:=I.hok.fresh (Nat.le_refl _)
theorem Inv.lstM (I:Inv X pins σ H s)(hH:H l=some (.lst xs)):xs.length<=sizeLine/\∃(its:List Value) (n:Nat),Vals xs its/\xs.length=its.length/\s.heap.get? l=some { cls:=.type "list",data:=.seq its.toArray n }:=by
 obtain⟨z,its,n,r,e⟩:=I.hok l _ hH;exact⟨z,its,n,r,r.length,e⟩
theorem notLongL {n:Nat}(h:n<=sizeLine):Builtin.List.listTooLong n=false:=by
 unfold Builtin.List.listTooLong;exact decide_eq_false (by omega)
end
section
variable {X:Cx}
def rAppend:V->List V->Hp->VK->Prop:=fun x vs H Q=>∃l xs y,x=.ref l/\vs=[y]/\H l=some (.lst xs)/\xs.length<sizeLine/\Q .non (upd H l (.lst (xs++[y])))
theorem mt_append:MtM X "list.append" rAppend:=by
 intro pins s σ H x vs v us Q I rx rv h;obtain⟨l,xs,y,rfl,rfl,hH,hz,q⟩:=h;cases rx;obtain⟨u,rfl,ru⟩:=rv.one;obtain⟨z,its,n,r,hl,e⟩:=I.lstM hH;refine call_meets F.slot_list_append ⟨_,e,rfl⟩ F.entry_list_append (F.args_list_append_2 _ _) (PySem.list_append l its.toArray n u (by rw[List.size_toArray];omega)) ⟨e,?_⟩;refine⟨.non,_,I.lset (its':=its++[u]) hH e (by simp) (r.append (.cons ru .nil)) ?_,rfl,q⟩;rw[List.length_append,List.length_singleton];omega
def rExtend:V->List V->Hp->VK->Prop:=fun x vs H Q=>∃l b xs zs,x=.ref l/\vs=[.ref b]/\H l=some (.lst xs)/\H b=some (.lst zs)/\xs.length+zs.length<=sizeLine/\Q .non (upd H l (.lst (xs++zs)))
theorem mt_extend:MtM X "list.extend" rExtend:=by
 intro pins s σ H x vs v us Q I rx rv h;obtain⟨l,b,xs,zs,rfl,rfl,hH,hB,hz,q⟩:=h;cases rx;obtain⟨u,rfl,ru⟩:=rv.one;cases ru;obtain⟨z,its,n,r,hl,e⟩:=I.lstM hH;obtain⟨z2,its2,n2,r2,hl2,e2⟩:=I.lstM hB;have hsz:its.toArray.size+its2.toArray.size<=sizeLine:=by rw[List.size_toArray,List.size_toArray];omega
 have hlong:¬(!its.toArray.isEmpty&&Builtin.List.listTooLong (its.toArray.size+its2.toArray.size))=true:=by
  rw[notLongL hsz,Bool.and_false];exact Bool.false_ne_true
 refine call_meets F.slot_list_extend ⟨_,e,rfl⟩ F.entry_list_extend (F.args_list_extend_2 _ _)
  (AutoSeq1.list_extend_list_list_0 l its.toArray n b its2.toArray n2 hlong (by rw[List.size_toArray];omega) (by omega)) ⟨e,e2,?_⟩
 refine⟨.non,_,I.lset (its':=its++its2) hH e (by simp) (r.append r2) ?_,rfl,q⟩;rw[List.length_append];omega
def rRep:R2:=fun x y H Q=>∃l k xs,x=.ref l/\y=.int k/\H l=some (.lst xs)/\-(2^63)<=k/\k<2^63/\xs.length*k.toNat<=sizeLine/\
 ∀p,H p=none->Q (.ref p) (upd H p (.lst (List.replicate k.toNat xs).flatten))
theorem len_rep {α:Type}(xs:List α)(k:Nat):(List.replicate k xs).flatten.length=k*xs.length:=by
 induction k with
 |zero=>simp
 |succ k ih=>rw[List.replicate_succ,List.flatten_cons,List.length_append,ih,Nat.succ_mul,Nat.add_comm]
theorem op_rep:OpR X (binaryOp .Mult) rRep:=by
 intro pins s σ H x y v u Q I rx ry h;obtain⟨l,k,xs,rfl,rfl,hH,h1,h2,hz,q⟩:=h;cases rx;obtain⟨t,rfl⟩:=ry;obtain⟨z,its,n,r,hl,e⟩:=I.lstM hH;have hlen:its.toArray.size*k.toNat<=sizeLine:=by rw[List.size_toArray,<-hl];exact hz
 have hcap:¬its.toArray.size*k.toNat>(2^63-1)/8:=by
  have:(sizeLine:Nat)<=(2^63-1)/8:=by decide
  omega
 have hfit:¬(!Builtin.List.listFitsIndex k)=true:=by
  rw[fitsIndex_both h1 h2];exact Bool.false_ne_true
 have hlong:¬Builtin.List.listTooLong (its.toArray.size*k.toNat)=true:=by
  rw[notLongL hlen];exact Bool.false_ne_true
 have hnew:List.foldl (fun x1 x2=>x1++x2) #[] (List.replicate (if its.toArray.isEmpty=true then 0 else k.toNat) its.toArray)=(List.replicate k.toNat its).flatten.toArray:=by
  have f0:∀m:Nat,List.foldl (fun x1 x2=>x1++x2) #[] (List.replicate m its.toArray)=(List.replicate m its).flatten.toArray:=fun m=>by
   have:=foldl_rep its m [];rw[List.nil_append] at this;exact this
  rw[f0];cases its with
  |nil=>simp
  |cons a r'=>rw[if_neg (by simp)]
 refine wpAny_binaryOp_repeat_ref (T:="list") (U:="int") (by decide) ⟨_,e,rfl⟩ (fun s'=>typeIs_int s' k t) noFill_list_mul F.fills_int_mul F.slot_int_rmul repeat_list F.slot_int_index.lookup
  (call_meets F.slot_int_rmul (typeIs_int s k t) F.entry_int_rmul (F.args_int_rmul_2 _ _) (int___rmul___int_list k t l its.toArray n)
   ⟨e,rfl,⟨_,e,rfl⟩,call_meets F.slot_list_mul ⟨_,e,rfl⟩ F.entry_list_mul (F.args_list_mul_2 _ _) (AutoListH.list___mul___list_int_3 l its.toArray n k t hfit hcap hlong) ⟨e,?_⟩⟩)
 rw[hnew];exact⟨.ref _,_,I.lnew (t':=s.toks) (r.rep k.toNat) (by rw[len_rep,Nat.mul_comm];exact hz),rfl,q _ I.fresh⟩
end
end L2
namespace Att
open PySem PySem.W PySem.Calls PyProof.Rows
theorem ints_of_wellAll {P:Params}{h:Heap}:∀(ns:List Int) (vs:List Value),WellAll P h vs (ns.map WData.int)->IntsAre vs ns:=by
 intro ns
 induction ns with
 |nil=>
  intro vs w;rw[List.map_nil] at w;cases w;exact .nil
 |cons n ns ih=>
  intro vs w;rw[List.map_cons] at w;cases w with
  |cons a b=>
   cases a;exact .cons _ _ (ih _ b)
theorem script_of {l:OpenLaw} {n:Nat} (hn:l.most=some n) {P:Params} {h:Heap} {args:List WData} {vals:List Value}
  (hpre:l.row.toRowW.claim.pre args=true) (hwl:WellAll P h vals args) :
  ∃a vs ns,vals=[Value.ref a]/\args=[WData.list (ns.map WData.int)]/\h.get? a=some { cls:=.type "list",data:=.seq vs.toArray }/\IntsAre vs ns/\ns.length<=n:=by
 have hsh:WShape.hasAll [] args [.list .int]=true:=(pre_splitW hpre).1;have hc:l.pre.holds [] { args:=args }=true:=(pre_splitW hpre).2;obtain⟨d,r,rfl,h1,h2⟩:=hasAllW_cons hsh;obtain rfl:=hasAllW_nil h2;obtain⟨xs,rfl,h3⟩:=hasW_list h1;obtain⟨ns,rfl⟩:=items_int h3;have hlen:ns.length<=n:=by
  unfold OpenLaw.pre at hc;have h4:(WTm.not (.lt (.lit (.int (n:Int))) (.len (.arg 0)))).holds [] { args:=[.list (ns.map .int)] }=true:=by
   have h4:=(holds_andW hc).1;rw[hn] at h4;exact h4
  have h5:=condW_of h4 (w_not (w_lt w_lit (w_len_list (w_arg rfl))));rw[List.length_map] at h5;refine Nat.le_of_not_lt fun q=>?_
  have q':(n:Int)<((ns.length:Nat):Int):=by omega
  first
   |(rw[decide_eq_true q'] at h5;exact absurd h5 (by decide))
   |(simp at h5;omega)
 cases hwl with
 |cons w1 w2=>
  cases w2;cases w1 with
  |list ho hall=>exact⟨_,_,ns,rfl,rfl,ho,ints_of_wellAll ns _ hall,hlen⟩
theorem post_true (l:OpenLaw)(args:List WData):l.row.toRowW.claim.post args (.bool true) args=true:=
 postW_of (r:=l.row.toRowW) (X:=(true == true))
  (show WShape.has [] (.bool true) .bool=true by first|rfl|decide|simp[WShape.has,WShape.arms,WShape.armsAll])
  (show(WTm.eq .res (.lit (.bool true))).value [] { args:=args,res:=some (.bool true),after:=args }=some (.bool (true == true)) from w_eq_bool (w_res rfl) w_lit) rfl
theorem attach_call {l:OpenLaw} {n:Nat} {q:Program} {loose:List Str} {XP:(Str->Option Value)->Heap->Prop} {YP:World->Heap->Prop} {d:DefRec}
  (hn:l.most=some n) (hdf:d.params.defaults=[])
  (call:∀(w:World) (s₀ s₁:Shared) (mg mb:Str->Option Value) (fa:Addr) (o:Obj) (pm cd doc:Value) (a:Addr) (vs:List Value) (ns:List Int),
   Ground q loose [] XP w s₀ mg mb s₁.heap->YP w s₁.heap->
   s₁.heap.get? fa=some o->o.data=.func (docDef d.name d.params d.body d.scope pm cd doc)->s₁.heap.CodeRec cd d.name->mg d.name=some (.ref fa)->
   s₁.heap.get? a=some { cls:=.type "list",data:=.seq vs.toArray }->IntsAre vs ns->ns.length<=n->s₁.gens = #[]->
   codeAny (model l.prog w) callerA (.call (.ref fa) ⟨[.ref a],[]⟩) (fun r s'=>r=.ok (.ret (.bool true))/\OldK s₁.heap s'.heap/\s'.os=s₁.os/\AllBare s'.gens) s₁) :
  WalkO q loose XP YP l.row.toRowW d [] (fun f vs=>PySem.call f vs):=by
 intro w s₀ s₁ mg mb G Y fa o pm cd doc dV kV ho hd hcd hD hmg hg args vals as hpre hlay hrd hwl hlo;obtain rfl:dV=.none:=Dflts.none hD hdf;obtain rfl:kV=.none:=Dflts.noKw hD;obtain⟨a,vs,ns,rfl,rfl,hobj,hints,hlen⟩:=script_of hn hpre hwl;refine enter_call (codeAny_mono (call w s₀ s₁ mg mb fa o pm cd doc a vs ns G Y ho (fd_plain hd) hcd hmg hobj hints hlen hg) fun r s' hq=>?_);obtain⟨rfl,h2,h3,h4⟩:=hq;exact⟨.inl ⟨.bool true,.bool true,[],rfl,fun _=>rfl,.bool true,post_true l _,fun _=>⟨List.Pairwise.nil,fun _ hm=>(nomatch hm)⟩⟩,h2,h3,h4⟩
section
variable {prog:Program}{w:World}{A:Around}{E:Value->Shared->Prop}{s:Shared}{K:Frag}
def noObjs (h:Heap):Heap:={ h with objs:=#[] }
theorem noObjs_get (h:Heap)(b:Addr):(noObjs h).get? b=none:=by
 cases e:(noObjs h).get? b with
 |none=>rfl
 |some o=>exact absurd (Heap.lt_size e) (Nat.not_lt_zero _)
def ledger (h:Heap)(L d:Addr):List (Addr×Obj):=(List.range h.objs.size).filterMap fun a=>if a=L\/a=d then none else(h.get? a).map fun o=>(a,o)
theorem mem_ledger {h:Heap}{L d a:Addr}{o:Obj}:(a,o)∈ledger h L d↔a≠L/\a≠d/\h.get? a=some o:=by
 unfold ledger;rw[List.mem_filterMap];constructor
 ·rintro⟨b,_,e⟩
  split at e
  ·cases e
  ·rename_i hb
   obtain⟨o',ho,e'⟩:=Option.map_eq_some_iff.mp e;cases e';exact⟨fun q=>hb (.inl q),fun q=>hb (.inr q),ho⟩
 ·rintro⟨n1,n2,ho⟩
  refine⟨a,List.mem_range.mpr (Heap.lt_size ho),?_⟩;rw[if_neg (show ¬(a=L\/a=d) from fun q=>q.elim n1 n2),ho]<;>rfl
theorem news_ledger {h:Heap}{L d:Addr}{od:Obj}(hne:d≠L)(ho:h.get? d=some od):News (noObjs h) L h ([]++(d,od)::ledger h L d):=by
 rintro⟨a,o⟩ hp
 rcases List.mem_cons.mp hp with e|hp
 ·cases e;exact⟨ho,hne,noObjs_get _ _⟩
 ·obtain⟨n1,n2,e⟩:=mem_ledger.mp hp;exact⟨e,n1,noObjs_get _ _⟩
theorem fr_all {h:Heap}{L:Addr}{m:Str->Option Value}(n:h.Ns L m):Fr (noObjs h) L h m:=
 ⟨n,fun b o e=>(by rw[noObjs_get] at e;cases e),Nat.zero_le _⟩
theorem set_field {x C dx L:Addr} {ox:Obj} {m:Str->Option Value} {es es':List DictEntry} {n n':Nat} {name:Str} {v:Value} {Q:Unit->Shared->Prop}
  (X:K.In s.heap) (I:PySem.W.InstAt s.heap x ox C (some (dictOf es n))) (hd:ox.dict=some dx) (hL:s.heap.Ns L m) (hne:dx≠L)
  (hs:findIn K (.ref C) "__setattr__"=some (some (.builtin "object.__setattr__"))) (hp:plainOver K C=true) (ht:takerIn K C name=some none) (hh:hasDictIn K C=true) (hl:(getL name es).isSome=true)
  (e:(putL name (PyData.keyHash w.params name) (.str name (s.toks+1)) v es,putN name es n)=(es',n')) (hz:es'.length<=1000)
  (h:∀h':Heap,h'.Ns L m->h'.get? dx=some (dictOf es' n')->(∀b o,b≠dx->b≠L->s.heap.get? b=some o->h'.get? b=some o)->Q () { s with heap:=h',toks:=s.toks+2 }) :
  wpAny (model prog w) A (setAttr (.ref x) name v) Q E s:=by
 obtain⟨e1,e2⟩:=Prod.mk.inj e;have hdx:s.heap.get? dx=some (dictOf es n):=by
  have:=I.dict;rw[hd] at this;exact this
 refine set_plain X I hs (osa_dict (s:={ s with toks:=s.toks+1 }) (h₀:=noObjs s.heap) (L:=L) (m:=m) (od:=dictOf es n) (od':=dictOf es' n') (es:=es') (n:=n') (pre:=[]) (post:=ledger s.heap L dx)
  (fr_all hL) (news_ledger hne hdx) X I hd hp ht hh hl (fun _ q=>nomatch q) (fun⟨_,_⟩ q=>(mem_ledger.mp q).2.1) (by rw[putName_dict,e1,e2]) rfl hz fun h' F' N'=>?_)
 exact h h' F'.ns (N'.get (List.Mem.head _)) fun b o n1 n2 ho=>N'.get (List.Mem.tail _ (mem_ledger.mpr ⟨n2,n1,ho⟩))
end
end Att
namespace L2
open PySem PySem.Spec PyProof.Rows
theorem vals_ints:∀{vs:List Value} {ns:List Int},IntsAre vs ns->Vals (ns.map V.int) vs
 |_,_,.nil=>.nil
 |_,_,.cons n t h=>.cons ⟨t,rfl⟩ (vals_ints h)
def Only (H:Hp):Prop:=∀b,H b=none\/∃o xs,H b=some (.frz o (.lst xs))
theorem law_call {P:Program} {w:World} {K:PySem.W.Frag} {mg mb:Str->Option Value} {CX:CXT} {k:Nat} {fa a:Addr} {fd:FuncData} {x:Str} {sp:Sp} {s₁:Shared} {vs:List Value} {ns:List Int}
  (KX:K.In s₁.heap) (hns:s₁.heap.Ns mainGlobals mg) (hb:s₁.heap.Ns builtinsNs mb) (hbb:∀x:Str,x≠"__name__"->mb x=bootBuiltins x) (hlim:s₁.heap.NoLimit) (hg:s₁.gens = #[])
  (ha:s₁.heap.get? a=some { cls:=.type "list",data:=.seq vs.toArray }) (hi:IntsAre vs ns) (hl:ns.length<=sizeLine) (hr:Room k callerA)
  (F:∀base:Heap,K.In base->base.Ns mainGlobals mg->FnOk P w K mg base CX k fa fd [x] sp) (hbind:∀(s:Shared) (u:Value),BindsTo s fd ⟨[u],[]⟩ [(x,u)])
  (hsp:∀H:Hp,Only H->SqL K H a (ns.map V.int)->sp [.ref a] H (fun v _=>v=.bl true) fun _ _ _=>False)
  (hCX:∀H e s',CX [] H s₁ (fun _ _ _=>False) e s'->False) :
  codeAny (model P w) callerA (.call (.ref fa) ⟨[.ref a],[]⟩) (fun r s'=>r=.ok (.ret (.bool true))/\OldK s₁.heap s'.heap/\s'.os=s₁.os/\AllBare s'.gens) s₁:=by
 have rv:=vals_ints hi;have lenV:=hi.length;have core:∀H:Hp,Only H->SqL K H a (ns.map V.int)->HOk P w H s₁.heap->(∀b,H b≠none->b=a)->(H a≠none->K.lookup a=none)->
   codeAny (model P w) callerA (.call (.ref fa) ⟨[.ref a],[]⟩) (fun r s'=>r=.ok (.ret (.bool true))/\OldK s₁.heap s'.heap/\s'.os=s₁.os/\AllBare s'.gens) s₁:=by
  intro H hO hS hok hA hK;have base_of:∀{b:Addr} {o:Obj},s₁.heap.get? b=some o->H b=none->(hidT s₁.heap H).get? b=some o:=fun e n=>hidT_get e n
  have noA:∀{b:Addr} {o:Obj} {es:Array DictEntry} {ep:Nat},s₁.heap.get? b=some o->o.data=.dict es ep->H b=none:=fun{b o es ep} e d=>by
   cases q:H b with
   |none=>rfl
   |some u=>
    have e':b=a:=hA b (by rw[q];simp);subst e';rw[ha] at e;cases e;have d':Data.seq vs.toArray _=Data.dict es ep:=d;cases d'
  have nsK:∀{b:Addr} {m:Str->Option Value},s₁.heap.Ns b m->(hidT s₁.heap H).Ns b m:=fun{b m} ⟨o,es,ep,e,d,r⟩=>⟨o,es,ep,base_of e (noA e d),d,r⟩
  have hKb:K.In (hidT s₁.heap H):=fun b o e=>base_of (KX b o e) (by
   cases q:H b with
   |none=>rfl
   |some u=>
    have e':b=a:=hA b (by rw[q];simp);subst e';rw[hK (by rw[q];simp)] at e;cases e)
  have hM:Mod K mg (hidT s₁.heap H):=⟨hKb,nsK hns,⟨mb,nsK hb,hbb⟩,let⟨mc,h1,h2⟩:=hlim;⟨mc,nsK h1,h2⟩⟩
  have e0:Env0 P w K mg (hidT s₁.heap H) callerA [] s₁ H:=⟨rfl,hM,fun b o e=>of_hidT e,Nat.le_of_eq (hidT_size _ _),trivial,fun b hb=>absurd (show b∈([]:List Addr) from hb) (by simp),hok,.of_eq hg⟩
  refine codeAny_mono ((F _ hKb (nsK hns)).run callerA [] s₁ H ⟨[.ref a],[]⟩ [.ref a] [.ref a] _ _ hr e0 (hbind s₁ (.ref a)) (.cons rfl .nil) (hsp H hO hS)) fun r s' h=>?_
  cases r with
  |error e=>exact(hCX H e s' h).elim
  |ok fl=>
   cases fl with
   |next=>exact False.elim h
   |brk=>exact False.elim h
   |cont=>exact False.elim h
   |ret u=>
    obtain⟨v,H',os,bare,un,hok',r',q⟩:=h;have q':v=.bl true:=q;subst q';obtain rfl:u=Value.bool true:=r';refine⟨rfl,OldK.of_keep fun b o e=>?_,os,bare⟩;cases q:H b with
    |none=>exact un.keep b o e q (by intro z;exact absurd (show b∈([]:List Addr) from z) (by simp)) (by simp)
    |some u=>
     rcases hO b with z|⟨ob,xs,z⟩
     ·rw[q] at z;cases z
     ·have z2:=un.frzs b ob _ z;obtain⟨e1,_⟩:=hok b _ z;obtain⟨e2,_⟩:=hok' b _ z2;rw[e] at e1;cases e1;exact e2
 cases hk:K.lookup a with
 |some o=>
  have e:=KX a o hk;rw[ha] at e;cases e;refine core (fun _=>none) (fun _=>.inl rfl) (.inr ⟨_,vs.toArray,_,hk,rfl,rfl,rfl,by rw[List.size_toArray,lenV];exact hl,by simpa using rv⟩) (fun b u z=>by have z':(none:Option HO)=some u:=z;cases z') (fun b z=>absurd rfl z) fun z=>absurd rfl z
 |none=>
  refine core (fun b=>if b=a then some (.frz { cls:=.type "list",data:=.seq vs.toArray } (.lst (ns.map V.int))) else none) (fun b=>?_) (.inl (.inr ⟨{ cls:=.type "list",data:=.seq vs.toArray },if_pos rfl⟩)) (fun b u z=>?_) (fun b z=>?_) fun _=>hk
  ·by_cases hb:b=a
   ·exact .inr ⟨_,_,if_pos hb⟩
   ·exact .inl (if_neg hb)
  ·by_cases hb:b=a
   ·have z':=(if_pos hb).symm.trans z;cases z';subst hb;exact⟨ha,by rw[List.length_map];exact hl,vs,_,rv,ha⟩
   ·have z':=(if_neg hb).symm.trans z;cases z'
  ·by_cases hb:b=a
   ·exact hb
   ·exact absurd (if_neg hb) z
theorem walk_of {l:PySem.W.OpenLaw} {n k:Nat} {q:Program} {loose:List Str} {XP:(Str->Option Value)->Heap->Prop} {YP:World->Heap->Prop} {d:DefRec} {K:Params->PySem.W.Frag} {CX:World->CXT} {sp:World->Sp} {x:Str}
  (hn:l.most=some n) (hn2:n<=sizeLine) (hdf:d.params.defaults=[]) (hr:Room k callerA)
  (hY:∀(w:World) (h:Heap),YP w h->(K w.params).In h)
  (F:∀(w:World) (mg:Str->Option Value) (fa:Addr) (h:Heap),(K w.params).In h->h.Ns mainGlobals mg->mg d.name=some (.ref fa)->
   ∃fd:FuncData,(∀(s:Shared) (u:Value),BindsTo s fd ⟨[u],[]⟩ [(x,u)])/\
    ∀base:Heap,(K w.params).In base->base.Ns mainGlobals mg->FnOk l.prog w (K w.params) mg base (CX w) k fa fd [x] (sp w))
  (hsp:∀(w:World) (H:Hp) (a:Addr) (ns:List Int),ns.length<=n->Only H->SqL (K w.params) H a (ns.map V.int)->sp w [.ref a] H (fun v _=>v=.bl true) fun _ _ _=>False)
  (hCX:∀(w:World) (H:Hp) (s:Shared) (e:Value) (s':Shared),CX w [] H s (fun _ _ _=>False) e s'->False) :
  PySem.W.WalkO q loose XP YP l.row.toRowW d [] (fun f vs=>PySem.call f vs):=by
 refine Att.attach_call hn hdf fun w s₀ s₁ mg mb fa o pm cd doc a vs ns G Y ho hd hcd hmg hobj hints hlen hg=>?_
 have KX:=hY w _ Y;obtain⟨fd,hb,hF⟩:=F w mg fa _ KX G.T.g hmg;exact law_call KX G.T.g G.T.b G.T.builtins G.T.nolimit hg hobj hints (Nat.le_trans hlen hn2) hr hF hb (fun H hO hS=>hsp w H a ns hlen hO hS) fun H e s'=>hCX w H s₁ e s'
def inClass (s:Stmt)(j:Nat):Stmt:=match s with
 | .ClassDef _ _ _ body _ _ _ _ _ _ _=>body.getD j (.Pass ⟨0,0,0,0⟩)
 |_=>.Pass ⟨0,0,0,0⟩
def defArgs (s:Stmt):Arguments:=match s with
 | .FunctionDef _ a _ _ _ _ _ _ _ _=>a
 |_=>{ posonlyargs:=[],args:=[],vararg:=none,kwonlyargs:=[],kw_defaults:=[],kwarg:=none,defaults:=[] }
def defBody (s:Stmt):List Stmt:=match s with
 | .FunctionDef _ _ b _ _ _ _ _ _ _=>b
 |_=>[]
def defScope (s:Stmt):Scope:=match s with
 | .FunctionDef _ _ _ _ _ _ sc _ _ _=>sc
 |_=>{ kind:=.function,names:=[],isGenerator:=false,isCoroutine:=false }
abbrev CX0:CXT:=fun _ _ _ _ _ _=>False
abbrev E0:XK:=fun _ _ _=>False
theorem pass0 {X:Cx}:Passes CX0 X E0:=fun _ _ _ _ _ _ _ h=>h.elim
structure Fun (K:PySem.W.Frag) (x qual:Str) (st:Stmt) (f:Addr) (fd:FuncData):Prop where
 ex:∃(oc:Value) (od:Option Addr) (kV doc pm:Value) (an:Option Addr) (cdv ct:Value) (osl:Array (Option Value)),
  fd=PySem.W.fnOf x qual (defArgs st) (defBody st) (defScope st) .none kV doc pm an cdv ct/\K.lookup f=some ⟨oc,od,.func fd,osl⟩/\PySem.W.codeIn K cdv qual=true
 kp:PySem.W.keepIn K (.ref f)=true
section
variable {P:Program}{w:World}{K:PySem.W.Frag}{mg:Str->Option Value}{base:Heap}
theorem Fun.ok {x qual:Str} {st:Stmt} {f:Addr} {fd:FuncData} {N ps:List Str} {k:Nat} {sp:Sp} (F:Fun K x qual st f fd) (S:FnScope N ps (defScope st)) (len:∀vs H Q E,sp vs H Q E->vs.length=ps.length)
  (hbody:∀(cdv:Value) (A:Around) (outer:List Env) (s:Shared) (H:Hp) (vs:List V) (Q:VK) (E:XK),Room k (A.deeper (envOfC qual (defScope st) s.heap.objs.size f cdv))->sp vs H Q E->
   ∃t,PSs (cxOf CX0 P w K mg base N qual (defScope st) f cdv A outer s H E).nox (defBody st) t/\t { nx:=fun _ H'=>Q .non H',rt:=Q } (start N vs) H):FnOk P w K mg base CX0 (k+1) f fd ps sp:=by
 obtain⟨oc,od,kV,doc,pm,an,cdv,ct,osl,rfl,lk,hcd⟩:=F.ex;refine fn_of lk hcd S len fun A outer s H vs Q E hr hsp=>?_
 obtain⟨t,h,q⟩:=hbody cdv A outer s H vs Q E hr hsp;exact⟨t,h.nox,q⟩
theorem Fun.binds {x qual:Str} {st:Stmt} {f:Addr} {fd:FuncData} {ps:List Str} (F:Fun K x qual st f fd)
  (h:∀(kV doc pm:Value) (an:Option Addr) (cdv ct:Value) (us:List Value),us.length=ps.length->bindArgs (PySem.W.fnOf x qual (defArgs st) (defBody st) (defScope st) .none kV doc pm an cdv ct) ⟨us,[]⟩=pure (ps.zip us)):Binds K fd ps []:=by
 obtain⟨oc,od,kV,doc,pm,an,cdv,ct,osl,rfl,lk,hcd⟩:=F.ex;exact .all (h kV doc pm an cdv ct)
theorem fun_mk {x qual:Str} {st:Stmt} {f:Addr} {oc:Value} {od an:Option Addr} {osl:Array (Option Value)} {kV doc pm cdv ct:Value} (l:K.lookup f=some ⟨oc,od,.func (PySem.W.fnOf x qual (defArgs st) (defBody st) (defScope st) .none kV doc pm an cdv ct),osl⟩)
  (c:PySem.W.codeIn K cdv qual=true) (k:PySem.W.keepIn K (.ref f)=true):Fun K x qual st f (PySem.W.fnOf x qual (defArgs st) (defBody st) (defScope st) .none kV doc pm an cdv ct):=⟨⟨oc,od,kV,doc,pm,an,cdv,ct,osl,rfl,l,c⟩,k⟩
end
theorem hu_of {A:Around}{k:Nat}(hr:Room k A):A.units+1<cLine:=Nat.lt_of_le_of_lt (Nat.add_le_add_left (by decide:1<=64) _) hr.units
theorem small1000 {n:Nat}(h:n<=1000):n<sizeLine:=Nat.lt_of_le_of_lt h (by decide)
section
variable {X:Cx}
theorem pv (i:Nat) {x:Str} {pos:Pos} (hN:X.N[i]?=some x:=by rfl) (hv:Vis X.env.scope x:=by first|exact Or.inl rfl|exact Or.inr (Or.inl rfl)|exact Or.inr (Or.inr rfl)) (hd:(x == ("__debug__":Str))=false:=by decide)
  (hcd:(x == ("__classdict__":Str))=false:=by decide):PE X (.Name x pos) (tVar i):=pe_var hN hv hd hcd
end
theorem iteT {A B:Prop}(h:A):if true=true then A else B:=by
 rw[if_pos rfl];exact h
theorem ite2 {c A B:Prop}[Decidable c](h1:c->A)(h2:¬c->B):if c then A else B:=by
 by_cases h:c
 ·rw[if_pos h];exact h1 h
 ·rw[if_neg h];exact h2 h
def Same (H H':Hp):Prop:=∀b o,H b=some o->H' b=some o
theorem Same.refl (H:Hp):Same H H:=fun _ _ h=>h
theorem Same.trans {H H1 H2:Hp}(a:Same H H1)(b:Same H1 H2):Same H H2:=fun c o h=>b c o (a c o h)
theorem Same.free {H H':Hp}(e:Same H H'){l:Addr}(h:H' l=Option.none):H l=Option.none:=by
 cases q:H l with
 |none=>rfl
 |some o=>
  rw[e l o q] at h;cases h
theorem Same.seq {K:PySem.W.Frag}{H H':Hp}{a:Addr}{xs:List V}(e:Same H H')(h:SqL K H a xs):SqL K H' a xs:=by
 rcases h with(h|⟨o,h⟩)|h
 ·exact .inl (.inl (e _ _ h))
 ·exact .inl (.inr ⟨o,e _ _ h⟩)
 ·exact .inr h
end L2
set_option maxHeartbeats 1000000
namespace L2
open PySem PySem.Spec PyProof.Rows
section
variable {prog:Program}{w:World}{A:Around}{env:Env}{elt target iter:Expr}{ifs:List Expr}{scope:Scope}{pos:Pos}{it acc:Value}
abbrev testsOf (env:Env)(ifs:List Expr):Sem Bool:=forIn ifs true fun c r=>(if r=true then(do let ok <-isTrue c env (eval c env);pure (ForInStep.yield ok)) else pure (ForInStep.yield r))
abbrev OneTurn (prog:Program)(w:World)(A:Around)(env:Env)(elt target:Expr)(ifs:List Expr)(it acc:Value)(Ee:Value->Shared->Prop)(over on:Shared->Prop):Shared->Prop:=
 wpAny (model prog w) A (pyNext it) (fun|none,s1=>over s1|some v,s1=>wpAny (model prog w) A (letOwnedTupleGo target it v) (fun _ s2=>wpAny (model prog w) A (assign target env v) (fun _ s3=>wpAny (model prog w) A (testsOf env ifs) (fun ok s4=>
  if ok=true then wpAny (model prog w) A (eval elt env) (fun x s5=>wpAny (model prog w) A (call (.builtin "list.append") [acc,x]) (fun _=>on) (fun _ _=>False) s5) Ee s4 else on s4) Ee s3) Ee s2) (fun _ _=>False) s1) (fun _ _=>False)
theorem comp_turnsX {R:Result->Shared->Prop} {Ee:Value->Shared->Prop} (I:Nat->Shared->Prop) (hE:∀x s,Ee x s->notedBy (model prog w) A env (fun x s=>R (.error x) s) x s)
  (turn:∀n s,I n s->OneTurn prog w A env elt target ifs it acc Ee (R (.ok .next)) (fun s'=>∃m,m<n/\I m s') s) (n:Nat) {s:Shared} (h:I n s) :
  codeAny (model prog w) A (.compLoop (.ListComp elt [⟨target,iter,ifs,0⟩] scope pos) 0 it acc env) R s:=by
 have none':∀{Z:Value->Shared->Prop} (x:Value) (s:Shared),False->Z x s:=fun _ _ z=>z.elim
 refine codeAny_loop rfl I (fun k s1 h1=>?_) n h
 change wpAny _ A ((compTurn (.ListComp elt [⟨target,iter,ifs,0⟩] scope pos) 0 it acc env).onRaise (fun x=>do noteFrame x env;theTreesLotGoes x)) _ _ s1
 refine wpAny_noted ?_;rw[compTurn_list];refine wpAny_bind (wpAny_standAt (wpAny_bind (wpAny_mono (turn k s1 h1) (fun r s2 h2=>?_) none')))
 match r,h2 with
 |none,h2=>exact wpAny_pure h2
 |some v,h2=>
  refine wpAny_bind (wpAny_mono h2 (fun _ s3 h3=>wpAny_bind (wpAny_mono h3 (fun _ s4 h4=>wpAny_bind (wpAny_mono h4 (fun ok s5 h5=>?_) hE)) hE)) none')
  match ok,h5 with
  |false,h5=>exact wpAny_pure ⟨rfl,h5⟩
  |true,h5=>exact wpAny_bind (wpAny_bind (wpAny_mono h5 (fun x s6 h6=>wpAny_bind (wpAny_mono h6 (fun _ s7 h7=>wpAny_pure (wpAny_pure ⟨rfl,h7⟩)) none')) hE))
theorem comp_turns {R:Result->Shared->Prop}(I:Nat->Shared->Prop)(turn:∀n s,I n s->OneTurn prog w A env elt target ifs it acc (fun _ _=>False) (R (.ok .next)) (fun s'=>∃m,m<n/\I m s') s)(n:Nat){s:Shared}(h:I n s) :
  codeAny (model prog w) A (.compLoop (.ListComp elt [⟨target,iter,ifs,0⟩] scope pos) 0 it acc env) R s:=comp_turnsX I (fun _ _ z=>z.elim) turn n h
end
def PIfs (X:Cx)(ifs:List Expr)(t:TT):Prop:=
 ∀(pins:List (Addr×Obj)) (s:Shared) (σ:St) (H:Hp) (Q:Bool->Hp->Prop),Inv X pins σ H s->t σ H Q->
  wpAny (model X.prog X.w) X.A (forIn ifs true fun c r=>if r=true then do let ok <-isTrue c X.env (eval c X.env);pure (ForInStep.yield ok) else pure (ForInStep.yield r)) (TP X pins σ Q) X.xe s
def tYes:TT:=fun _ H Q=>Q true H
theorem pifs_nil {X:Cx}:PIfs X [] tYes:=fun _ _ _ H _ I h=>wpAny_tests_nil ⟨H,I,h⟩
theorem pifs_one {X:Cx}{c:Expr}{t:TT}(h:PT X c t):PIfs X [c] t:=fun pins s σ H Q I q=>wpAny_tests_one (h pins s σ H Q I q)
def cxComp (X:Cx)(scope:Scope)(cl:List (Str×Addr))(N:List Str)(C:Addr)(s:Shared)(H:Hp)(fp:List Addr):Cx:=
 { prog:=X.prog,w:=X.w,K:=X.K,mg:=X.mg,base:=X.base,A:=X.A,N:=N,s₀:=s,H₀:=H,env:=compEnvC scope cl C X.env,outer:=X.stack,stack:=X.stack,ex:=fp,fn:=fun _=>false,calm:=X.calm,pn:=[],xe:=fun _ _=>False }
def stC (fr:List (Option Nat))(σ:St):St:=fr.map fun o=>o.bind fun i=>(σ[i]?).bind id
def tCompK (fr:List (Option Nat))(g:TG)(tt:TT)(te:TE)(σ:St)(Q:VK)(J:It)(H1:Hp):Prop:=∀l,H1 l=none->∃W:Nat->Nat->St->Hp->Prop,(∃m,W 0 m (stC fr σ) (upd H1 l (.lst [])))/\∀i m σ H,W i m σ H->
 (J.stop i H/\Q (.ref l) H)\/(J.go i H/\∀x H',J.yld i H x H'->g x σ H' fun σ2 H2=>tt σ2 H2 fun b H3=>if b=true then te σ2 H3 fun v H4=>∃xs,H4 l=some (.lst xs)/\xs.length<sizeLine/\∃m',m'<m/\W (i+1) m' σ2 (upd H4 l (.lst (xs++[v])))
  else ∃m',m'<m/\W (i+1) m' σ2 H3)
def tComp (fr:List (Option Nat))(wi:TI)(g:TG)(tt:TT)(te:TE):TE:=fun σ H Q=>wi σ H (tCompK fr g tt te σ Q)
def compChk (XN:List Str)(xs sc:Scope)(N:List Str)(fr:List (Option Nat)):Bool:=
 decide (sc.kind=.function)&&decide (fr.length=N.length)&&(sc.names.all fun y=>!decide (y.2=.cell))&&(sc.names.all fun y=>!decide (y.2=.local)||decide (sc.names.lookup y.1=some .local)) &&
 (sc.names.all fun y=>!decide (y.2=.free)||(decide (xs.names.lookup y.1=some .cell)||decide (xs.names.lookup y.1=some .free))) &&
 ((N.zip fr).all fun p=>match p.2 with|none=>true|some i=>decide (XN[i]?=some p.1)&&decide (sc.names.lookup p.1=some .free))
def ClOk (cells:List (Str×Addr)):List (Str×Addr)->Prop
 |[]=>True
 |p::r=>cells.lookup p.1=some p.2/\ClOk cells r
theorem ClOk.get {cells:List (Str×Addr)}:∀{cl:List (Str×Addr)},ClOk cells cl->∀{x:Str} {c:Addr},cl.lookup x=some c->cells.lookup x=some c
 |[],_,_,_,h=>by cases h
 |(y,d)::r,k,x,c,h=>by
  rw[List.lookup_cons] at h;cases e:x == y with
  |true=>
   rw[e] at h;cases h;rw[eq_of_beq e];exact k.1
  |false=>
   rw[e] at h;exact ClOk.get k.2 h
def ClAll (cl:List (Str×Addr)):List (Str×NameKind)->Prop
 |[]=>True
 |p::r=>(p.2=.free->∃c,cl.lookup p.1=some c)/\ClAll cl r
theorem ClAll.get {cl:List (Str×Addr)}:∀{ns:List (Str×NameKind)},ClAll cl ns->∀y∈ns,y.2=.free->∃c,cl.lookup y.1=some c
 |[],_,_,h=>by cases h
 |p::r,k,y,h=>by
  rcases List.mem_cons.mp h with rfl|h
  ·exact k.1
  ·exact ClAll.get k.2 y h
theorem relabel_cell {env:Env}:∀{names:List (Str×NameKind)} {x:Str} {k:NameKind},(names.map fun(n,k)=>if(k == NameKind.free&&env.scope.kind == .function&&env.kindOf n == some .cell) then(n,NameKind.cell) else(n,k)).lookup x=some k->
  names.lookup x=some k\/(k=.cell/\names.lookup x=some .free)
 |[],_,_,h=>by cases h
 |(n,k0)::r,x,k,h=>by
  have ih:=@relabel_cell env r x k
  by_cases hc:(k0 == NameKind.free&&env.scope.kind == .function&&env.kindOf n == some .cell)=true
  ·simp only[List.map_cons,if_pos hc,List.lookup_cons] at h;rw[List.lookup_cons];cases e:x == n with
   |true=>
    rw[e] at h;cases h;simp only[Bool.and_eq_true] at hc;have:k0=.free:=by simpa using hc.1.1
    exact .inr ⟨rfl,by rw[this]⟩
   |false=>rw[e] at h;exact ih h
  ·simp only[List.map_cons,if_neg hc,List.lookup_cons] at h;rw[List.lookup_cons];cases e:x == n with
   |true=>rw[e] at h;exact .inl h
   |false=>rw[e] at h;exact ih h
theorem relabel_free {env:Env}:∀{names:List (Str×NameKind)} {x:Str},names.lookup x=some .free->
  (names.map fun(n,k)=>if(k == NameKind.free&&env.scope.kind == .function&&env.kindOf n == some .cell) then(n,NameKind.cell) else(n,k)).lookup x=some .cell\/
  (names.map fun(n,k)=>if(k == NameKind.free&&env.scope.kind == .function&&env.kindOf n == some .cell) then(n,NameKind.cell) else(n,k)).lookup x=some .free
 |[],_,h=>by cases h
 |(n,k0)::r,x,h=>by
  have ih:=@relabel_free env r x;rw[List.lookup_cons] at h
  by_cases hc:(k0 == NameKind.free&&env.scope.kind == .function&&env.kindOf n == some .cell)=true
  ·simp only[List.map_cons,if_pos hc,List.lookup_cons];cases e:x == n with
   |true=>exact .inl rfl
   |false=>rw[e] at h;exact ih h
  ·simp only[List.map_cons,if_neg hc,List.lookup_cons];cases e:x == n with
   |true=>rw[e] at h;exact .inr h
   |false=>rw[e] at h;exact ih h
section
variable {X:Cx}
theorem comp_core (N:List Str) (fr:List (Option Nat)) {elt tg iter:Expr} {ifs:List Expr} {scope:Scope} {pos fpos:Pos} {wi:TI} {g:TG} {tt:TT} {te:TE} {cl:List (Str×Addr)}
  (hc:X.calm=true) (hi:PI X tg iter wi) (hchk:compChk X.N X.env.scope scope N fr=true) (hclos:closureFor scope X.env=pure cl) (hcl:ClOk X.env.cells cl) (hall:ClAll cl scope.names)
  (hb:∀(C:Addr) (s:Shared) (H:Hp) (fp:List Addr),PG (cxComp X scope cl N C s H fp) tg g/\PIfs (cxComp X scope cl N C s H fp) ifs tt/\PE (cxComp X scope cl N C s H fp) elt te)
  (hs:∀x,foldedSetIterable iter X.env x=pure x) {pins:List (Addr×Obj)} {s:Shared} {σ:St} {H:Hp} {Q:VK} {use:Option (Value->Sem Unit)} {Qc:Value->Shared->Prop} (I:Inv X pins σ H s) (h:tComp fr wi g tt te σ H Q)
  (hfin:∀(l:Addr) (H':Hp) (s':Shared) (C:Addr),Inv X pins σ H' s'->FpOk X pins H' C->(∃m,s'.heap.Ns C m)->Q (.ref l) H'->compPost (model X.prog X.w) X.A X.xe use Qc (.ref l) C (.ok .next) s') :
  wpAny (model X.prog X.w) X.A (comprehension (.ListComp elt [⟨tg,iter,ifs,0⟩] scope pos) scope X.env fpos (newList []) (firstAsync [⟨tg,iter,ifs,0⟩]) (firstIter [⟨tg,iter,ifs,0⟩] X.env) use) Qc X.xe s:=by
 simp only[compChk,Bool.and_eq_true,decide_eq_true_eq,List.all_eq_true,Bool.or_eq_true,Bool.not_eq_true',decide_eq_false_iff_not] at hchk;obtain⟨⟨⟨⟨⟨hkind,hlen⟩,hcell⟩,hnames⟩,hfree⟩,hfr⟩:=hchk;have hnames':∀x∈scope.names,x.2=.local->scope.names.lookup x.1=some .local:=fun y hy e=>(hnames y hy).resolve_left fun z=>z e
 have hcell':∀x∈scope.names,x.2≠.cell:=fun y hy=>hcell y hy
 refine wpAny_comprehension_free (use:=use) rfl hs hclos hkind hnames' (thn (hi pins s σ H _ I h) fun v s1 h1=>thn h1 fun itv s2 h2=>?_);obtain⟨it,fp,tn,J,H2,e,I2,T,st2,f2,hQ⟩:=h2;subst e;refine wpAny_newObj_type (hd:=by size_fits) (wpAny_newFunctionEnv hcell' (by intro y hy;simp at hy) (fun h₁ hns hsb=>?_) hkind);dsimp only at hns hsb ⊢;obtain⟨W,⟨m0,w0⟩,turn⟩:=hQ s2.heap.objs.size I2.fresh;have I3:Inv X pins σ (upd H2 s2.heap.objs.size (.lst [])) { s2 with heap:=s2.heap.push { cls:=.type "list",data:=.seq ([]:List Value).toArray },toks:=s2.toks }:=I2.lnew (its:=[]) .nil (Nat.zero_le _);generalize hh3:s2.heap.push { cls:=.type "list",dict:=none,data:=.seq ([]:List Value).toArray }=h3 at hns hsb ⊢;rw[show s2.heap.push { cls:=.type "list",data:=.seq ([]:List Value).toArray }=h3 from hh3] at I3;generalize hH3:upd H2 s2.heap.objs.size (.lst [])=H3 at I3 w0;generalize hl:s2.heap.objs.size=l at turn hH3 ⊢;have hl3:l<h3.objs.size:=by rw[<-hh3,<-hl,Heap.size_push];exact Nat.lt_succ_self _
 generalize hs3:({ s2 with heap:=h3,toks:=s2.toks }:Shared)=s3 at I3;have es3:s3.heap=h3:=by rw[<-hs3]
 have eos:s3.os=s2.os:=by rw[<-hs3]
 have egens:s3.gens=s2.gens:=by rw[<-hs3]
 generalize hC:h3.objs.size=C at hns hsb ⊢;have old:∀b o,h3.get? b=some o->h₁.get? b=some o:=fun b o e=>
  hsb.extBut b o (by rw[<-hC];exact Nat.ne_of_lt (Heap.lt_size e)) (Heap.get?_push_of_some _ e)
 have f3:∀b∈fp,FpOk X pins H3 b:=fun b hb=>by
  obtain⟨g0,g1⟩:=f2 b hb;refine⟨?_,g1⟩;rw[<-hH3];have:b≠l:=by
   obtain⟨o,e,_⟩:=T.obj _ _ st2 b hb;rw[<-hl];exact Nat.ne_of_lt (Heap.lt_size e)
  rw[upd_ne this];exact g0
 have st3:tn 0 h₁:=T.keep _ _ _ st2 fun b hb o e=>old b o (by rw[<-hh3];exact Heap.get?_push_of_some _ e)
 have ok:(cxComp X scope cl N C s3 H3 fp).Ok:=by
  refine⟨I3.ok.mod,?_,I3.ok.glob,I3.ok.blt,?_,fun x y c e1 e2=>I3.ok.inj x y c (hcl.get e1) (hcl.get e2),fun x hx=>?_,fun x c hx=>(by cases hx),I3.ok.hd,I3.ok.frames,.inl rfl,fun b hb=>?_,fun b o e=>?_,?_,fun b o e hb=>?_,fun b hb hb2=>?_,?_,fun b hb=>?_⟩
  ·exact hkind
  ·show s3.heap.objs.size<=C;rw[es3,hC];exact Nat.le_refl _
  ·have hx':(relabel scope X.env).names.lookup x=some .cell\/(relabel scope X.env).names.lookup x=some .free:=hx;have:scope.names.lookup x=some .free:=by
    rcases hx' with z|z
    ·rcases relabel_cell z with q|⟨_,q⟩
     ·exact absurd rfl (hcell' _ (PySem.mem_of_lookup q))
     ·exact q
    ·rcases relabel_cell z with q|⟨q,_⟩
     ·exact q
     ·cases q
   exact hall.get _ (PySem.mem_of_lookup this) rfl
  ·obtain⟨g0,g1,g2,g3,g4,g5⟩:=f3 b hb;obtain⟨o,e,_⟩:=T.obj _ _ st2 b hb;refine⟨?_,fun x c e=>g4 x c (hcl.get e)⟩;show b≠C;rw[<-hC];exact Nat.ne_of_lt (Heap.lt_size (by rw[<-hh3];exact Heap.get?_push_of_some _ e))
  ·have q:=I3.bs b o e;exact q
  ·show X.base.objs.size<=s3.heap.objs.size;exact Nat.le_trans I3.ok.bsz I3.sz
  ·obtain⟨g0,g1,g2,g3,g4,g5⟩:=f3 b hb;rcases g3 with z|z
   ·exact I3.ok.noex b o e z
   ·exact absurd (Nat.lt_of_lt_of_le (Heap.lt_size e) (Nat.le_trans I3.ok.bsz z)) (Nat.lt_irrefl _)
  ·obtain⟨g0,g1,g2,g3,g4,g5⟩:=f3 b hb;rcases List.mem_cons.mp (I3.stkSub b hb2) with z|z
   ·exact g1 z
   ·exact g2 z
  ·show s3.heap.FunFrames X.base X.stack;exact I3.stack
  ·exact I3.stkFree b hb
 have I4:Inv (cxComp X scope cl N C s3 H3 fp) [] (stC fr σ) H3 { s2 with heap:=h₁,toks:=s2.toks+([]:List (Str×Value)).length }:=by
  have hk3:∀b o,s3.heap.get? b=some o->h₁.get? b=some o:=fun b o e=>old b o (by rw[<-es3];exact e)
  refine⟨ok,eos.symm▸rfl,egens▸I3.bare,Un.kept hk3,⟨_,hns,fun i x v e1 e2 e3=>?_⟩,fun x c e=>?_,?_,fun x c e=>I3.freeC x c (hcl.get e),fun p hp=>(by cases hp),I3.hok.kept hk3,?_⟩
  ·
   have e1':N[i]?=some x:=e1;have e2':(fr[i]?).map (fun o=>o.bind fun i=>(σ[i]?).bind id)=some (some v):=by
    have:(stC fr σ)[i]?=some (some v):=e2;rw[stC,List.getElem?_map] at this;exact this
   cases q:fr[i]? with
   |none=>rw[q] at e2';cases e2'
   |some o=>
    rw[q] at e2';cases o with
    |none=>cases e2'
    |some j=>
     have e2'':(σ[j]?).bind id=some v:=Option.some.inj e2';obtain⟨p1,p2⟩:X.N[j]?=some x/\scope.names.lookup x=some .free:=by
      have hz:(x,some j)∈N.zip fr:=by
       have:(N.zip fr)[i]?=some (x,some j):=by
        rw[List.getElem?_zip_eq_some];exact⟨e1',q⟩
       exact List.mem_of_getElem? this
      have:=hfr _ hz;simpa using this
     have hv:X.env.scope.names.lookup x=some .cell\/X.env.scope.names.lookup x=some .free:=by
      rcases hfree _ (PySem.mem_of_lookup p2) with z|z
      ·exact absurd rfl z
      ·simpa using z
     have e3':σ[j]?=some (some v):=by
      cases q3:σ[j]? with
      |none=>rw[q3] at e2'';cases e2''
      |some w'=>rw[q3] at e2'';have:w'=some v:=e2'';rw[this]
     obtain⟨m,hn,hl'⟩:=I3.loc;obtain⟨u,ru,lk⟩:=hl' j x v p1 e3' (.inr hv);refine⟨u,ru,.inr ⟨relabel_free p2,?_⟩⟩;rcases lk with⟨lk,_⟩|⟨_,c,ec,cc⟩
     ·have lk':X.env.scope.names.lookup x=some .local:=lk;rcases hv with z|z<;>(rw[z] at lk';cases lk')
     ·obtain⟨c',ec'⟩:=hall.get _ (PySem.mem_of_lookup p2) rfl;have:=hcl.get ec';rw[ec] at this;cases this;obtain⟨o,ho,hd⟩:=cc;exact⟨c,ec',o,hk3 _ _ ho,hd⟩
  ·obtain⟨v,o,ho,hd⟩:=I3.cell x c (hcl.get e);exact⟨v,o,hk3 _ _ ho,hd⟩
  ·show H3 C=none;exact I3.hok.fresh (by rw[es3,hC];exact Nat.le_refl _)
  ·show(stC fr σ).length=N.length;rw[stC,List.length_map];exact hlen
 obtain⟨hg,ht,he⟩:=hb C s3 H3 fp;have fpc:∀{H':Hp},(∀b∈fp,H' b=none)->∀b∈fp,FpOk (cxComp X scope cl N C s3 H3 fp) [] H' b:=fun hn b hb=>by
  obtain⟨q1,q2⟩:=ok.exf b hb;exact⟨hn b hb,q1,ok.exfs b hb,.inl hb,q2,fun p hp=>by cases hp⟩
 have fin:∀(σ':St) (H':Hp) (s':Shared),Inv (cxComp X scope cl N C s3 H3 fp) [] σ' H' s'->Q (.ref l) H'->compPost (model X.prog X.w) X.A X.xe use Qc (.ref l) C (.ok .next) s':=fun σ' H' s' I' q=>by
  obtain⟨m,hn,_⟩:=I'.loc;have nC:∀b o,s3.heap.get? b=some o->b≠C:=fun b o e=>by
   rw[<-hC,<-es3];exact Nat.ne_of_lt (Heap.lt_size e)
  have fC:H' C=none:=I'.free;have u:=I'.base;refine hfin l H' s' C ?_ (I3.fpOk (by rw[es3,hC];exact Nat.le_refl _) fC) ⟨m,hn⟩ q;refine I3.call' (s':=s') (ch:=fp) I'.os ⟨fun b o e n hb hx=>u.keep b o e n hb hx,fun b o e n hb hx=>u.slot b o e n hb hx,u.free,fun b o e hx=>u.there b o e hx,u.tups,u.frzs,u.tbls⟩ (fun b o e=>I'.hok b o e) I'.bare fun b hb=>?_
  obtain⟨g0,g1,g2,g3,g4,g5⟩:=f3 b hb;exact⟨g3,g1,g4,g5⟩
 have loop:codeAny (model X.prog X.w) X.A (.compLoop (.ListComp elt [⟨tg,iter,ifs,0⟩] scope pos) 0 (.ref it) (.ref l) (compEnvC scope cl C X.env)) (compPost (model X.prog X.w) X.A X.xe use Qc (.ref l) C)
   { s2 with heap:=h₁,toks:=s2.toks+([]:List (Str×Value)).length }:=by
  refine comp_turns (fun n s'=>∃i σ' H',Inv (cxComp X scope cl N C s3 H3 fp) [] σ' H' s'/\tn i s'.heap/\(∀b∈fp,H' b=none)/\W i n σ' H') ?_ m0 ⟨0,_,H3,I4,st3,fun b hb=>(f3 b hb).1,w0⟩
  rintro n s5 ⟨i,σ5,H5,I5,st5,fr5,w5⟩
  rcases turn i n σ5 H5 w5 with⟨stop,qn⟩|⟨go,step⟩
  ·refine thn (T.done (cxComp X scope cl N C s3 H3 fp) rfl rfl rfl hc i [] s5 σ5 H5 (fun _ _=>False) I5 (fpc fr5) st5 stop) fun r s6 ⟨hr,I6⟩=>?_
   subst hr;exact fin σ5 H5 s6 I6 qn
  ·refine thn (T.item (cxComp X scope cl N C s3 H3 fp) rfl rfl rfl hc i [] s5 σ5 H5 (fun _ _=>False) I5 (fpc fr5) st5 go) fun r s6 ⟨u,hr,h6⟩=>?_
   subst hr;refine thn h6 fun _ s7 ⟨x,H7,I7,r7,y7,st7,fr7⟩=>?_
   have I7':=I7.pinned (fpc fr7) (T.obj _ _ st7);refine thn (hg _ s7 σ5 H7 x u _ I7' r7 (step x H7 y7)) fun _ s8 ⟨σ8,H8,I8,q8⟩=>?_
   have again:∀{σ9:St} {H9:Hp} {s9:Shared},Inv (cxComp X scope cl N C s3 H3 fp) ([]++pinsAt fp s7.heap) σ9 H9 s9->(∃m',m'<n/\W (i+1) m' σ9 H9)->∃m,m<n/\∃i σ' H',Inv (cxComp X scope cl N C s3 H3 fp) [] σ' H' s9/\tn i s9.heap/\(∀b∈fp,H' b=none)/\W i m σ' H':=fun{σ9 H9 s9} I9 n9=>by
    obtain⟨m',hm,w9⟩:=n9;refine⟨m',hm,i+1,σ9,H9,I9.unpinned,T.keep _ _ _ st7 fun b hb o e=>(I9.pin (b,o) (List.mem_append_right _ (List.mem_append_right _ (mem_pinsAt hb e)))).1,fun b hb=>?_,w9⟩;obtain⟨o,e,d⟩:=T.obj _ _ st7 b hb;exact(I9.pin (b,o) (List.mem_append_right _ (List.mem_append_right _ (mem_pinsAt hb e)))).2.1
   refine thn (ht _ s8 σ8 H8 _ I8 q8) fun ok s9 ⟨H9,I9,q9⟩=>?_
   cases ok with
   |false=>
    rw[if_neg Bool.false_ne_true] at q9 ⊢;exact again I9 q9
   |true=>
    rw[if_pos rfl] at q9 ⊢;refine thn (he _ s9 σ8 H9 _ I9 q9) fun y sa ⟨vy,Ha,Ia,ry,qa⟩=>?_
    obtain⟨xs,hla,hsz,n9⟩:=qa;refine thn (mt_append _ sa σ8 Ha (.ref l) [vy] (.ref l) [y] (fun _ Hb=>∃m',m'<n/\W (i+1) m' σ8 Hb) Ia rfl (.cons ry .nil) ⟨l,xs,vy,rfl,rfl,hla,hsz,n9⟩) fun _ sb ⟨_,Hb,Ib,_,qb⟩=>?_
    exact again Ib qb
 show codeAny (model X.prog X.w) X.A (.compStart (.ListComp elt [⟨tg,iter,ifs,0⟩] scope pos) 0 (.ref it) (.ref l) (compEnvC scope cl C X.env)) (compPost (model X.prog X.w) X.A X.xe use Qc (.ref l) C) { s2 with heap:=h₁,toks:=s2.toks+([]:List (Str×Value)).length };exact codeAny_compStart_list loop (T.self _ 0 _ _ _ st3 loop)
theorem pe_comp (N:List Str) (fr:List (Option Nat)) {elt tg iter:Expr} {ifs:List Expr} {scope:Scope} {pos:Pos} {wi:TI} {g:TG} {tt:TT} {te:TE} {cl:List (Str×Addr)}
  (hc:X.calm=true) (hi:PI X tg iter wi) (hchk:compChk X.N X.env.scope scope N fr=true) (hclos:closureFor scope X.env=pure cl) (hcl:ClOk X.env.cells cl) (hall:ClAll cl scope.names)
  (hb:∀(C:Addr) (s:Shared) (H:Hp) (fp:List Addr),PG (cxComp X scope cl N C s H fp) tg g/\PIfs (cxComp X scope cl N C s H fp) ifs tt/\PE (cxComp X scope cl N C s H fp) elt te)
  (hs:∀x,foldedSetIterable iter X.env x=pure x:=by intro _;rfl) :
  PE X (.ListComp elt [⟨tg,iter,ifs,0⟩] scope pos) (tComp fr wi g tt te):=by
 intro pins s σ H Q I h;rw[eval_ListComp];refine comp_core N fr hc hi hchk hclos hcl hall hb hs I h fun l H' s' C I' fC ⟨m,hn⟩ q=>?_
 refine⟨m,hn,fun h'' hs''=>⟨.ref l,H',?_,rfl,q⟩⟩;obtain⟨f0,f1,f2,f3,f4,f5⟩:=fC;exact I'.turned (t':=s'.toks) (fun b o hb e=>(hs''.2 b hb).trans e) f0 f1 f3 f4 f5
theorem ps_setC (N:List Str) (fr:List (Option Nat)) {i:Nat} {x:Str} {elt tg iter:Expr} {ifs:List Expr} {scope:Scope} {cpos pos pos':Pos} {wi:TI} {g:TG} {tt:TT} {te:TE} {cl:List (Str×Addr)}
  (hN:X.N.Nodup) (hi':X.N[i]?=some x) (hx:Loc X.env.scope x)
  (hc:X.calm=true) (hi:PI X tg iter wi) (hchk:compChk X.N X.env.scope scope N fr=true) (hclos:closureFor scope X.env=pure cl) (hcl:ClOk X.env.cells cl) (hall:ClAll cl scope.names)
  (hb:∀(C:Addr) (s:Shared) (H:Hp) (fp:List Addr),PG (cxComp X scope cl N C s H fp) tg g/\PIfs (cxComp X scope cl N C s H fp) ifs tt/\PE (cxComp X scope cl N C s H fp) elt te)
  (hs:∀x,foldedSetIterable iter X.env x=pure x:=by intro _;rfl)
  (hsw:swapsWith (.ListComp elt [⟨tg,iter,ifs,0⟩] scope cpos) (some (.Name x pos')) pos.line X.env=pure true:=by rfl)
  (hf:X.fn x=true\/X.env.scope.names.lookup x=some .local:=by first|exact .inl rfl|exact .inr rfl|assumption) :
  PS X (.Assign [.Name x pos'] (.ListComp elt [⟨tg,iter,ifs,0⟩] scope cpos) pos) (tAsg (tComp fr wi g tt te) (gName i)):=by
 intro pins s σ H D I h;rw[exec_Assign_arm];refine wpAny_bind (wpAny_standAt ?_);rw[show swapsWithSole [.Name x pos'] (.ListComp elt [⟨tg,iter,ifs,0⟩] scope cpos) pos.line X.env=pure true from hsw];refine wpAny_bind (wpAny_pure ?_);rw[if_pos rfl,arm_evalThenUse_ListComp];refine wpAny_bind (wpAny_bind ?_);have h1:tComp fr wi g tt te σ H fun v H1=>D.nx (σ.set i (some v)) H1:=h
 refine comp_core (use:=some _) N fr hc hi hchk hclos hcl hall hb hs I h1 fun l H' s' C I' fC ⟨m,hn⟩ q=>?_
 obtain⟨f0,f1,f2,f3,f4,f5⟩:=fC;obtain⟨o,es,ep,ho,hd,hk,hm⟩:=hn;have Ip:Inv X (pins++[(C,o)]) σ H' s':=I'.pins_of fun p hp=>(List.mem_append.mp hp).elim (fun z=>I'.pin p (List.mem_append_right _ z)) fun z=>by
  rw[List.mem_singleton.mp z];exact⟨ho,f0,f1,f2,fun v e=>by rw[hd] at e;cases e⟩
 show wpAny _ _ (assignAll (.ref l) [assign (.Name x pos') X.env]) _ _ _;rw[assignAll.eq_2];refine wpAny_assign_Name (store_ok Ip hN hi' hx (v:=.ref l) rfl (fun s2 I2=>?_) hf);have ho2:=(I2.pin (C,o) (List.mem_append_right _ (List.mem_append_right _ (List.mem_singleton_self _)))).1;refine⟨m,⟨o,es,ep,ho2,hd,hk,hm⟩,fun h' hs'=>wpAny_pure (wpAny_pure ⟨_,H',?_,q⟩)⟩;exact I2.unpinned.turned (t':=s2.toks) (fun b o hb e=>(hs'.2 b hb).trans e) f0 f1 f3 f4 f5
def compChk0 (sc:Scope):Bool:=
 decide (sc.kind=.function)&&(sc.names.all fun y=>!decide (y.2=.cell))&&(sc.names.all fun y=>!decide (y.2=.local)||decide (sc.names.lookup y.1=some .local))&&(sc.names.all fun y=>!decide (y.2=.free))
theorem pe_comp0 (N:List Str) {elt tg iter:Expr} {ifs:List Expr} {scope:Scope} {pos:Pos} {wi:TI} {g:TG} {tt:TT} {te:TE}
  (hc:X.calm=true) (hi:PI X tg iter wi) (hchk:compChk0 scope=true)
  (hb:∀(C:Addr) (s:Shared) (H:Hp) (fp:List Addr),PG (cxComp X scope [] N C s H fp) tg g/\PIfs (cxComp X scope [] N C s H fp) ifs tt/\PE (cxComp X scope [] N C s H fp) elt te)
  (hs:∀x,foldedSetIterable iter X.env x=pure x:=by intro _;rfl) :
  PE X (.ListComp elt [⟨tg,iter,ifs,0⟩] scope pos) (tComp (N.map fun _=>none) wi g tt te):=by
 simp only[compChk0,Bool.and_eq_true,decide_eq_true_eq,List.all_eq_true,Bool.or_eq_true,Bool.not_eq_true',decide_eq_false_iff_not] at hchk;obtain⟨⟨⟨hkind,hcell⟩,hnames⟩,hfree⟩:=hchk;refine pe_comp (cl:=[]) N (N.map fun _=>none) hc hi ?_ (closureFor_none fun x hx=>hfree x hx) trivial ?_ hb hs
 ·simp only[compChk,Bool.and_eq_true,decide_eq_true_eq,List.all_eq_true,Bool.or_eq_true,Bool.not_eq_true',decide_eq_false_iff_not];refine⟨⟨⟨⟨⟨hkind,by simp⟩,hcell⟩,hnames⟩,fun y hy=>.inl (hfree y hy)⟩,fun p hp=>?_⟩;have:p.2∈N.map fun _=>(none:Option Nat):=(List.of_mem_zip hp).2
  obtain⟨_,_,e⟩:=List.mem_map.mp this;rw[<-e]
 ·have:∀ns:List (Str×NameKind),(∀y∈ns,y.2≠.free)->ClAll [] ns:=by
   intro ns
   induction ns with
   |nil=>intro _;exact trivial
   |cons p r ih=>intro h;exact⟨fun e=>absurd e (h p List.mem_cons_self),ih fun y hy=>h y (List.mem_cons_of_mem _ hy)⟩
  exact this _ fun y hy=>hfree y hy
theorem ps_setC0 (N:List Str) {i:Nat} {x:Str} {elt tg iter:Expr} {ifs:List Expr} {scope:Scope} {cpos pos pos':Pos} {wi:TI} {g:TG} {tt:TT} {te:TE}
  (hN:X.N.Nodup) (hi':X.N[i]?=some x) (hx:Loc X.env.scope x)
  (hc:X.calm=true) (hi:PI X tg iter wi) (hchk:compChk0 scope=true)
  (hb:∀(C:Addr) (s:Shared) (H:Hp) (fp:List Addr),PG (cxComp X scope [] N C s H fp) tg g/\PIfs (cxComp X scope [] N C s H fp) ifs tt/\PE (cxComp X scope [] N C s H fp) elt te)
  (hs:∀x,foldedSetIterable iter X.env x=pure x:=by intro _;rfl)
  (hsw:swapsWith (.ListComp elt [⟨tg,iter,ifs,0⟩] scope cpos) (some (.Name x pos')) pos.line X.env=pure true:=by rfl)
  (hf:X.fn x=true\/X.env.scope.names.lookup x=some .local:=by first|exact .inl rfl|exact .inr rfl|assumption) :
  PS X (.Assign [.Name x pos'] (.ListComp elt [⟨tg,iter,ifs,0⟩] scope cpos) pos) (tAsg (tComp (N.map fun _=>none) wi g tt te) (gName i)):=by
 simp only[compChk0,Bool.and_eq_true,decide_eq_true_eq,List.all_eq_true,Bool.or_eq_true,Bool.not_eq_true',decide_eq_false_iff_not] at hchk;obtain⟨⟨⟨hkind,hcell⟩,hnames⟩,hfree⟩:=hchk;refine ps_setC (cl:=[]) N (N.map fun _=>none) hN hi' hx hc hi ?_ (closureFor_none fun x hx=>hfree x hx) trivial ?_ hb hs hsw hf
 ·simp only[compChk,Bool.and_eq_true,decide_eq_true_eq,List.all_eq_true,Bool.or_eq_true,Bool.not_eq_true',decide_eq_false_iff_not];refine⟨⟨⟨⟨⟨hkind,by simp⟩,hcell⟩,hnames⟩,fun y hy=>.inl (hfree y hy)⟩,fun p hp=>?_⟩;have:p.2∈N.map fun _=>(none:Option Nat):=(List.of_mem_zip hp).2
  obtain⟨_,_,e⟩:=List.mem_map.mp this;rw[<-e]
 ·have:∀ns:List (Str×NameKind),(∀y∈ns,y.2≠.free)->ClAll [] ns:=by
   intro ns
   induction ns with
   |nil=>intro _;exact trivial
   |cons p r ih=>intro h;exact⟨fun e=>absurd e (h p List.mem_cons_self),ih fun y hy=>h y (List.mem_cons_of_mem _ hy)⟩
  exact this _ fun y hy=>hfree y hy
end
def Def (P:Program)(w:World)(K:PySem.W.Frag)(mg:Str->Option Value)(base:Heap)(k:Nat)(x:Str)(ps:List Str)(sp:Sp):Prop:=
 ∃(f:Addr) (fd:FuncData),FnOk P w K mg base CX0 k f fd ps sp/\mg x=some (.ref f)/\PySem.W.keepIn K (.ref f)=true/\Binds K fd ps []
section
variable {X:Cx}{k:Nat}{x:Str}{ps:List Str}{sp:Sp}{e:Expr}{es:List Expr}{t:TA}{p pos:Pos}
theorem pe_fn (D:Def X.prog X.w X.K X.mg X.base k x ps sp) (hr:Room k X.A) (hg:Gl X x) (ha:PA X (e::es) t)
  (hdb:(x == ("__debug__":Str))=false:=by decide) (he:starEach (e::es) X.env=(false,eval e X.env)::starEach es X.env:=by rfl) (hpl:(backTo pos (starEach es X.env)).any (·.1)=false:=by rfl) :
  PE X (.Call (.Name x p) (e::es) [] pos) (tCall sp [] E0 t):=by
 obtain⟨f,fd,F,hm,hk,hb⟩:=D;exact pe_call F hr hg hm hk hb .nil pass0 ha hdb he hpl
end
section
variable {X:Cx}
theorem pe_globI {x:Str}{i:Int}{pos:Pos}(hg:Gl X x)(hm:∃t,X.mg x=some (.int i t))(hd:(x == ("__debug__":Str))=false:=by decide):PE X (.Name x pos) (tC (.int i)):=by
 obtain⟨t,hm⟩:=hm;exact pe_glob hg hm ⟨_,rfl⟩ hd
theorem pe_ty {x:Str}{T:String}{pos:Pos}(hg:Gl X x)(hm:X.mg x=none)(hv:bootBuiltins x=some (.type T))(hn:x≠"__name__":=by decide)(hd:(x == ("__debug__":Str))=false:=by decide):PE X (.Name x pos) (tC (.ty T)):=pe_bltn hg hm hv rfl hn hd
theorem pe_globS {x z:Str}{pos:Pos}(hg:Gl X x)(hm:∃t,X.mg x=some (.str z t))(hd:(x == ("__debug__":Str))=false:=by decide):PE X (.Name x pos) (tC (.str z)):=by
 obtain⟨t,hm⟩:=hm;exact pe_glob hg hm ⟨_,rfl⟩ hd
end
theorem bt_isinstance:bootBuiltins "isinstance"=some (.builtin "isinstance"):=by decide +kernel
theorem bt_all:bootBuiltins "all"=some (.builtin "all"):=by decide +kernel
theorem bt_sum:bootBuiltins "sum"=some (.builtin "sum"):=by decide +kernel
theorem bt_sorted:bootBuiltins "sorted"=some (.builtin "sorted"):=by decide +kernel
theorem bt_len:bootBuiltins "len"=some (.builtin "len"):=by decide +kernel
theorem bt_max:bootBuiltins "max"=some (.builtin "max"):=by decide +kernel
theorem bt_min:bootBuiltins "min"=some (.builtin "min"):=by decide +kernel
theorem bt_int:bootBuiltins "int"=some (.type "int"):=by decide +kernel
theorem bt_bool:bootBuiltins "bool"=some (.type "bool"):=by decide +kernel
theorem bt_str:bootBuiltins "str"=some (.type "str"):=by decide +kernel
theorem bt_list:bootBuiltins "list"=some (.type "list"):=by decide +kernel
theorem bt_tuple:bootBuiltins "tuple"=some (.type "tuple"):=by decide +kernel
theorem bt_dict:bootBuiltins "dict"=some (.type "dict"):=by decide +kernel
theorem bt_set:bootBuiltins "set"=some (.type "set"):=by decide +kernel
theorem bt_enumerate:bootBuiltins "enumerate"=some (.type "enumerate"):=by decide +kernel
theorem kit_of {t c:String}{b:Bool}(h:(if(Value.type t == Value.type c)=true then some true else if PySem.W.kitMeta c=true then(fastBuiltinMro t).map (·.contains (.type c)) else none)=some b)(K:PySem.W.Frag) :
  PySem.W.kitOne K (.type t) (.type c)=some b:=h
section
variable {X:Cx}
def rIsi (K:PySem.W.Frag):List V->Hp->VK->Prop:=fun xs H Q=>∃x c t b,xs=[x,.ty c]/\TyOf K H x t/\PySem.W.kitOne K t (.type c)=some b/\Q (.bl b) H
theorem call_isinst:CallR X (.builtin "isinstance") (rIsi X.K):=by
 intro pins s σ H xs us Q I r h;obtain⟨x,c,t,b,rfl,ty,e,q⟩:=h;obtain⟨u,v,rfl,ru,rv⟩:=vals2 r;have ev:v=Value.type c:=rv;subst ev;exact isinst_ok I ru ty e fun tk=>⟨.bl b,H,I.tok _,rfl,q⟩
end
def pureV:V->Bool
 | .non=>true
 | .int _=>true
 | .str _=>true
 |_=>false
theorem pure_flat {x:V}(h:pureV x=true):flatV x=true:=by
 cases x<;>first|rfl|exact h
theorem pure_eq {x y:V}(hx:pureV x=true)(hy:pureV y=true):eqV x y=decide (x=y):=by
 cases x<;>first|exact absurd (show false=true from hx) Bool.false_ne_true|skip
 all_goals (cases y<;>first|exact absurd (show false=true from hy) Bool.false_ne_true|skip)
 ·rfl
 ·rfl
 ·rfl
 ·rfl
 ·exact dec_int.symm
 ·rfl
 ·rfl
 ·rfl
 ·exact dec_str.symm
theorem range_all_dec:∀(xs ys:List V),xs.length=ys.length->xs.all pureV=true->ys.all pureV=true->
  ((List.range xs.length).all fun i=>eqV (xs.getD i .non) (ys.getD i .non))=decide (xs=ys):=by
 intro xs
 induction xs with
 |nil=>
  intro ys hl _ _;cases ys with
  |nil=>rfl
  |cons _ _=>simp at hl
 |cons x xs ih=>
  intro ys hl hx hy;cases ys with
  |nil=>simp at hl
  |cons y ys=>
   rw[List.all_cons,Bool.and_eq_true] at hx hy;have q:=ih ys (by simpa using hl) hx.2 hy.2;rw[List.length_cons,List.range_succ_eq_map,List.all_cons,List.all_map];have e0:((fun i=>eqV ((x::xs).getD i .non) ((y::ys).getD i .non))∘Nat.succ)=fun i=>eqV (xs.getD i .non) (ys.getD i .non):=by
    funext i;simp
   rw[e0,q];show(eqV x y&&decide (xs=ys))=_;rw[pure_eq hx.1 hy.1]
   by_cases h1:x=y
   ·by_cases h2:xs=ys<;>simp[h1,h2]
   ·simp[h1]
theorem all_get {xs:List V}{us:List Value}(r:Vals xs us){j:Nat}(hj:j<us.length):∃x,xs[j]?=some x/\RelV x us[j]:=by
 have hl:=r.length;obtain⟨u,e1,e2⟩:=r.get (i:=j) (x:=xs[j]'(by omega)) (by simp[show j<xs.length by omega]);refine⟨xs[j]'(by omega),by simp[show j<xs.length by omega],?_⟩;rw[List.getElem?_eq_getElem hj] at e1;cases e1;exact e2
section
variable {X:Cx}
theorem rc_lists {A:Around} {s:Shared} {a b:Addr} {xs ys:List V} {its its2:List Value} (hu:A.units<cLine) (r1:Vals xs its) (r2:Vals ys its2) (h1:s.heap.IsList a its.toArray) (h2:s.heap.IsList b its2.toArray)
  (f1:xs.all pureV=true) (f2:ys.all pureV=true):SeqAt.RcAt A s (.ref a) (.ref b) (decide (xs=ys)):=by
 have l1:=r1.length;have l2:=r2.length
 by_cases hl:xs.length=ys.length
 ·have q:=SeqAt.RcAt.lists (A:=A) (s:=s) (e:=fun i=>eqV (xs.getD i .non) (ys.getD i .non)) h1 h2 (by simp;omega) hu (fun j g1 g2=>by
   have g1':j<its.length:=by simpa using g1
   have g2':j<its2.length:=by simpa using g2
   obtain⟨x,e1,rx⟩:=all_get r1 g1';obtain⟨y,e2,ry⟩:=all_get r2 g2';have p1:pureV x=true:=List.all_eq_true.mp f1 x (List.mem_of_getElem? e1);have p2:pureV y=true:=List.all_eq_true.mp f2 y (List.mem_of_getElem? e2);have:=eqAt_V (A:=A.in1) (s:=s) rx ry (pure_flat p1) (pure_flat p2);simpa [List.getD,e1,e2] using this)
  have e:(its.toArray.size)=xs.length:=by simp;omega
  rw[e,range_all_dec xs ys hl f1 f2] at q;exact q
 ·have e:decide (xs=ys)=false:=decide_eq_false fun z=>hl (by rw[z])
  rw[e];exact SeqAt.RcAt.lists_lengths h1 h2 (by simp;omega) hu
def rEqL (K:PySem.W.Frag)(neg:Bool):R2:=fun x y H Q=>∃a b xs ys,x=.ref a/\y=.ref b/\SqL K H a xs/\SqL K H b ys/\xs.all pureV=true/\ys.all pureV=true/\Q (.bl (if neg then !decide (xs=ys) else decide (xs=ys))) H
theorem op_eqD (hu:X.A.units+1<cLine):OpR X (compareOp .Eq) (rEqL X.K false):=by
 intro pins s σ H x y v u Q I rx ry h;obtain⟨a,b,xs,ys,rfl,rfl,h1,h2,f1,f2,q⟩:=h;cases rx;cases ry;obtain⟨its,r1,p1,_⟩:=I.list h1;obtain⟨its2,r2,p2,_⟩:=I.list h2;exact rc_lists (by omega) r1 r2 p1.isList p2.isList f1 f2 _ _ _ _ ⟨.bl _,H,I,rfl,q⟩
end
theorem boolsAre_of:∀{bs:List Bool} {us:List Value},Vals (bs.map V.bl) us->LSm.BoolsAre us bs
 |[],_,.nil=>.nil
 |b::bs,_,.cons r t=>by
  have e:_=Value.bool b:=r;subst e;exact .cons b (boolsAre_of t)
section
variable {prog:Program}{w:World}{A:Around}{E:Value->Shared->Prop}{s:Shared}{l:Addr}{vs:List Value}
theorem all_kept {bs:List Bool} {Q:Value->Shared->Prop} (hh:A.handled=none) (hl:s.heap.IsList l vs.toArray) (hb:LSm.BoolsAre vs bs)
  (h:∀h' tk,(∀b o,s.heap.get? b=some o->h'.get? b=some o)->Q (.bool (bs.all id)) { s with heap:=h',toks:=tk }):wpAny (model prog w) A (call (.builtin "all") [.ref l]) Q E s:=by
 have below:l<s.heap.objs.size:=(fun⟨_,e,_⟩=>Heap.lt_size e:s.heap.IsList l vs.toArray->_) hl;have whole:((List.range vs.toArray.size).all fun i=>(bs[i]?).getD true)=bs.all id:=by rw[List.size_toArray,hb.length,LSm.range_all]
 exact call_all_walk (wpAny_pyIter_list hl ⟨s.heap.objs.size,[s.heap.objs.size,l],[s.heap.objs.size],vs.toArray.size,_,_,fun i=>(bs[i]?).getD true,rfl,Walks.list (A:=A.in1) hh _ l (Nat.ne_of_lt below) vs.toArray,⟨⟨_,Heap.get?_push_size _ rfl,rfl,rfl⟩,hl.push _⟩,
  (fun i v s' Q' E' hP hQ=>by
   obtain⟨b,hg,hv⟩:=hb.get i v (by simpa using hP);have hQ':Q' b s':=by simpa [hg] using hQ
   subst hv;exact wpAny_truthy_bool hQ'),
  fun h' tk hk=>whole▸h h' tk (LSm.kept_iter hk)⟩)
end
section
variable {X:Cx}
theorem call_all (hc:X.calm=true):CallR X (.builtin "all") (fun xs H Q=>∃(a:Addr) (bs:List Bool),xs=[.ref a]/\SqL X.K H a (bs.map V.bl)/\Q (.bl (bs.all id)) H):=by
 intro pins s σ H xs us Q I r h;obtain⟨a,bs,rfl,h1,q⟩:=h;obtain⟨u,rfl,ru⟩:=vals1 r;cases ru;obtain⟨its,r1,p1,_⟩:=I.list h1;exact all_kept (I.ok.hd hc) p1.isList (boolsAre_of r1) fun h' tk hk=>⟨.bl _,H,I.kept hk,rfl,q⟩
theorem call_sum (hc:X.calm=true):CallR X (.builtin "sum") (fun xs H Q=>∃(a:Addr) (ns:List Int),xs=[.ref a]/\SqL X.K H a (ns.map V.int)/\Q (.int ns.sum) H):=by
 intro pins s σ H xs us Q I r h;obtain⟨a,ns,rfl,h1,q⟩:=h;obtain⟨u,rfl,ru⟩:=vals1 r;cases ru;obtain⟨its,r1,p1,_⟩:=I.list h1;have hi:=intsAre_of r1;obtain⟨zs,hz⟩:=hi.allInts.items;have due:preSum (numAt zs) zs.size=ns.sum:=by
  have:zs.toList.map (·.1)=ns:=by rw[<-nums_intItems,<-hz];exact hi.numsOf
  rw[<-this,preSum_eq,List.take_of_length_le (by simp)]
 exact sum_intListG (I.ok.hd hc) (hz▸p1.isList) fun h' tk t' hk=>⟨.int ns.sum,H,I.kept hk,⟨_,by rw[due]⟩,q⟩
def rCatS (K:PySem.W.Frag):R2:=fun x y H Q=>∃l b xs zs,x=.ref l/\y=.ref b/\SqL K H l xs/\SqL K H b zs/\xs.length+zs.length<=sizeLine/\∀p,H p=none->Q (.ref p) (upd H p (.lst (xs++zs)))
theorem op_catS:OpR X (binaryOp .Add) (rCatS X.K):=by
 intro pins s σ H x y v u Q I rx ry h;obtain⟨l,b,xs,zs,rfl,rfl,h1,h2,hz,q⟩:=h;cases rx;cases ry;obtain⟨its,r,p1,_⟩:=I.list h1;obtain⟨its2,r2,p2,_⟩:=I.list h2;have l1:=r.length;have l2:=r2.length;obtain⟨⟨cls,dd,data,sl⟩,ho,hc,n,hd⟩:=id p1.isList;obtain⟨⟨cls2,dd2,data2,sl2⟩,ho2,hc2,n2,hd2⟩:=id p2.isList;simp only at hc hd hc2 hd2;subst hc hd hc2 hd2;have e:its.toArray++its2.toArray=(its++its2).toArray:=by simp
 refine concat_meets ⟨_,ho,rfl⟩ ⟨_,ho2,rfl⟩ noFill_list_add seq_list_add PySem.F.slot_list_add PySem.F.entry_list_add (PySem.F.args_list_add_2 _ _) (list_addW l b its.toArray its2.toArray n n2 dd dd2 sl sl2 (by rw[List.size_toArray,List.size_toArray];omega)) ⟨ho,ho2,?_⟩;rw[e];exact⟨.ref _,_,I.lnew (t':=s.toks) (r.append r2) (by rw[List.length_append];omega),rfl,q _ I.fresh⟩
end
theorem same_new {H:Hp}{p:Addr}(h:H p=none)(o:HO):Same H (upd H p o):=fun b u q=>by rw[upd_ne (ne_of_none q h)];exact q
theorem same_upd {H H':Hp}{p:Addr}(s:Same H H')(h:H p=none)(o:HO):Same H (upd H' p o):=fun b u q=>by rw[upd_ne (ne_of_none q h)];exact s b u q
theorem Same.get {H H':Hp}{a:Addr}{o:HO}(s:Same H H')(h:H a=some o):H' a=some o:=s a o h
theorem sizeLine_big:1000000<=sizeLine:=by decide
theorem small {n:Nat}(h:n<=1000000):n<=sizeLine:=Nat.le_trans h sizeLine_big
theorem smallLt {n:Nat}(h:n<1000000):n<sizeLine:=Nat.lt_of_lt_of_le h sizeLine_big
theorem map_get {ns:List Int}{i:Nat}{y:V}(h:(ns.map V.int)[i]?=some y):∃z,y=V.int z/\ns[i]?=some z:=by
 rw[List.getElem?_map] at h;cases e:ns[i]? with
 |none=>rw[e] at h;cases h
 |some z=>rw[e] at h;exact⟨z,(Option.some.inj h).symm,rfl⟩
theorem at_int {ns:List Int}{i:Int}(h0:0<=i)(h1:i<ns.length):atI (ns.map V.int) i=some (.int (ns.getD i.toNat 0)):=by
 have hk:i.toNat<ns.length:=by omega
 have ek:i=((i.toNat:Nat):Int):=by omega
 have q:atI (ns.map V.int) ((i.toNat:Nat):Int)=some (.int (ns.getD i.toNat 0)):=atI_nat (by rw[List.getElem?_map,List.getElem?_eq_getElem hk];simp[List.getD,List.getElem?_eq_getElem hk]);rw[<-ek] at q;exact q
theorem cut_lo {xs:List V}{i:Int}(h:0<=i):cutV xs (some i) none=xs.drop i.toNat:=by
 unfold cutV;rw[show i=((i.toNat:Nat):Int) by omega,HT.sIx_nat,HT.sIx_none,Int.toNat_natCast]
 by_cases hl:i.toNat<=xs.length
 ·rw[Nat.min_eq_left hl,List.take_of_length_le (by rw[List.length_drop];exact Nat.le_refl _)]
 ·rw[Nat.min_eq_right (by omega),List.drop_eq_nil_of_le (Nat.le_refl _),List.drop_eq_nil_of_le (by omega),List.take_nil]
theorem cut_lohi {xs:List V}{i j:Int}(hi:0<=i)(hj:0<=j):cutV xs (some i) (some j)=(xs.drop i.toNat).take (j.toNat-i.toNat):=by
 unfold cutV;rw[show i=((i.toNat:Nat):Int) by omega,show j=((j.toNat:Nat):Int) by omega,HT.sIx_nat,HT.sIx_nat,Int.toNat_natCast,Int.toNat_natCast];generalize i.toNat=a;generalize j.toNat=b;apply List.ext_getElem?;intro k;rw[List.getElem?_take,List.getElem?_take,List.getElem?_drop,List.getElem?_drop]
 by_cases ha:a<=xs.length
 ·rw[Nat.min_eq_left ha]
  by_cases hb:b<=xs.length
  ·rw[Nat.min_eq_left hb]
  ·rw[Nat.min_eq_right (by omega)]
   by_cases h1:k<xs.length-a
   ·rw[if_pos h1,if_pos (by omega)]
   ·rw[if_neg h1]
    split
    ·rw[List.getElem?_eq_none (by omega)]
    ·rfl
 ·rw[Nat.min_eq_right (show xs.length<=a by omega)];rw[List.getElem?_eq_none (by omega),List.getElem?_eq_none (by omega)]
  split<;>split<;>rfl
theorem iteFc {c:Bool}{A B:Prop}(h:c=false)(b:B):if c=true then A else B:=by
 subst h;rw[if_neg Bool.false_ne_true];exact b
theorem iteTc {c:Bool}{A B:Prop}(h:c=true)(b:A):if c=true then A else B:=by
 subst h;rw[if_pos rfl];exact b
theorem dec_true {c:Prop}[Decidable c](h:decide c=true):c:=of_decide_eq_true h
theorem dec_false {c:Prop}[Decidable c](h:¬decide c=true):¬c:=fun z=>h (decide_eq_true z)
theorem tOr_p {t u:TT}{σ:St}{H:Hp}{Q:Bool->Hp->Prop}(c d:Bool)(ht:∀R:Bool->Hp->Prop,R c H->t σ H R)(hu:c=false->∀R:Bool->Hp->Prop,R d H->u σ H R)(q:Q (c||d) H):tOr t u σ H Q:=by
 refine ht _ ?_;cases c with
 |true=>rw[if_pos rfl];exact q
 |false=>rw[if_neg Bool.false_ne_true];exact hu rfl _ q
def ItIs (J:It)(H:Hp)(xs:List V):Prop:=∀H',Same H H'->∀i:Nat,(i<xs.length->J.go i H')/\(∀x H'',J.yld i H' x H''->H''=H'/\(i<xs.length->xs[i]?=some x))/\(xs.length<=i->J.stop i H')
theorem itIs_list {K:PySem.W.Frag}{a:Addr}{H:Hp}{xs:List V}(h:SqL K H a xs):ItIs (Itl K a) H xs:=fun H' s i=>
 ⟨fun hi=>⟨xs,xs[i],s.seq h,by simp[hi]⟩,fun x H'' y=>⟨y.1,fun _=>y.2 xs (s.seq h)⟩,fun hi=>⟨xs,s.seq h,hi⟩⟩
theorem itIs_range {lo:Int}{n:Nat}{H:Hp}:ItIs (Itr lo n) H ((List.range n).map fun(i:Nat)=>V.int (lo+(i:Int))):=fun H' s i=>
 ⟨fun hi=>(by simpa using hi:i<n),fun x H'' y=>⟨y.1,fun hi=>by
  have hi':i<n:=by simpa using hi
  rw[List.getElem?_map,List.getElem?_range hi',y.2];rfl⟩,fun hi=>(by simpa using hi:n<=i)⟩
theorem comp_map {J:It} {xs:List V} {fr:List (Option Nat)} {k:Nat} {te:TE} {Q:VK} {σ:St} {H:Hp} (f:V->V) (hJ:ItIs J H xs) (hn:xs.length<=1000000)
  (helt:∀(x:V) (H':Hp) (R:VK),x∈xs->Same H H'->(∀H'',Same H' H''->R (f x) H'')->te ((stC fr σ).set k (some x)) H' R)
  (hQ:∀l H',H l=none->Same H H'->H' l=some (.lst (xs.map f))->Q (.ref l) H') :
  tCompK fr (gName k) tYes te σ Q J H:=by
 intro l hl;refine⟨fun i m σ' H'=>m=xs.length-i/\i<=xs.length/\(∀y,σ'.set k y=(stC fr σ).set k y)/\Same H H'/\H' l=some (.lst ((xs.take i).map f)),⟨xs.length,by simp,Nat.zero_le _,fun _=>rfl,same_new hl _,by rw[upd_same,List.take_zero,List.map_nil]⟩,?_⟩
 rintro i m σ' H' ⟨rfl,hi,hσ,hs,hl'⟩
 obtain⟨h1,h2,h3⟩:=hJ H' hs i
 by_cases hlt:i<xs.length
 ·refine .inr ⟨h1 hlt,fun x H'' y=>?_⟩;obtain⟨rfl,hx⟩:=h2 x H'' y;have hx:=hx hlt;show te (σ'.set k (some x)) H'' _;rw[hσ];refine helt x H'' _ (List.mem_of_getElem? hx) hs fun H4 s4=>?_
  refine⟨_,s4.get hl',smallLt (by rw[List.length_map,List.length_take];omega),xs.length-(i+1),by omega,rfl,hlt,fun y=>by rw[List.set_set],same_upd (hs.trans s4) hl _,?_⟩;rw[upd_same,List.take_add_one,hx];simp
 ·have e:i=xs.length:=by omega
  subst e;exact .inl ⟨h3 (Nat.le_refl _),hQ l H' hl hs (by rw[hl',List.take_of_length_le (Nat.le_refl _)])⟩
section
variable {X:Cx}{K:PySem.W.Frag}
theorem ix_listK (h:X.K=K):IxR X (rIxL K):=by subst h;exact ix_list
theorem ix_tupK (h:X.K=K):IxR X (rIxT K):=by subst h;exact ix_tup
end
def Ok (H:Hp):V->Prop
 | .non=>True
 | .bl _=>True
 | .int _=>True
 | .str z=>z.length<=1000
 | .ref a=>(∃xs,H a=some (.lst xs))\/∃xs,H a=some (.tup xs)
 |_=>False
theorem Ok.same {H H':Hp}{v:V}(h:Ok H v)(s:Same H H'):Ok H' v:=by
 cases v<;>first|exact h|skip
 rcases h with⟨xs,e⟩|⟨xs,e⟩
 ·exact .inl ⟨xs,s.get e⟩
 ·exact .inr ⟨xs,s.get e⟩
def tyN (H:Hp):V->String
 | .non=>"NoneType"
 | .bl _=>"bool"
 | .int _=>"int"
 | .str _=>"str"
 | .ref a=>match H a with
  |some (.lst _)=>"list"
  |some (.tup _)=>"tuple"
  |_=>"?"
 |_=>"?"
theorem Ok.ty {H:Hp}{v:V}(h:Ok H v)(K:PySem.W.Frag):TyOf K H v (.type (tyN H v)):=by
 cases v with
 |non=>exact .non
 |bl b=>exact .bl b
 |int i=>exact .int i
 |str z=>exact .str z
 |ref a=>
  rcases h with⟨xs,e⟩|⟨xs,e⟩
  ·have q:tyN H (.ref a)="list":=by simp only[tyN,e]
   rw[q];exact .lst e
  ·have q:tyN H (.ref a)="tuple":=by simp only[tyN,e]
   rw[q];exact .tup e
 |_=>exact h.elim
def isA (t c:String):Bool:=t == c||(t == "bool"&&c == "int")
theorem kit_any {t c:String}(K:PySem.W.Frag)(ht:t∈["NoneType","bool","int","str","list","tuple"])(hc:c∈["bool","int","str","list","tuple"]):PySem.W.kitOne K (.type t) (.type c)=some (isA t c):=by
 have all:∀t∈["NoneType","bool","int","str","list","tuple"],∀c∈["bool","int","str","list","tuple"],(if(Value.type t == Value.type c)=true then some true else if PySem.W.kitMeta c=true then(fastBuiltinMro t).map (·.contains (.type c)) else none)=some (isA t c):=by decide +kernel
 exact kit_of (all t ht c hc) K
theorem Ok.tyMem {H:Hp}{v:V}(h:Ok H v):tyN H v∈["NoneType","bool","int","str","list","tuple"]:=by
 cases v with
 |ref a=>
  rcases h with⟨xs,e⟩|⟨xs,e⟩
  ·simp only[tyN,e];decide
  ·simp only[tyN,e];decide
 |byt _=>exact h.elim
 |flt _=>exact h.elim
 |ty _=>exact h.elim
 |_=>simp only[tyN];decide
theorem Ok.kit {H:Hp}{v:V}(h:Ok H v)(K:PySem.W.Frag){c:String}(hc:c∈["bool","int","str","list","tuple"]:=by decide):PySem.W.kitOne K (.type (tyN H v)) (.type c)=some (isA (tyN H v) c):=kit_any K h.tyMem hc
theorem tAndV_p {t u:TE}{σ:St}{H:Hp}{Q:VK}(c d:Bool)(ht:∀R:VK,R (.bl c) H->t σ H R)(hu:c=true->∀R:VK,R (.bl d) H->u σ H R)(q:Q (.bl (c&&d)) H):tAndV t u σ H Q:=by
 refine ht _ ⟨c,rfl,?_⟩;cases c with
 |false=>rw[if_neg Bool.false_ne_true];exact q
 |true=>rw[if_pos rfl];exact hu rfl _ q
theorem tyN_lst {H:Hp}{a:Addr}{xs:List V}(e:H a=some (.lst xs)):tyN H (.ref a)="list":=by simp only[tyN,e]
theorem tyN_tup {H:Hp}{a:Addr}{xs:List V}(e:H a=some (.tup xs)):tyN H (.ref a)="tuple":=by simp only[tyN,e]
theorem Ok.elim {H:Hp} {v:V} (ok:Ok H v) {C:Prop} (c1:v=.non->tyN H v="NoneType"->C) (c2:∀b,v=.bl b->tyN H v="bool"->C) (c3:∀i,v=.int i->tyN H v="int"->C) (c4:∀z,v=.str z->z.length<=1000->tyN H v="str"->C)
  (c5:∀a xs,v=.ref a->H a=some (.lst xs)->tyN H v="list"->C) (c6:∀a xs,v=.ref a->H a=some (.tup xs)->tyN H v="tuple"->C):C:=by
 cases v with
 |non=>exact c1 rfl rfl
 |bl b=>exact c2 b rfl rfl
 |int i=>exact c3 i rfl rfl
 |str z=>exact c4 z rfl ok rfl
 |ref a=>
  rcases ok with⟨xs,e⟩|⟨xs,e⟩
  ·exact c5 a xs rfl e (tyN_lst e)
  ·exact c6 a xs rfl e (tyN_tup e)
 |_=>exact(show False from ok).elim
def wholeB (H:Hp)(v:V):Bool:=isA (tyN H v) "int" && !isA (tyN H v) "bool"
theorem whole_int (H:Hp)(i:Int):wholeB H (.int i)=true:=by
 show(isA "int" "int" && !isA "int" "bool")=true
 decide
theorem whole_of {H:Hp}{v:V}(ok:Ok H v)(h:wholeB H v=true):∃i,v=.int i:=by
 unfold wholeB at h;refine ok.elim (fun _ e=>?_) (fun _ _ e=>?_) (fun i e _=>⟨i,e⟩) (fun _ _ _ e=>?_) (fun _ _ _ _ e=>?_) (fun _ _ _ _ e=>?_)
 all_goals (rw[e] at h;exact absurd h (by decide))
def betw (a b:Int):V->Bool
 | .int i=>decide (a<=i)&&decide (i<=b)
 |_=>false
theorem betw_eq {H:Hp}{v:V}{a b:Int}(h:wholeB H v=false):betw a b v=false:=by
 cases v with
 |int i=>rw[whole_int] at h;cases h
 |_=>rfl
theorem tuple_of {H:Hp}{v:V}(ok:Ok H v)(h:isA (tyN H v) "tuple"=true):∃a xs,v=.ref a/\H a=some (.tup xs):=by
 refine ok.elim (fun _ e=>?_) (fun _ _ e=>?_) (fun _ _ e=>?_) (fun _ _ _ e=>?_) (fun _ _ _ _ e=>?_) (fun a xs e1 e2 _=>⟨a,xs,e1,e2⟩)
 all_goals (rw[e] at h;exact absurd h (by decide))
theorem str_of {H:Hp}{v:V}(ok:Ok H v)(h:isA (tyN H v) "str"=true):∃z,v=.str z/\z.length<=1000:=by
 refine ok.elim (fun _ e=>?_) (fun _ _ e=>?_) (fun _ _ e=>?_) (fun z e1 e2 _=>⟨z,e1,e2⟩) (fun _ _ _ _ e=>?_) (fun _ _ _ _ e=>?_)
 all_goals (rw[e] at h;exact absurd h (by decide))
def Itx (x:Str):It:=⟨fun i _=>i<x.cps.size,fun i H v H'=>H'=H/\∃c,x.cps[i]?=some c/\v=.str ⟨#[c]⟩,fun i _=>x.cps.size<=i⟩
theorem turn_ascii {P:Program}{w:World}{K:PySem.W.Frag}{tg:Expr}(it:Addr)(x:Str)(t:Tok):Turn P w K tg (Itx x) [it] it (fun i h=>h.IsStrIter it "str_ascii_iterator" x t i) where
 mem:=by simp
 obj:=fun i h st b hb=>by
  have e:b=it:=by simpa using hb
  subst e;obtain⟨o,e,c,d⟩:=st;exact⟨o,e,fun v z=>by rw[d] at z;cases z⟩
 keep:=fun i h h' st k=>by
  obtain⟨o,e,c,d⟩:=st;exact⟨o,k it (by simp) o e,c,d⟩
 item:=by
  intro X hP hw hK hc i pins s σ H E I hf st hg;subst hP hw hK;have hg':i<x.cps.size:=hg;obtain⟨f0,f1,f2,f3,f4,f5⟩:=hf it (by simp);refine wpAny_pyNext_ascii_item st (c:=x.cps[i]) (by simp[hg']) fun h' st' sb=>?_
  have I1:Inv X pins σ H { s with heap:=h',toks:=s.toks+1 }:=I.turned (fun b o hb e=>(sb.2 b hb).trans e) f0 f1 f3 f4 f5;obtain⟨o,e,c,d⟩:=id st';exact⟨_,rfl,go_of (s:={ s with heap:=h',toks:=s.toks+1 }) e c d (by decide) ⟨.str ⟨#[x.cps[i]]⟩,H,I1,⟨_,rfl⟩,⟨rfl,_,by simp[hg'],rfl⟩,st',fun b hb=>(hf b hb).1⟩⟩
 done:=by
  intro X hP hw hK hc i pins s σ H E I hf st hg;subst hP hw hK;have hg':x.cps.size<=i:=hg;obtain⟨f0,f1,f2,f3,f4,f5⟩:=hf it (by simp);exact wpAny_pyNext_ascii_end (I.ok.hd hc) st (by simp[hg']) fun h' eb=>⟨rfl,I.turned (t':=s.toks) (fun b o hb e=>eb b o hb e) f0 f1 f3 f4 f5⟩
 self:=fun _ _ _ _ _ st h=>wpAny_pyIter_striter_ascii st h
theorem turn_wide {P:Program}{w:World}{K:PySem.W.Frag}{tg:Expr}(it:Addr)(x:Str)(t:Tok):Turn P w K tg (Itx x) [it] it (fun i h=>h.IsStrIter it "str_iterator" x t i) where
 mem:=by simp
 obj:=fun i h st b hb=>by
  have e:b=it:=by simpa using hb
  subst e;obtain⟨o,e,c,d⟩:=st;exact⟨o,e,fun v z=>by rw[d] at z;cases z⟩
 keep:=fun i h h' st k=>by
  obtain⟨o,e,c,d⟩:=st;exact⟨o,k it (by simp) o e,c,d⟩
 item:=by
  intro X hP hw hK hc i pins s σ H E I hf st hg;subst hP hw hK;have hg':i<x.cps.size:=hg;obtain⟨f0,f1,f2,f3,f4,f5⟩:=hf it (by simp);refine wpAny_pyNext_wide_item st (c:=x.cps[i]) (by simp[hg']) fun h' st' sb=>?_
  have I1:Inv X pins σ H { s with heap:=h',toks:=s.toks+1 }:=I.turned (fun b o hb e=>(sb.2 b hb).trans e) f0 f1 f3 f4 f5;obtain⟨o,e,c,d⟩:=id st';exact⟨_,rfl,go_of (s:={ s with heap:=h',toks:=s.toks+1 }) e c d (by decide) ⟨.str ⟨#[x.cps[i]]⟩,H,I1,⟨_,rfl⟩,⟨rfl,_,by simp[hg'],rfl⟩,st',fun b hb=>(hf b hb).1⟩⟩
 done:=by
  intro X hP hw hK hc i pins s σ H E I hf st hg;subst hP hw hK;have hg':x.cps.size<=i:=hg;obtain⟨f0,f1,f2,f3,f4,f5⟩:=hf it (by simp);exact wpAny_pyNext_wide_end (I.ok.hd hc) st (by simp[hg']) fun h' eb=>⟨rfl,I.turned (t':=s.toks) (fun b o hb e=>eb b o hb e) f0 f1 f3 f4 f5⟩
 self:=fun _ _ _ _ _ st h=>wpAny_pyIter_striter_wide st h
section
variable {X:Cx}{tg:Expr}
def iStr (tl:TE):TI:=fun σ H R=>tl σ H fun x H1=>∃z,x=.str z/\R (Itx z) H1
theorem pi_str {l:Expr}{tl:TE}(hl:PE X l tl):PI X tg l (iStr tl):=by
 intro pins s σ H R I h;refine thn (hl pins s σ H _ I h) fun v s1 ⟨x,H1,I1,r1,q1⟩=>?_
 obtain⟨z,e,q⟩:=q1;subst e;obtain⟨t,rfl⟩:=r1;have fp:∀b∈[s1.heap.objs.size],FpOk X pins H1 b:=fun b hb=>by
  have e:b=s1.heap.objs.size:=by simpa using hb
  subst e;exact I1.fpOk (Nat.le_refl _) (I1.hok.fresh (Nat.le_refl _))
 cases ha:z.cps.all (· < 128)
 ·exact wpAny_pyIter_wide ha ⟨s1.heap.objs.size,[s1.heap.objs.size],_,_,H1,rfl,I1.kept (t':=s1.toks) (fun b o e=>Heap.get?_push_of_some _ e),turn_wide _ z t,⟨_,Heap.get?_push_size _ rfl,rfl,rfl⟩,fp,q⟩
 ·exact wpAny_pyIter_ascii ha ⟨s1.heap.objs.size,[s1.heap.objs.size],_,_,H1,rfl,I1.kept (t':=s1.toks) (fun b o e=>Heap.get?_push_of_some _ e),turn_ascii _ z t,⟨_,Heap.get?_push_size _ rfl,rfl,rfl⟩,fp,q⟩
end
theorem itIs_str {x:Str}{H:Hp}:ItIs (Itx x) H (x.cps.toList.map fun c=>V.str ⟨#[c]⟩):=fun H' s i=>
 ⟨fun hi=>(by simpa using hi:i<x.cps.size),fun v H'' y=>⟨y.1,fun hi=>by
  obtain⟨_,c,hc,e⟩:=y;rw[List.getElem?_map,Array.getElem?_toList,hc,e];rfl⟩,fun hi=>(by simpa using hi:x.cps.size<=i)⟩
section
variable {X:Cx}
def rIndex:V->List V->Hp->VK->Prop:=fun x vs H Q=>∃t u,x=.str t/\vs=[.str u]/\0<=Txt.find t u/\Q (.int (Txt.find t u)) H
theorem mt_index (hc:X.calm=true):MtR X "str.index" rIndex:=by
 intro pins s σ H x vs v us Q I rx rv h;obtain⟨t,u,rfl,rfl,h0,q⟩:=h;obtain⟨tk,rfl⟩:=rx;obtain⟨y,rfl,ry⟩:=rv.one;obtain⟨tk2,rfl⟩:=ry;refine index_or (I.ok.hd hc) (fun e=>absurd e (by omega)) fun _ _=>⟨.int (Txt.find t u),H,I.tok _,⟨_,rfl⟩,q⟩
end
section
variable {X:Cx}
def rMulS:R2:=fun x y H Q=>∃(z:Str) (n:Int),x=.str z/\y=.int n/\n<=1000/\-1000<=n/\z.length<=1000/\Q (.str (PySem.Txt.mul z n)) H
theorem mulOk_of {z:Str}{n:Int}(h1:n<=1000)(h0:-1000<=n)(h2:z.length<=1000):MulOk z n:=by
 refine⟨?_,fun h3 _=>?_,fun h3 _=>?_⟩
 ·rw[decide_eq_false (by omega),decide_eq_false (by omega)];rfl
 ·have:(2^63-1:Int)/n≥(2^63-1:Int)/1000:=by
   have hn:0<n:=by omega
   have a:(2^63-1:Int)/1000*n<=2^63-1:=by
    have b:(2^63-1:Int)/1000*n<=(2^63-1:Int)/1000*1000:=Int.mul_le_mul_of_nonneg_left h1 (by decide);have c:(2^63-1:Int)/1000*1000<=2^63-1:=by decide
    omega
   exact(Int.le_ediv_iff_mul_le hn).mpr a
  have d:(1000:Int)<=(2^63-1:Int)/1000:=by decide
  omega
 ·have:z.length*n.toNat<=1000*1000:=Nat.mul_le_mul h2 (by omega);have e:Builtin.Str.tooLong (z.length*n.toNat)=decide (z.length*n.toNat>sizeLine):=rfl;rw[e];exact decide_eq_false (by have:=sizeLine_big;omega)
theorem op_mul_str:OpR X (binaryOp .Mult) rMulS:=by
 intro pins s σ H x y v u Q I rx ry h;obtain⟨z,n,rfl,rfl,h1,h0,h2,q⟩:=h;obtain⟨t,rfl⟩:=rx;obtain⟨t',rfl⟩:=ry;exact SB.mul (mulOk_of h1 h0 h2) fun t' k=>⟨.str _,H,I.tok k,⟨_,rfl⟩,q⟩
theorem strsAre_of {ys:List Str}:∀{us:List Value},Vals (ys.map V.str) us->StrsAre us ys:=by
 induction ys with
 |nil=>intro us r;rw[List.map_nil] at r;cases r;exact .nil
 |cons n ns ih=>
  intro us r;rw[List.map_cons] at r;cases r with
  |cons r1 r2=>
   obtain⟨t,e⟩:=r1;subst e;exact .cons n t (ih r2)
def rJoin (K:PySem.W.Frag):V->List V->Hp->VK->Prop:=fun x vs H Q=>∃(a:Addr) (z:Str) (ys:List Str),x=.str z/\vs=[.ref a]/\SqL K H a (ys.map V.str)/\(ys.map (·.length)).sum+ys.length*z.length<=16777216/\Q (.str (PySem.Txt.join z ys)) H
theorem mt_join (_:X.calm=true):MtR X "str.join" (rJoin X.K):=by
 intro pins s σ H x vs v us Q I rx rv h;obtain⟨a,z,ys,rfl,rfl,hq,hz,q⟩:=h;obtain⟨tk,rfl⟩:=rx;obtain⟨y,rfl,ry⟩:=rv.one;cases ry;obtain⟨its,r1,p1,_⟩:=I.list hq;exact join_list p1.isList (strsAre_of (by simpa using r1)) hz fun t' k=>⟨.str _,H,I.tok k,⟨_,rfl⟩,q⟩
end
end L2
namespace L2
open PySem PySem.Spec PyProof.Rows PySem.Builtin.Str
abbrev cod (z:Str):List Nat:=z.cps.toList
theorem cod_len (z:Str):(cod z).length=z.length:=by simp[Str.length]
theorem str_ext {x y:Str}(h:cod x=cod y):x=y:=by
 obtain⟨a⟩:=x;obtain⟨b⟩:=y;have:a=b:=Array.toList_inj.mp h;rw[this]
end L2
namespace L2
open PySem PySem.Spec PyProof.Rows
theorem bt_abs:bootBuiltins "abs"=some (.builtin "abs"):=by decide +kernel
theorem tc_enum (a v:Value):checkTypeCall "enumerate" ⟨[a],[("start",v)]⟩=pure ():=by kernel_rfl
theorem nc_enum (a v:Value):checkBuiltinCall "enumerate.__new__" ⟨[.type "enumerate",a],[("start",v)]⟩=pure ():=by kernel_rfl
theorem ao_enum (obj a v:Value):argsOk "object.__init__" ⟨[obj,a],[("start",v)]⟩:=by kernel_rfl
theorem mt_enum (l:Addr)(items:Array Value)(m:Nat)(sl:Array (Option Value))(t:Tok):Meets (Builtin.«enumerate.__new__» ⟨[.type "enumerate",.ref l],[("start",.int 1 t)]⟩) fun _ R s=>
  s.heap.get? l=some { cls:=.type "list",dict:=none,data:=.seq items m,slots:=sl }/\R (.ok (.ret (.ref (s.heap.objs.size+1))))
   { s with heap:=(s.heap.push { cls:=.type "list_iterator",data:=.fields #[.ref l,.int 0 0] }).push { cls:=.type "enumerate",data:=.fields #[.none,.bool false,.ref s.heap.objs.size,rawInt 1,.none,.none] } }:=by
 refine .of_wp fun prog w A R s h=>?_
 obtain⟨hl,h⟩:=h;have hsub:=sub_enumerate;have hL:s.heap.IsList l items:=⟨_,hl,rfl,m,rfl⟩
 obtain⟨hp,g,d,tk,os⟩:=s
 wp_walk using PySem.AutoSeq1.wpAny_loadPart' hl
 refine wpAny_stack_any fun st=>wpAny_pure ?_
 split
 ·rename_i c _ _ _ _ _
  cases hcc:(c == Value.type "enumerate")<;>wp_walk using PySem.AutoSeq1.wpAny_loadPart' hl,wpAny_pyIter_list hL
  all_goals (refine⟨_,rfl,?_⟩;rw[Heap.size_push];exact h)
 ·wp_walk using PySem.AutoSeq1.wpAny_loadPart' hl,wpAny_pyIter_list hL
  refine⟨_,rfl,?_⟩;rw[Heap.size_push];exact h
theorem oi_enum {self a v:Value}:Meets (Builtin.«object.__init__» ⟨[self,a],[("start",v)]⟩) fun _ R s=>s.TypeIs self "enumerate"/\R (.ok (.ret .none)) s:=by
 have hl:=F.called_enumerate.init.lookup;have hm:=F.called_enumerate.made;have hne:(some "enumerate.__new__" != some "object.__new__")=true:=by decide
 refine .of_wp fun prog w A R s h=>?_
 obtain⟨hT,hq⟩:=h
 repeat (any_goals (first|wp_step|assumption))
 all_goals exact⟨_,rfl,hq⟩
section
variable {prog:Program}{w:World}{A:Around}{E:Value->Shared->Prop}{s:Shared}
theorem call_enum {l:Addr} {items:Array Value} {m:Nat} {sl:Array (Option Value)} {t:Tok} {Q:Value->Shared->Prop} (hl:s.heap.get? l=some { cls:=.type "list",dict:=none,data:=.seq items m,slots:=sl })
  (h:Q (.ref (s.heap.objs.size+1)) { s with heap:=(s.heap.push { cls:=.type "list_iterator",data:=.fields #[.ref l,.int 0 0] }).push { cls:=.type "enumerate",data:=.fields #[.none,.bool false,.ref s.heap.objs.size,rawInt 1,.none,.none] } }) :
  wpAny (model prog w) A (call (.type "enumerate") [.ref l] [("start",.int 1 t)]) Q E s:=by
 have ft:=F.called_enumerate;obtain⟨c,tl,hmro⟩:=ft.mro;have hmade:=ft.made;have hsub:=ft.sub;have hct:=tc_enum (.ref l) (.int 1 t);refine wpAny_call (codeAny_of_tree (wpAny_pure (?_:_/\_)));refine⟨Code.quiet_builtin _ (by decide +kernel),codeAny_builtin F.entry_type_call ?_⟩;rw[Around.under_plain (weight_type_call_type "enumerate" _ _) (units_type_call_type "enumerate" _ _)];have h1:=ft.notType;have h2:=ft.canCreate
 repeat (any_goals (first|wp_step|assumption))
 let s':Shared:={ s with heap:=(s.heap.push { cls:=.type "list_iterator",data:=.fields #[.ref l,.int 0 0] }).push { cls:=.type "enumerate",data:=.fields #[.none,.bool false,.ref s.heap.objs.size,rawInt 1,.none,.none] } }
 have key:codeAny (model prog w) A.in1 (.call (.builtin "enumerate.__new__") ⟨[.type "enumerate",.ref l],[("start",.int 1 t)]⟩) (fun r s1=>r=.ok (.ret (.ref (s.heap.objs.size+1)))/\s1=s') s:=
  codeAny_call_builtin ft.plain F.entry_enumerate_new (wpAny_of_eq (nc_enum _ _) (mt_enum l items m sl t prog w A.in1 (fun r s1=>r=.ok (.ret (.ref (s.heap.objs.size+1)))/\s1=s') s ⟨hl,rfl,rfl⟩))
 refine codeAny_mono key fun r s₁ hr=>?_
 obtain⟨rfl,rfl⟩:=hr;have hz:(s.heap.push { cls:=.type "list_iterator",data:=.fields #[.ref l,.int 0 0] }).objs.size=s.heap.objs.size+1:=Heap.size_push ..;have hT:s'.TypeIs (.ref (s.heap.objs.size+1)) "enumerate":=⟨_,by rw[<-hz];exact Heap.get?_push_size _ rfl,rfl⟩
 have hq:Q (.ref (s.heap.objs.size+1)) s':=h
 clear_value s'
 have hli:=ft.init.lookup;have hbi:=ft.init.bind (.ref (s.heap.objs.size+1));show wpAny _ _ _ _ _ _
 repeat (any_goals (first|wp_step|assumption))
 have key2:codeAny (model prog w) A.in1 (.call (.builtin "object.__init__") ⟨[.ref (s.heap.objs.size+1),.ref l],[("start",.int 1 t)]⟩) (fun r s1=>r=.ok (.ret .none)/\s1=s') s':=
  codeAny_call_builtin ft.init.plain F.entry_object_init (ft.init.check _ _ _ _ _ _ _ _ hT (ao_enum _ _ _) (oi_enum prog w A.in1 (fun r s1=>r=.ok (.ret .none)/\s1=s') s' ⟨hT,rfl,rfl⟩))
 refine codeAny_mono key2 fun r s₂ hr=>?_
 obtain⟨rfl,rfl⟩:=hr;show wpAny _ _ _ _ _ _
 repeat (any_goals (first|wp_step|assumption))
theorem draws_from1 (hh:A.handled=none)(it l:Addr)(hne:l≠it)(items:Array Value) :
  Draws prog w A it [it,l] (items.size+1) (fun j v=>∃i,j=i+1/\items[i]?=some v) (fun j h=>∃i,j=i+1/\h.IsListIter it l i/\h.IsList l items):=by
 have D:=Draws.list (prog:=prog) (w:=w) (A:=A) hh it l hne items;refine⟨fun j h ⟨i,_,st⟩=>D.live i h st,fun j h h' ⟨i,e,st⟩ hk=>⟨i,e,D.frame i h h' st hk⟩,fun j s Q E hj ⟨i,e,st⟩ hQ=>?_,fun s Q E ⟨i,e,st⟩ hE=>?_⟩
 ·subst e;exact D.item i s Q E (by omega) st fun x h' tk hx st' hs=>hQ x h' tk ⟨i,rfl,hx⟩ ⟨i+1,rfl,st'⟩ hs
 ·have e':i=items.size:=by omega
  subst e';exact D.done s Q E st hE
end
section
variable {X:Cx}{pins:List (Addr×Obj)}{σ:St}{H:Hp}{s:Shared}{h':Heap}
theorem Inv.turned2 {t':Nat} {e it T:Addr} {xs:List V} {us:List Value} (I:Inv X pins σ H s) (fe:FpOk X pins H e) (fi:FpOk X pins H it) (k:∀b o,b≠e->b≠it->s.heap.get? b=some o->h'.get? b=some o)
  (hT:s.heap.objs.size<=T) (r:Vals xs us) (hz:xs.length<=sizeLine) (ht:TupN (enuV xs) h' T us.toArray):Inv X pins σ (upd H T (.tup xs)) { s with heap:=h',toks:=t' }:=by
 obtain⟨e0,e1,e2,e3,e4,e5⟩:=fe;obtain⟨i0,i1,i2,i3,i4,i5⟩:=fi;have hn:H T=none:=I.hok.fresh hT;have nT:∀b o,s.heap.get? b=some o->b≠T:=fun b o q=>Nat.ne_of_lt (Nat.lt_of_lt_of_le (Heap.lt_size q) hT)
 have kc:∀b o,b∉[e,it]->s.heap.get? b=some o->h'.get? b=some o:=fun b o hb q=>k b o (fun z=>hb (by simp[z])) (fun z=>hb (by simp[z])) q
 have up:∀b u,H b=some u->upd H T (.tup xs) b=some u:=fun b u q=>by rw[upd_ne (ne_of_none q hn)];exact q
 refine I.step (g':=s.gens) (d':=s.drawn) (ch:=[e,it]) (fun b hb=>?_) (fun b o _ _ hc q _=>kc b o hc q) (fun b o _ _ hc q _=>⟨o.slots,kc b o hc q⟩) (fun b o _ q n=>by rw[upd_ne (nT b o q)];exact n)
  (fun b o hc q=>⟨o,kc b o hc q⟩) (fun b ys q=>up b _ q) (fun b o u q=>up b _ q) (fun b ps q=>⟨#[],by rw[up b _ q];simp⟩) (fun m hm=>?_) (fun b u q=>?_) I.bare
 ·rcases List.mem_cons.mp hb with rfl|hb
  ·exact⟨e3,e1,e4,e5⟩
  ·rw[List.mem_singleton.mp hb];exact⟨i3,i1,i4,i5⟩
 ·obtain⟨o,es,ep,ho,hr⟩:=hm;exact⟨o,es,ep,k _ o (Ne.symm e1) (Ne.symm i1) ho,hr⟩
 ·by_cases hb:b=T
  ·subst hb;rw[upd_same] at q;cases q;exact⟨hz,us,r,ht⟩
  ·rw[upd_ne hb] at q;have nn:∀c v,H c=some v->c≠e/\c≠it:=fun c v z=>⟨fun y=>(by rw[y,e0] at z;cases z),fun y=>(by rw[y,i0] at z;cases z)⟩
   refine(I.hok b u q).stay (fun c v hc z=>?_) (fun c z=>up c _ z) fun c ys z=>up c _ z
   rcases hc with y|y
   ·subst y;exact k c v (nn c u q).1 (nn c u q).2 z
   ·exact k c v (nn c _ y).1 (nn c _ y).2 z
theorem Inv.turned2n {t':Nat}{e it:Addr}(I:Inv X pins σ H s)(fe:FpOk X pins H e)(fi:FpOk X pins H it)(k:∀b o,b≠e->b≠it->s.heap.get? b=some o->h'.get? b=some o):Inv X pins σ H { s with heap:=h',toks:=t' }:=by
 obtain⟨e0,e1,e2,e3,e4,e5⟩:=fe;obtain⟨i0,i1,i2,i3,i4,i5⟩:=fi;have kc:∀b o,b∉[e,it]->s.heap.get? b=some o->h'.get? b=some o:=fun b o hb q=>k b o (fun z=>hb (by simp[z])) (fun z=>hb (by simp[z])) q
 refine I.step (g':=s.gens) (d':=s.drawn) (ch:=[e,it]) (fun b hb=>?_) (fun b o _ _ hc q _=>kc b o hc q) (fun b o _ _ hc q _=>⟨o.slots,kc b o hc q⟩) (fun b o _ q n=>n)
  (fun b o hc q=>⟨o,kc b o hc q⟩) (fun b ys q=>q) (fun b o u q=>q) (fun b ps q=>⟨#[],by rw[q];simp⟩) (fun m hm=>?_) (fun b u q=>?_) I.bare
 ·rcases List.mem_cons.mp hb with rfl|hb
  ·exact⟨e3,e1,e4,e5⟩
  ·rw[List.mem_singleton.mp hb];exact⟨i3,i1,i4,i5⟩
 ·obtain⟨o,es,ep,ho,hr⟩:=hm;exact⟨o,es,ep,k _ o (Ne.symm e1) (Ne.symm i1) ho,hr⟩
 ·have nn:∀c v,H c=some v->c≠e/\c≠it:=fun c v z=>⟨fun y=>(by rw[y,e0] at z;cases z),fun y=>(by rw[y,i0] at z;cases z)⟩
  refine(I.hok b u q).stay (fun c v hc z=>?_) (fun c z=>z) fun c ys z=>z
  rcases hc with y|y
  ·subst y;exact k c v (nn c u q).1 (nn c u q).2 z
  ·exact k c v (nn c _ y).1 (nn c _ y).2 z
end
def Ite (K:PySem.W.Frag)(a:Addr):It:=
 ⟨fun i H=>∃xs x,SqL K H a xs/\xs[i]?=some x,fun i H v H'=>∃T x,H T=none/\v=.ref T/\(∀xs,SqL K H a xs->xs[i]?=some x)/\H'=upd H T (.tup [.int ((i:Int)+1),x]),fun i H=>∃xs,SqL K H a xs/\xs.length=i⟩
theorem turn_enum {P:Program}{w:World}{K:PySem.W.Frag}{els:List Expr}{kk:Nat}{pp:Pos}(a e it:Addr)(hei:e≠it):Turn P w K (.Tuple els kk pp) (Ite K a) [e,it] e (fun i h=>(∃old,IsEnum h e it ((i:Int)+1) old)/\h.IsListIter it a i) where
 mem:=by simp
 obj:=fun i h st b hb=>by
  obtain⟨⟨old,he⟩,o,ho,_,hd⟩:=st;rcases List.mem_cons.mp hb with rfl|hb
  ·exact⟨_,he,fun v z=>by cases z⟩
  ·rw[List.mem_singleton.mp hb];exact⟨o,ho,fun v z=>by rw[hd] at z;cases z⟩
 keep:=fun i h h' st hk=>by
  obtain⟨⟨old,he⟩,o,ho,r⟩:=st;exact⟨⟨old,hk e (by simp) _ he⟩,o,hk it (by simp) o ho,r⟩
 item:=fun X hP hw hK hc i pins s σ H E I hf st hg=>by
  subst hP hw hK;obtain⟨xs,x,hq,hx⟩:=hg;obtain⟨its,rv,p,hz⟩:=I.list hq;obtain⟨⟨old,he⟩,hit⟩:=st;have fe:=hf e (by simp);have fi:=hf it (by simp);obtain⟨u,hu,ru⟩:=rv.get hx;have il:=p.isList;have nae:a≠e:=fun z=>by
   obtain⟨o,ho,c1,_⟩:=il;rw[z,he] at ho;cases ho;injection c1 with y;exact absurd y (by decide)
  have nai:a≠it:=fun z=>by
   obtain⟨o,ho,c1,_⟩:=il;obtain⟨o2,ho2,c2,_⟩:=hit;rw[z,ho2] at ho;cases ho;rw[c2] at c1;injection c1 with y;exact absurd y (by decide)
  have W:=WalksT.enumerateD (prog:=X.prog) (w:=X.w) (A:=X.A) (draws_from1 (prog:=X.prog) (w:=X.w) (A:=X.A.in1) (I.ok.hd hc) it a nai its.toArray) e hei (by simp[hei,Ne.symm nae]) (by simp);refine W.item (i+1) s _ E (by have:=(List.getElem?_eq_some_iff.mp hu).1;simp;omega) ⟨⟨old,by simpa using he⟩,i,rfl,hit,il⟩ fun T vals h1 tk ⟨t,y,⟨i',ei,hy⟩,ev⟩ hT htu hm hk=>?_
  refine⟨.ref T,rfl,W.go els kk pp (i+1) T _ _ E hm fun h2 st2 hk2=>?_⟩;obtain⟨⟨old2,he2⟩,i2,e2,hit2,_⟩:=st2;have e3:i'=i:=by omega
  have e4:i2=i+1:=by omega
  subst e3 e4 ev;have ey:y=u:=by
   have q1:its.toArray[i']?=some u:=by simpa using hu
   exact Option.some.inj (hy.symm.trans q1)
  subst ey;have hTw:T∉[e,it]:=W.apart _ _ _ hm;have ht2:TupN true h2 T #[.int ((i':Int)+1) t,y]:=by
   obtain⟨o,ho,c,m,d⟩:=htu;exact⟨o,hk2 T o hTw ho,c,m,d,fun z=>nomatch z⟩
  refine⟨.ref T,upd H T (.tup [.int ((i':Int)+1),x]),?_,rfl,⟨T,x,I.hok.fresh hT,rfl,fun zs hzs=>(by rw[I.list_inj hzs hq];exact hx),rfl⟩,⟨⟨old2,by simpa using he2⟩,hit2⟩,fun b hb=>?_⟩
  ·have I2:=I.turned2 (h':=h2) (t':=tk) (xs:=[.int ((i':Int)+1),x]) (us:=[.int ((i':Int)+1) t,y]) fe fi (fun b o b1 b2 q=>hk2 b o (by simp[b1,b2]) (hk b o (by simp[b1,b2]) q)) hT (.cons ⟨_,rfl⟩ (.cons ru .nil)) (by show 2<=sizeLine;decide) ht2;exact I2
  ·have nb:b≠T:=fun z=>hTw (z▸hb)
   rw[upd_ne nb];exact(hf b hb).1
 done:=fun X hP hw hK hc i pins s σ H E I hf st hg=>by
  subst hP hw hK;obtain⟨xs,hq,hx⟩:=hg;obtain⟨its,rv,p,hz⟩:=I.list hq;obtain⟨⟨old,he⟩,hit⟩:=st;have fe:=hf e (by simp);have fi:=hf it (by simp);have il:=p.isList;have nae:a≠e:=fun z=>by
   obtain⟨o,ho,c1,_⟩:=il;rw[z,he] at ho;cases ho;injection c1 with y;exact absurd y (by decide)
  have nai:a≠it:=fun z=>by
   obtain⟨o,ho,c1,_⟩:=il;obtain⟨o2,ho2,c2,_⟩:=hit;rw[z,ho2] at ho;cases ho;rw[c2] at c1;injection c1 with y;exact absurd y (by decide)
  have W:=WalksT.enumerateD (prog:=X.prog) (w:=X.w) (A:=X.A) (draws_from1 (prog:=X.prog) (w:=X.w) (A:=X.A.in1) (I.ok.hd hc) it a nai its.toArray) e hei (by simp[hei,Ne.symm nae]) (by simp);have el:its.toArray.size+1=i+1:=by rw[List.size_toArray,<-rv.length,hx]
  refine W.done s _ E (by rw[el];exact⟨⟨old,by simpa using he⟩,i,rfl,hit,il⟩) fun h' tk hk=>⟨rfl,?_⟩
  exact I.turned2n (h':=h') (t':=tk) fe fi fun b o b1 b2 q=>hk b o (by simp[b1,b2]) q
 self:=fun A i s Q E st h=>by
  obtain⟨⟨old,he⟩,_⟩:=st;exact wpAny_pyIter_enum he h
theorem cw_type_kw {M:Model} {A:Around} {E:Value->Shared->Prop} {s:Shared} {pos:Pos} {T:String} {args:List (Bool×Sem Value)} {kws:List (Option Str×Sem Value)} {Q:Value->Shared->Prop} (hp:args.any (·.1)=false) (hk:kws.any (·.1.isNone)=false)
  (h:wpAny M A (evalArgs (.type T) true args kws) (fun z sz=>wpAny M A (call (.type T) z.pos z.kw) Q E sz) E s):wpAny M A (callWith pos (.type T) [] args kws) Q E s:=by
 unfold callWith;refine wpAny_bind (wpAny_holding (wpAny_mono h (fun z sz hz=>wpAny_bind (wpAny_standAt ?_)) fun _ _ y=>y));simp only[hp,hk,Bool.or_false];refine wpAny_bind (wpAny_pure (wpAny_bind (wpAny_mono hz (fun v sv hv=>wpAny_bind (wpAny_holding (wpAny_point (wpAny_pure hv)))) fun _ _ y=>y)))
section
variable {X:Cx}{els:List Expr}{kk:Nat}{pp:Pos}
def iEnum (K:PySem.W.Frag)(ta:TA):TI:=fun σ H R=>ta σ H fun vs H1=>∃a xs,vs=[.ref a]/\SqL K H1 a xs/\R (Ite K a) H1
theorem pi_enum {l:Expr} {ta:TA} {p pos kp cp:Pos} {j} (hg:Gl X "enumerate") (hm:X.mg "enumerate"=none) (ha:PA X [l] ta)
  (he:backTo pos (starEach [l] X.env)=(false,eval l X.env)::backTo pos (starEach [] X.env):=by rfl)
  (hpl:(backTo pos (starEach [l] X.env)).any (·.1)=false:=by rfl) :
  PI X (.Tuple els kk pp) (.Call (.Name "enumerate" p) [l] [⟨some "start",.Constant (.int 1) j cp,kp⟩] pos) (iEnum X.K ta):=by
 intro pins s σ H R I h;refine wpAny_Call_Name_kw (ld_blt I hg hm bt_enumerate (cw_type_kw hpl rfl ?_));have hsp:=ha pos pins s σ H _ I h;rw[he] at hsp ⊢;refine evalArgs_kwB rfl (thn hsp fun us s1 ⟨vs,H1,I1,r1,q1⟩=>?_);refine kws_cons (wpAny_Constant_int (kws_nil ?_));obtain⟨a,xs,rfl,hq,q⟩:=q1;obtain⟨u,rfl,ru⟩:=vals1 r1;cases ru;have I2:=I1.tok (s1.toks+1);obtain⟨its,rv,⟨⟨oc,od,odt,sl⟩,m,pl,c1,c2,c3⟩,hz⟩:=I2.list hq;simp only at c1 c2 c3;subst c1 c2 c3;refine call_enum (items:=its.toArray) (m:=m) (sl:=sl) pl ?_;have hs:(s1.heap.push { cls:=.type "list_iterator",data:=.fields #[.ref a,.int 0 0] }).objs.size=s1.heap.objs.size+1:=Heap.size_push ..;have hE:IsEnum ((s1.heap.push { cls:=.type "list_iterator",data:=.fields #[.ref a,.int 0 0] }).push { cls:=.type "enumerate",data:=.fields #[.none,.bool false,.ref s1.heap.objs.size,rawInt 1,.none,.none] }) (s1.heap.objs.size+1) s1.heap.objs.size 1 .none:=by
  rw[<-hs];exact Heap.get?_push_size _ rfl
 refine wpAny_pyIter_enum hE ?_;refine⟨s1.heap.objs.size+1,[s1.heap.objs.size+1,s1.heap.objs.size],_,Ite X.K a,H1,rfl,I2.kept (t':=s1.toks+1) fun b o e=>Heap.get?_push_of_some _ (Heap.get?_push_of_some _ e),turn_enum a (s1.heap.objs.size+1) s1.heap.objs.size (Nat.succ_ne_self _),⟨⟨_,hE⟩,_,Heap.get?_push_of_some _ (Heap.get?_push_size _ rfl),rfl,rfl⟩,fun b hb=>?_,q⟩;rcases List.mem_cons.mp hb with rfl|hb
 ·exact I2.fpOk (Nat.le_succ _) (I2.hok.fresh (Nat.le_succ _))
 ·rw[List.mem_singleton.mp hb];exact I2.fpOk (Nat.le_refl _) (I2.hok.fresh (Nat.le_refl _))
end
theorem comp_enum {K:PySem.W.Frag} {a:Addr} {xs:List V} {fr:List (Option Nat)} {i0 i1:Nat} {n:Nat} {te:TE} {Q:VK} {σ:St} {H:Hp} (f:Nat->V->V) (h1:H a=some (.lst xs)) (hn:xs.length<=1000000) (h2:n=2)
  (helt:∀(i:Nat) (x:V) (H':Hp) (R:VK),xs[i]?=some x->Same H H'->(∀H'',Same H' H''->R (f i x) H'')->te (((stC fr σ).set i0 (some (.int ((i:Int)+1)))).set i1 (some x)) H' R) (hne:i0≠i1)
  (hQ:∀l H',H l=none->Same H H'->H' l=some (.lst ((List.range xs.length).map fun i=>f i (xs.getD i .non)))->Q (.ref l) H') :
  tCompK fr (gTup K n (gCons (gName i0) (gCons (gName i1) gNil))) tYes te σ Q (Ite K a) H:=by
 intro l hl;have hal:a≠l:=ne_of_none h1 hl;refine⟨fun i m σ' H'=>m=xs.length-i/\i<=xs.length/\(∀y z,(σ'.set i0 y).set i1 z=((stC fr σ).set i0 y).set i1 z)/\Same H H'/\H' l=some (.lst ((List.range i).map fun i=>f i (xs.getD i .non))),⟨xs.length,by simp,Nat.zero_le _,fun _ _=>rfl,same_new hl _,by rw[upd_same];rfl⟩,?_⟩
 rintro i m σ' H' ⟨rfl,hi,hσ,hs,hl'⟩
 have ha':=hs.get h1
 by_cases hlt:i<xs.length
 ·refine .inr ⟨⟨xs,xs[i],SqL.of ha',by simp[hlt]⟩,?_⟩
  rintro x H'' ⟨T,y,hT,rfl,hy,rfl⟩
  have hyi:=hy xs (SqL.of ha');have st:=same_new hT (.tup [.int ((i:Int)+1),y]);subst h2;refine⟨T,_,rfl,SqT.of upd_same,rfl,_,_,rfl,_,_,rfl,rfl,?_⟩;show te ((σ'.set i0 (some (.int ((i:Int)+1)))).set i1 (some y)) _ _;rw[hσ];refine helt i y _ _ hyi (hs.trans st) fun H4 s4=>?_
  refine⟨_,s4.get (st.get hl'),smallLt (by rw[List.length_map,List.length_range];omega),xs.length-(i+1),by omega,rfl,hlt,fun y z=>?_,same_upd ((hs.trans st).trans s4) hl _,?_⟩
  ·rw[List.set_comm _ _ (Ne.symm hne),List.set_set,List.set_set]
  ·rw[upd_same,List.range_succ,List.map_append];simp[List.getD,hyi]
 ·have e:i=xs.length:=by omega
  subst e;exact .inl ⟨⟨xs,SqL.of ha',rfl⟩,hQ l H' hl hs hl'⟩
theorem pg_tupK {X:Cx}{K:PySem.W.Frag}{pos:Pos}{es:List Expr}{k:Nat}{t:TGs}{n:Nat}(hK:X.K=K)(hc:X.calm=true)(h:PGs X es t)(hn:(assignEach es X.env).length=n:=by rfl)(hs:(assignEach es X.env).findIdx? (·.1)=none:=by rfl):PG X (.Tuple es k pos) (gTup K n t):=by
 subst hK;exact pg_tup hc h hn hs
theorem cut_last {xs:List V}:cutV xs none (some (-1))=xs.dropLast:=by
 unfold cutV HT.sIx;rw[List.dropLast_eq_take];simp only[List.drop_zero,Nat.sub_zero];rw[if_pos (by decide)]
 congr 1
 omega
section
variable {κ:Type}[DecidableEq κ]
def valV (kvs:List (κ×V))(k:κ):Option V:=(kvs.find? fun kv=>decide (kv.1=k)).map (·.2)
def putK (kvs:List (κ×V))(k:κ)(v:V):List (κ×V):=
 if(kvs.any fun kv=>decide (kv.1=k))=true then kvs.map (fun kv=>if kv.1=k then(kv.1,v) else kv) else kvs++[(k,v)]
def dropK (kvs:List (κ×V))(k:κ):List (κ×V):=kvs.filter fun kv=>decide (kv.1≠k)
theorem valV_pos {p:κ×V}{r:List (κ×V)}{k:κ}(e:p.1=k):valV (p::r) k=some p.2:=by simp[valV,List.find?_cons,e]
theorem valV_neg {p:κ×V}{r:List (κ×V)}{k:κ}(e:¬p.1=k):valV (p::r) k=valV r k:=by simp[valV,List.find?_cons,e]
theorem valV_any (k:κ):∀kvs:List (κ×V),(kvs.any fun kv=>decide (kv.1=k))=(valV kvs k).isSome
 |[]=>rfl
 |p::r=>by
  rw[List.any_cons]
  by_cases e:p.1=k
  ·simp only[valV_pos e,decide_eq_true e,Bool.true_or,Option.isSome_some]
  ·rw[valV_neg e,decide_eq_false e,Bool.false_or];exact valV_any k r
theorem length_putK (kvs:List (κ×V))(k:κ)(v:V):(putK kvs k v).length<=kvs.length+1:=by
 unfold putK
 split
 ·rw[List.length_map];omega
 ·rw[List.length_append,List.length_cons,List.length_nil];omega
theorem RelO.isSome_eq {o:Option V}{u:Option Value}(r:RelO o u):o.isSome=u.isSome:=by
 cases o with
 |none=>cases u with
  |none=>rfl
  |some _=>exact(show False from r).elim
 |some _=>cases u with
  |none=>exact(show False from r).elim
  |some _=>rfl
theorem RelO.getD {o:Option V}{u:Option Value}{d:V}{d':Value}(r:RelO o u)(rd:RelV d d'):RelV (o.getD d) (u.getD d'):=by
 cases o with
 |none=>cases u with
  |none=>exact rd
  |some _=>exact(show False from r).elim
 |some _=>cases u with
  |none=>exact(show False from r).elim
  |some _=>exact r
theorem KV.val {kvs:List (κ×V)}{vs:List (κ×Value)}(r:KV kvs vs)(k:κ):RelO (valV kvs k) (valueAt vs k):=by
 unfold KV at r
 induction r with
 |nil=>exact True.intro
 |@cons p q ps qs h t ih=>
  obtain⟨h1,h2⟩:=h
  by_cases e:p.1=k
  ·have e':q.1=k:=h1.symm.trans e;have b:valueAt (q::qs) k=some q.2:=by simp[valueAt,List.find?_cons,e']
   rw[valV_pos e,b];exact h2
  ·have e':¬q.1=k:=fun z=>e (h1.trans z)
   have b:valueAt (q::qs) k=valueAt qs k:=by simp[valueAt,List.find?_cons,e']
   rw[valV_neg e,b];exact ih
theorem KV.any {kvs:List (κ×V)}{vs:List (κ×Value)}(r:KV kvs vs)(k:κ):(kvs.any fun kv=>decide (kv.1=k))=vs.any fun kv=>decide (kv.1=k):=by
 unfold KV at r
 induction r with
 |nil=>rfl
 |cons h t ih=>rw[List.any_cons,List.any_cons,ih,h.1]
theorem KV.repl {kvs:List (κ×V)}{vs:List (κ×Value)}(r:KV kvs vs)(k:κ){y:V}{u:Value}(ry:RelV y u) :
  KV (kvs.map fun kv=>if kv.1=k then(kv.1,y) else kv) (vs.map fun kv=>if kv.1=k then(kv.1,u) else kv):=by
 unfold KV at r ⊢
 induction r with
 |nil=>exact .nil
 |@cons p q ps qs h t ih=>
  rw[List.map_cons,List.map_cons];refine .cons ?_ ih;obtain⟨h1,h2⟩:=h
  by_cases e:p.1=k
  ·rw[if_pos e,if_pos (h1.symm.trans e)];exact⟨h1,ry⟩
  ·rw[if_neg e,if_neg (fun z=>e (h1.trans z))];exact⟨h1,h2⟩
theorem KV.put {kvs:List (κ×V)}{vs:List (κ×Value)}(r:KV kvs vs)(k:κ){y:V}{u:Value}(ry:RelV y u):KV (putK kvs k y) (stored vs k u):=by
 unfold putK stored;rw[r.any k]
 by_cases e:(vs.any fun kv=>decide (kv.1=k))=true
 ·rw[if_pos e,if_pos e];exact r.repl k ry
 ·rw[if_neg e,if_neg e];exact Paired.snoc r ⟨rfl,ry⟩
theorem KV.drop {kvs:List (κ×V)}{vs:List (κ×Value)}(r:KV kvs vs)(k:κ):KV (dropK kvs k) (without vs k):=by
 unfold KV at r ⊢;unfold dropK without
 induction r with
 |nil=>exact .nil
 |@cons p q ps qs h t ih=>
  obtain⟨h1,h2⟩:=h;rw[List.filter_cons,List.filter_cons]
  by_cases e:p.1=k
  ·have a:¬decide (p.1≠k)=true:=by simp[e]
   have b:¬decide (q.1≠k)=true:=by simp[h1.symm.trans e]
   rw[if_neg a,if_neg b];exact ih
  ·have e':¬q.1=k:=fun z=>e (h1.trans z)
   have a:decide (p.1≠k)=true:=by simp[e]
   have b:decide (q.1≠k)=true:=by simp[e']
   rw[if_pos a,if_pos b];exact .cons ⟨h1,h2⟩ ih
theorem KV.length {kvs:List (κ×V)}{vs:List (κ×Value)}(r:KV kvs vs):kvs.length=vs.length:=Paired.length r
theorem dropK_le (kvs:List (κ×V))(k:κ):(dropK kvs k).length<=kvs.length:=List.length_filter_le _ _
end
theorem kV_is {P:Program}{w:World}{k:Key}{u:Value}(r:RelV (kV k) u):(mixKind P w).is k u=true:=by
 cases k with
 |inl i=>obtain⟨t,e⟩:=(show ∃t,u=Value.int i t from r);subst e;exact mixKind_int P w i t
 |inr x=>obtain⟨t,e⟩:=(show ∃t,u=Value.str x t from r);subst e;exact mixKind_str P w x t
theorem items_are {P:Program}{w:World}:∀{ks:List Key} {us:List Value},Vals (ks.map kV) us->ItemsAre (mixKind P w) ks us
 |[],_,r=>by rw[List.map_nil] at r;cases r;exact .nil
 |k::ks,_,r=>by
  rw[List.map_cons] at r;cases r with
  |cons h t=>exact .cons (kV_is h) (items_are t)
abbrev KT (H:Hp):List (List Key×V)->List (List Key×Addr×Value)->Prop:=Paired fun p q=>p.1=q.1/\H q.2.1=some (.tup (p.1.map kV))/\RelV p.2 q.2.2
theorem KT.val {H:Hp}{kvs:List (List Key×V)}{xs:List (List Key×Addr×Value)}(r:KT H kvs xs)(k:List Key):RelO (valV kvs k) ((atKey xs k).map (·.2)):=by
 induction r with
 |nil=>exact True.intro
 |@cons p q ps qs h t ih=>
  obtain⟨h1,_,h2⟩:=h
  by_cases e:p.1=k
  ·have e':q.1=k:=h1.symm.trans e;have b:atKey (q::qs) k=some q.2:=by simp[atKey,List.find?_cons,e']
   rw[valV_pos e,b];exact h2
  ·have e':¬q.1=k:=fun z=>e (h1.trans z)
   have b:atKey (q::qs) k=atKey qs k:=by simp[atKey,List.find?_cons,e']
   rw[valV_neg e,b];exact ih
theorem KT.repl {H:Hp}{kvs:List (List Key×V)}{xs:List (List Key×Addr×Value)}(r:KT H kvs xs)(k:List Key){y:V}{u:Value}(ry:RelV y u) :
  KT H (kvs.map fun kv=>if kv.1=k then(kv.1,y) else kv) (xs.map (putAt k u)):=by
 induction r with
 |nil=>exact .nil
 |@cons p q ps qs h t ih=>
  rw[List.map_cons,List.map_cons];refine .cons ?_ ih;obtain⟨h1,h2,h3⟩:=h;unfold putAt
  by_cases e:p.1=k
  ·rw[if_pos e,if_pos (h1.symm.trans e)];exact⟨h1,h2,ry⟩
  ·rw[if_neg e,if_neg (fun z=>e (h1.trans z))];exact⟨h1,h2,h3⟩
theorem KT.put {H:Hp}{kvs:List (List Key×V)}{xs:List (List Key×Addr×Value)}(r:KT H kvs xs)(k:List Key){b:Addr}{y:V}{u:Value}(hb:H b=some (.tup (k.map kV)))(ry:RelV y u) :
  KT H (putK kvs k y) (storedH xs k b u):=by
 have e:(kvs.any fun kv=>decide (kv.1=k))=(atKey xs k).isSome:=by
  rw[valV_any,(r.val k).isSome_eq,Option.isSome_map]
 unfold putK storedH;rw[e]
 by_cases q:(atKey xs k).isSome=true
 ·rw[if_pos q,if_pos q];exact r.repl k ry
 ·rw[if_neg q,if_neg q];exact Paired.snoc r ⟨rfl,hb,ry⟩
theorem KT.keeps {H H':Hp}{kvs:List (List Key×V)}{xs:List (List Key×Addr×Value)}(r:KT H kvs xs)(ht:∀b ys,H b=some (.tup ys)->H' b=some (.tup ys)):KT H' kvs xs:=
 Paired.mapP r fun _ _ z=>⟨z.1,ht _ _ z.2.1,z.2.2⟩
section
variable {P:Program}{w:World}{H:Hp}{h:Heap}{a:Addr}
theorem rd_of {u:HO}(ok:HOk P w H h)(e:Rd H a u):ObjOk P w H h a u:=e.ok ok
theorem dk_rd {kvs:List (Key×V)}(ok:HOk P w H h)(e:Rd H a (.dK kvs)):kvs.length<=sizeLine/\(a == sysModules)=false/\∃vs,KV kvs vs/\h.DictOf (mixKind P w) a vs:=
 show ObjOk P w H h a (.dK kvs) from rd_of ok e
theorem dk_of {kvs:List (Key×V)}(ok:HOk P w H h)(e:H a=some (.dK kvs)):kvs.length<=sizeLine/\(a == sysModules)=false/\∃vs,KV kvs vs/\h.DictOf (mixKind P w) a vs:=dk_rd ok (.inl e)
theorem key_of {ks:List Key}(ok:HOk P w H h)(e:H a=some (.tup (ks.map kV))):(tupleKind (mixKind P w)).is h ks a:=by
 obtain⟨_,its,r,o,h1,h2,n,h3⟩:=(show ObjOk P w H h a (.tup (ks.map kV)) from ok a _ e)
 exact⟨o,its.toArray,n,h1,h2,h3.1,by simpa using items_are r⟩
theorem dt_rd {kvs:List (List Key×V)}(ok:HOk P w H h)(e:Rd H a (.dT kvs)):kvs.length<=sizeLine/\(a == sysModules)=false/\
  ∃xs,KT H kvs xs/\h.DictOfH (tupleKind (mixKind P w)) a xs:=by
 obtain⟨z,y,xs,r,o,es,ep,h1,h2,h3,h4,h5⟩:=(show ObjOk P w H h a (.dT kvs) from rd_of ok e)
 refine⟨z,y,xs,r,o,es,ep,h1,h2,h3,h4,fun x hx=>?_,h5⟩;have all:∀{l:List (List Key×V)} {m:List (List Key×Addr×Value)},KT H l m->∀x∈m,(tupleKind (mixKind P w)).is h x.1 x.2.1:=by
  intro l m q
  induction q with
  |nil=>intro x hx;exact nomatch hx
  |@cons p q ps qs hq t ih=>
   intro x hx;rcases List.mem_cons.mp hx with e|hx
   ·subst e;exact key_of ok (by rw[<-hq.1];exact hq.2.1)
   ·exact ih x hx
 exact all r x hx
theorem dt_of {kvs:List (List Key×V)}(ok:HOk P w H h)(e:H a=some (.dT kvs)):kvs.length<=sizeLine/\(a == sysModules)=false/\
  ∃xs,KT H kvs xs/\h.DictOfH (tupleKind (mixKind P w)) a xs:=dt_rd ok (.inl e)
end
def DGet (H:Hp)(a:Addr)(y:V)(r:Option V):Prop:=
 (∃kvs k,Rd H a (.dK kvs)/\y=kV k/\r=valV kvs k)\/∃kvs k b,Rd H a (.dT kvs)/\y=.ref b/\H b=some (.tup (k.map kV))/\r=valV kvs k
def DPut (H:Hp)(a:Addr)(y v:V)(H':Hp):Prop:=
 (∃kvs k,H a=some (.dK kvs)/\y=kV k/\kvs.length<sizeLine/\H'=upd H a (.dK (putK kvs k v)))\/
 ∃kvs k b,H a=some (.dT kvs)/\y=.ref b/\H b=some (.tup (k.map kV))/\kvs.length<sizeLine/\H'=upd H a (.dT (putK kvs k v))
theorem DGet.k {H:Hp}{a:Addr}{kvs:List (Key×V)}{k:Key}(e:H a=some (.dK kvs)):DGet H a (kV k) (valV kvs k):=.inl ⟨kvs,k,.inl e,rfl,rfl⟩
theorem DGet.t {H:Hp}{a b:Addr}{kvs:List (List Key×V)}{k:List Key}(e:H a=some (.dT kvs))(eb:H b=some (.tup (k.map kV))):DGet H a (.ref b) (valV kvs k):=.inr ⟨kvs,k,b,.inl e,rfl,eb,rfl⟩
theorem DPut.k {H:Hp}{a:Addr}{kvs:List (Key×V)}{k:Key}{v:V}(e:H a=some (.dK kvs))(hl:kvs.length<sizeLine):DPut H a (kV k) v (upd H a (.dK (putK kvs k v))):=.inl ⟨kvs,k,e,rfl,hl,rfl⟩
theorem DPut.t {H:Hp}{a b:Addr}{kvs:List (List Key×V)}{k:List Key}{v:V}(e:H a=some (.dT kvs))(eb:H b=some (.tup (k.map kV)))(hl:kvs.length<sizeLine) :
  DPut H a (.ref b) v (upd H a (.dT (putK kvs k v))):=.inr ⟨kvs,k,b,e,rfl,eb,hl,rfl⟩
section
variable {X:Cx}{pins:List (Addr×Obj)}{σ:St}{H:Hp}{s:Shared}{a:Addr}{y v:V}{u r:Value}{o:Option V}{A:Around}{E:Value->Shared->Prop}
theorem Inv.big (I:Inv X pins σ H s):sysModules<s.heap.objs.size:=by
 have h:mainGlobals<s.heap.objs.size:=(I.mod.glob.keeps I.bk).lt;exact Nat.lt_trans (by decide) h
theorem d_getItem {Q:Value->Shared->Prop}(hu:A.units+1<cLine)(I:Inv X pins σ H s)(g:DGet H a y (some v))(ry:RelV y u)(h:∀w' s',Inv X pins σ H s'->RelV v w'->Q w' s') :
  wpAny (model X.prog X.w) A (getItem (.ref a) u) Q E s:=by
 rcases g with⟨kvs,k,e,ey,l⟩|⟨kvs,k,b,e,ey,eb,l⟩
 ·subst ey;obtain⟨z,hd,vs,rel,dd⟩:=dk_rd I.hok e;obtain⟨w',hw,rw'⟩:=RelO.some_of (v:=v) (o:=valueAt vs k) (by rw[l];exact rel.val k);exact wpAny_getItem_of (kV_is ry) dd.mapOf hw (h w' _ (I.tok _) rw')
 ·subst ey;cases(show u=Value.ref b from ry);obtain⟨z,hd,xs,rel,dd⟩:=dt_rd I.hok e;obtain⟨w',hw,rw'⟩:=RelO.some_of (v:=v) (o:=(atKey xs k).map (·.2)) (by rw[l];exact rel.val k);obtain⟨p,hp,hp2⟩:=Option.map_eq_some_iff.mp hw;refine wpAny_getItem_heap (tupleKind_room_in1 hu) (key_of I.hok eb) dd hp ?_;rw[hp2];exact h w' _ (I.tok _) rw'
theorem d_in {Q:Value->Shared->Prop}(hu:A.units+1<cLine)(I:Inv X pins σ H s)(g:DGet H a y o)(ry:RelV y u)(h:∀s',Inv X pins σ H s'->Q (.bool o.isSome) s') :
  wpAny (model X.prog X.w) A (compareOp .In u (.ref a)) Q E s:=by
 rcases g with⟨kvs,k,e,ey,l⟩|⟨kvs,k,b,e,ey,eb,l⟩
 ·subst ey;obtain⟨z,hd,vs,rel,dd⟩:=dk_rd I.hok e;refine wpAny_in_of (kV_is ry) hd dd.mapOf ?_;rw[<-(rel.val k).isSome_eq,<-l];exact h _ (I.tok _)
 ·subst ey;cases(show u=Value.ref b from ry);obtain⟨z,hd,xs,rel,dd⟩:=dt_rd I.hok e;refine wpAny_in_heap (tupleKind_room_in1 hu) (key_of I.hok eb) hd dd ?_;have q:=(rel.val k).isSome_eq;rw[Option.isSome_map] at q;rw[<-q,<-l];exact h _ (I.tok _)
theorem d_write {h':Heap}{t':Nat}{ob:HO}(I:Inv X pins σ H s)(mu:Mut (H a))(hs:Heap.SameBut a s.heap h')(he:∃q,h'.get? a=some q)(new:ObjOk X.prog X.w (upd H a ob) h' a ob) :
  Inv X pins σ (upd H a ob) { s with heap:=h',toks:=t' }:=
 I.write (x:=a) (e:=a) mu (.inl rfl) (fun b q hb z=>(hs.2 b hb).trans z) he new
theorem dk_new {P:Program}{w:World}{H':Hp}{h':Heap}{kvs:List (Key×V)}{vs:List (Key×Value)}(z:kvs.length<=sizeLine)(hd:(a == sysModules)=false)(rel:KV kvs vs)(dd:h'.DictOf (mixKind P w) a vs) :
  ObjOk P w H' h' a (.dK kvs):=⟨z,hd,vs,rel,dd⟩
theorem d_setItem {H':Hp}{Q:Unit->Shared->Prop}(hu:A.units+1<cLine)(I:Inv X pins σ H s)(g:DPut H a y v H')(ry:RelV y u)(rv:RelV v r)(h:∀s',Inv X pins σ H' s'->Q () s') :
  wpAny (model X.prog X.w) A (setItem (.ref a) u r) Q E s:=by
 rcases g with⟨kvs,k,e,ey,l,eH⟩|⟨kvs,k,b,e,ey,eb,l,eH⟩
 ·subst ey eH;obtain⟨z,hd,vs,rel,dd⟩:=dk_of I.hok e;have hz:vs.length<=sizeLine:=by rw[<-rel.length];exact z
  have hl:(putK kvs k v).length<=sizeLine:=by have:=length_putK kvs k v;omega
  refine wpAny_setItem_pairs (hsz:=hz) (kV_is ry) dd fun h' dd' hs=>h _ ?_
  have he:∃q,h'.get? a=some q:=let⟨q,_,_,hq,_⟩:=dd';⟨q,hq⟩;exact d_write I (by rw[e];exact True.intro) hs he (dk_new hl hd (rel.put k rv) dd')
 ·subst ey eH;cases(show u=Value.ref b from ry);obtain⟨z,hd,xs,rel,dd⟩:=dt_of I.hok e;have hz:xs.length<=sizeLine:=by rw[<-Paired.length rel];exact z
  have hl:(putK kvs k v).length<=sizeLine:=by have:=length_putK kvs k v;omega
  refine wpAny_setItem_heap (hsz:=hz) (tupleKind_room_in1 hu) (key_of I.hok eb) dd fun h' dd' hs=>h _ ?_
  obtain⟨q,es,ep,hq,h2,h3,h4,_,h5⟩:=dd';refine d_write I (by rw[e];exact True.intro) hs ⟨q,hq⟩ ⟨hl,hd,_,(rel.put k eb rv).keeps fun c ys ec=>?_,q,es,ep,hq,h2,h3,h4,h5⟩;rw[upd_ne (ne_of ec e (fun z=>nomatch z))];exact ec
end
section
variable {X:Cx}{pins:List (Addr×Obj)}{σ:St}{H:Hp}{s:Shared}{a:Addr}{kvs:List (Key×V)}{k:Key}{u:Value}{A:Around}{E:Value->Shared->Prop}
theorem d_pop {v:V} {more:List Value} {Q:Value->Shared->Prop} (I:Inv X pins σ H s) (e:H a=some (.dK kvs)) (ry:RelV (kV k) u) (l:valV kvs k=some v) (hm:more=[]\/∃x,more=[x])
  (h:∀w' s',Inv X pins σ (upd H a (.dK (dropK kvs k))) s'->RelV v w'->Q w' s'):wpAny (model X.prog X.w) A (call (.builtin "dict.pop") (.ref a::u::more)) Q E s:=by
 obtain⟨z,hd,vs,rel,dd⟩:=dk_of I.hok e;obtain⟨w',hw,rw'⟩:=RelO.some_of (v:=v) (o:=valueAt vs k) (by rw[<-l];exact rel.val k);have hp:(keyPart u).isSome=true:=by
  cases k with
  |inl i=>obtain⟨t,q⟩:=(show ∃t,u=Value.int i t from ry);subst q;rfl
  |inr x=>obtain⟨t,q⟩:=(show ∃t,u=Value.str x t from ry);subst q;rfl
 have ha:argsOk "dict.pop" ⟨.ref a::u::more,[]⟩:=by
  rcases hm with q|⟨x,q⟩
  ·subst q;exact PySem.F.args_dict_pop_2 _ _
  ·subst q;exact PySem.F.args_dict_pop_3 _ _ _
 refine call_meetsIn PySem.F.slot_dict_pop dd.typeIs PySem.F.entry_dict_pop ha (meets_dict_pop_there (mixKind X.prog X.w) a (kV_is ry) more hm hp)
  ⟨vs,w',dd,by rw[<-rel.length];exact z,hw,fun h' dd' hs=>h w' _ ?_ rw'⟩
 have he:∃q,h'.get? a=some q:=let⟨q,_,_,hq,_⟩:=dd';⟨q,hq⟩;exact d_write I (by rw[e];exact True.intro) hs he (dk_new (Nat.le_trans (dropK_le kvs k) z) hd (rel.drop k) dd')
theorem d_popD {r:Value}{Q:Value->Shared->Prop}(I:Inv X pins σ H s)(e:H a=some (.dK kvs))(ry:RelV (kV k) u)(l:valV kvs k=none)(h:∀s',Inv X pins σ H s'->Q r s') :
  wpAny (model X.prog X.w) A (call (.builtin "dict.pop") [.ref a,u,r]) Q E s:=by
 obtain⟨z,hd,vs,rel,dd⟩:=dk_of I.hok e;have hn:valueAt vs k=none:=RelO.none_of (by rw[<-l];exact rel.val k);have hp:(keyPart u).isSome=true:=by
  cases k with
  |inl i=>obtain⟨t,q⟩:=(show ∃t,u=Value.int i t from ry);subst q;rfl
  |inr x=>obtain⟨t,q⟩:=(show ∃t,u=Value.str x t from ry);subst q;rfl
 exact call_meetsIn PySem.F.slot_dict_pop dd.typeIs PySem.F.entry_dict_pop (PySem.F.args_dict_pop_3 _ _ _) (meets_dict_pop_default (mixKind X.prog X.w) a (kV_is ry) hd hp r) ⟨vs,dd,hn,h _ (I.tok _)⟩
theorem d_clear {Q:Value->Shared->Prop}(I:Inv X pins σ H s)(e:H a=some (.dK kvs))(h:∀s',Inv X pins σ (upd H a (.dK [])) s'->Q .none s'):wpAny (model X.prog X.w) A (call (.builtin "dict.clear") [.ref a]) Q E s:=by
 obtain⟨z,hd,vs,rel,dd⟩:=dk_of I.hok e;refine call_meetsIn PySem.F.slot_dict_clear dd.typeIs PySem.F.entry_dict_clear (PySem.F.args_dict_clear_1 _) (meets_dict_clear (mixKind X.prog X.w) a) ⟨vs,dd,by rw[<-rel.length];exact z,fun h' dd' hs=>h _ ?_⟩;have he:∃q,h'.get? a=some q:=let⟨q,_,_,hq,_⟩:=dd';⟨q,hq⟩;exact d_write (t':=s.toks) I (by rw[e];exact True.intro) hs he (dk_new (Nat.zero_le _) hd .nil dd')
end
def NoSl (i:Expr):Prop:=∀ov iv,subscripted i false ov iv=operate [ov,iv] (getItem ov iv)
theorem subD_of {prog:Program} {w:World} {A:Around} {E:Value->Shared->Prop} {s:Shared} {env:Env} {value slice:Expr} {pos:Pos} {T id:String} {Q:Value->Shared->Prop}
  (hl:typeLookup (.type T) "__getitem__"=pure (some (.builtin id))) (hs:NoSl slice)
  (h:wpAny (model prog w) A (eval value env) (fun o s₁=>wpAny (model prog w) A (eval slice env) (fun i s₂=>s₂.TypeIs o T/\wpAny (model prog w) A (getItem o i) Q E s₂) E s₁) E s) :
  wpAny (model prog w) A (eval (.Subscript value slice pos) env) Q E s:=by
 refine Subscript_ (wpAny_mono h (fun o s₁ h₁=>wpAny_mono h₁ (fun i s₂ h₂=>?_) fun _ _ x=>x) fun _ _ x=>x);obtain⟨hT,h₂⟩:=h₂;unfold subscriptTail;refine wpAny_bind ?_;rw[getitemInPython_of_ne hT.not_modules];refine wpAny_bind (wpAny_specialOf hT hl ?_);have fin:wpAny (model prog w) A (subscripted slice false o i) (fun r s₃=>wpAny (model prog w) A (letTemporaryGo value o r >>= fun _=>pure r) Q E s₃) E s₂:=by
  rw[hs o i];exact wpAny_operating (wpAny_mono h₂ (fun r s₃ h₃=>wpAny_bind (wpAny_letTemporaryGo (wpAny_pure h₃))) fun _ _ x=>x)
 first
  |exact wpAny_pure (wpAny_bind fin)
  |exact wpAny_bind (wpAny_pure (wpAny_bind fin))
  |exact wpAny_bind fin
theorem dict_typeIs {X:Cx}{pins:List (Addr×Obj)}{σ:St}{H:Hp}{s:Shared}{a:Addr}{y:V}{o:Option V}(I:Inv X pins σ H s)(g:DGet H a y o):s.TypeIs (.ref a) "dict":=by
 rcases g with⟨kvs,k,e,_,_⟩|⟨kvs,k,b,e,_,_,_⟩
 ·obtain⟨_,_,vs,_,dd⟩:=dk_rd I.hok e;exact dd.typeIs
 ·obtain⟨_,_,xs,_,dd⟩:=dt_rd I.hok e;exact dd.typeIs
def tDGet (td ty:TE):TE:=fun σ H Q=>td σ H fun x H1=>ty σ H1 fun y H2=>∃a v,x=.ref a/\DGet H2 a y (some v)/\Q v H2
def tDIn (ty td:TE):TE:=fun σ H Q=>ty σ H fun y H1=>td σ H1 fun x H2=>∃a o,x=.ref a/\DGet H2 a y o/\Q (.bl o.isSome) H2
def sDPut (td ty tv:TE):TS:=fun D σ H=>tv σ H fun v H1=>td σ H1 fun x H2=>ty σ H2 fun y H3=>∃a H4,x=.ref a/\DPut H3 a y v H4/\D.nx σ H4
section
variable {X:Cx}{o i e value:Expr}{pos pos' tpos:Pos}{td ty tv:TE}
theorem pe_dget (hu:X.A.units+1<cLine)(ho:PE X o td)(hi:PE X i ty)(hs:NoSl i):PE X (.Subscript o i pos) (tDGet td ty):=by
 intro pins s σ H Q I h;refine subD_of PySem.F.slot_dict_getitem.lookup hs (thn (ho pins s σ H _ I h) fun u s1 ⟨x,H1,I1,rx,q1⟩=>thn (hi pins s1 σ H1 _ I1 q1) fun iv s2 ⟨y,H2,I2,ry,a,v,ex,g,q2⟩=>?_);subst ex;obtain rfl:u=Value.ref a:=rx;exact⟨dict_typeIs I2 g,d_getItem hu I2 g ry fun w' s3 I3 rw'=>⟨v,H2,I3,rw',q2⟩⟩
theorem pc_din (hu:X.A.units+1<cLine)(hi:PE X i ty)(ho:PE X o td):PC X .In i o (tDIn ty td):=by
 intro pins s σ H Q I h;refine thn (hi pins s σ H _ I h) fun iv s1 ⟨y,H1,I1,ry,q1⟩=>thn (ho pins s1 σ H1 _ I1 q1) fun u s2 ⟨x,H2,I2,rx,a,ov,ex,g,q2⟩=>?_
 subst ex;obtain rfl:u=Value.ref a:=rx;exact d_in hu I2 g ry fun s3 I3=>⟨.bl ov.isSome,H2,I3,rfl,q2⟩
theorem ps_dput (hu:X.A.units+1<cLine)(ho:PE X o td)(hi:PE X i ty)(hv:PE X value tv)(hs:swapsWith value (some (.Subscript o i pos')) pos.line X.env=pure false) :
  PS X (.Assign [.Subscript o i pos'] value pos) (sDPut td ty tv):=by
 intro pins s σ H D I h;refine wpAny_Assign_Subscript (thn (hv pins s σ H _ I h) fun r s1 ⟨v,H1,I1,rv,q1⟩=>thn (ho pins s1 σ H1 _ I1 q1) fun u s2 ⟨x,H2,I2,rx,q2⟩=>thn (hi pins s2 σ H2 _ I2 q2) fun iv s3 ⟨y,H3,I3,ry,a,H4,ex,g,q3⟩=>?_) hs;subst ex;obtain rfl:u=Value.ref a:=rx;exact d_setItem hu I3 g ry rv fun s4 I4=>⟨σ,H4,I4,q3⟩
end
theorem dk_empty {P:Program}{w:World}{H:Hp}(h:Heap)(hb:sysModules<h.objs.size):ObjOk P w H (h.push { cls:=.type "dict",data:=.dict #[] }) h.objs.size (.dK []):=
 ⟨Nat.zero_le _,beq_eq_false_iff_ne.mpr (Ne.symm (Nat.ne_of_lt hb)),[],.nil,Heap.DictOf.new h⟩
def tDNewK:TE:=fun _ H Q=>∀p,H p=none->Q (.ref p) (upd H p (.dK []))
section
variable {X:Cx}{pos:Pos}
theorem pe_dnewK:PE X (.Dict [] [] pos) tDNewK:=fun pins s σ H Q I h=>
 wpAny_Dict_empty ⟨.ref s.heap.objs.size,_,I.laid (a:=s.heap.objs.size) (o:=.dK []) (t':=s.toks) (fun _ _ q=>Heap.get?_push_of_some _ q) (Nat.le_refl _) (dk_empty s.heap I.big),rfl,h _ (I.hok.fresh (Nat.le_refl _))⟩
end
structure M1 (X:Cx) (o:Expr) (m:Str) (apos:Pos) (e:Expr) (cpos:Pos):Prop where
 base:attributeBase o m X.env (eval o X.env)=eval o X.env
 few:((backTo cpos (starEach [e] X.env)).all (fun x=>!x.1)&&(backToKw cpos (keywordEach [] X.env)).all (fun x=>x.1.isSome)
  && decide (([e]:List Expr).length+([]:List Keyword).length+(if([]:List Keyword).isEmpty then 0 else 1)<30))=true
 line:(apos.endLine == cpos.line)=true
 trees:backTo cpos (starEach [e] X.env)=[(false,eval e X.env)]
structure M2 (X:Cx) (o:Expr) (m:Str) (apos:Pos) (e f:Expr) (cpos:Pos):Prop where
 base:attributeBase o m X.env (eval o X.env)=eval o X.env
 few:((backTo cpos (starEach [e,f] X.env)).all (fun x=>!x.1)&&(backToKw cpos (keywordEach [] X.env)).all (fun x=>x.1.isSome)
  && decide (([e,f]:List Expr).length+([]:List Keyword).length+(if([]:List Keyword).isEmpty then 0 else 1)<30))=true
 line:(apos.endLine == cpos.line)=true
 trees:backTo cpos (starEach [e,f] X.env)=[(false,eval e X.env),(false,eval f X.env)]
def IsD (H:Hp)(a:Addr):Prop:=(∃kvs,Rd H a (.dK kvs))\/∃kvs,Rd H a (.dT kvs)
theorem isD_at {X:Cx}{pins:List (Addr×Obj)}{σ:St}{H:Hp}{s:Shared}{a:Addr}(I:Inv X pins σ H s)(d:IsD H a) :
  s.TypeIs (.ref a) "dict"/\(∀b,Value.ref a=.ref b->∃ob,s.heap.get? b=some ob/\ob.dict=none)/\(a == sysModules)=false:=by
 rcases d with⟨kvs,e⟩|⟨kvs,e⟩
 ·obtain⟨_,hd,vs,_,dd⟩:=dk_rd I.hok e;refine⟨dd.typeIs,fun b q=>?_,hd⟩;cases q;obtain⟨ob,_,_,h1,h2,_⟩:=dd;exact⟨ob,h1,h2.2.1⟩
 ·obtain⟨_,hd,xs,_,dd⟩:=dt_rd I.hok e;refine⟨dd.typeIs,fun b q=>?_,hd⟩;cases q;obtain⟨ob,_,_,h1,h2,_⟩:=dd;exact⟨ob,h1,h2.2.1⟩
section
variable {X:Cx}{pins:List (Addr×Obj)}{σ:St}{H:Hp}{s:Shared}{a:Addr}{y d:V}{u r:Value}{o:Option V}{A:Around}{E:Value->Shared->Prop}
theorem d_get1 {Q:Value->Shared->Prop}(hu:A.units+1<cLine)(I:Inv X pins σ H s)(g:DGet H a y o)(ry:RelV y u)(h:∀w' s',Inv X pins σ H s'->RelV (o.getD .non) w'->Q w' s') :
  wpAny (model X.prog X.w) A (call (.builtin "dict.get") [.ref a,u]) Q E s:=by
 rcases g with⟨kvs,k,e,ey,l⟩|⟨kvs,k,b,e,ey,eb,l⟩
 ·subst ey;obtain⟨z,hd,vs,rel,dd⟩:=dk_rd I.hok e;refine call_meetsIn PySem.F.slot_dict_get dd.typeIs PySem.F.entry_dict_get (PySem.F.args_dict_get_2 _ _) (meets_dict_get (mixKind X.prog X.w) a (kV_is ry) hd) ⟨_,dd.mapOf,h _ _ (I.tok _) ?_⟩;rw[l];exact(rel.val k).getD rfl
 ·subst ey;cases(show u=Value.ref b from ry);obtain⟨z,hd,xs,rel,dd⟩:=dt_rd I.hok e;refine call_meetsIn PySem.F.slot_dict_get dd.typeIs PySem.F.entry_dict_get (PySem.F.args_dict_get_2 _ _) (meetsH_dict_get (tupleKind (mixKind X.prog X.w)) a b hd) ⟨tupleKind_room_in1 hu,k,xs,key_of I.hok eb,dd,h _ _ (I.tok _) ?_⟩;rw[l];exact(rel.val k).getD rfl
theorem d_get2 {Q:Value->Shared->Prop}(hu:A.units+1<cLine)(I:Inv X pins σ H s)(g:DGet H a y o)(ry:RelV y u)(rd:RelV d r)(h:∀w' s',Inv X pins σ H s'->RelV (o.getD d) w'->Q w' s') :
  wpAny (model X.prog X.w) A (call (.builtin "dict.get") [.ref a,u,r]) Q E s:=by
 rcases g with⟨kvs,k,e,ey,l⟩|⟨kvs,k,b,e,ey,eb,l⟩
 ·subst ey;obtain⟨z,hd,vs,rel,dd⟩:=dk_rd I.hok e;refine call_meetsIn PySem.F.slot_dict_get dd.typeIs PySem.F.entry_dict_get (PySem.F.args_dict_get_3 _ _ _) (meets_dict_get_default (mixKind X.prog X.w) a (kV_is ry) hd r) ⟨_,dd.mapOf,h _ _ (I.tok _) ?_⟩;rw[l];exact(rel.val k).getD rd
 ·subst ey;cases(show u=Value.ref b from ry);obtain⟨z,hd,xs,rel,dd⟩:=dt_rd I.hok e;refine call_meetsIn PySem.F.slot_dict_get dd.typeIs PySem.F.entry_dict_get (PySem.F.args_dict_get_3 _ _ _) (meetsH_dict_get_default (tupleKind (mixKind X.prog X.w)) a b hd r) ⟨tupleKind_room_in1 hu,k,xs,key_of I.hok eb,dd,h _ _ (I.tok _) ?_⟩;rw[l];exact(rel.val k).getD rd
end
def tDGet1 (td ty:TE):TE:=fun σ H Q=>td σ H fun x H1=>∃a,x=.ref a/\IsD H1 a/\ty σ H1 fun y H2=>∃o,DGet H2 a y o/\Q (o.getD .non) H2
def tDGet2 (td ty tx:TE):TE:=fun σ H Q=>td σ H fun x H1=>∃a,x=.ref a/\IsD H1 a/\ty σ H1 fun y H2=>tx σ H2 fun z H3=>∃o,DGet H3 a y o/\Q (o.getD z) H3
def tDPop2 (td ty tx:TE):TE:=fun σ H Q=>td σ H fun x H1=>∃a,x=.ref a/\IsD H1 a/\ty σ H1 fun y H2=>tx σ H2 fun z H3=>∃kvs k,H3 a=some (.dK kvs)/\y=kV k/\
 (∀v,valV kvs k=some v->Q v (upd H3 a (.dK (dropK kvs k))))/\(valV kvs k=none->Q z H3)
section
variable {X:Cx}{o e f:Expr}{apos cpos:Pos}{td ty tx:TE}
theorem pe_dget1 (hu:X.A.units+1<cLine)(ho:PE X o td)(he:PE X e ty)(m:M1 X o "get" apos e cpos):PE X (.Call (.Attribute o "get" apos) [e] [] cpos) (tDGet1 td ty):=by
 intro pins s σ H Q I h;refine wpAny_Call_method m.base m.few m.line PySem.F.plainAttrs_dict PySem.F.slot_dict_get PySem.F.type_dict_get (thn (ho pins s σ H _ I h) fun u s1 ⟨x,H1,I1,rx,a,ex,d,q1⟩=>?_);subst ex;obtain rfl:u=Value.ref a:=rx;obtain⟨t1,t2,_⟩:=isD_at I1 d;refine⟨t1,t2,?_⟩;rw[m.trees];refine Calls.callWith_builtin rfl (Calls.evalArgs_plain (Calls.spliced_cons (thn (he pins s1 σ H1 _ I1 q1) fun iv s2 ⟨y,H2,I2,ry,ov,g,q2⟩=>Calls.spliced_nil ?_)));exact d_get1 hu I2 g ry fun w' s3 I3 rw'=>⟨_,H2,I3,rw',q2⟩
theorem pe_dget2 (hu:X.A.units+1<cLine)(ho:PE X o td)(he:PE X e ty)(hf:PE X f tx)(m:M2 X o "get" apos e f cpos):PE X (.Call (.Attribute o "get" apos) [e,f] [] cpos) (tDGet2 td ty tx):=by
 intro pins s σ H Q I h;refine wpAny_Call_method m.base m.few m.line PySem.F.plainAttrs_dict PySem.F.slot_dict_get PySem.F.type_dict_get (thn (ho pins s σ H _ I h) fun u s1 ⟨x,H1,I1,rx,a,ex,d,q1⟩=>?_);subst ex;obtain rfl:u=Value.ref a:=rx;obtain⟨t1,t2,_⟩:=isD_at I1 d;refine⟨t1,t2,?_⟩;rw[m.trees];refine Calls.callWith_builtin rfl (Calls.evalArgs_plain (Calls.spliced_cons (thn (he pins s1 σ H1 _ I1 q1) fun iv s2 ⟨y,H2,I2,ry,q2⟩=>
  Calls.spliced_cons (thn (hf pins s2 σ H2 _ I2 q2) fun fv s3 ⟨z,H3,I3,rz,ov,g,q3⟩=>Calls.spliced_nil ?_))))
 exact d_get2 hu I3 g ry rz fun w' s4 I4 rw'=>⟨_,H3,I4,rw',q3⟩
theorem pe_dpop2 (ho:PE X o td)(he:PE X e ty)(hf:PE X f tx)(m:M2 X o "pop" apos e f cpos):PE X (.Call (.Attribute o "pop" apos) [e,f] [] cpos) (tDPop2 td ty tx):=by
 intro pins s σ H Q I h;refine wpAny_Call_method m.base m.few m.line PySem.F.plainAttrs_dict PySem.F.slot_dict_pop PySem.F.type_dict_pop (thn (ho pins s σ H _ I h) fun u s1 ⟨x,H1,I1,rx,a,ex,d,q1⟩=>?_);subst ex;obtain rfl:u=Value.ref a:=rx;obtain⟨t1,t2,_⟩:=isD_at I1 d;refine⟨t1,t2,?_⟩;rw[m.trees];refine Calls.callWith_builtin rfl (Calls.evalArgs_plain (Calls.spliced_cons (thn (he pins s1 σ H1 _ I1 q1) fun iv s2 ⟨y,H2,I2,ry,q2⟩=>
  Calls.spliced_cons (thn (hf pins s2 σ H2 _ I2 q2) fun fv s3 ⟨z,H3,I3,rz,kvs,k,ea,ey,q3,q4⟩=>Calls.spliced_nil ?_))))
 subst ey;cases l:valV kvs k with
 |some v=>exact d_pop I3 ea ry l (.inr ⟨fv,rfl⟩) fun w' s4 I4 rw'=>⟨v,_,I4,rw',q3 v l⟩
 |none=>exact d_popD I3 ea ry l fun s4 I4=>⟨z,H3,I4,rz,q4 l⟩
end
section
variable {X:Cx}
def rEqE (K:PySem.W.Frag)(neg:Bool):R2:=fun x y H Q=>∃a b xs,x=.ref a/\y=.ref b/\SqL K H a xs/\SqL K H b []/\Q (.bl (if neg then !decide (xs=[]) else decide (xs=[]))) H
end
inductive Tr where
 |non
 |bl (b:Bool)
 |int (i:Int)
 |str (z:Str)
 |tup (ts:List Tr)
 |lst (ts:List Tr)
mutual
def Rep (F:Addr->Prop)(H:Hp):Tr->V->Prop
 | .non,v=>v=.non
 | .bl b,v=>v=.bl b
 | .int i,v=>v=.int i
 | .str z,v=>v=.str z
 | .tup ts,v=>∃a vs,v=.ref a/\H a=some (.tup vs)/\Reps F H ts vs
 | .lst ts,v=>∃a vs,v=.ref a/\F a/\H a=some (.lst vs)/\Reps F H ts vs
def Reps (F:Addr->Prop)(H:Hp):List Tr->List V->Prop
 |[],vs=>vs=[]
 |t::ts,vs=>∃v us,vs=v::us/\Rep F H t v/\Reps F H ts us
end
mutual
def Tr.dep:Tr->Nat
 | .tup ts=>1+Tr.deps ts
 | .lst ts=>1+Tr.deps ts
 |_=>1
def Tr.deps:List Tr->Nat
 |[]=>0
 |t::ts=>max (Tr.dep t) (Tr.deps ts)
end
mutual
def Tr.ok:Tr->Prop
 | .str z=>z.length<=1000
 | .tup ts=>ts.length<=1000/\Tr.oks ts
 | .lst ts=>ts.length<=1000/\Tr.oks ts
 |_=>True
def Tr.oks:List Tr->Prop
 |[]=>True
 |t::ts=>Tr.ok t/\Tr.oks ts
end
mutual
theorem Rep.same {F:Addr->Prop}{H H':Hp}(s:Same H H'):∀(t:Tr) (v:V),Rep F H t v->Rep F H' t v
 | .non,_,h=>h
 | .bl _,_,h=>h
 | .int _,_,h=>h
 | .str _,_,h=>h
 | .tup ts,_,⟨a,vs,e,ha,hr⟩=>⟨a,vs,e,s.get ha,Reps.same s ts vs hr⟩
 | .lst ts,_,⟨a,vs,e,fa,ha,hr⟩=>⟨a,vs,e,fa,s.get ha,Reps.same s ts vs hr⟩
theorem Reps.same {F:Addr->Prop}{H H':Hp}(s:Same H H'):∀(ts:List Tr) (vs:List V),Reps F H ts vs->Reps F H' ts vs
 |[],_,h=>h
 |t::ts,_,⟨v,us,e,h1,h2⟩=>⟨v,us,e,Rep.same s t v h1,Reps.same s ts us h2⟩
end
theorem Reps.len {F:Addr->Prop}{H:Hp}:∀(ts:List Tr) (vs:List V),Reps F H ts vs->vs.length=ts.length
 |[],_,h=>by rw[show _=[] from h];rfl
 |t::ts,_,⟨v,us,e,_,h2⟩=>by rw[e,List.length_cons,List.length_cons,Reps.len ts us h2]
theorem Reps.get {F:Addr->Prop}{H:Hp}:∀{ts:List Tr} {vs:List V},Reps F H ts vs->∀{i:Nat} {v:V},vs[i]?=some v->∃t,ts[i]?=some t/\Rep F H t v
 |[],_,h,i,v,hv=>by rw[show _=[] from h] at hv;simp at hv
 |t::ts,_,⟨w,us,e,h1,h2⟩,0,v,hv=>by
  rw[e] at hv;cases(Option.some.inj hv);exact⟨t,rfl,h1⟩
 |t::ts,_,⟨w,us,e,h1,h2⟩,i+1,v,hv=>by
  rw[e] at hv;obtain⟨t',e1,e2⟩:=Reps.get h2 (i:=i) (v:=v) (by simpa using hv);exact⟨t',by simpa using e1,e2⟩
theorem Reps.append {F:Addr->Prop}{H:Hp}:∀{ts us:List Tr} {vs ws:List V},Reps F H ts vs->Reps F H us ws->Reps F H (ts++us) (vs++ws)
 |[],us,_,ws,h,h2=>by rw[show _=[] from h];exact h2
 |t::ts,us,_,ws,⟨w,vs,e,h1,hr⟩,h2=>by
  rw[e];exact⟨w,vs++ws,rfl,h1,Reps.append hr h2⟩
theorem Reps.one {F:Addr->Prop}{H:Hp}{t:Tr}{v:V}(h:Rep F H t v):Reps F H [t] [v]:=⟨v,[],rfl,h,rfl⟩
theorem Rep.ok {F:Addr->Prop}{H:Hp}:∀{t:Tr} {v:V},Rep F H t v->t.ok->Ok H v
 | .non,_,h,_=>by rw[show _=V.non from h];trivial
 | .bl _,_,h,_=>by rw[show _=V.bl _ from h];trivial
 | .int _,_,h,_=>by rw[show _=V.int _ from h];trivial
 | .str z,_,h,o=>by rw[show _=V.str z from h];exact o
 | .tup ts,_,⟨a,vs,e,ha,_⟩,_=>by rw[e];exact .inr ⟨vs,ha⟩
 | .lst ts,_,⟨a,vs,e,_,ha,_⟩,_=>by rw[e];exact .inl ⟨vs,ha⟩
section
variable {X:Cx}{pins:List (Addr×Obj)}{σ:St}{H:Hp}{s:Shared}{F G:Addr->Prop}
mutual
theorem rep_eq (I:Inv X pins σ H s):∀(t:Tr) (A:Around) (v u:V) (vv uu:Value),A.units+t.dep<cLine->Rep F H t v->Rep G H t u->RelV v vv->RelV u uu->SeqAt.EqAt A s vv uu true
 | .non,A,v,u,vv,uu,_,h1,h2,r1,r2=>by
  rw[show v=V.non from h1] at r1;rw[show u=V.non from h2] at r2;cases r1;cases r2;exact SeqAt.EqAt.same _
 | .bl b,A,v,u,vv,uu,_,h1,h2,r1,r2=>by
  rw[show v=V.bl b from h1] at r1;rw[show u=V.bl b from h2] at r2;cases r1;cases r2;exact SeqAt.EqAt.same _
 | .int i,A,v,u,vv,uu,_,h1,h2,r1,r2=>by
  have:=eqAt_V (A:=A) (s:=s) r1 r2 (by rw[show v=V.int i from h1];rfl) (by rw[show u=V.int i from h2];rfl);rw[show v=V.int i from h1,show u=V.int i from h2] at this;have e:eqV (V.int i) (V.int i)=true:=by rw[pure_eq rfl rfl];simp
  rw[e] at this;exact this
 | .str z,A,v,u,vv,uu,_,h1,h2,r1,r2=>by
  have:=eqAt_V (A:=A) (s:=s) r1 r2 (by rw[show v=V.str z from h1];rfl) (by rw[show u=V.str z from h2];rfl);rw[show v=V.str z from h1,show u=V.str z from h2] at this;have e:eqV (V.str z) (V.str z)=true:=by rw[pure_eq rfl rfl];simp
  rw[e] at this;exact this
 | .tup ts,A,v,u,vv,uu,hA,⟨a,vs,e1,ha,hr1⟩,⟨b,us,e2,hb,hr2⟩,r1,r2=>by
  subst e1 e2;cases r1;cases r2
  by_cases hab:a=b
  ·subst hab;exact SeqAt.EqAt.same _
  have hA':A.units+(1+Tr.deps ts)<cLine:=hA;obtain⟨its,rv1,p1,_⟩:=I.tuple (SqT.of (K:=X.K) ha);obtain⟨its2,rv2,p2,_⟩:=I.tuple (SqT.of (K:=X.K) hb);have l1:=rv1.length.symm.trans (Reps.len ts vs hr1);have l2:=rv2.length.symm.trans (Reps.len ts us hr2);have q:=SeqAt.RcAt.tuples (A:=A) (s:=s) (e:=fun _=>true) p1 p2 (by omega) (fun j g1 g2=>reps_eq I ts A.in1 vs us its its2 (by show A.units+1+Tr.deps ts<cLine;omega) hr1 hr2 rv1 rv2 j (by simpa using g1) (by simpa using g2));have e:((List.range (min its.toArray.size its2.toArray.size)).all (fun _=>true)&&its.toArray.size == its2.toArray.size)=true:=by
   simp[l1,l2]
  rw[e] at q;exact SeqAt.EqAt.of_refs hab q
 | .lst ts,A,v,u,vv,uu,hA,⟨a,vs,e1,_,ha,hr1⟩,⟨b,us,e2,_,hb,hr2⟩,r1,r2=>by
  subst e1 e2;cases r1;cases r2
  by_cases hab:a=b
  ·subst hab;exact SeqAt.EqAt.same _
  have hA':A.units+(1+Tr.deps ts)<cLine:=hA;obtain⟨its,rv1,p1,_⟩:=I.list (SqL.of (K:=X.K) ha);obtain⟨its2,rv2,p2,_⟩:=I.list (SqL.of (K:=X.K) hb);have l1:=rv1.length.symm.trans (Reps.len ts vs hr1);have l2:=rv2.length.symm.trans (Reps.len ts us hr2);have q:=SeqAt.RcAt.lists (A:=A) (s:=s) (e:=fun _=>true) p1.isList p2.isList (by simp[l1,l2]) (by omega) (fun j g1 g2=>reps_eq I ts A.in1 vs us its its2 (by show A.units+1+Tr.deps ts<cLine;omega) hr1 hr2 rv1 rv2 j (by simpa using g1) (by simpa using g2));have e:((List.range its.toArray.size).all (fun _=>true))=true:=by simp
  rw[e] at q;exact SeqAt.EqAt.of_refs hab q
theorem reps_eq (I:Inv X pins σ H s):∀(ts:List Tr) (A:Around) (vs us:List V) (its its2:List Value),A.units+Tr.deps ts<cLine->Reps F H ts vs->Reps G H ts us->Vals vs its->Vals us its2->∀(j:Nat) (g1:j<its.length) (g2:j<its2.length),SeqAt.EqAt A s its[j] its2[j] true
 |[],A,vs,us,its,its2,_,h1,h2,r1,r2=>fun j g1 g2=>by
  rw[show vs=[] from h1] at r1;cases r1;simp at g1
 |t::ts,A,vs,us,its,its2,hA,⟨v,vr,e1,a1,b1⟩,⟨u,ur,e2,a2,b2⟩,r1,r2=>by
  subst e1 e2;have hA':A.units+max (Tr.dep t) (Tr.deps ts)<cLine:=hA;cases r1 with
  |cons p1 q1=>
   cases r2 with
   |cons p2 q2=>
    intro j g1 g2;cases j with
    |zero=>exact rep_eq I t A v u _ _ (by omega) a1 a2 p1 p2
    |succ j=>exact reps_eq I ts A vr ur _ _ (by omega) b1 b2 q1 q2 j (by simpa using g1) (by simpa using g2)
end
end
section
variable {X:Cx}
def rNeR:R2:=fun x y H Q=>∃t F G,t.dep<=100/\Rep F H t x/\Rep G H t y/\Q (.bl false) H
theorem op_neR (hu:X.A.units+150<cLine):OpR X (compareOp .NotEq) rNeR:=by
 intro pins s σ H x y v u Q I rx ry h;obtain⟨t,F,G,hd,h1,h2,q⟩:=h;have scal:∀z:V,pureV z=true\/(∃b,z=.bl b)->x=z->y=z->wpAny (model X.prog X.w) X.A (compareOp .NotEq v u) (EP X pins σ Q) X.xe s:=fun z hz e1 e2=>by
  refine op_ne pins s σ H x y v u Q I rx ry ⟨?_,?_⟩
  ·subst e1 e2;rcases hz with hz|⟨b,rfl⟩
   ·cases y<;>first|rfl|exact absurd (show false=true from hz) Bool.false_ne_true
   ·rfl
  ·rw[e1,e2];simpa using q
 cases t with
 |non=>exact scal _ (.inl rfl) h1 h2
 |bl b=>exact scal _ (.inr ⟨b,rfl⟩) h1 h2
 |int i=>exact scal (.int i) (.inl rfl) h1 h2
 |str z=>exact scal (.str z) (.inl rfl) h1 h2
 |tup ts=>
  obtain⟨a,vs,rfl,ha,hr1⟩:=h1;obtain⟨b,us,rfl,hb,hr2⟩:=h2;cases rx;cases ry;have hd':1+Tr.deps ts<=100:=hd;obtain⟨its,rv1,p1,_⟩:=I.tuple (SqT.of (K:=X.K) ha);obtain⟨its2,rv2,p2,_⟩:=I.tuple (SqT.of (K:=X.K) hb);have l1:=rv1.length.symm.trans (Reps.len ts vs hr1);have l2:=rv2.length.symm.trans (Reps.len ts us hr2);have q2:=SeqAt.RcNeAt.tuples (A:=X.A) (s:=s) (e:=fun _=>true) p1 p2 (by omega) (fun j g1 g2=>reps_eq I ts X.A.in1 vs us its its2 (by show X.A.units+1+Tr.deps ts<cLine;omega) hr1 hr2 rv1 rv2 j (by simpa using g1) (by simpa using g2));have e:(!((List.range (min its.toArray.size its2.toArray.size)).all (fun _=>true)&&its.toArray.size == its2.toArray.size))=false:=by
   simp[l1,l2]
  rw[e] at q2;exact q2 _ _ _ _ ⟨.bl _,H,I,rfl,q⟩
 |lst ts=>
  obtain⟨a,vs,rfl,_,ha,hr1⟩:=h1;obtain⟨b,us,rfl,_,hb,hr2⟩:=h2;cases rx;cases ry;have hd':1+Tr.deps ts<=100:=hd;obtain⟨its,rv1,p1,_⟩:=I.list (SqL.of (K:=X.K) ha);obtain⟨its2,rv2,p2,_⟩:=I.list (SqL.of (K:=X.K) hb);have l1:=rv1.length.symm.trans (Reps.len ts vs hr1);have l2:=rv2.length.symm.trans (Reps.len ts us hr2);have q2:=SeqAt.RcNeAt.lists (A:=X.A) (s:=s) (e:=fun _=>true) p1.isList p2.isList (by simp[l1,l2]) (by omega) (fun j g1 g2=>reps_eq I ts X.A.in1 vs us its its2 (by show X.A.units+1+Tr.deps ts<cLine;omega) hr1 hr2 rv1 rv2 j (by simpa using g1) (by simpa using g2));have e:(!(List.range its.toArray.size).all (fun _=>true))=false:=by simp
  rw[e] at q2;exact q2 _ _ _ _ ⟨.bl _,H,I,rfl,q⟩
end
mutual
theorem Rep.mono {F G:Addr->Prop}{H:Hp}(h:∀a,F a->G a):∀(t:Tr) (v:V),Rep F H t v->Rep G H t v
 | .non,_,q=>q
 | .bl _,_,q=>q
 | .int _,_,q=>q
 | .str _,_,q=>q
 | .tup ts,_,⟨a,vs,e,ha,hr⟩=>⟨a,vs,e,ha,Reps.mono h ts vs hr⟩
 | .lst ts,_,⟨a,vs,e,fa,ha,hr⟩=>⟨a,vs,e,h a fa,ha,Reps.mono h ts vs hr⟩
theorem Reps.mono {F G:Addr->Prop}{H:Hp}(h:∀a,F a->G a):∀(ts:List Tr) (vs:List V),Reps F H ts vs->Reps G H ts vs
 |[],_,q=>q
 |t::ts,_,⟨v,us,e,h1,h2⟩=>⟨v,us,e,Rep.mono h t v h1,Reps.mono h ts us h2⟩
end
mutual
theorem Rep.upd {F:Addr->Prop}{H:Hp}{l:Addr}{us us':List V}(hl:H l=some (.lst us))(nl:¬F l):∀(t:Tr) (v:V),Rep F H t v->Rep F (upd H l (.lst us')) t v
 | .non,_,q=>q
 | .bl _,_,q=>q
 | .int _,_,q=>q
 | .str _,_,q=>q
 | .tup ts,_,⟨a,vs,e,ha,hr⟩=>⟨a,vs,e,by rw[upd_ne (ne_of ha hl (by intro z;cases z))];exact ha,Reps.upd hl nl ts vs hr⟩
 | .lst ts,_,⟨a,vs,e,fa,ha,hr⟩=>⟨a,vs,e,fa,by rw[upd_ne (show a≠l from fun z=>nl (by rw[<-z];exact fa))];exact ha,Reps.upd hl nl ts vs hr⟩
theorem Reps.upd {F:Addr->Prop}{H:Hp}{l:Addr}{us us':List V}(hl:H l=some (.lst us))(nl:¬F l):∀(ts:List Tr) (vs:List V),Reps F H ts vs->Reps F (L2.upd H l (.lst us')) ts vs
 |[],_,q=>q
 |t::ts,_,⟨v,ur,e,h1,h2⟩=>⟨v,ur,e,Rep.upd hl nl t v h1,Reps.upd hl nl ts ur h2⟩
end
theorem comp_new {J:It} {xs:List V} {fr:List (Option Nat)} {k:Nat} {te:TE} {Q:VK} {σ:St} {H:Hp} (P:Nat->Hp->V->Hp->Prop) (hP:∀i H1 y H2 H3,P i H1 y H2->Same H2 H3->P i H1 y H3)
  (hU:∀i H1 y H2 l us us' ws,P i H1 y H2->H1 l=some (.lst ws)->H2 l=some (.lst us)->P i H1 y (upd H2 l (.lst us'))) (hJ:ItIs J H xs) (hn:xs.length<=1000000)
  (helt:∀(i:Nat) (x:V) (H':Hp) (R:VK),xs[i]?=some x->Same H H'->(∀y H'',Same H' H''->P i H' y H''->R y H'')->te ((stC fr σ).set k (some x)) H' R)
  (hQ:∀l H' (ys:List V),H l=none->Same H H'->H' l=some (.lst ys)->ys.length=xs.length->(∀(i:Nat) y,ys[i]?=some y->∃H1,Same H H1/\P i H1 y H')->Q (.ref l) H') :
  tCompK fr (gName k) tYes te σ Q J H:=by
 intro l hl;refine⟨fun i m σ' H'=>m=xs.length-i/\i<=xs.length/\(∀y,σ'.set k y=(stC fr σ).set k y)/\Same H H'/\∃ys:List V,H' l=some (.lst ys)/\ys.length=i/\(∀(i:Nat) y,ys[i]?=some y->∃H1 ws,Same H H1/\H1 l=some (.lst ws)/\P i H1 y H'),
  ⟨xs.length,by simp,Nat.zero_le _,fun _=>rfl,same_new hl _,[],upd_same,rfl,fun i y h=>by simp at h⟩,?_⟩
 rintro i m σ' H' ⟨rfl,hi,hσ,hs,ys,hl',hlen,hp⟩
 obtain⟨h1,h2,h3⟩:=hJ H' hs i
 by_cases hlt:i<xs.length
 ·refine .inr ⟨h1 hlt,fun x H'' y=>?_⟩;obtain⟨rfl,hx⟩:=h2 x H'' y;have hx:=hx hlt;show te (σ'.set k (some x)) H'' _;rw[hσ];refine helt i x H'' _ hx hs fun y H4 s4 py=>?_
  refine⟨_,s4.get hl',smallLt (by omega),xs.length-(i+1),by omega,rfl,hlt,fun y=>by rw[List.set_set],same_upd (hs.trans s4) hl _,ys++[y],upd_same,by rw[List.length_append,hlen];rfl,fun j y' hy'=>?_⟩
  by_cases hj:j<ys.length
  ·rw[List.getElem?_append_left hj] at hy';obtain⟨H1,ws,a1,a2,a3⟩:=hp j y' hy';exact⟨H1,ws,a1,a2,hU _ _ _ _ _ _ _ _ (hP _ _ _ _ _ a3 s4) a2 (s4.get hl')⟩
  ·rw[List.getElem?_append_right (by omega)] at hy'
   by_cases hj2:j=ys.length
   ·subst hj2;rw[Nat.sub_self] at hy';cases(Option.some.inj hy':y=y');rw[hlen];exact⟨H'',ys,hs,hl',hU _ _ _ _ _ _ _ _ py hl' (s4.get hl')⟩
   ·rw[List.getElem?_eq_none (by simp;omega)] at hy';cases hy'
 ·have e:i=xs.length:=by omega
  subst e;exact .inl ⟨h3 (Nat.le_refl _),hQ l H' ys hl hs hl' hlen fun i y hy=>(let⟨H1,_,a1,_,a3⟩:=hp i y hy;⟨H1,a1,a3⟩)⟩
theorem itIs_tup {K:PySem.W.Frag}{a:Addr}{H:Hp}{xs:List V}(h:H a=some (.tup xs)):ItIs (Itt K a) H xs:=fun H' s i=>
 ⟨fun hi=>⟨xs,xs[i],SqT.of (s.get h),by simp[hi]⟩,fun x H'' y=>⟨y.1,fun _=>y.2 xs (SqT.of (s.get h))⟩,fun hi=>⟨xs,SqT.of (s.get h),hi⟩⟩
def Tr.ty:Tr->String
 | .non=>"NoneType"
 | .bl _=>"bool"
 | .int _=>"int"
 | .str _=>"str"
 | .tup _=>"tuple"
 | .lst _=>"list"
theorem Rep.tyN {F:Addr->Prop}{H:Hp}:∀{t:Tr} {v:V},Rep F H t v->L2.tyN H v=t.ty
 | .non,_,h=>by rw[show _=V.non from h];rfl
 | .bl _,_,h=>by rw[show _=V.bl _ from h];rfl
 | .int _,_,h=>by rw[show _=V.int _ from h];rfl
 | .str z,_,h=>by rw[show _=V.str z from h];rfl
 | .tup ts,_,⟨a,vs,e,ha,_⟩=>by rw[e];simp only[L2.tyN,ha];rfl
 | .lst ts,_,⟨a,vs,e,_,ha,_⟩=>by rw[e];simp only[L2.tyN,ha];rfl
theorem hu9_of {A:Around}{k:Nat}(hr:Room k A):A.units+150<cLine:=by have:=hr.un;omega
section
variable {σ:St}{H:Hp}{m k:Nat}{te:TE}{ta:TA}
theorem Reps.rep {F:Addr->Prop}{ts:List Tr}{vs:List V}(h:Reps F H ts vs):∀n:Nat,Reps F H (List.replicate n ts).flatten (List.replicate n vs).flatten
 |0=>rfl
 |n+1=>by
  rw[List.replicate_succ,List.replicate_succ,List.flatten_cons,List.flatten_cons];exact Reps.append h (Reps.rep h n)
end
def MDef (P:Program)(w:World)(K:PySem.W.Frag)(mg:Str->Option Value)(base:Heap)(k:Nat)(C:Addr)(m:Str)(ps:List Str)(sp:Sp):Prop:=
 ∃(f:Addr) (fd:FuncData),FnOk P w K mg base CX0 k f fd ps sp/\Meth K C m f/\Binds K fd ps []
def CDef (P:Program)(w:World)(K:PySem.W.Frag)(mg:Str->Option Value)(base:Heap)(k:Nat)(C:Addr)(x:Str)(ps:List Str)(sp:Sp):Prop:=
 ∃(f:Addr) (fd:FuncData),FnOk P w K mg base CX0 k f fd ps sp/\Mk K C f/\mg x=some (.ref C)/\Binds K fd ps []
section
variable {X:Cx}{k:Nat}{x m:Str}{C:Addr}{ps:List Str}{sp:Sp}{e o:Expr}{es:List Expr}{t:TA}{ta:TE}{p apos pos:Pos}
theorem pe_cls (D:CDef X.prog X.w X.K X.mg X.base k C x ps sp) (hr:Room (k+1) X.A) (hg:Gl X x) (ha:PA X (e::es) t)
  (hdb:(x == ("__debug__":Str))=false:=by decide) (he:starEach (e::es) X.env=(false,eval e X.env)::starEach es X.env:=by rfl) (hpl:(backTo pos (starEach es X.env)).any (·.1)=false:=by rfl) :
  PE X (.Call (.Name x p) (e::es) [] pos) (tMake C sp [] E0 t):=by
 obtain⟨f,fd,F,M,hm,hb⟩:=D;exact pe_make M F hr hg hm hb .nil pass0 ha hdb he hpl
theorem pe_mth {pl:Sem Bool} (ho:PE X o ta) (c:Cls X.K C) (D:MDef X.prog X.w X.K X.mg X.base k C m ps sp) (hr:Room k X.A) (ha:PA X (e::es) t)
  (hst:starEach (e::es) X.env=(false,eval e X.env)::starEach es X.env:=by rfl) (hpl:(backTo pos (starEach es X.env)).any (·.1)=false:=by rfl)
  (ht:eval (.Call (.Attribute o m apos) (e::es) [] pos) X.env=(do
   let ov <-eval o X.env
   standAt apos.atName
   let(f,first) <-holding [ov] (getMethod ov m pl)
   callWith pos f first (backTo pos (starEach (e::es) X.env)) (backToKw pos (keywordEach [] X.env))):=by rfl) :
  PE X (.Call (.Attribute o m apos) (e::es) [] pos) (tMeth C m sp [] E0 ta t):=by
 obtain⟨f,fd,F,M,hb⟩:=D;exact pe_meth ho c M F hr hb .nil pass0 ha hst hpl ht
theorem pe_mth0 {pl:Sem Bool} (ho:PE X o ta) (c:Cls X.K C) (D:MDef X.prog X.w X.K X.mg X.base k C m ps sp) (hr:Room k X.A)
  (ht:eval (.Call (.Attribute o m apos) [] [] pos) X.env=(do
   let ov <-eval o X.env
   standAt apos.atName
   let(f,first) <-holding [ov] (getMethod ov m pl)
   callWith pos f first (backTo pos (starEach [] X.env)) (backToKw pos (keywordEach [] X.env))):=by rfl) :
  PE X (.Call (.Attribute o m apos) [] [] pos) (tMeth C m sp [] E0 ta tNil):=by
 obtain⟨f,fd,F,M,hb⟩:=D;exact pe_meth0 ho c M F hr hb .nil pass0 ht
end
theorem DGet.kf {H:Hp}{a:Addr}{o:Obj}{kvs:List (Key×V)}{k:Key}(e:H a=some (.frz o (.dK kvs))):DGet H a (kV k) (valV kvs k):=.inl ⟨kvs,k,.inr ⟨o,e⟩,rfl,rfl⟩
section
variable {X:Cx}
structure M0 (X:Cx) (o:Expr) (m:Str) (apos cpos:Pos):Prop where
 base:attributeBase o m X.env (eval o X.env)=eval o X.env
 few:((backTo cpos (starEach [] X.env)).all (fun x=>!x.1)&&(backToKw cpos (keywordEach [] X.env)).all (fun x=>x.1.isSome)
  && decide (([]:List Expr).length+([]:List Keyword).length+(if([]:List Keyword).isEmpty then 0 else 1)<30))=true
 line:(apos.endLine == cpos.line)=true
 trees:backTo cpos (starEach [] X.env)=[]
def tDClear (td:TE):TE:=fun σ H Q=>td σ H fun x H1=>∃a kvs,x=.ref a/\H1 a=some (.dK kvs)/\Q .non (upd H1 a (.dK []))
theorem pe_dclear {o:Expr}{td:TE}{apos cpos:Pos}(ho:PE X o td)(m:M0 X o "clear" apos cpos):PE X (.Call (.Attribute o "clear" apos) [] [] cpos) (tDClear td):=by
 intro pins s σ H Q I h;refine wpAny_Call_method m.base m.few m.line PySem.F.plainAttrs_dict PySem.F.slot_dict_clear PySem.F.type_dict_clear (thn (ho pins s σ H _ I h) fun u s1 ⟨x,H1,I1,rx,a,kvs,ex,ea,q1⟩=>?_);subst ex;obtain rfl:u=Value.ref a:=rx;obtain⟨t1,t2,_⟩:=isD_at I1 (.inl ⟨kvs,.inl ea⟩);refine⟨t1,t2,?_⟩;rw[m.trees];exact Calls.callWith_builtin rfl (PySem.evalArgs_none (d_clear I1 ea fun s3 I3=>⟨.non,_,I3,rfl,q1⟩))
end
theorem seq_mid {t u:TS}{D:Ends}{σ:St}{H:Hp}(M:St->Hp->Prop)(h1:∀N:St->Hp->Prop,(∀σ' H',M σ' H'->N σ' H')->t { D with nx:=N } σ H)(h2:∀σ' H',M σ' H'->u D σ' H'):tSeq t u D σ H:=h1 (u D) h2
theorem comp_st {J:It} {xs:List V} {fr:List (Option Nat)} {k:Nat} {te:TE} {Q:VK} {σ:St} {H:Hp} (I:Nat->List V->Addr->Hp->Prop) (hn:xs.length<=1000000)
  (hJ:∀i ys l H',I i ys l H'->(i<xs.length->J.go i H')/\(∀x H'',J.yld i H' x H''->H''=H'/\(i<xs.length->xs[i]?=some x))/\(xs.length<=i->J.stop i H'))
  (h0:∀l,H l=none->I 0 [] l (upd H l (.lst [])))
  (step:∀(i:Nat) (x:V) (ys:List V) (l:Addr) (H':Hp) (R:VK),xs[i]?=some x->H l=none->H' l=some (.lst ys)->ys.length=i->I i ys l H'->(∀y H'',H'' l=some (.lst ys)->I (i+1) (ys++[y]) l (upd H'' l (.lst (ys++[y])))->R y H'')->te ((stC fr σ).set k (some x)) H' R)
  (hQ:∀l H' (ys:List V),H l=none->H' l=some (.lst ys)->ys.length=xs.length->I xs.length ys l H'->Q (.ref l) H'):tCompK fr (gName k) tYes te σ Q J H:=by
 intro l hl;refine⟨fun i m σ' H'=>m=xs.length-i/\i<=xs.length/\(∀y,σ'.set k y=(stC fr σ).set k y)/\∃ys:List V,H' l=some (.lst ys)/\ys.length=i/\I i ys l H',⟨xs.length,by simp,Nat.zero_le _,fun _=>rfl,[],upd_same,rfl,h0 l hl⟩,?_⟩
 rintro i m σ' H' ⟨rfl,hi,hσ,ys,hl',hlen,hI⟩
 obtain⟨h1,h2,h3⟩:=hJ i ys l H' hI
 by_cases hlt:i<xs.length
 ·refine .inr ⟨h1 hlt,fun x H'' y=>?_⟩;obtain⟨rfl,hx⟩:=h2 x H'' y;have hx:=hx hlt;show te (σ'.set k (some x)) H'' _;rw[hσ];refine step i x ys l H'' _ hx hl hl' hlen hI fun y H4 hl4 hI4=>?_
  exact⟨ys,hl4,smallLt (by omega),xs.length-(i+1),by omega,rfl,hlt,fun y=>by rw[List.set_set],ys++[y],upd_same,by rw[List.length_append,hlen];rfl,hI4⟩
 ·have e:i=xs.length:=by omega
  subst e;exact .inl ⟨h3 (Nat.le_refl _),hQ l H' ys hl hl' hlen hI⟩
theorem itr_go {lo:Int}{n i:Nat}{H:Hp}:(i<((List.range n).map fun(i:Nat)=>V.int (lo+(i:Int))).length->(Itr lo n).go i H)/\(∀x H'',(Itr lo n).yld i H x H''->H''=H/\(i<((List.range n).map fun(i:Nat)=>V.int (lo+(i:Int))).length->((List.range n).map fun(i:Nat)=>V.int (lo+(i:Int)))[i]?=some x))/\(((List.range n).map fun(i:Nat)=>V.int (lo+(i:Int))).length<=i->(Itr lo n).stop i H):=by
 rw[List.length_map,List.length_range];refine⟨fun h=>h,fun x H'' y=>⟨y.1,fun h=>?_⟩,fun h=>h⟩;rw[List.getElem?_map,List.getElem?_range h,y.2];rfl
end L2
namespace L2
section
open PySem
open Sem (wp wp_bind' wp_mono)
def Fld2 (o:Obj):Prop:=∃vs,o.data=.fields vs/\vs[2]?=some .none
def DictAt (h:Heap)(e:Addr)(d:Option Addr):Prop:=∃o,h.objs[e]?=some o/\o.dict=d/\Fld2 o
def DK {α:Type}(t:Sem α):Prop:=∀(M:Model) (Γ:Ctx) (Q:α->Pos->Shared->Prop) (E:Value->Pos->Shared->Prop) (p:Pos) (s:Shared) (e:Addr) (d:Option Addr),wp M Γ t Q E p s->DictAt s.heap e d->
 wp M Γ t (fun a p s'=>Q a p s'/\DictAt s'.heap e d) (fun v p s'=>E v p s'/\DictAt s'.heap e d) p s
variable {α β:Type}
theorem dk_pure (a:α):DK (pure a:Sem α):=fun _ _ _ _ _ _ _ _ h j=>⟨h,j⟩
theorem dk_unsup (w:String):DK (PySem.unsupported w:Sem α):=fun _ _ _ _ _ _ _ _ h _=>False.elim h
theorem dk_bind {m:Sem α}{f:α->Sem β}(h1:DK m)(h2:∀a,DK (f a)):DK (m >>= f):=by
 intro M Γ Q E p s e d h j;rw[wp_bind'] at h ⊢;exact wp_mono M Γ m (fun a p' s' q=>h2 a M Γ Q E p' s' e d q.1 q.2) (fun _ _ _ q=>q) p s (h1 M Γ _ E p s e d h j)
theorem dk_load (a:Addr):DK (load a):=fun M Γ Q E p s e d ⟨o,q,h⟩ j=>⟨o,q,h,j⟩
theorem dk_stack:DK stack:=fun M Γ Q E p s e d h j=>⟨h,j⟩
theorem dk_alloc (o:Obj):DK (alloc o):=fun M Γ Q E p s e d h ⟨o1,q,hd⟩=>⟨h,o1,by
 show(s.heap.objs.push o)[e]?=some o1;have hlt:e<s.heap.objs.size:=(Array.getElem?_eq_some_iff.mp q).1;rw[Array.getElem?_push,if_neg (Nat.ne_of_lt hlt)];exact q,hd⟩
theorem dk_update (a:Addr){f:Obj->Obj}(hf:∀o,(f o).dict=o.dict/\(Fld2 o->Fld2 (f o))):DK (update a f):=fun M Γ Q E p s e d ⟨q0,h⟩ ⟨o1,q,hd,h2⟩=>⟨q0,h,by
 by_cases ea:a=e
 ·subst ea;refine⟨f o1,?_,by rw[(hf o1).1];exact hd,(hf o1).2 h2⟩;show(s.heap.objs.modify a f)[a]?=some (f o1);rw[Array.getElem?_modify,if_pos rfl,q];rfl
 ·refine⟨o1,?_,hd,h2⟩;show(s.heap.objs.modify a f)[e]?=some o1;rw[Array.getElem?_modify,if_neg ea];exact q⟩
theorem dk_ite {c:Prop}[Decidable c]{t u:Sem α}(h1:DK t)(h2:DK u):DK (if c then t else u):=by
 split
 ·exact h1
 ·exact h2
theorem dict_mapFields {i:Nat}(hi:i≠2)(x:Value)(o:Obj):(Obj.mapFields (·.setIfInBounds i x) o).dict=o.dict/\(Fld2 o->Fld2 (Obj.mapFields (·.setIfInBounds i x) o)):=by
 constructor
 ·unfold Obj.mapFields
  split<;>rfl
 ·rintro⟨vs,h1,h2⟩
  obtain⟨c,d,dt,sl⟩:=o;dsimp only at h1;subst h1;exact⟨_,rfl,by rw[Array.getElem?_setIfInBounds_ne hi];exact h2⟩
theorem dk_fieldsOf (v:Value):DK (fieldsOf v):=by
 unfold fieldsOf
 split
 ·refine dk_bind (dk_load _) fun o=>?_
  split
  ·exact dk_pure _
  ·exact dk_unsup _
 ·exact dk_unsup _
theorem dk_field (v:Value)(i:Nat):DK (field v i):=by
 unfold field;refine dk_bind (dk_fieldsOf v) fun vs=>?_
 split
 ·exact dk_pure _
 ·exact dk_unsup _
theorem dk_setField (v:Value){i:Nat}(hi:i≠2)(x:Value):DK (setField v i x):=by
 unfold setField updateField
 split
 ·refine dk_bind (dk_load _) fun o=>?_
  split
  ·exact dk_ite (dk_update _ (dict_mapFields hi x)) (dk_unsup _)
  ·exact dk_unsup _
 ·exact dk_unsup _
theorem dk_newFields (ty:String)(vs:List Value):DK (newFields ty vs):=by
 unfold newFields newObj newObjAsIs;dsimp only
 split
 ·exact dk_bind (dk_unsup _) fun _=>dk_bind (dk_alloc _) fun _=>dk_pure _
 ·exact dk_bind (dk_alloc _) fun _=>dk_pure _
theorem dk_newEntry (a b c d e:Value)(l:List Value):DK (EntryCells.newEntry a b c d e l):=dk_newFields _ _
theorem dk_frameEnvs:DK frameEnvs:=dk_bind dk_stack fun _=>dk_pure _
theorem dk_isImport (env:Env)(outer:List Env):DK (behindIsImport env outer):=by
 unfold behindIsImport;refine dk_ite (dk_pure _) ?_;refine dk_ite (dk_pure _) ?_;exact dk_bind (dk_field _ _) fun _=>dk_pure _
theorem dk_keptBack (env:Env)(i:Bool)(outer:List Env):DK (keptBack env i outer):=by
 unfold keptBack
 split
 ·refine dk_ite (dk_pure _) ?_;refine dk_bind (dk_bind dk_stack fun _=>dk_pure _) fun _=>dk_pure _
 ·exact dk_pure _
theorem dk_ready:∀l:List Env,DK (readyFrames l)
 |[]=>dk_pure _
 |env::outer=>by
  unfold readyFrames
  split
  ·refine dk_bind (dk_load _) fun o=>?_
   refine dk_ite (dk_pure _) ?_;refine dk_bind (dk_isImport _ _) fun _=>dk_bind (dk_keptBack _ _ _) fun _=>dk_bind (dk_update _ fun _=>⟨rfl,fun h=>h⟩) fun _=>dk_ready outer
  ·exact dk_unsup _
theorem dk_frameOf (env:Env):DK (frameOf env):=by
 unfold frameOf;refine dk_bind dk_frameEnvs fun l=>?_
 refine dk_bind ?_ fun r=>?_
 ·unfold frameObject
  split
  ·exact dk_pure _
  ·exact dk_bind (dk_ready _) fun _=>dk_pure _
 ·split
  ·exact dk_pure _
  ·exact dk_unsup _
theorem dk_entryPlace (f:Addr)(b:Bool):DK (entryPlaceOf f b):=by
 unfold entryPlaceOf;refine dk_bind dk_stack fun l=>?_
 split<;>exact dk_pure _
theorem dk_setFlight (e:Value)(f:Option Addr):DK (setFlight e f):=by
 unfold setFlight;exact dk_bind (dk_field _ _) fun _=>dk_ite (dk_setField _ (by decide) _) (dk_pure _)
theorem dk_noteFrame (e:Value)(env:Env):DK (noteFrame e env):=by
 unfold noteFrame
 split
 ·rename_i fa _
  refine dk_bind (dk_field _ _) fun head=>?_
  have rest:DK (do setField e 1 (<-EntryCells.newEntry head (<-frameOf env) .none (rawInt fa) .none (<-entryPlaceOf fa (head != .none)))):=
   dk_bind (dk_frameOf _) fun _=>dk_bind (dk_entryPlace _ _) fun _=>dk_bind (dk_newEntry _ _ _ _ _ _) fun _=>dk_setField _ (by decide) _
  refine dk_ite ?_ rest;refine dk_bind (dk_field _ _) fun _=>?_
  refine dk_ite (dk_pure _) ?_;exact dk_bind (dk_setField _ (by decide) _) fun _=>rest
 ·exact dk_unsup _
theorem dk_leaving (env:Env)(e:Value):DK (leaving env e):=dk_bind (dk_noteFrame _ _) fun _=>dk_setFlight _ _
theorem DK.also {t:Sem α}(k:DK t){M:Model}{A:Around}{Q:α->Shared->Prop}{E:Value->Shared->Prop}{s:Shared}{e:Addr}{d:Option Addr}(j:DictAt s.heap e d)(h:wpAny M A t (fun a s'=>DictAt s'.heap e d->Q a s') E s):wpAny M A t Q E s:=fun Γ p hΓ=>
 wp_mono M Γ t (fun _ _ _ q=>q.1 q.2) (fun _ _ _ q=>q.1) p s (k M Γ _ _ p s e d (h Γ p hΓ) j)
theorem dk_throw (v:Value):DK (throw v:Sem α):=fun _ _ _ _ _ _ _ _ h j=>⟨h,j⟩
theorem dk_passOn (what:String)(e:Value)(env:Env):DK (passOn what e env:Sem α):=by
 unfold passOn;refine dk_bind (dk_field _ _) fun _=>?_
 refine dk_ite (dk_bind (dk_unsup _) fun _=>?_) ?_
 ·exact dk_bind (dk_setFlight _ _) fun _=>dk_throw _
 ·exact dk_bind (dk_setFlight _ _) fun _=>dk_throw _
theorem DK.alsoE {t:Sem α}(k:DK t){M:Model}{A:Around}{Q:α->Shared->Prop}{E:Value->Shared->Prop}{s:Shared}{e:Addr}{d:Option Addr}(j:DictAt s.heap e d)(h:wpAny M A t Q (fun v s'=>DictAt s'.heap e d->E v s') s):wpAny M A t Q E s:=fun Γ p hΓ=>
 wp_mono M Γ t (fun _ _ _ q=>q.1) (fun _ _ _ q=>q.1 q.2) p s (k M Γ _ _ p s e d (h Γ p hΓ) j)
theorem dict_of {h:Heap}{e:Addr}{o:Obj}(q:h.get? e=some o)(f:Fld2 o):DictAt h e o.dict:=by
 unfold Heap.get? at q
 split at q
 ·cases q
 ·exact⟨o,q,rfl,f⟩
theorem DictAt.get {h:Heap}{e:Addr}{d:Option Addr}{o:Obj}(j:DictAt h e d)(q:h.get? e=some o):o.dict=d/\Fld2 o:=by
 obtain⟨o1,e1,h1⟩:=j;unfold Heap.get? at q;rw[e1] at q
 split at q
 ·cases q
 ·cases q;exact h1
end
end L2
namespace L2
open PySem PySem.Spec PyProof.Rows
theorem ObjOk.get {P:Program}{w:World}{H:Hp}{h:Heap}{a:Addr}{o:HO}(x:ObjOk P w H h a o):∃ob,h.get? a=some ob:=by
 cases o with
 |lst xs=>obtain⟨_,_,_,_,e⟩:=x;exact⟨_,e⟩
 |tup xs=>obtain⟨_,_,_,ob,e,_⟩:=x;exact⟨_,e⟩
 |dK kvs=>obtain⟨_,_,_,_,o,_,_,e,_⟩:=x;exact⟨_,e⟩
 |dT kvs=>obtain⟨_,_,_,_,o,_,_,e,_⟩:=x;exact⟨_,e⟩
 |set S n=>obtain⟨o,_,_,_,e,_⟩:=x;exact⟨_,e⟩
 |ins C dx fs=>obtain⟨_,_,_,e,_⟩:=x;exact⟨_,e⟩
 |own y=>obtain⟨_,e⟩:=x;exact⟨_,e⟩
 |xd fs=>obtain⟨_,⟨_,_,_,e,_⟩,_⟩:=x;exact⟨_,e⟩
 |rng lo hi=>obtain⟨_,_,_,e⟩:=x;exact⟨_,e⟩
 |frz ob u=>obtain⟨e,_⟩:=x;exact⟨_,e⟩
 |tbl ps=>exact⟨_,x⟩
 |met f y=>exact⟨_,x⟩
 |ext φ=>obtain⟨_,e,_⟩:=x;exact e
structure Fly (P:Program) (w:World) (outer:List Env) (H:Hp) (s:Shared) (ea:Addr) (cls:Value) (H':Hp) (B:Heap) (a0:Value) (s':Shared):Prop where
 os:s'.os=s.os
 bare:AllBare s'.gens
 un:Un (frs outer) [] H H' s.heap s'.heap
 hok:HOk P w H' B
 fl:Heap.FlyingW B outer ea cls a0 s'.heap
 kp:∀b o,s.heap.get? b=some o->H b=none->b∉frs outer->B.get? b=some o
 th:∀b o,s.heap.get? b=some o->b∉frs outer->∃o',B.get? b=some o'
 dj:∃d,DictAt s'.heap ea d
def CXd (P:Program)(w:World):CXT:=fun outer H s E e s'=>∃(ea:Addr) (cls:Value) (H':Hp) (B:Heap) (a0:Value),e=.ref ea/\Fly P w outer H s ea cls H' B a0 s'/\E cls none H'
section
variable {P:Program}{w:World}{outer:List Env}{H H':Hp}{s s':Shared}{ea:Addr}{cls a0:Value}{B h' base:Heap}
theorem Fly.stay (F:Fly P w outer H s ea cls H' B a0 s')(hl:s.heap.FunFrames base outer)(hn:∀b∈frs outer,H b=none)(sB:B.StaysIn h')(up:s'.heap.UpToSlots h'):Un (frs outer) [] H H' s.heap h':=by
 have sl:∀b o,s.heap.get? b=some o->b∈frs outer->∃sl,h'.get? b=some { o with slots:=sl }:=fun b o q hb=>by
  obtain⟨z,e⟩:=F.un.slot b o q (hn b hb) hb (by simp);obtain⟨_,o',ho',hd⟩:=hl.mem hb;rw[q] at ho';cases ho';exact up b { o with slots:=z } e hd
 refine⟨fun b o q n hb _=>sB b o (F.kp b o q n hb),fun b o q _ hb _=>sl b o q hb,F.un.free,fun b o q _=>?_,F.un.tups,F.un.frzs,F.un.tbls⟩
 by_cases hb:b∈frs outer
 ·obtain⟨z,e⟩:=sl b o q hb;exact⟨_,e⟩
 ·obtain⟨o',e⟩:=F.th b o q hb;exact⟨o',sB b o' e⟩
theorem Fly.free (F:Fly P w outer H s ea cls H' B a0 s'):H' ea=none:=by
 cases e:H' ea with
 |none=>rfl
 |some u=>
  obtain⟨ob,q⟩:=(F.hok ea u e).get;rw[F.fl.2.1] at q;cases q
end
section
variable {X:Cx}{pins:List (Addr×Obj)}{σ:St}{H H':Hp}{s s':Shared}{ea:Addr}{cls a0:Value}{B h':Heap}
theorem Inv.landed (I:Inv X pins σ H s)(F:Fly X.prog X.w X.stack H s ea cls H' B a0 s')(sB:B.StaysIn h')(up:s'.heap.UpToSlots h'):Inv X pins σ H' { s' with heap:=h' }:=
 I.call' (s':={ s' with heap:=h' }) (ch:=[]) F.os (F.stay I.stack I.stkFree sB up) (F.hok.kept sB) F.bare (fun b z=>nomatch z)
theorem Inv.hid (I:Inv X pins σ H s):HOk X.prog X.w H (PySem.W.hideAll s.heap (frs X.stack)):=fun b u e=>by
 refine(I.hok b u e).stay (fun c v hc q=>PySem.W.hideAll_get _ q fun z=>?_) (fun _ q=>q) fun _ _ q=>q
 have:=I.stkFree c z;rcases hc with rfl|hc
 ·rw[e] at this;cases this
 ·rw[hc] at this;cases this
theorem Inv.hidFrames (I:Inv X pins σ H s):s.heap.FunFrames (PySem.W.hideAll s.heap (frs X.stack)) X.stack:=
 PySem.W.funFrames_hide I.stack fun env he a ha=>List.mem_filterMap.mpr ⟨env,he,ha⟩
theorem Inv.made1 {h1:Heap}{vs:List Value}{l:List Env}{t':Nat}(I:Inv X pins σ H s)(hx:Heap.MadeExcOf s.heap h1 ea cls vs)(fl:Heap.FlyingW (PySem.W.hideAll s.heap (frs X.stack)) l ea cls a0 h')(up:h1.UpToSlots h') :
  Un (frs X.stack) [] H H s.heap h':=by
 have sl:∀b o,s.heap.get? b=some o->b∈frs X.stack->∃sl,h'.get? b=some { o with slots:=sl }:=fun b o q hb=>by
  obtain⟨_,o',ho',hd⟩:=I.stack.mem hb;rw[q] at ho';cases ho';exact up b _ (hx.keeps b o q) hd
 refine⟨fun b o q _ hb _=>fl.1 b o (PySem.W.hideAll_get _ q hb),fun b o q _ hb _=>sl b o q hb,fun b o _ n _=>n,fun b o q _=>?_,fun _ _ e=>e,fun _ _ _ e=>e,fun b ps e=>⟨#[],by rw[e];simp⟩⟩
 by_cases hb:b∈frs X.stack
 ·obtain⟨z,e⟩:=sl b o q hb;exact⟨_,e⟩
 ·exact⟨o,fl.1 b o (PySem.W.hideAll_get _ q hb)⟩
end
def RUp (X:Cx)(E:XK):Prop:=∀(pins:List (Addr×Obj)) (σ:St) (H:Hp) (s:Shared) (cls:Value) (h1:Heap) (ea:Addr) (vs:List Value),Inv X pins σ H s->Heap.MadeExcOf s.heap h1 ea cls vs->E cls none H->X.xe (.ref ea) { s with heap:=h1 }
section
variable {P:Program}{w:World}{K:PySem.W.Frag}{mg:Str->Option Value}{base:Heap}{N:List Str}{qual:Str}{scope:Scope}{f:Addr}{cd:Value}{A:Around}{outer:List Env}{s:Shared}{H:Hp}{E:XK}
theorem apart_up {pins:List (Addr×Obj)}{σ:St}{H1:Hp}{s1:Shared}(I:Inv (cxOf (CXd P w) P w K mg base N qual scope f cd A outer s H E) pins σ H1 s1){b:Addr}{o:Obj}(q:s.heap.get? b=some o)(hb:b∉frs outer) :
  b∉frs (envOfC qual scope s.heap.objs.size f cd::outer):=fun z=>by
 rcases List.mem_cons.mp (I.stkSub b z) with e|e
 ·have h1:s.heap.objs.size<=b:=by rw[e];exact I.ok.above
  exact absurd (Nat.lt_of_lt_of_le (Heap.lt_size q) h1) (Nat.lt_irrefl _)
 ·exact hb e
theorem pass_up:Passes (CXd P w) (cxOf (CXd P w) P w K mg base N qual scope f cd A outer s H E) E:=by
 intro pins σ H1 s1 e s2 I h;obtain⟨ea,cls,H',B,a0,rfl,F,q⟩:=h;have hfr:=I.ok.frames;obtain⟨d,dj⟩:=F.dj;refine(dk_leaving _ _).also dj (wpAny_leaves_onW (L:=s.heap.objs.size) hfr rfl F.fl fun h' fl' up dj'=>?_);have un:=F.stay I.stack I.stkFree fl'.1 up;have J:=I.call' (s':={ s2 with heap:=h' }) (ch:=[]) F.os un (F.hok.kept fl'.1) F.bare (fun b z=>nomatch z);refine⟨ea,cls,H',B,a0,rfl,⟨J.os,F.bare,J.base,F.hok,fl',fun b o e n hb=>?_,fun b o e hb=>?_,⟨d,dj'⟩⟩,q⟩
 ·exact F.kp b o (I.base.keep b o e n hb (by intro z;cases z)) (I.base.free b o e n (by intro z;cases z)) (apart_up I e hb)
 ·obtain⟨o1,e1⟩:=I.base.there b o e (by intro z;cases z);exact F.th b o1 e1 (apart_up I e hb)
theorem raise_up:RUp (cxOf (CXd P w) P w K mg base N qual scope f cd A outer s H E) E:=by
 intro pins σ H1 s1 cls h1 ea vs I hx q;have hfr:=I.ok.frames;obtain⟨t0,ob,_⟩:=hx.there;refine(dk_leaving _ _).also (s:={ s1 with heap:=h1 }) (dict_of ob ⟨_,rfl,rfl⟩) (wpAny_leaves_madeW (base:=PySem.W.hideAll s1.heap (frs (envOfC qual scope s.heap.objs.size f cd::outer))) (h:=s1.heap) (L:=s.heap.objs.size) hfr rfl (fun b o e=>PySem.W.of_hideAll _ e) I.hidFrames hx fun h' t fl' _ _ up dj'=>?_);have un:=I.made1 (t':=s1.toks) hx fl' up;have J:=I.call' (s':={ s1 with heap:=h' }) (ch:=[]) rfl un (I.hid.kept fl'.1) I.bare (fun b z=>nomatch z);refine⟨ea,cls,H1,_,_,rfl,⟨J.os,I.bare,J.base,I.hid,fl',fun b o e n hb=>?_,fun b o e hb=>?_,⟨_,dj'⟩⟩,q⟩
 ·exact PySem.W.hideAll_get _ (I.base.keep b o e n hb (by intro z;cases z)) (apart_up I e hb)
 ·obtain⟨o1,e1⟩:=I.base.there b o e (by intro z;cases z);exact⟨o1,PySem.W.hideAll_get _ e1 (apart_up I e hb)⟩
end
abbrev bmVE:List Value:=[.type "ValueError",.type "Exception",.type "BaseException",.type "object"]
theorem exc_obj {K:PySem.W.Frag}{h:Heap}{C:Addr}(Kh:K.In h)(q:PySem.W.excIn K C bmVE "ValueError.__new__"=true) :
  ∃bm N nm qn bs hd sn sub ab col dd k0 k1 k2 k3 k5 mN,h.get? C=some (excClassObj nm qn C N bs bm hd sn sub ab col dd k0 k1 k2 k3 k5 "ValueError.__new__")/\h.Ns N mN/\mN "__init__"=none/\OwnTail h bmVE bm:=by
 unfold PySem.W.excIn at q
 split at q
 ·rename_i dx ck slots found
  split at q
  ·rename_i C0 tl p0 p1 p2 p3 made p5 em es
   rw[Bool.and_eq_true,Bool.and_eq_true,Bool.and_eq_true,Bool.and_eq_true,Bool.and_eq_true] at q;obtain⟨⟨⟨⟨⟨z1,z2⟩,z3⟩,z4⟩,z5⟩,z6⟩:=q;have y1:C0=C:=beq_iff_eq.mp z1;have y2:made="ValueError.__new__":=beq_iff_eq.mp z2;have y3:ck.hasDel=false:=by simpa using z3
   subst y1 y2;obtain⟨nm,bs,mro,ns,qn,hd,sn,sub,ab,col,del⟩:=ck;simp only at em y3 z5 z6;subst em y3;have es':slots = #[p0,p1,p2,p3,some (.builtin "ValueError.__new__"),p5]:=by
    obtain⟨l⟩:=slots;simp only at es;rw[es]
   subst es';exact⟨tl,ns,nm,qn,bs,hd,sn,sub,ab,col,dx,p0,p1,p2,p3,p5,_,Kh _ _ found,.of_isNs (PySem.W.isNs_of_in Kh z5),PySem.W.nsMap_none_of_in Kh z5 (beq_iff_eq.mp z6),PySem.W.tail_of_in Kh z4⟩
  ·cases q
 ·cases q
section
variable {X:Cx}{E:XK}{x:Str}{C:Addr}{np cpos pos:Pos}
theorem ps_raise0 (R:RUp X E)(hc:X.calm=true)(hm:X.mg x=some (.ref C))(hq:PySem.W.excIn X.K C bmVE "ValueError.__new__"=true)(hg:Gl X x)(hd:(x == ("__debug__":Str))=false:=by decide) :
  PS X (.Raise (some (.Call (.Name x np) [] [] cpos)) none pos) (fun _ _ H=>E (.ref C) none H):=by
 intro pins s σ H D I h;obtain⟨tl,N,nm,q,bs,hdct,sn,sub,ab,col,dd,k0,k1,k2,k3,k5,mN,hC,hN,hni,T⟩:=exc_obj I.kIn hq;refine wpAny_Raise_call_subT (C:=C) (nm:=nm) (q:=q) (N:=N) (bs:=bs) (bm:=tl) (hdct:=hdct) (sn:=sn) (sub:=sub) (ab:=ab) (col:=col) (dd:=dd) (k0:=k0) (k1:=k1) (k2:=k2) (k3:=k3) (k5:=k5)
  PySem.F.excBase_ValueError (mN:=mN) (T.hasType PySem.F.excBase_ValueError.hasBase) (I.ok.hd hc) rfl hni (ld_glob I hg hm ⟨rfl,?_⟩ hd)
 exact evalArgs_empty ⟨rfl,Nat.zero_le _,hC,hN,T,fun h' e hx=>R pins σ H s (.ref C) h' e [] I hx h⟩
end
abbrev XS:=Value->St->Hp->Prop
abbrev TX:=Ends->XS->St->Hp->Prop
def XP (X:Cx)(pins:List (Addr×Obj))(Ex:XS)(e:Value)(s':Shared):Prop:=
 ∃(ea:Addr) (cls:Value) (σ':St) (H1 H':Hp) (s1:Shared) (B:Heap) (a0:Value),e=.ref ea/\Inv X pins σ' H1 s1/\Fly X.prog X.w X.stack H1 s1 ea cls H' B a0 s'/\Ex cls σ' H'
def PX (X:Cx)(st:Stmt)(t:TX):Prop:=
 ∀(pins:List (Addr×Obj)) (s:Shared) (σ:St) (H:Hp) (D:Ends) (Ex:XS),Inv X pins σ H s->t D Ex σ H->wpAny (model X.prog X.w) X.A (exec st X.env) (SP X pins D) (XP X pins Ex) s
def PXs (X:Cx)(st:List Stmt)(t:TX):Prop:=
 ∀(pins:List (Addr×Obj)) (s:Shared) (σ:St) (H:Hp) (D:Ends) (Ex:XS),Inv X pins σ H s->t D Ex σ H->wpAny (model X.prog X.w) X.A (execs st X.env) (SP X pins D) (XP X pins Ex) s
def PEX (X:Cx)(e:Expr)(t:(Value->Hp->Prop)->TE):Prop:=
 ∀(pins:List (Addr×Obj)) (s:Shared) (σ:St) (H:Hp) (Q:VK) (Ex:Value->Hp->Prop),Inv X pins σ H s->t Ex σ H Q->wpAny (model X.prog X.w) X.A (eval e X.env) (EP X pins σ Q) (XP X pins fun cls σ' H'=>σ'=σ/\Ex cls H') s
section
variable {X:Cx}{st:Stmt}{rest:List Stmt}{e:Expr}{pos:Pos}
theorem pxs_one {t:TX}(h1:PX X st t):PXs X [st] t:=by
 intro pins s σ H D Ex I h;refine wpAny_execs_cons (thn (h1 pins s σ H D Ex I h) fun f s1 q=>?_);cases f with
 |next=>exact wpAny_execs_nil q
 |ret v=>exact q
 |brk=>exact q
 |cont=>exact q
theorem xp_of {pins:List (Addr×Obj)}{σ:St}{Ex:XS}{v:Value}{s:Shared}(h:XP X pins (fun cls σ' H'=>σ'=σ/\Ex cls σ H') v s):XP X pins Ex v s:=by
 obtain⟨ea,cls,σ',H1,H',s1,B,a0,h1,h2,h3,h4,h5⟩:=h;subst h4;exact⟨ea,cls,_,H1,H',s1,B,a0,h1,h2,h3,h5⟩
def xDrop (te:(Value->Hp->Prop)->TE):TX:=fun D Ex σ H=>te (fun cls H'=>Ex cls σ H') σ H fun _ H1=>D.nx σ H1
theorem px_expr {te:(Value->Hp->Prop)->TE}(he:PEX X e te)(hs:swapsWith e none pos.line X.env=pure false:=by rfl):PX X (.Expr e pos) (xDrop te):=by
 intro pins s σ H D Ex I h;exact wpAny_Expr_any (wpAny_mono (he pins s σ H _ _ I h) (fun v s1 ⟨x,H1,I1,r1,q1⟩=>⟨σ,H1,I1,q1⟩) fun _ _ z=>xp_of z) I.quiet hs
def xRet (te:(Value->Hp->Prop)->TE):TX:=fun D Ex σ H=>te (fun cls H'=>Ex cls σ H') σ H D.rt
theorem px_ret {te:(Value->Hp->Prop)->TE}(he:PEX X e te):PX X (.Return (some e) pos) (xRet te):=by
 intro pins s σ H D Ex I h;exact wpAny_Return_some (wpAny_mono (he pins s σ H _ _ I h) (fun v s1 ⟨x,H1,I1,r1,q1⟩=>⟨x,σ,H1,I1,r1,q1⟩) fun _ _ z=>xp_of z)
def xSet (i:Nat)(te:(Value->Hp->Prop)->TE):TX:=fun D Ex σ H=>te (fun cls H'=>Ex cls σ H') σ H fun x H1=>D.nx (σ.set i (some x)) H1
theorem px_set {i:Nat} {x:Str} {te:(Value->Hp->Prop)->TE} {pos':Pos} (hN:X.N.Nodup) (hi:X.N[i]?=some x) (hx:Loc X.env.scope x) (he:PEX X e te) (hs:swapsWith e (some (.Name x pos')) pos.line X.env=pure false:=by rfl)
  (hf:X.fn x=true\/X.env.scope.names.lookup x=some .local:=by first|exact .inl rfl|exact .inr rfl|assumption):PX X (.Assign [.Name x pos'] e pos) (xSet i te):=by
 intro pins s σ H D Ex I h;refine wpAny_Assign_Name (wpAny_mono (he pins s σ H _ _ I h) (fun v s1 ⟨y,H1,I1,r1,q1⟩=>?_) fun _ _ z=>xp_of z) hs;exact store_ok I1 hN hi hx r1 (fun s2 I2=>⟨_,H1,I2,q1⟩) hf
end
def DefX (P:Program)(w:World)(K:PySem.W.Frag)(mg:Str->Option Value)(base:Heap)(k:Nat)(x:Str)(ps:List Str)(sp:Sp):Prop:=
 ∃(f:Addr) (fd:FuncData),FnOk P w K mg base (CXd P w) k f fd ps sp/\mg x=some (.ref f)/\PySem.W.keepIn K (.ref f)=true/\Binds K fd ps []
def MDefX (P:Program)(w:World)(K:PySem.W.Frag)(mg:Str->Option Value)(base:Heap)(k:Nat)(C:Addr)(m:Str)(ps:List Str)(sp:Sp):Prop:=
 ∃(f:Addr) (fd:FuncData),FnOk P w K mg base (CXd P w) k f fd ps sp/\Meth K C m f/\Binds K fd ps []
theorem Fun.okX {P:Program} {w:World} {K:PySem.W.Frag} {mg:Str->Option Value} {base:Heap} {x qual:Str} {st:Stmt} {f:Addr} {fd:FuncData} {N ps:List Str} {k:Nat} {sp:Sp} (F:Fun K x qual st f fd) (S:FnScope N ps (defScope st)) (len:∀vs H Q E,sp vs H Q E->vs.length=ps.length)
  (hbody:∀(cdv:Value) (A:Around) (outer:List Env) (s:Shared) (H:Hp) (vs:List V) (Q:VK) (E:XK),Room k (A.deeper (envOfC qual (defScope st) s.heap.objs.size f cdv))->sp vs H Q E->
   ∃t,PSs (cxOf (CXd P w) P w K mg base N qual (defScope st) f cdv A outer s H E) (defBody st) t/\t { nx:=fun _ H'=>Q .non H',rt:=Q } (start N vs) H):FnOk P w K mg base (CXd P w) (k+1) f fd ps sp:=by
 obtain⟨oc,od,kV,doc,pm,an,cdv,ct,osl,rfl,lk,hcd⟩:=F.ex;exact fn_of lk hcd S len fun A outer s H vs Q E hr hsp=>hbody cdv A outer s H vs Q E hr hsp
section
variable {X:Cx}{k:Nat}{x m:Str}{C:Addr}{ps:List Str}{sp:Sp}{E:XK}{e o:Expr}{es:List Expr}{t:TA}{ta:TE}{p pos apos:Pos}
theorem pe_fnX (D:DefX X.prog X.w X.K X.mg X.base k x ps sp) (hr:Room k X.A) (hg:Gl X x) (hx:Passes (CXd X.prog X.w) X E) (ha:PA X (e::es) t)
  (hdb:(x == ("__debug__":Str))=false:=by decide) (he:starEach (e::es) X.env=(false,eval e X.env)::starEach es X.env:=by rfl) (hpl:(backTo pos (starEach es X.env)).any (·.1)=false:=by rfl) :
  PE X (.Call (.Name x p) (e::es) [] pos) (tCall sp [] E t):=by
 obtain⟨f,fd,F,hm,hk,hb⟩:=D;exact pe_call F hr hg hm hk hb .nil hx ha hdb he hpl
theorem pe_mthX {pl:Sem Bool} (ho:PE X o ta) (c:Cls X.K C) (D:MDefX X.prog X.w X.K X.mg X.base k C m ps sp) (hr:Room k X.A) (hx:Passes (CXd X.prog X.w) X E) (ha:PA X (e::es) t)
  (hst:starEach (e::es) X.env=(false,eval e X.env)::starEach es X.env:=by rfl) (hpl:(backTo pos (starEach es X.env)).any (·.1)=false:=by rfl)
  (ht:eval (.Call (.Attribute o m apos) (e::es) [] pos) X.env=(do
   let ov <-eval o X.env
   standAt apos.atName
   let(f,first) <-holding [ov] (getMethod ov m pl)
   callWith pos f first (backTo pos (starEach (e::es) X.env)) (backToKw pos (keywordEach [] X.env))):=by rfl) :
  PE X (.Call (.Attribute o m apos) (e::es) [] pos) (tMeth C m sp [] E ta t):=by
 obtain⟨f,fd,F,hm,hb⟩:=D;exact pe_meth ho c hm F hr hb .nil hx ha hst hpl ht
theorem run_fnX {CX:CXT} {f:Addr} {fd:FuncData} {pins:List (Addr×Obj)} {σ:St} {H:Hp} {s:Shared} {Q:VK} {us:List Value} {vs:List V} {Ex:Value->Hp->Prop} (F:FnOk X.prog X.w X.K X.mg X.base (CXd X.prog X.w) k f fd ps sp) (hr:Room k X.A) (hb:Binds X.K fd ps [])
  (I:Inv X pins σ H s) (r:Vals vs us) (h:sp (vs++[]) H Q fun cls _ H'=>Ex cls H'):wpAny (model X.prog X.w) X.A (call (.ref f) us) (EP X pins σ Q) (XP X pins fun cls σ' H'=>σ'=σ/\Ex cls H') s:=by
 rw[List.append_nil] at h;have hl:us.length=ps.length:=by rw[<-r.length];exact F.len _ _ _ _ h
 have hb':=hb s us I.kIn (by rw[List.append_nil];exact hl);rw[List.append_nil] at hb';refine wpAny_call (codeAny_mono (F.run X.A X.stack s H ⟨us,[]⟩ us vs Q _ hr I.env0 hb' r h) fun r s' hq=>?_);cases r with
 |error e=>
  obtain⟨ea,cls,H',B,a0,he,Fl,q⟩:=hq;exact⟨ea,cls,σ,H,H',s,B,a0,he,I,Fl,rfl,q⟩
 |ok fl=>
  cases fl with
  |ret u=>exact I.after hq
  |next=>exact False.elim hq
  |brk=>exact False.elim hq
  |cont=>exact False.elim hq
theorem pex_fn (D:DefX X.prog X.w X.K X.mg X.base k x ps sp) (hr:Room k X.A) (hg:Gl X x) (ha:PA X.nox (e::es) t)
  (hdb:(x == ("__debug__":Str))=false:=by decide) (he:starEach (e::es) X.env=(false,eval e X.env)::starEach es X.env:=by rfl) (hpl:(backTo pos (starEach es X.env)).any (·.1)=false:=by rfl) :
  PEX X (.Call (.Name x p) (e::es) [] pos) (fun Ex=>tCall sp [] (fun cls _ H'=>Ex cls H') t):=by
 obtain⟨f,fd,F,hm,hk,hb⟩:=D;intro pins s σ H Q Ex I h;refine wpAny_Call_Name_kw (ld_glob I hg hm ?_ hdb);refine PySem.W.callWith_K (h₀:=X.base) I.ok.mod.kin hk (wpAny_mono (ha pos pins s σ H _ (I.wish _) h) (fun us s1 ⟨vs,H1,I1,r,q⟩=>⟨I1.kIn,?_⟩) fun _ _ z=>False.elim z) he hpl;exact run_fnX (CX:=CXd X.prog X.w) F hr hb I1.unwish r q
end
def Cx.held (X:Cx)(e:Value):Cx:={ X with A:=X.A.mark (some e),calm:=false,xe:=fun _ _=>False }
section
variable {X:Cx}{pins:List (Addr×Obj)}{σ:St}{H:Hp}{s:Shared}{e:Value}
theorem Inv.held (I:Inv X pins σ H s)(e:Value):Inv (X.held e) pins σ H s:=
 ⟨⟨I.ok.mod,I.ok.kind,I.ok.glob,I.ok.blt,I.ok.above,I.ok.inj,I.ok.has,I.ok.cab,(fun z=>nomatch z),I.ok.frames,I.ok.stk,I.ok.exf,I.ok.bs,I.ok.bsz,I.ok.noex,I.ok.exfs,I.ok.funs,I.ok.frf⟩,I.os,I.bare,I.base,I.loc,I.cell,I.free,I.freeC,I.pin,I.hok,I.len⟩
theorem Inv.unheld (J:Inv X pins σ H s){σ':St}{H':Hp}{s':Shared}(I:Inv (X.held e) pins σ' H' s'):Inv X pins σ' H' s':=
 ⟨J.ok,I.os,I.bare,I.base,I.loc,I.cell,I.free,I.freeC,I.pin,I.hok,I.len⟩
theorem SP.unheld (J:Inv X pins σ H s){D:Ends}{f:Flow}{s':Shared}(h:SP (X.held e) pins D f s'):SP X pins D f s':=by
 cases f with
 |next=>obtain⟨σ',H',I,q⟩:=h;exact⟨σ',H',J.unheld I,q⟩
 |brk=>obtain⟨σ',H',I,q⟩:=h;exact⟨σ',H',J.unheld I,q⟩
 |cont=>obtain⟨σ',H',I,q⟩:=h;exact⟨σ',H',J.unheld I,q⟩
 |ret u=>obtain⟨v,σ',H',I,r,q⟩:=h;exact⟨v,σ',H',J.unheld I,r,q⟩
end
section
variable {X:Cx}{x:Str}{c:Value}{body orelse suite:List Stmt}{b₀:Stmt}{np hpos pos:Pos}
def tTry (K:PySem.W.Frag)(c:Value)(tb:TX)(te ts:TS):TS:=fun D σ H=>tb { D with nx:=te D } (fun cls σ' H'=>PySem.W.exmOne K cls c=some true/\ts D σ' H') σ H
theorem ps_try {tb:TX} {te ts:TS} (hst:X.stack=X.env::X.outer/\X.env.frame=some X.env.locals) (hm:X.mg x=some c) (hg:Gl X x) (hb:PXs X body tb) (he:PSs X orelse te) (hs:∀e,PSs (X.held e) (b₀::suite) ts)
  (hd:(x == ("__debug__":Str))=false:=by decide):PS X (.Try body [.ExceptHandler (some (.Name x np)) none (b₀::suite) hpos] orelse [] pos) (tTry X.K c tb te ts):=by
 intro pins s σ H D I h;refine wpAny_Try_except (wpAny_mono (hb pins s σ H _ _ I h) (fun f s1 q=>?_) fun e s1 q=>?_)
 ·cases f with
  |next=>
   obtain⟨σ',H',I',q⟩:=q;exact he pins s1 σ' H' D I' q
  |ret v=>exact q
  |brk=>exact q
  |cont=>exact q
 ·obtain⟨ea,cls,σ',H1,H',s2,B,a0,rfl,I2,F,hx,q⟩:=q;have hfr:=I.ok.frames;have fl:=F.fl;rw[hst.1] at hfr fl;refine wpAny_looks_onW hfr hst.2 fl fun h4 held4 up4=>?_
  refine wpAny_landsW held4 fun h5 fl5 up5=>?_
  have J5:=I2.landed F fl5.1 (up4.trans up5);refine wpAny_handleBy_cons (codeAny_handlers_test (ld_glob (J5.held (.ref ea)) hg hm ?_ hd)) (by intro z;cases z);obtain⟨ob,hob,hcls⟩:=fl5.there;have LT:PySem.W.Looks (model X.prog X.w) h5 (typeOf (.ref ea)) cls:=by
   subst hcls;exact(PySem.W.Looks.ld hob).andThen .now
  refine(PySem.W.exm_one J5.kIn LT hx).here ?_;refine codeAny_handlers_suite (lands_againW fl5 fun h6 fl6 up6=>?_);have J6:=I2.landed F fl6.1 ((up4.trans up5).trans up6);exact wpAny_mono (hs (.ref ea) pins _ σ' H' D (J6.held (.ref ea)) q) (fun f s7 z=>z.unheld J6) fun _ _ z=>False.elim z
end
theorem reps_of {F:Addr->Prop}{H:Hp}:∀{ts:List Tr} {vs:List V},vs.length=ts.length->(∀(i:Nat) t v,ts[i]?=some t->vs[i]?=some v->Rep F H t v)->Reps F H ts vs
 |[],[],_,_=>rfl
 |[],_::_,h,_=>by simp at h
 |_::_,[],h,_=>by simp at h
 |t::ts,v::vs,h,k=>⟨v,vs,rfl,k 0 t v rfl rfl,reps_of (by simpa using h) fun i t' v' h1 h2=>k (i+1) t' v' (by simpa using h1) (by simpa using h2)⟩
structure ZA (z TI TO i1 i2:Addr) (f1 f2:List Addr):Prop where
 TIz:TI≠z
 TOz:TO≠z
 i1z:i1≠z
 i2z:i2≠z
 TITO:TI≠TO
 TIi1:TI≠i1
 TIi2:TI≠i2
 TOi1:TO≠i1
 TOi2:TO≠i2
 i12:i1≠i2
 z1:z∉f1
 o1:TO∉f1
 j1:i2∉f1
 z2:z∉f2
 o2:TO∉f2
 j2:i1∉f2
theorem note_frame {env env':Env}(h:env.frame=env'.frame)(e:Value):noteFrame e env=noteFrame e env':=by
 unfold noteFrame PySem.frameOf;rw[h]
theorem ff_keeps {h h' base base':Heap}:∀{l:List Env},h.FunFrames base l->(∀b∈frs l,∀o,h.get? b=some o->∃o',h'.get? b=some o'/\o'.data=o.data)->(∀b∈frs l,base.get? b=none->base'.get? b=none)->h'.FunFrames base' l
 |[],_,_,_=>trivial
 |env::l,⟨hk,⟨L,o,hf,hn,ho,hd⟩,hr⟩,k,kb=>by
  have mL:L∈frs (env::l):=List.mem_filterMap.mpr ⟨env,List.mem_cons_self,hf⟩;have sub:∀b∈frs l,b∈frs (env::l):=fun b hb=>by
   obtain⟨e,he,q⟩:=List.mem_filterMap.mp hb;exact List.mem_filterMap.mpr ⟨e,List.mem_cons_of_mem _ he,q⟩
  obtain⟨o',ho',hd'⟩:=k L mL o ho;exact⟨hk,⟨L,o',hf,kb L mL hn,ho',fun vs=>hd'▸hd vs⟩,ff_keeps hr (fun b hb=>k b (sub b hb)) fun b hb=>kb b (sub b hb)⟩
section
variable {M:Model}{A:Around}{E:Value->Shared->Prop}{s:Shared}{base:Heap}{env:Env}{outer l:List Env}{L e:Addr}{cls a0 fl:Value}
structure Retraced (base h h':Heap) (T:Addr) (ts:Array Value) (v:Value):Prop where
 here:∃o',h'.get? T=some o'/\o'.data=.fields (ts.setIfInBounds 3 v)
 rest:∀b o,b≠T->h.get? b=some o->h'.get? b=some o
 low:base.StaysIn h->base.StaysIn h'
 plain:∀b o,h.get? b=some o->(∀vs,o.data≠.fields vs)->h'.get? b=some o
theorem retraced {h:Heap}{T:Addr}{oT:Obj}{ts:Array Value}(v:Value)(n:base.get? T=none)(q:h.get? T=some oT)(d:oT.data=.fields ts):Retraced base h (h.update T (Obj.mapFields (·.setIfInBounds 3 v))) T ts v:=by
 have rest:∀b o,b≠T->h.get? b=some o->(h.update T (Obj.mapFields (·.setIfInBounds 3 v))).get? b=some o:=fun b o ne z=>(Heap.get?_update_other h _ (Ne.symm ne)).trans z
 refine⟨⟨_,Heap.get?_update_self _ q (Obj.isFreed_of_fields (Obj.data_mapFields d _)),Obj.data_mapFields d _⟩,rest,fun st b o z=>rest b o (fun e=>?_) (st b o z),fun b o z nf=>rest b o (fun e=>?_) z⟩
 ·rw[e,n] at z;cases z
 ·rw[e,q] at z;cases z;exact nf ts d
theorem flight_any {fr:Option Addr} {Q:Unit->Shared->Prop} (hkb:base.StaysIn s.heap) (hl:s.heap.FunFrames base l) (ht:s.heap.TracedAtW base e cls a0 fl)
  (h:∀h',base.StaysIn h'->h'.FunFrames base l->h'.TracedAtW base e cls a0 (fr.elim Value.none fun f=>rawInt f)->s.heap.UpToSlots h'->Q () { s with heap:=h' }):wpAny M A (setFlight (.ref e) fr) Q E s:=by
 obtain⟨oe,vs,T,oT,ts,z1,z2,z3,z4,z5,z6,z7,z8,z9⟩:=ht;have lt3:=(Array.getElem?_eq_some_iff.mp z9).1;have U:=retraced (base:=base) (fr.elim Value.none fun f=>rawInt f) z5 z7 z8;unfold setFlight;refine wpAny_bind (wpAny_field z1 z3 z4 ?_);rw[if_pos (by simp)];obtain⟨o',g1,g2⟩:=U.here;exact wpAny_setField z7 z8 lt3 (h _ (U.low hkb) (hl.of_keeps fun b o p nf=>⟨o,U.plain b o p nf,rfl⟩) ⟨oe,vs,T,o',_,U.rest _ _ (Ne.symm z6) z1,z2,z3,z4,z5,z6,g1,g2,by simp[lt3]⟩ fun b o p nf=>⟨o.slots,U.plain b o p nf⟩)
theorem passOn_any {α:Type} {what:String} {Q:α->Shared->Prop} (hkb:base.StaysIn s.heap) (hl:s.heap.FunFrames base l) (ht:s.heap.TracedAtW base e cls a0 fl)
  (h:∀h' fl',base.StaysIn h'->h'.FunFrames base l->h'.TracedAtW base e cls a0 fl'->s.heap.UpToSlots h'->E (.ref e) { s with heap:=h' }):wpAny M A (PySem.passOn what (.ref e) env:Sem α) Q E s:=by
 obtain⟨oe,vs,T,oT,ts,z1,z2,z3,z4,_⟩:=id ht;unfold PySem.passOn;refine wpAny_bind (wpAny_field z1 z3 z4 ?_);rw[if_neg (by simp)];exact wpAny_bind (flight_any hkb hl ht fun h' k1 k2 k3 k4=>wpAny_throw (h h' _ k1 k2 k3 k4))
theorem note_other {Q:Unit->Shared->Prop} (hfr:A.frames=some (env::outer)) (hl:s.heap.FunFrames base (env::outer)) (hf:env.frame=some L) (ht:s.heap.TracedAtW base e cls a0 fl) (hne:fl≠rawInt L) (hkb:base.StaysIn s.heap) (hen:base.get? e=none)
  (q:∀h',Heap.NotedW base (env::outer) e cls a0 (rawInt L) s.heap h'->Q () { s with heap:=h' }):wpAny M A (noteFrame (.ref e) env) Q E s:=by
 obtain⟨oe,vs,T,oT,ts,z1,⟨rfl,z2⟩,z3,z4,z5,z6,z7,z8,z9⟩:=ht;have U:=retraced (base:=base) Value.none z5 z7 z8;unfold noteFrame;simp only[hf];refine wpAny_bind (wpAny_field z1 z3 z4 ?_);rw[if_pos (by simp)];refine wpAny_bind (wpAny_field z7 z8 z9 ?_);rw[if_neg fun z=>hne (eq_of_beq z)];refine wpAny_bind (wpAny_setField z7 z8 (Array.getElem?_eq_some_iff.mp z9).1 ?_);exact wpAny_entryW hfr (hl.of_keeps fun b o p nf=>⟨o,U.plain b o p nf,rfl⟩) hf (U.rest _ _ (Ne.symm z6) z1) (U.low hkb) hen z3 (Array.getElem?_eq_some_iff.mp z4).1 z2 fun h' ⟨x1,x2,x3,x4⟩=>q h' ⟨x1,x2,x3,fun b o p nf=>x4 b o (U.plain b o p nf) nf⟩
theorem leave_any {Q:Unit->Shared->Prop} (hfr:A.frames=some (env::outer)) (hl:s.heap.FunFrames base (env::outer)) (hf:env.frame=some L) (ht:s.heap.TracedAtW base e cls a0 fl) (hkb:base.StaysIn s.heap) (hen:base.get? e=none)
  (h:∀h',Heap.FlyingW base outer e cls a0 h'->s.heap.UpToSlots h'->Q () { s with heap:=h' }):wpAny M A (leaving env (.ref e)) Q E s:=by
 unfold leaving
 by_cases hc:fl=rawInt L
 ·subst hc;refine wpAny_bind (wpAny_noteFrame_againW hf ht (wpAny_landsW ⟨hkb,hen,hl,ht⟩ fun h' fl' up=>?_));obtain⟨k1,k2,⟨_,_,k3⟩,k4⟩:=fl';exact h h' ⟨k1,k2,k3,k4⟩ up
 ·refine wpAny_bind (note_other hfr hl hf ht hc hkb hen fun h1 ⟨x1,x2,x3,x4⟩=>wpAny_landsW ⟨x1,hen,x2,x3⟩ fun h' fl' up=>?_);obtain⟨k1,k2,⟨_,_,k3⟩,k4⟩:=fl';exact h h' ⟨k1,k2,k3,k4⟩ (Heap.UpToSlots.trans x4 up)
end
def XB (Y:Cx)(Ex:Value->Hp->Prop):Value->Shared->Prop:=fun e s'=>∃(ea:Addr) (cls:Value) (pins:List (Addr×Obj)) (σ1:St) (H1 H':Hp) (s1:Shared) (B:Heap) (a0:Value),e=.ref ea/\Inv Y pins σ1 H1 s1/\Fly Y.prog Y.w Y.stack H1 s1 ea cls H' B a0 s'/\Ex cls H'
theorem pass_blk {Y:Cx}{Ex:Value->Hp->Prop}:Passes (CXd Y.prog Y.w) (Y.wish (XB Y Ex)) (fun cls _ H'=>Ex cls H'):=by
 intro pins σ H1 s1 e s2 I h;obtain⟨ea,cls,H',B,a0,rfl,F,q⟩:=h;exact⟨ea,cls,pins,σ,H1,H',s1,B,a0,rfl,I.unwish,F,q⟩
section
variable {P:Program}{w:World}{K:PySem.W.Frag}{mg:Str->Option Value}{base:Heap}{N:List Str}{qual:Str}{scope:Scope}{f:Addr}{cd:Value}{A:Around}{outer:List Env}{s:Shared}{H:Hp}{E:XK}
theorem blk_up {scopeB:Scope} {cl:List (Str×Addr)} {NB:List Str} {C:Addr} {fp:List Addr} {pins:List (Addr×Obj)} {σ:St} {H3:Hp} {s3:Shared} {cenv:Env} {e:Value} {s':Shared} {acc:Value} {use:Option (Value->Sem Unit)} {Qc:Value->Shared->Prop}
  (I3:Inv (cxOf (CXd P w) P w K mg base N qual scope f cd A outer s H E) pins σ H3 s3) (hC:s3.heap.objs.size=C) (f3:∀b∈fp,FpOk (cxOf (CXd P w) P w K mg base N qual scope f cd A outer s H E) pins H3 b)
  (hfe:cenv.frame=(envOfC qual scope s.heap.objs.size f cd).frame)
  (h:XB (cxComp (cxOf (CXd P w) P w K mg base N qual scope f cd A outer s H E) scopeB cl NB C s3 H3 fp) (fun cls H'=>E cls none H') e s') :
  notedBy (model P w) (A.deeper (envOfC qual scope s.heap.objs.size f cd)) cenv (fun x s''=>compPost (model P w) (A.deeper (envOfC qual scope s.heap.objs.size f cd)) (cxOf (CXd P w) P w K mg base N qual scope f cd A outer s H E).xe use Qc acc C (.error x) s'') e s':=by
 obtain⟨ea,cls,pins',σ1,H1,H',s1,B,a0,rfl,I1,F,q⟩:=h;have hfr:=I3.ok.frames;have hst:∀b∈frs (envOfC qual scope s.heap.objs.size f cd::outer),∃o,s3.heap.get? b=some o/\∀vs,o.data≠.fields vs:=fun b hb=>(I3.stack.mem hb).2
 have nCs:∀b o,s3.heap.get? b=some o->b≠C:=fun b o q=>by rw[<-hC];exact Nat.ne_of_lt (Heap.lt_size q)
 have nCf:∀b∈frs (envOfC qual scope s.heap.objs.size f cd::outer),b≠C:=fun b hb=>by
  obtain⟨o,ho,_⟩:=hst b hb;exact nCs b o ho
 obtain⟨m,hNs,_⟩:=I1.loc;obtain⟨oC,es,ep,hoC,rC⟩:=id hNs;have hC1:s1.heap.get? C=some oC:=hoC;have H1C:H1 C=none:=I1.free;have BC:B.get? C=some oC:=F.kp C oC hC1 H1C fun z=>nCf C z rfl
 have H'C:H' C=none:=F.un.free C oC hC1 H1C (by simp);show wpAny _ _ (noteFrame (.ref ea) cenv) _ _ _;rw[note_frame hfe];obtain⟨dd,dj⟩:=F.dj;refine(dk_noteFrame _ _).also dj (wpAny_looks_onW (L:=s.heap.objs.size) hfr rfl F.fl fun h2 held2 up2 dj2=>?_);obtain⟨st2,en2,ff2,tr2⟩:=held2;have BnC:∀{b},B.get? b=none->b≠C:=fun{b} q z=>by rw[z,BC] at q;cases q
 refine⟨m,⟨oC,es,ep,st2 C oC BC,rC⟩,fun h3 sb cenv' _=>?_⟩;have b3:∀b,b≠C->h3.get? b=h2.get? b:=fun b hb=>sb.2 b hb
 have stB:∀b o,(PySem.W.hideAll B [C]).get? b=some o->b≠C/\B.get? b=some o:=fun b o q=>by
  refine⟨fun z=>?_,PySem.W.of_hideAll _ q⟩;rw[z,PySem.W.hideAll_none _ (List.mem_singleton_self C)] at q;cases q
 have hid:∀b o,b≠C->B.get? b=some o->(PySem.W.hideAll B [C]).get? b=some o:=fun b o hb q=>PySem.W.hideAll_get _ q (by simpa using hb)
 have nB:∀b,B.get? b=none->(PySem.W.hideAll B [C]).get? b=none:=fun b q=>by
  cases z:(PySem.W.hideAll B [C]).get? b with
  |none=>rfl
  |some o=>rw[(stB b o z).2] at q;cases q
 have st3:(PySem.W.hideAll B [C]).StaysIn h3:=fun b o q=>by
  obtain⟨hb,q'⟩:=stB b o q;rw[b3 b hb];exact st2 b o q'
 have ff3:h3.FunFrames (PySem.W.hideAll B [C]) (envOfC qual scope s.heap.objs.size f cd::outer):=ff_keeps ff2 (fun b hb o q=>⟨o,by rw[b3 b (nCf b hb)];exact q,rfl⟩) fun b _=>nB b
 have tr3:h3.TracedAtW (PySem.W.hideAll B [C]) ea cls a0 (rawInt s.heap.objs.size):=by
  obtain⟨oe,vs,T,oT,ts,he,hc,hd,h1,hnT,hTe,hT,r⟩:=tr2;exact⟨oe,vs,T,oT,ts,by rw[b3 ea (BnC en2)];exact he,hc,hd,h1,nB T hnT,hTe,by rw[b3 T (BnC hnT)];exact hT,r⟩
 have dj3:DictAt h3 ea dd:=by
  obtain⟨oe,_,_,_,_,he,_⟩:=id tr3;have e2:h2.get? ea=some oe:=by rw[<-b3 ea (BnC en2)];exact he
  obtain⟨k1,k2⟩:=dj2.get e2;rw[<-k1];exact dict_of he k2
 refine(dk_passOn _ _ _).alsoE (s:={ s' with heap:=h3 }) dj3 (passOn_any st3 ff3 tr3 fun h4 fl4 st4 ff4 tr4 up4 dj4=>?_);show wpAny _ _ (leaving _ (.ref ea)) _ _ _;refine(dk_leaving _ _).also (s:={ s' with heap:=h4 }) dj4 (leave_any (L:=s.heap.objs.size) hfr ff4 rfl tr4 st4 (nB ea en2) fun h' fl' up' dj'=>?_);have slots:∀b∈frs (envOfC qual scope s.heap.objs.size f cd::outer),∀o,s3.heap.get? b=some o->b∉fp->∃sl,h'.get? b=some { o with slots:=sl }:=fun b hb o qb hx=>by
  have nH:H3 b=none:=I3.stkFree b hb;obtain⟨o1,ho1,hd1⟩:=hst b hb;rw[qb] at ho1;cases ho1;obtain⟨z1,e1⟩:=I1.base.slot b o qb nH hb hx;have n1:=I1.base.free b o qb nH hx;obtain⟨z2,e2⟩:=F.un.slot b _ e1 n1 hb (by simp);obtain⟨z3,e3⟩:=up2 b { o with slots:=z2 } e2 hd1;have e3':h3.get? b=some { o with slots:=z3 }:=by rw[b3 b (nCf b hb)];exact e3
  obtain⟨z4,e4⟩:=up4 b { o with slots:=z3 } e3' hd1;exact up' b { o with slots:=z4 } e4 hd1
 have un:Un (frs (envOfC qual scope s.heap.objs.size f cd::outer)) fp H3 H' s3.heap h':=by
  refine⟨fun b o qb n hb hx=>?_,fun b o qb n hb hx=>slots b hb o qb hx,fun b o qb n hx=>?_,fun b o qb hx=>?_,fun b xs z=>F.un.tups b xs (I1.base.tups b xs z),fun b o u z=>F.un.frzs b o u (I1.base.frzs b o u z),fun b ps z=>?_⟩
  ·have k1:=I1.base.keep b o qb n hb hx;have n1:=I1.base.free b o qb n hx;exact fl'.1 b o (hid b o (nCs b o qb) (F.kp b o k1 n1 hb))
  ·obtain⟨o1,k1⟩:=I1.base.there b o qb hx;exact F.un.free b o1 k1 (I1.base.free b o qb n hx) (by simp)
  ·by_cases hb:b∈frs (envOfC qual scope s.heap.objs.size f cd::outer)
   ·obtain⟨z,e⟩:=slots b hb o qb hx;exact⟨_,e⟩
   ·obtain⟨o1,k1⟩:=I1.base.there b o qb hx;obtain⟨o2,k2⟩:=F.th b o1 k1 hb;exact⟨o2,fl'.1 b o2 (hid b o2 (nCs b o qb) k2)⟩
  ·obtain⟨m1,e1⟩:=I1.base.tbls b ps z;obtain⟨m2,e2⟩:=F.un.tbls b _ e1;exact⟨m1++m2,by rw[e2,Array.append_assoc]⟩
 have hokB:HOk P w H' (PySem.W.hideAll B [C]):=fun b u z=>by
  refine(F.hok b u z).stay (fun c v hc qc=>hid c v (fun y=>?_) qc) (fun _ y=>y) fun _ _ y=>y
  rcases hc with rfl|hc
  ·rw[y,H'C] at z;cases z
  ·rw[y,H'C] at hc;cases hc
 have os3:s'.os=s3.os:=F.os.trans I1.os;have J:=I3.call' (s':={ s' with heap:=h' }) (ch:=fp) os3 un (hokB.kept fl'.1) F.bare (fun b hb=>by
  obtain⟨g0,g1,g2,g3,g4,g5⟩:=f3 b hb;exact⟨g3,g1,g4,g5⟩)
 have nfp:∀b o,s.heap.get? b=some o->b∉fp:=fun b o qb hb=>by
  obtain⟨g0,g1,g2,g3,g4,g5⟩:=f3 b hb;rcases g3 with z|z
  ·cases z
  ·exact absurd (Nat.lt_of_lt_of_le (Heap.lt_size qb) z) (Nat.lt_irrefl _)
 refine⟨ea,cls,H',_,a0,rfl,⟨J.os,F.bare,J.base,hokB,fl',fun b o qb n hb=>?_,fun b o qb hb=>?_,⟨_,dj'⟩⟩,q⟩
 ·have k3:=I3.base.keep b o qb n hb (by intro z;cases z);have n3:=I3.base.free b o qb n (by intro z;cases z);have hbs:=apart_up I3 qb hb;have hx:=nfp b o qb;exact hid b o (nCs b o k3) (F.kp b o (I1.base.keep b o k3 n3 hbs hx) (I1.base.free b o k3 n3 hx) hbs)
 ·obtain⟨o3,k3⟩:=I3.base.there b o qb (by intro z;cases z);obtain⟨o1,k1⟩:=I1.base.there b o3 k3 (nfp b o qb);obtain⟨o2,k2⟩:=F.th b o1 k1 (apart_up I3 qb hb);exact⟨o2,hid b o2 (nCs b o3 k3) k2⟩
end
abbrev cxCX (X:Cx)(scope:Scope)(cl:List (Str×Addr))(N:List Str)(C:Addr)(s:Shared)(H:Hp)(fp:List Addr)(E:XK):Cx:=(cxComp X scope cl N C s H fp).wish (XB (cxComp X scope cl N C s H fp) fun cls H'=>E cls none H')
section
variable {X:Cx}
theorem comp_coreX {P:Program} {w:World} {K:PySem.W.Frag} {mg:Str->Option Value} {base:Heap} {N0:List Str} {qual:Str} {sc0:Scope} {f0:Addr} {cd:Value} {A0:Around} {outer:List Env} {s0:Shared} {H0:Hp} {E:XK} (hX:X=cxOf (CXd P w) P w K mg base N0 qual sc0 f0 cd A0 outer s0 H0 E) (N:List Str) (fr:List (Option Nat)) {elt tg iter:Expr} {ifs:List Expr} {scope:Scope} {pos fpos:Pos} {wi:TI} {g:TG} {tt:TT} {te:TE} {cl:List (Str×Addr)}
  (hc:X.calm=true) (hi:PI X tg iter wi) (hchk:compChk X.N X.env.scope scope N fr=true) (hclos:closureFor scope X.env=pure cl) (hcl:ClOk X.env.cells cl) (hall:ClAll cl scope.names)
  (hb:∀(C:Addr) (s:Shared) (H:Hp) (fp:List Addr),PG (cxCX X scope cl N C s H fp E) tg g/\PIfs (cxCX X scope cl N C s H fp E) ifs tt/\PE (cxCX X scope cl N C s H fp E) elt te)
  (hs:∀x,foldedSetIterable iter X.env x=pure x) {pins:List (Addr×Obj)} {s:Shared} {σ:St} {H:Hp} {Q:VK} {use:Option (Value->Sem Unit)} {Qc:Value->Shared->Prop} (I:Inv X pins σ H s) (h:tComp fr wi g tt te σ H Q)
  (hfin:∀(l:Addr) (H':Hp) (s':Shared) (C:Addr),Inv X pins σ H' s'->FpOk X pins H' C->(∃m,s'.heap.Ns C m)->Q (.ref l) H'->compPost (model X.prog X.w) X.A X.xe use Qc (.ref l) C (.ok .next) s') :
  wpAny (model X.prog X.w) X.A (comprehension (.ListComp elt [⟨tg,iter,ifs,0⟩] scope pos) scope X.env fpos (newList []) (firstAsync [⟨tg,iter,ifs,0⟩]) (firstIter [⟨tg,iter,ifs,0⟩] X.env) use) Qc X.xe s:=by
 simp only[compChk,Bool.and_eq_true,decide_eq_true_eq,List.all_eq_true,Bool.or_eq_true,Bool.not_eq_true',decide_eq_false_iff_not] at hchk;obtain⟨⟨⟨⟨⟨hkind,hlen⟩,hcell⟩,hnames⟩,hfree⟩,hfr⟩:=hchk;have hnames':∀x∈scope.names,x.2=.local->scope.names.lookup x.1=some .local:=fun y hy e=>(hnames y hy).resolve_left fun z=>z e
 have hcell':∀x∈scope.names,x.2≠.cell:=fun y hy=>hcell y hy
 refine wpAny_comprehension_free (use:=use) rfl hs hclos hkind hnames' (thn (hi pins s σ H _ I h) fun v s1 h1=>thn h1 fun itv s2 h2=>?_);obtain⟨it,fp,tn,J,H2,e,I2,T,st2,f2,hQ⟩:=h2;subst e;refine wpAny_newObj_type (hd:=by size_fits) (wpAny_newFunctionEnv hcell' (by intro y hy;simp at hy) (fun h₁ hns hsb=>?_) hkind);dsimp only at hns hsb ⊢;obtain⟨W,⟨m0,w0⟩,turn⟩:=hQ s2.heap.objs.size I2.fresh;have I3:Inv X pins σ (upd H2 s2.heap.objs.size (.lst [])) { s2 with heap:=s2.heap.push { cls:=.type "list",data:=.seq ([]:List Value).toArray },toks:=s2.toks }:=I2.lnew (its:=[]) .nil (Nat.zero_le _);generalize hh3:s2.heap.push { cls:=.type "list",dict:=none,data:=.seq ([]:List Value).toArray }=h3 at hns hsb ⊢;rw[show s2.heap.push { cls:=.type "list",data:=.seq ([]:List Value).toArray }=h3 from hh3] at I3;generalize hH3:upd H2 s2.heap.objs.size (.lst [])=H3 at I3 w0;generalize hl:s2.heap.objs.size=l at turn hH3 ⊢;have hl3:l<h3.objs.size:=by rw[<-hh3,<-hl,Heap.size_push];exact Nat.lt_succ_self _
 generalize hs3:({ s2 with heap:=h3,toks:=s2.toks }:Shared)=s3 at I3;have es3:s3.heap=h3:=by rw[<-hs3]
 have eos:s3.os=s2.os:=by rw[<-hs3]
 have egens:s3.gens=s2.gens:=by rw[<-hs3]
 generalize hC:h3.objs.size=C at hns hsb ⊢;have old:∀b o,h3.get? b=some o->h₁.get? b=some o:=fun b o e=>
  hsb.extBut b o (by rw[<-hC];exact Nat.ne_of_lt (Heap.lt_size e)) (Heap.get?_push_of_some _ e)
 have f3:∀b∈fp,FpOk X pins H3 b:=fun b hb=>by
  obtain⟨g0,g1⟩:=f2 b hb;refine⟨?_,g1⟩;rw[<-hH3];have:b≠l:=by
   obtain⟨o,e,_⟩:=T.obj _ _ st2 b hb;rw[<-hl];exact Nat.ne_of_lt (Heap.lt_size e)
  rw[upd_ne this];exact g0
 have st3:tn 0 h₁:=T.keep _ _ _ st2 fun b hb o e=>old b o (by rw[<-hh3];exact Heap.get?_push_of_some _ e)
 have ok:(cxComp X scope cl N C s3 H3 fp).Ok:=by
  refine⟨I3.ok.mod,?_,I3.ok.glob,I3.ok.blt,?_,fun x y c e1 e2=>I3.ok.inj x y c (hcl.get e1) (hcl.get e2),fun x hx=>?_,fun x c hx=>(by cases hx),I3.ok.hd,I3.ok.frames,.inl rfl,fun b hb=>?_,fun b o e=>?_,?_,fun b o e hb=>?_,fun b hb hb2=>?_,?_,fun b hb=>?_⟩
  ·exact hkind
  ·show s3.heap.objs.size<=C;rw[es3,hC];exact Nat.le_refl _
  ·have hx':(relabel scope X.env).names.lookup x=some .cell\/(relabel scope X.env).names.lookup x=some .free:=hx;have:scope.names.lookup x=some .free:=by
    rcases hx' with z|z
    ·rcases relabel_cell z with q|⟨_,q⟩
     ·exact absurd rfl (hcell' _ (PySem.mem_of_lookup q))
     ·exact q
    ·rcases relabel_cell z with q|⟨q,_⟩
     ·exact q
     ·cases q
   exact hall.get _ (PySem.mem_of_lookup this) rfl
  ·obtain⟨g0,g1,g2,g3,g4,g5⟩:=f3 b hb;obtain⟨o,e,_⟩:=T.obj _ _ st2 b hb;refine⟨?_,fun x c e=>g4 x c (hcl.get e)⟩;show b≠C;rw[<-hC];exact Nat.ne_of_lt (Heap.lt_size (by rw[<-hh3];exact Heap.get?_push_of_some _ e))
  ·have q:=I3.bs b o e;exact q
  ·show X.base.objs.size<=s3.heap.objs.size;exact Nat.le_trans I3.ok.bsz I3.sz
  ·obtain⟨g0,g1,g2,g3,g4,g5⟩:=f3 b hb;rcases g3 with z|z
   ·exact I3.ok.noex b o e z
   ·exact absurd (Nat.lt_of_lt_of_le (Heap.lt_size e) (Nat.le_trans I3.ok.bsz z)) (Nat.lt_irrefl _)
  ·obtain⟨g0,g1,g2,g3,g4,g5⟩:=f3 b hb;rcases List.mem_cons.mp (I3.stkSub b hb2) with z|z
   ·exact g1 z
   ·exact g2 z
  ·show s3.heap.FunFrames X.base X.stack;exact I3.stack
  ·exact I3.stkFree b hb
 have I4:Inv (cxComp X scope cl N C s3 H3 fp) [] (stC fr σ) H3 { s2 with heap:=h₁,toks:=s2.toks+([]:List (Str×Value)).length }:=by
  have hk3:∀b o,s3.heap.get? b=some o->h₁.get? b=some o:=fun b o e=>old b o (by rw[<-es3];exact e)
  refine⟨ok,eos.symm▸rfl,egens▸I3.bare,Un.kept hk3,⟨_,hns,fun i x v e1 e2 e3=>?_⟩,fun x c e=>?_,?_,fun x c e=>I3.freeC x c (hcl.get e),fun p hp=>(by cases hp),I3.hok.kept hk3,?_⟩
  ·
   have e1':N[i]?=some x:=e1;have e2':(fr[i]?).map (fun o=>o.bind fun i=>(σ[i]?).bind id)=some (some v):=by
    have:(stC fr σ)[i]?=some (some v):=e2;rw[stC,List.getElem?_map] at this;exact this
   cases q:fr[i]? with
   |none=>rw[q] at e2';cases e2'
   |some o=>
    rw[q] at e2';cases o with
    |none=>cases e2'
    |some j=>
     have e2'':(σ[j]?).bind id=some v:=Option.some.inj e2';obtain⟨p1,p2⟩:X.N[j]?=some x/\scope.names.lookup x=some .free:=by
      have hz:(x,some j)∈N.zip fr:=by
       have:(N.zip fr)[i]?=some (x,some j):=by
        rw[List.getElem?_zip_eq_some];exact⟨e1',q⟩
       exact List.mem_of_getElem? this
      have:=hfr _ hz;simpa using this
     have hv:X.env.scope.names.lookup x=some .cell\/X.env.scope.names.lookup x=some .free:=by
      rcases hfree _ (PySem.mem_of_lookup p2) with z|z
      ·exact absurd rfl z
      ·simpa using z
     have e3':σ[j]?=some (some v):=by
      cases q3:σ[j]? with
      |none=>rw[q3] at e2'';cases e2''
      |some w'=>rw[q3] at e2'';have:w'=some v:=e2'';rw[this]
     obtain⟨m,hn,hl'⟩:=I3.loc;obtain⟨u,ru,lk⟩:=hl' j x v p1 e3' (.inr hv);refine⟨u,ru,.inr ⟨relabel_free p2,?_⟩⟩;rcases lk with⟨lk,_⟩|⟨_,c,ec,cc⟩
     ·have lk':X.env.scope.names.lookup x=some .local:=lk;rcases hv with z|z<;>(rw[z] at lk';cases lk')
     ·obtain⟨c',ec'⟩:=hall.get _ (PySem.mem_of_lookup p2) rfl;have:=hcl.get ec';rw[ec] at this;cases this;obtain⟨o,ho,hd⟩:=cc;exact⟨c,ec',o,hk3 _ _ ho,hd⟩
  ·obtain⟨v,o,ho,hd⟩:=I3.cell x c (hcl.get e);exact⟨v,o,hk3 _ _ ho,hd⟩
  ·show H3 C=none;exact I3.hok.fresh (by rw[es3,hC];exact Nat.le_refl _)
  ·show(stC fr σ).length=N.length;rw[stC,List.length_map];exact hlen
 obtain⟨hg,ht,he⟩:=hb C s3 H3 fp;have fpc:∀{H':Hp},(∀b∈fp,H' b=none)->∀b∈fp,FpOk (cxComp X scope cl N C s3 H3 fp) [] H' b:=fun hn b hb=>by
  obtain⟨q1,q2⟩:=ok.exf b hb;exact⟨hn b hb,q1,ok.exfs b hb,.inl hb,q2,fun p hp=>by cases hp⟩
 have fin:∀(σ':St) (H':Hp) (s':Shared),Inv (cxComp X scope cl N C s3 H3 fp) [] σ' H' s'->Q (.ref l) H'->compPost (model X.prog X.w) X.A X.xe use Qc (.ref l) C (.ok .next) s':=fun σ' H' s' I' q=>by
  obtain⟨m,hn,_⟩:=I'.loc;have nC:∀b o,s3.heap.get? b=some o->b≠C:=fun b o e=>by
   rw[<-hC,<-es3];exact Nat.ne_of_lt (Heap.lt_size e)
  have fC:H' C=none:=I'.free;have u:=I'.base;refine hfin l H' s' C ?_ (I3.fpOk (by rw[es3,hC];exact Nat.le_refl _) fC) ⟨m,hn⟩ q;refine I3.call' (s':=s') (ch:=fp) I'.os ⟨fun b o e n hb hx=>u.keep b o e n hb hx,fun b o e n hb hx=>u.slot b o e n hb hx,u.free,fun b o e hx=>u.there b o e hx,u.tups,u.frzs,u.tbls⟩ (fun b o e=>I'.hok b o e) I'.bare fun b hb=>?_
  obtain⟨g0,g1,g2,g3,g4,g5⟩:=f3 b hb;exact⟨g3,g1,g4,g5⟩
 have loop:codeAny (model X.prog X.w) X.A (.compLoop (.ListComp elt [⟨tg,iter,ifs,0⟩] scope pos) 0 (.ref it) (.ref l) (compEnvC scope cl C X.env)) (compPost (model X.prog X.w) X.A X.xe use Qc (.ref l) C)
   { s2 with heap:=h₁,toks:=s2.toks+([]:List (Str×Value)).length }:=by
  refine comp_turnsX (Ee:=XB (cxComp X scope cl N C s3 H3 fp) fun cls H'=>E cls none H') (fun n s'=>∃i σ' H',Inv (cxComp X scope cl N C s3 H3 fp) [] σ' H' s'/\tn i s'.heap/\(∀b∈fp,H' b=none)/\W i n σ' H') (fun x sx z=>by subst hX;exact blk_up I3 (by rw[es3];exact hC) f3 rfl z) ?_ m0 ⟨0,_,H3,I4,st3,fun b hb=>(f3 b hb).1,w0⟩
  rintro n s5 ⟨i,σ5,H5,I5,st5,fr5,w5⟩
  rcases turn i n σ5 H5 w5 with⟨stop,qn⟩|⟨go,step⟩
  ·refine thn (T.done (cxComp X scope cl N C s3 H3 fp) rfl rfl rfl hc i [] s5 σ5 H5 (fun _ _=>False) I5 (fpc fr5) st5 stop) fun r s6 ⟨hr,I6⟩=>?_
   subst hr;exact fin σ5 H5 s6 I6 qn
  ·refine thn (T.item (cxComp X scope cl N C s3 H3 fp) rfl rfl rfl hc i [] s5 σ5 H5 (fun _ _=>False) I5 (fpc fr5) st5 go) fun r s6 ⟨u,hr,h6⟩=>?_
   subst hr;refine thn h6 fun _ s7 ⟨x,H7,I7,r7,y7,st7,fr7⟩=>?_
   have I7':=I7.pinned (fpc fr7) (T.obj _ _ st7);refine thn (hg _ s7 σ5 H7 x u _ (I7'.wish _) r7 (step x H7 y7)) fun _ s8 ⟨σ8,H8,I8w,q8⟩=>?_
   have I8:=I8w.unwish;have again:∀{σ9:St} {H9:Hp} {s9:Shared},Inv (cxComp X scope cl N C s3 H3 fp) ([]++pinsAt fp s7.heap) σ9 H9 s9->(∃m',m'<n/\W (i+1) m' σ9 H9)->∃m,m<n/\∃i σ' H',Inv (cxComp X scope cl N C s3 H3 fp) [] σ' H' s9/\tn i s9.heap/\(∀b∈fp,H' b=none)/\W i m σ' H':=fun{σ9 H9 s9} I9 n9=>by
    obtain⟨m',hm,w9⟩:=n9;refine⟨m',hm,i+1,σ9,H9,I9.unpinned,T.keep _ _ _ st7 fun b hb o e=>(I9.pin (b,o) (List.mem_append_right _ (List.mem_append_right _ (mem_pinsAt hb e)))).1,fun b hb=>?_,w9⟩;obtain⟨o,e,d⟩:=T.obj _ _ st7 b hb;exact(I9.pin (b,o) (List.mem_append_right _ (List.mem_append_right _ (mem_pinsAt hb e)))).2.1
   refine thn (ht _ s8 σ8 H8 _ (I8.wish _) q8) fun ok s9 ⟨H9,I9w,q9⟩=>?_
   have I9:=I9w.unwish;cases ok with
   |false=>
    rw[if_neg Bool.false_ne_true] at q9 ⊢;exact again I9 q9
   |true=>
    rw[if_pos rfl] at q9 ⊢;refine thn (he _ s9 σ8 H9 _ (I9.wish _) q9) fun y sa ⟨vy,Ha,Iaw,ry,qa⟩=>?_
    have Ia:=Iaw.unwish;obtain⟨xs,hla,hsz,n9⟩:=qa;refine thn (mt_append _ sa σ8 Ha (.ref l) [vy] (.ref l) [y] (fun _ Hb=>∃m',m'<n/\W (i+1) m' σ8 Hb) Ia rfl (.cons ry .nil) ⟨l,xs,vy,rfl,rfl,hla,hsz,n9⟩) fun _ sb ⟨_,Hb,Ib,_,qb⟩=>?_
    exact again Ib qb
 show codeAny (model X.prog X.w) X.A (.compStart (.ListComp elt [⟨tg,iter,ifs,0⟩] scope pos) 0 (.ref it) (.ref l) (compEnvC scope cl C X.env)) (compPost (model X.prog X.w) X.A X.xe use Qc (.ref l) C) { s2 with heap:=h₁,toks:=s2.toks+([]:List (Str×Value)).length };exact codeAny_compStart_list loop (T.self _ 0 _ _ _ st3 loop)
theorem pe_compX {P:Program} {w:World} {K:PySem.W.Frag} {mg:Str->Option Value} {base:Heap} {N0:List Str} {qual:Str} {sc0:Scope} {f0:Addr} {cd:Value} {A0:Around} {outer:List Env} {s0:Shared} {H0:Hp} {E:XK} (hX:X=cxOf (CXd P w) P w K mg base N0 qual sc0 f0 cd A0 outer s0 H0 E) (N:List Str) (fr:List (Option Nat)) {elt tg iter:Expr} {ifs:List Expr} {scope:Scope} {pos:Pos} {wi:TI} {g:TG} {tt:TT} {te:TE} {cl:List (Str×Addr)}
  (hc:X.calm=true) (hi:PI X tg iter wi) (hchk:compChk X.N X.env.scope scope N fr=true) (hclos:closureFor scope X.env=pure cl) (hcl:ClOk X.env.cells cl) (hall:ClAll cl scope.names)
  (hb:∀(C:Addr) (s:Shared) (H:Hp) (fp:List Addr),PG (cxCX X scope cl N C s H fp E) tg g/\PIfs (cxCX X scope cl N C s H fp E) ifs tt/\PE (cxCX X scope cl N C s H fp E) elt te)
  (hs:∀x,foldedSetIterable iter X.env x=pure x:=by intro _;rfl) :
  PE X (.ListComp elt [⟨tg,iter,ifs,0⟩] scope pos) (tComp fr wi g tt te):=by
 intro pins s σ H Q I h;rw[eval_ListComp];refine comp_coreX hX N fr hc hi hchk hclos hcl hall hb hs I h fun l H' s' C I' fC ⟨m,hn⟩ q=>?_
 refine⟨m,hn,fun h'' hs''=>⟨.ref l,H',?_,rfl,q⟩⟩;obtain⟨f0,f1,f2,f3,f4,f5⟩:=fC;exact I'.turned (t':=s'.toks) (fun b o hb e=>(hs''.2 b hb).trans e) f0 f1 f3 f4 f5
end
end L2
namespace L2
section
open PySem PySem.Calls PyProof.Rows PySem.W Builtin Builtin.ObjectAttr Builtin.Getset_descriptor
section
variable {prog:Program}{w:World}{A:Around}{E:Value->Shared->Prop}{K:Frag}{e D:Addr}
structure IsExc (h:Heap) (e D:Addr):Prop where
 ob:∃o,h.get? e=some o/\o.cls=.ref D/\∃vs,o.data=.fields vs
theorem IsExc.ty {h:Heap}(z:IsExc h e D){M:Model}:Looks M h (typeOf (.ref e)) (.ref D):=by
 obtain⟨o,q,c,_⟩:=z.ob;rw[<-c];exact(Looks.ld q).andThen .now
theorem exc_descr {tp:Value}{s:Shared}{R:Result->Shared->Prop}(k:K.In s.heap)(z:IsExc s.heap e D)(hm:mroIn K D (.type "object")=some true)(q:R (.ok (.ret (.ref D))) s) :
  codeAny (model prog w) A (.call (.builtin "getset_descriptor.__get__") ⟨[.builtin "object.__class__",.ref e,tp],[]⟩) R s:=by
 obtain⟨h1,g1,d1,t1,o1⟩:=s;have T0:=z.ty (M:=model prog w);have T1:=looks_mroIn (M:=model prog w) k hm;have slot:=KF.slot_gs;refine codeAny_call_builtin slot.plain KF.entry_gs (slot.check _ _ _ _ _ _ _ _ KF.type_class (KF.args_gs _ _ _) ?_);simp only[Builtin.«getset_descriptor.__get__»,descrGet,dga_obj];refine wpAny_bind (wpAny_pure ?_);dsimp only[descrGetter,descrCheckInstance,descrNameAndClass,isInstance];rw[show descrOwnerAndName "object.__class__"=("object","__class__") from KF.owner_class]
 repeat lk
 refine⟨Code.quiet_builtin (id:="object.__class__") _ (by decide +kernel),codeAny_builtin KF.entry_class ?_⟩;simp only[Builtin.«object.__class__»,shownTypeOf]
 repeat lk
 exact q
theorem exc_find {h:Heap} {M:Model} (k:K.In h) (ha:findIn K (.ref D) "__class__"=some (some (.builtin "object.__class__")))
  (hn:specialIn K (.builtin "object.__class__") "__get__"=some (some (.builtin "getset_descriptor.__get__"))) (ht:takesIn K (.builtin "object.__class__")=some true) :
  Looks M h (find (.ref e) (.ref D) "__class__") (.bind (.builtin "getset_descriptor.__get__") (.builtin "object.__class__")):=
 (looks_findIn k ha).andThen ((show Looks M h (getOf (some (.builtin "object.__class__"))) (some (.builtin "getset_descriptor.__get__")) from looks_specialIn k hn).andThen
  ((show Looks M h (dataDescriptor? (some (.builtin "object.__class__")) (some (.builtin "getset_descriptor.__get__"))) (some (.builtin "getset_descriptor.__get__",.builtin "object.__class__")) from(looks_takesIn k ht).andThen .now).andThen (Looks.tag .now)))
theorem exc_check {nv:Value}{s:Shared}{Q:Unit->Shared->Prop}{M:Model}(k:K.In s.heap)(z:IsExc s.heap e D)(hb:mroIn K D (.type "BaseException")=some true)(q:Q () s) :
  wpAny M A (checkBuiltinCall "BaseException.__getattribute__" ⟨[.ref e,nv],[]⟩) Q E s:=by
 obtain⟨h1,g1,d1,t1,o1⟩:=s;have b1:builtinKind "BaseException.__getattribute__"=some .slot:=by decide +kernel
 have b2:splitId "BaseException.__getattribute__"=some ("BaseException","__getattribute__"):=by decide +kernel
 have b3:=F.args_bexc_ga (.ref e) nv;have T:Looks M h1 (isInstance (.ref e) (.type "BaseException")) true:=z.ty.andThen (looks_mroIn k hb);simp only[checkBuiltinCall,b1,b2];refine wpAny_bind (T.at ?_);rw[if_neg (by decide)]
 repeat wp_step
 exact q
theorem exc_entry {tk:Tok} {s:Shared} {Q:Fin->Shared->Prop} (k:K.In s.heap) (z:IsExc s.heap e D) (ha:findIn K (.ref D) "__class__"=some (some (.builtin "object.__class__")))
  (hn:specialIn K (.builtin "object.__class__") "__get__"=some (some (.builtin "getset_descriptor.__get__"))) (ht:takesIn K (.builtin "object.__class__")=some true) (hm:mroIn K D (.type "object")=some true) (q:Q (.done (.ret (.ref D))) s) :
  wpAny (model prog w) A (Builtin.«object.__getattribute__» ⟨[.ref e,.str "__class__" tk],[]⟩) Q E s:=by
 obtain⟨h1,g1,d1,t1,o1⟩:=s;have T0:=z.ty (M:=model prog w);have T1:=exc_find (e:=e) (M:=model prog w) k ha hn ht;have s0:slotArgs "__getattribute__" 1 ⟨[.ref e,.str "__class__" tk],[]⟩=pure (Value.ref e,[Value.str "__class__" tk]):=by kernel_rfl
 have s1:attrName (.str "__class__" tk)=pure "__class__":=by kernel_rfl
 simp only[Builtin.«object.__getattribute__»,s0];refine wpAny_bind (wpAny_pure ?_);dsimp only;rw[s1];refine wpAny_bind (wpAny_pure (wpAny_bind (T0.at (wpAny_bind (T1.at ?_)))));dsimp only;unfold bindTo;dsimp only;refine wpAny_bind (wpAny_call (exc_descr (s:=⟨h1,g1,d1,t1,o1⟩) k z hm ?_));exact wpAny_pure q
theorem exc_class {s:Shared} {Q:Option Value->Shared->Prop} (k:K.In s.heap) (z:IsExc s.heap e D) (hga:findIn K (.ref D) "__getattribute__"=some (some (.builtin "BaseException.__getattribute__"))) (hgg:findIn K (.ref D) "__getattr__"=some none)
  (ha:findIn K (.ref D) "__class__"=some (some (.builtin "object.__class__"))) (hn:specialIn K (.builtin "object.__class__") "__get__"=some (some (.builtin "getset_descriptor.__get__"))) (ht:takesIn K (.builtin "object.__class__")=some true)
  (hm:mroIn K D (.type "object")=some true) (hb:mroIn K D (.type "BaseException")=some true) (q:Q (some (.ref D)) { s with toks:=s.toks+1 }) :
  wpAny (model prog w) A (getAttr? (.ref e) "__class__") Q E s:=by
 obtain⟨h1,g1,d1,t1,o1⟩:=s;have T0:=z.ty (M:=model prog w);have T1:=looks_findIn (M:=model prog w) k hga;have T2:=looks_findIn (M:=model prog w) k hgg;have B:=F.excAttr_ValueError.ga.bind (.ref e);simp only[getAttr?,getAttrBy?,getAttrBy];refine wpAny_bind (wpAny_mkText (wpAny_bind (wpAny_attempt (wpAny_holding (wpAny_bind (T0.at (wpAny_bind (T1.at ?_))))))));have n0:(onTheHeap (Value.ref D)&&Value.builtin "BaseException.__getattribute__" == Value.builtin "object.__getattribute__")=false:=by
  have:(Value.builtin "BaseException.__getattribute__" == Value.builtin "object.__getattribute__")=false:=by decide +kernel
  rw[this];rfl
 dsimp only;rw[if_neg (by rw[n0];decide)];unfold getAttrByItsOwn hookBefore;rw[if_pos (by rfl)];refine wpAny_bind (T2.at (wpAny_bind (wpAny_attempt (wpAny_holding ?_))));unfold callGetattribute boundAndCalled;rw[if_neg (by decide),B];refine wpAny_bind (wpAny_pure ?_);dsimp only;refine wpAny_call (codeAny_call_builtin F.excAttr_ValueError.ga.plain F.entry_bexc_ga ?_);refine exc_check (s:=⟨h1,g1,d1,t1+1,o1⟩) k ⟨z.ob⟩ hb (exc_entry (s:=⟨h1,g1,d1,t1+1,o1⟩) k ⟨z.ob⟩ ha hn ht hm ?_);dsimp only;exact handed_on rfl (wpAny_pure q)
structure ExcCls (K:Frag) (D:Addr):Prop where
 ga:findIn K (.ref D) "__getattribute__"=some (some (.builtin "BaseException.__getattribute__"))
 gg:findIn K (.ref D) "__getattr__"=some none
 cl:findIn K (.ref D) "__class__"=some (some (.builtin "object.__class__"))
 sp:specialIn K (.builtin "object.__class__") "__get__"=some (some (.builtin "getset_descriptor.__get__"))
 tk:takesIn K (.builtin "object.__class__")=some true
 mo:mroIn K D (.type "object")=some true
 mb:mroIn K D (.type "BaseException")=some true
theorem ExcCls.there (c:ExcCls K D):∃o,K.lookup D=some o/\∃cd,o.data=.cls cd:=by
 obtain⟨cd,h,_⟩:=Option.bind_eq_some_iff.mp c.mo;unfold clsIn at h
 split at h
 ·rename_i o d' cd' sl' ho
  exact⟨_,ho,_,rfl⟩
 ·cases h
theorem ExcCls.kit (c:ExcCls K D):KitX K (.ref e) (.ref D) (fun h=>IsExc h e D) where
 ty:=fun _ _ _ z=>z.ty
 it:=fun M h k _=>by
  obtain⟨⟨oc,od,oda,os⟩,h1,cd,h2⟩:=c.there;dsimp only at h2;subst h2;intro A1 Q1 E1 s1 st q;unfold isType loadHead;exact wpAny_bind (wpAny_loadPart (st _ _ (k _ _ h1)) (wpAny_pure q))
 ne:=fun h tp dd its n sl k ht=>by
  obtain⟨o,h1,cd,h2⟩:=c.there;cases q:(Value.ref D == Value.ref tp) with
  |false=>rfl
  |true=>
   cases Value.ref.inj (beq_iff_eq.mp q);rw[k _ _ h1] at ht;cases ht;cases h2
 ca:=fun k z q=>exc_class k z c.ga c.gg c.cl c.sp c.tk c.mo c.mb q
end
end
open PySem PySem.Spec PyProof.Rows
def excO (e D:Addr):HO:=.ext fun h=>IsExc h e D
theorem IsExc.stays {h1 h2:Heap}{e D:Addr}(z:IsExc h1 e D)(k:∀o,h1.get? e=some o->h2.get? e=some o):IsExc h2 e D:=by
 obtain⟨o,q,r⟩:=z.ob;exact⟨o,k o q,r⟩
section
variable {X:Cx}{pins:List (Addr×Obj)}{σ:St}{H:Hp}{s:Shared}
def rIsX (K:PySem.W.Frag):List V->Hp->VK->Prop:=fun xs H Q=>∃(e D:Addr) (c:V) (cv:Value) (b:Bool),xs=[.ref e,c]/\H e=some (excO e D)/\ExcCls K D/\(∀u,RelV c u->u=cv)/\PySem.W.kitOne K (.ref D) cv=some b/\Q (.bl b) H
theorem call_isX:CallR X (.builtin "isinstance") (rIsX X.K):=by
 intro pins s σ H xs us Q I r h;obtain⟨e,D,c,cv,b,rfl,he,hc,hv,hk,q⟩:=h;obtain⟨u,v,rfl,ru,rv⟩:=vals2 r;cases(show u=Value.ref e from ru);cases hv v rv;have z:ObjOk X.prog X.w H s.heap e (excO e D):=I.hok e _ he;exact PySem.W.kia_one hc.kit I.kIn z.1 hk (fun z=>nomatch z) fun tk=>⟨.bl b,H,I.tok _,rfl,q⟩
theorem call_isXK {K:PySem.W.Frag}(h:X.K=K):CallR X (.builtin "isinstance") (rIsX K):=by subst h;exact call_isX
theorem Inv.know {e:Addr} {o:HO} (I:Inv X pins σ H s) (n0:e∉X.ex->X.s₀.heap.get? e=none) (nl:e≠X.env.locals) (nc:∀x c,X.env.cells.lookup x=some c->c≠e) (np:∀p∈X.pn++pins,p.1≠e) (hn:H e=none)
  (ho:ObjOk X.prog X.w (upd H e o) s.heap e o):Inv X pins σ (upd H e o) s:=by
 have up:∀{b:Addr} {u:HO},H b=some u->upd H e o b=some u:=fun{b u} q=>by rw[upd_ne (ne_of_none q hn)];exact q
 refine⟨I.ok,I.os,I.bare,⟨I.base.keep,I.base.slot,fun b ob q n x=>?_,I.base.there,fun b xs q=>up (I.base.tups b xs q),fun b ob u q=>up (I.base.frzs b ob u q),fun b ps q=>?_⟩,I.loc,I.cell,?_,fun x c q=>?_,fun p hp=>?_,fun b u q=>?_,I.len⟩
 ·rw[upd_ne (fun z=>by subst z;rw[n0 x] at q;cases q)];exact I.base.free b ob q n x
 ·obtain⟨more,z⟩:=I.base.tbls b ps q;exact⟨more,up z⟩
 ·rw[upd_ne nl.symm];exact I.free
 ·rw[upd_ne (nc x c q)];exact I.freeC x c q
 ·obtain⟨h1,h2,h3⟩:=I.pin p hp;exact⟨h1,by rw[upd_ne (np p hp)];exact h2,h3⟩
 ·by_cases hb:b=e
  ·subst hb;rw[upd_same] at q;cases q;exact ho
  ·rw[upd_ne hb] at q;exact(I.hok b u q).stay (fun c v _ z=>z) (fun _ z=>up z) fun _ _ z=>up z
theorem goes_ok {M:Model} {A:Around} {E:Value->Shared->Prop} {i:Nat} {x:Str} {pos:Pos} {Q:Unit->Shared->Prop} (I:Inv X pins σ H s) (hN:X.N.Nodup) (hi:X.N[i]?=some x) (hk:X.env.kindOf x=some .local)
  (h:∀s',Inv X pins (σ.set i none) H s'->Q () s'):wpAny M A (do bindName X.env x .none;unbindBehindTheSuite X.env x pos) Q E s:=by
 obtain⟨m,hn,hl⟩:=id I.loc;have hc:(X.env.scope.kind == .class||(X.env.scope.kind == .module&&X.env.locals != X.env.globals))=false:=by rw[I.ok.kind];rfl
 have hiσ:i<σ.length:=by rw[I.len];exact(List.getElem?_eq_some_iff.mp hi).1
 obtain⟨oL,_,_,hoL,_⟩:=id hn;refine wpAny_nameGoes_keeps hk hn hc fun h' v hn' hs=>?_
 have apart:∀b o,X.s₀.heap.get? b=some o->b≠X.env.locals:=fun b o q=>Nat.ne_of_lt (Nat.lt_of_lt_of_le (Heap.lt_size q) I.ok.above)
 refine h _ ⟨I.ok,I.os,I.bare,⟨fun b o q n hb hx=>(hs.2 b (apart b o q)).trans (I.base.keep b o q n hb hx),fun b o q n hb hx=>?_,I.base.free,fun b o q hx=>?_,I.base.tups,I.base.frzs,I.base.tbls⟩,
  ⟨_,hn',fun j y v' e1 e2 e3=>?_⟩,fun y c q=>?_,I.free,I.freeC,fun p hp=>?_,fun b u q=>?_,by simpa using I.len⟩
 ·obtain⟨sl,z⟩:=I.base.slot b o q n hb hx;exact⟨sl,(hs.2 b (apart b o q)).trans z⟩
 ·obtain⟨o',z⟩:=I.base.there b o q hx;exact⟨o',(hs.2 b (apart b o q)).trans z⟩
 ·by_cases hj:j=i
  ·subst hj;rw[List.getElem?_set_self hiσ] at e2;cases e2
  ·rw[List.getElem?_set_ne (Ne.symm hj)] at e2;obtain⟨u',r',q⟩:=hl j y v' e1 e2 e3;refine⟨u',r',?_⟩;rcases q with⟨k,z⟩|⟨k,c,z,z2⟩
   ·have ny:y≠x:=fun t=>hj (nodup_ix hN e1 (t▸hi))
    exact .inl ⟨k,by simp[ny,z]⟩
   ·exact .inr ⟨k,c,z,z2.sameBut hs (I.cne y c z)⟩
 ·obtain⟨w',z⟩:=I.cell y c q;exact⟨w',z.sameBut hs (I.cne y c q)⟩
 ·obtain⟨q,n,ne,nf,d⟩:=I.pin p hp;exact⟨(hs.2 p.1 ne).trans q,n,ne,nf,d⟩
 ·have nb:∀{c:Addr} {v':HO},H c=some v'->c≠X.env.locals:=fun{c v'} z=>ne_of_none z I.free
  refine(I.hok b u q).stay (fun c w' hc z=>(hs.2 c ?_).trans z) (fun _ z=>z) fun _ _ z=>z
  rcases hc with rfl|hc
  ·exact nb q
  ·exact nb hc
theorem Inv.flown {H':Hp}{s':Shared}{ea:Addr}{cls a0:Value}{B:Heap}(I:Inv X pins σ H s)(F:Fly X.prog X.w X.stack H s ea cls H' B a0 s'):s.heap.get? ea=none:=by
 cases q:s.heap.get? ea with
 |none=>rfl
 |some o=>
  by_cases hb:ea∈frs X.stack
  ·obtain⟨z,e⟩:=F.un.slot ea o q (I.stkFree ea hb) hb (by simp);obtain⟨_,o',ho',hd⟩:=I.stack.mem hb;rw[q] at ho';cases ho';obtain⟨_,_,_,oe,vs,_,_,_,he,_,hv,_⟩:=F.fl;rw[he] at e;cases e;exact absurd hv (hd vs)
  ·obtain⟨o',e⟩:=F.th ea o q hb;rw[F.fl.2.1] at e;cases e
theorem Inv.knowX {H':Hp}{s':Shared}{ea C:Addr}{a0:Value}{B h':Heap}(I:Inv X pins σ H s)(F:Fly X.prog X.w X.stack H s ea (.ref C) H' B a0 s')(J:Inv X pins σ H' { s' with heap:=h' })(T:h'.TracedW B ea (.ref C) a0):Inv X pins σ (upd H' ea (excO ea C)) { s' with heap:=h' }:=by
 have n:=I.flown F;obtain⟨m,hn,_⟩:=id I.loc;obtain⟨oL,_,_,hoL,_⟩:=id hn;obtain⟨oe,vs,_,_,_,he,⟨hc,_⟩,hv,_⟩:=T;have ise:IsExc h' ea C:=⟨oe,he,hc,vs,hv⟩
 refine J.know (fun x=>?_) (fun z=>?_) (fun x c q z=>?_) (fun p hp z=>?_) F.free ⟨ise,⟨oe,he⟩,fun h1 h2 z k=>z.stays k⟩
 ·cases q:X.s₀.heap.get? ea with
  |none=>rfl
  |some o=>
   obtain⟨o',z⟩:=I.base.there ea o q x;rw[n] at z;cases z
 ·rw[<-z,n] at hoL;cases hoL
 ·obtain⟨w',oc,e,_⟩:=I.cell x c q;rw[z,n] at e;cases e
 ·have:=(I.pin p hp).1;rw[z,n] at this;cases this
end
section
variable {X:Cx}{x n:Str}{c:Value}{body orelse suite:List Stmt}{b₀:Stmt}{np hpos pos:Pos}{i:Nat}
def tTryAs (K:PySem.W.Frag)(c:Value)(i:Nat)(tb:TX)(te ts:TS):TS:=fun D σ H=>tb { D with nx:=te D } (fun cls σ' H'=>PySem.W.exmOne K cls c=some true/\∃C:Addr,cls=.ref C/\∀ea,H' ea=none->
 ts { nx:=fun σ H=>D.nx (σ.set i none) H,rt:=D.rt,bk:=fun σ H=>D.bk (σ.set i none) H,ct:=fun σ H=>D.ct (σ.set i none) H } (σ'.set i (some (.ref ea))) (upd H' ea (excO ea C))) σ H
theorem ps_tryAs {tb:TX} {te ts:TS} (hst:X.stack=X.env::X.outer/\X.env.frame=some X.env.locals) (hm:X.mg x=some c) (hg:Gl X x) (hN:X.N.Nodup) (hi:X.N[i]?=some n) (hk:X.env.scope.names.lookup n=some .local) (hb:PXs X body tb) (he:PSs X orelse te) (hs:∀e,PSs (X.held e) (b₀::suite) ts)
  (hd:(x == ("__debug__":Str))=false:=by decide):PS X (.Try body [.ExceptHandler (some (.Name x np)) (some n) (b₀::suite) hpos] orelse [] pos) (tTryAs X.K c i tb te ts):=by
 intro pins s σ H D I h;refine wpAny_Try_except (wpAny_mono (hb pins s σ H _ _ I h) (fun f s1 q=>?_) fun e s1 q=>?_)
 ·cases f with
  |next=>
   obtain⟨σ',H',I',q⟩:=q;exact he pins s1 σ' H' D I' q
  |ret v=>exact q
  |brk=>exact q
  |cont=>exact q
 ·obtain⟨ea,cls,σ',H1,H',s2,B,a0,rfl,I2,F,hx,C,hC,q⟩:=q;subst hC;have hfr:=I.ok.frames;have fl:=F.fl;rw[hst.1] at hfr fl;refine wpAny_looks_onW hfr hst.2 fl fun h4 held4 up4=>?_
  refine wpAny_landsW held4 fun h5 fl5 up5=>?_
  have J5:=I2.landed F fl5.1 (up4.trans up5);refine wpAny_handleBy_cons (codeAny_handlers_test (ld_glob (J5.held (.ref ea)) hg hm ?_ hd)) (by intro z;cases z);obtain⟨ob,hob,hcls⟩:=fl5.there;have LT:PySem.W.Looks (model X.prog X.w) h5 (typeOf (.ref ea)) (.ref C):=by
   rw[<-hcls];exact(PySem.W.Looks.ld hob).andThen .now
  refine(PySem.W.exm_one J5.kIn LT hx).here ?_;refine codeAny_handlers_suite_as (lands_againW fl5 fun h6 fl6 up6=>?_);have J6:=I2.landed F fl6.1 ((up4.trans up5).trans up6);have J7:=I2.knowX F J6 fl6.2.2.2;refine store_ok (v:=.ref ea) J7 hN hi (.inl hk) rfl (fun s8 I8=>?_) (.inr hk);refine wpAny_mono (hs (.ref ea) pins s8 _ _ _ (I8.held (.ref ea)) (q ea F.free)) (fun f s9 z=>?_) fun _ _ z=>False.elim z
  have z':=z.unheld J7;cases f with
  |next=>
   obtain⟨σ9,H9,I9,q9⟩:=z';exact goes_ok I9 hN hi hk fun s10 I10=>⟨_,_,I10,q9⟩
  |brk=>
   obtain⟨σ9,H9,I9,q9⟩:=z';exact goes_ok I9 hN hi hk fun s10 I10=>⟨_,_,I10,q9⟩
  |cont=>
   obtain⟨σ9,H9,I9,q9⟩:=z';exact goes_ok I9 hN hi hk fun s10 I10=>⟨_,_,I10,q9⟩
  |ret u=>
   obtain⟨v,σ9,H9,I9,r9,q9⟩:=z';exact goes_ok I9 hN hi hk fun s10 I10=>⟨v,_,_,I10,r9,q9⟩
end
theorem pe_xcl {X:Cx}{x:Str}{C:Addr}{pos:Pos}(hg:Gl X x)(hm:X.mg x=some (.ref C))(hd:(x == ("__debug__":Str))=false:=by decide):PE X (.Name x pos) (tC (.ref C)):=pe_glob (v:=.ref C) hg hm rfl hd
theorem bt_ValueError:bootBuiltins "ValueError"=some (.type "ValueError"):=by decide +kernel
end L2
namespace L2
section
open PySem PySem.Calls PyProof.Rows
variable {prog:Program}{w:World}{A:Around}{E:Value->Shared->Prop}{s:Shared}
def HeldAt (h:Heap)(e:Addr):Prop:=∃o vs,h.get? e=some o/\o.data=.fields vs/\vs[2]?=some .none
theorem HeldAt.keeps {h h':Heap}{e:Addr}(z:HeldAt h e)(k:∀o,h.get? e=some o->h'.get? e=some o):HeldAt h' e:=by
 obtain⟨o,vs,q,r⟩:=z;exact⟨o,vs,k o q,r⟩
end
end L2
namespace L2
section
open PySem PySem.Calls PyProof.Rows PySem.W
structure IsExcD (h:Heap) (e D:Addr) (d:Option Addr):Prop where
 is:IsExc h e D
 dj:∃o,h.get? e=some o/\o.dict=d/\Fld2 o
theorem IsExcD.stays {h1 h2:Heap}{e D:Addr}{d:Option Addr}(z:IsExcD h1 e D d)(k:∀o,h1.get? e=some o->h2.get? e=some o):IsExcD h2 e D d:=by
 obtain⟨a,o,q,hd⟩:=z;exact⟨a.stays k,o,k o q,hd⟩
end
section
open PySem PySem.Spec PyProof.Rows
def excD (e D:Addr)(d:Option Addr):HO:=.ext fun h=>IsExcD h e D d
variable {X:Cx}{pins:List (Addr×Obj)}{σ:St}{H:Hp}{s:Shared}
variable {x n:Str}{c:Value}{body orelse suite:List Stmt}{b₀:Stmt}{np hpos pos:Pos}{i:Nat}
def HasX (ea:Addr)(H:Hp):Prop:=∃C d,H ea=some (excD ea C d)
theorem HasX.held {ea:Addr}(hx:HasX ea H)(I:Inv X pins σ H s):HeldAt s.heap ea:=by
 obtain⟨C,d,h⟩:=hx;obtain⟨⟨_,o,q,_,vs,h1,h2⟩,_,_⟩:ObjOk X.prog X.w H s.heap ea (excD ea C d):=I.hok ea _ h;exact⟨o,vs,q,h1,h2⟩
end
end L2
namespace L2
open PySem PySem.Spec PyProof.Rows
section
variable {X:Cx}
def rIsXT (K:PySem.W.Frag):List V->Hp->VK->Prop:=fun xs H Q=>∃(e D tp:Addr) (cs:List V) (its:List Value) (b:Bool),xs=[.ref e,.ref tp]/\H e=some (excO e D)/\ExcCls K D/\H tp=some (.tup cs)/\(∀us,Vals cs us->us=its)/\PySem.W.kitAny K (.ref D) its=some b/\Q (.bl b) H
theorem call_isXT {K:PySem.W.Frag}(hK:X.K=K):CallR X (.builtin "isinstance") (rIsXT K):=by
 subst hK;intro pins s σ H xs us Q I r h;obtain⟨e,D,tp,cs,its,b,rfl,he,hc,ht,hv,hk,q⟩:=h;obtain⟨u,v,rfl,ru,rv⟩:=vals2 r;cases(show u=Value.ref e from ru);cases(show v=Value.ref tp from rv);have z:ObjOk X.prog X.w H s.heap e (excO e D):=I.hok e _ he;obtain⟨_,us,r1,⟨oc,od,oda,osl⟩,g1,g2,n,g3,_⟩:ObjOk X.prog X.w H s.heap tp (.tup cs):=I.hok tp _ ht;dsimp only at g2 g3;subst g2 g3;cases hv us r1;exact PySem.W.kia_tup hc.kit I.kIn z.1 g1 hk (fun z=>nomatch z) fun tk=>⟨.bl b,H,I.tok _,rfl,q⟩
end
end L2
namespace L2
section
open PySem PySem.Calls PyProof.Rows PySem.W Builtin Builtin.ObjectAttr
def veOnly:List Value->Bool
 | .ref _::r=>veOnly r
 |l=>l == bmVE
def veIn (K:Frag)(C:Addr):Bool:=(clsIn K C).any fun cd=>veOnly cd.mro
section
variable {prog:Program}{w:World}{A:Around}{E:Value->Shared->Prop}{s:Shared}{K:Frag}{x C:Addr}{vs:Array Value}{name:Str}{v:Value}
structure ExiCls (K:Frag) (C:Addr):Prop extends ExcCls K C where
 sa:findIn K (.ref C) "__setattr__"=some (some (.builtin "object.__setattr__"))
 ve:veIn K C=true
 hd:hasDictIn K C=true
end
def exiIn (K:Frag)(C:Addr):Bool:=(K.lookup C).any fun o=>match o with
 |⟨.type t,_,.cls cd,sl⟩=>t == "type" && !cd.hasDel&&(match cd.mro with | .ref D::tl=>D == C&&tailIn K bmVE tl|_=>false)&&(match sl.toList with|[_,_,_,_,some (.builtin n),_]=>n == "ValueError.__new__"|_=>false)
 |_=>false
end
section
open PySem PySem.Spec PyProof.Rows
variable {X:Cx}{pins:List (Addr×Obj)}{σ:St}{H:Hp}{s:Shared}
structure MkX (K:PySem.W.Frag) (C f:Addr):Prop where
 ex:exiIn K C=true
 init:PySem.W.findIn K (.ref C) "__init__"=some (some (.ref f))
 fn:PySem.W.isFn K (.ref f)=true
 kp:PySem.W.keepIn K (.ref C)=true
end
section
open PySem PySem.Spec PyProof.Rows
def del (H:Hp)(e:Addr):Hp:=fun b=>if b=e then none else H b
end
end L2
namespace L2
open PySem PySem.Calls PySem.Spec PyProof.Rows PySem.Builtin.Str
end L2
namespace L2
open PySem PySem.Spec PyProof.Rows
end L2
namespace L2
section
open PySem PySem.Spec PyProof.Rows
structure HeldS (X:Cx) (e:Addr) (oe:Obj):Prop where
 hd:X.A.handled=some (.ref e)
 at_:X.s₀.heap.get? e=some oe
 free:X.H₀ e=none
 nfs:e∉X.fs
 nex:e∉X.ex
 fl:Fld2 oe
structure NowH (h:Heap) (e:Addr) (oe:Obj):Prop where
 at_:h.get? e=some oe
 fl:Fld2 oe
theorem NowH.held {h:Heap}{e:Addr}{oe:Obj}(z:NowH h e oe):HeldAt h e:=by
 obtain⟨q,vs,a,b⟩:=z;exact⟨oe,vs,q,a,b⟩
theorem HeldS.now {X:Cx}{e:Addr}{oe:Obj}(h:HeldS X e oe){pins:List (Addr×Obj)}{σ:St}{H:Hp}{s:Shared}(I:Inv X pins σ H s):NowH s.heap e oe:=⟨I.base.keep e oe h.at_ h.free h.nfs h.nex,h.fl⟩
theorem HeldS.ne {X:Cx}{e it:Addr}{oe:Obj}(h:HeldS X e oe){pins:List (Addr×Obj)}{H:Hp}(f:FpOk X pins H it):e≠it:=fun z=>by
 rcases f.2.2.2.1 with q|q
 ·exact h.nex (by rw[z];exact q)
 ·exact absurd (Heap.lt_size h.at_) (Nat.not_lt.mpr (by rw[z];exact q))
structure TurnQ (P:Program) (w:World) (K:PySem.W.Frag) (tg:Expr) (J:It) (fp:List Addr) (it:Addr) (tn:Nat->Heap->Prop):Prop where
 mem:it∈fp
 obj:∀i h,tn i h->∀b∈fp,∃o,h.get? b=some o/\∀v,o.data≠.cell v
 keep:∀i h h',tn i h->(∀b∈fp,∀o,h.get? b=some o->h'.get? b=some o)->tn i h'
 item:∀(X:Cx),X.prog=P->X.w=w->X.K=K->∀(i:Nat) (pins:List (Addr×Obj)) (s:Shared) (σ:St) (H:Hp) (E:Value->Shared->Prop),Inv X pins σ H s->(∀b∈fp,FpOk X pins H b)->tn i s.heap->J.go i H->
  wpAny (model P w) X.A (pyNext (.ref it)) (fun r s1=>∃u,r=some u/\
   wpAny (model P w) X.A (letOwnedTupleGo tg (.ref it) u) (fun _ s2=>∃x H',Inv X pins σ H' s2/\RelV x u/\J.yld i H x H'/\tn (i+1) s2.heap/\∀b∈fp,H' b=none) E s1) E s
 done:∀(X:Cx),X.prog=P->X.w=w->X.K=K->∀(eh:Addr) (oh:Obj),HeldS X eh oh->∀(i:Nat) (pins:List (Addr×Obj)) (s:Shared) (σ:St) (H:Hp) (E:Value->Shared->Prop),Inv X pins σ H s->(∀b∈fp,FpOk X pins H b)->tn i s.heap->J.stop i H->
  wpAny (model P w) X.A (pyNext (.ref it)) (fun r s1=>r=none/\Inv X pins σ H s1) E s
 self:∀(A:Around) (i:Nat) (s:Shared) (Q:Value->Shared->Prop) (E:Value->Shared->Prop),tn i s.heap->Q (.ref it) s->wpAny (model P w) A (pyIter (.ref it)) Q E s
end
section
open PySem PySem.Spec PyProof.Rows
structure RoomH (k:Nat) (A:Around):Prop where
 dp:A.depth+3*k+5<recursionLimit
 un:A.units+16*k+200<cLine
theorem Room.h {k:Nat}{A:Around}(r:Room k A):RoomH k A:=⟨r.dp,r.un⟩
theorem RoomH.mono {j k:Nat}{A:Around}(r:RoomH k A)(h:j<=k):RoomH j A:=⟨by have:=r.dp;omega,by have:=r.un;omega⟩
theorem RoomH.deeper {k:Nat}{A:Around}(r:RoomH (k+1) A)(env:Env):RoomH k (A.deeper env):=
 ⟨by have:=r.dp;show A.depth+1+3*k+5<_;omega,by have:=r.un;show A.units+3+16*k+200<_;omega⟩
theorem RoomH.mark {k:Nat}{A:Around}(r:RoomH k A)(e:Option Value):RoomH k (A.mark e):=⟨r.dp,r.un⟩
theorem RoomH.depth {k:Nat}{A:Around}(r:RoomH k A):A.depth<recursionLimit:=by have:=r.dp;omega
structure FnOkH (P:Program) (w:World) (K:PySem.W.Frag) (mg:Str->Option Value) (base:Heap) (k:Nat) (f:Addr) (fd:FuncData) (ps:List Str) (sp:Sp):Prop where
 len:∀vs H Q E,sp vs H Q E->vs.length=ps.length
 run:∀(A:Around) (outer:List Env) (s:Shared) (H:Hp) (args:Args) (us:List Value) (vs:List V) (Q:VK) (E:XK) (eh:Addr) (oh:Obj),RoomH k A->Env0 P w K mg base A outer s H->A.handled=some (.ref eh)->s.heap.get? eh=some oh->H eh=none->eh∉frs outer->Fld2 oh->BindsTo s fd args (ps.zip us)->Vals vs us->sp vs H Q E->
  codeAny (model P w) A (.call (.ref f) args) (CR CX0 outer P w H s Q E) s
def DefH (P:Program)(w:World)(K:PySem.W.Frag)(mg:Str->Option Value)(base:Heap)(k:Nat)(x:Str)(ps:List Str)(sp:Sp):Prop:=
 ∃(f:Addr) (fd:FuncData),FnOk P w K mg base CX0 k f fd ps sp/\FnOkH P w K mg base k f fd ps sp/\mg x=some (.ref f)/\PySem.W.keepIn K (.ref f)=true/\Binds K fd ps []
theorem DefH.def {P:Program}{w:World}{K:PySem.W.Frag}{mg:Str->Option Value}{base:Heap}{k:Nat}{x:Str}{ps:List Str}{sp:Sp}(D:DefH P w K mg base k x ps sp):Def P w K mg base k x ps sp:=by
 obtain⟨f,fd,F,_,r⟩:=D;exact⟨f,fd,F,r⟩
variable {X:Cx}{k:Nat}{x:Str}{ps:List Str}{sp:Sp}{e:Expr}{es:List Expr}{t:TA}{p pos:Pos}
end
end L2
namespace L2
section
open PySem PySem.Calls PyProof.Rows
variable {prog:Program}{w:World}{A:Around}{E:Value->Shared->Prop}{s:Shared}
theorem none_end (h:Heap):h.get? h.objs.size=none:=by
 cases e:h.get? h.objs.size with
 |none=>rfl
 |some o=>exact absurd (Heap.lt_size e) (Nat.lt_irrefl _)
def SortsTo (Q:Value->Shared->Prop)(vs:List Value)(s1:Shared):Prop:=∃ss,StrsAre vs ss/\vs.length<64/\
 ∀h' p (out:List Value) ss' c,StrsAre out ss'->ss'.Perm ss->sortedS ss'=true->s1.heap.objs.size<=p->(∀b o,s1.heap.get? b=some o->h'.get? b=some o)->
  h'.get? p=some (seqObj "list" out.toArray c)->Q (.ref p) { s1 with heap:=h' }
theorem sorted_walked {x:Value}{Q:Value->Shared->Prop}(hc:wpAny (model prog w) A.in1 (collect x) (SortsTo Q) E s):wpAny (model prog w) A (call (.builtin "sorted") [x]) Q E s:=by
 refine Calls.call_function_entry kind_sorted plain_sorted entry_sorted (args_sorted1 x) ?_;unfold Builtin.«sorted»;refine wpAny_bind (m:=checkCount "sorted" 1 1 _) (wpAny_pure (wpAny_bind (wpAny_mono hc (fun vs s1 z=>?_) fun _ _ e=>e)));obtain⟨ss,hS,few,q⟩:=z;refine wpAny_bind (wpAny_newList ?_);have there:(s1.heap.push (seqObj "list" vs.toArray 0)).get? s1.heap.objs.size=some (seqObj "list" vs.toArray 0):=Heap.get?_push_size _ rfl;refine wpAny_bind (wpAny_holding (wpAny_call_entry slot_list_sort ⟨_,there,rfl⟩ entry_list_sort (list_sort_treeK strKind_oneLt there hS.keysOf (fun v₁ v₂ rest e=>keyKind_strs (by rw[<-e];exact hS)) few fun st' pm so=>⟨_,rfl,?_⟩) (args_list_sort _)));obtain⟨ss',y1,y2,y3⟩:=sorted_out_str hS pm so;obtain⟨c,hp⟩:=sortedHeap_at (out:=(arrOf st').map (·.2)) there;refine wpAny_pure ⟨_,rfl,q _ _ ((arrOf st').map (·.2)).toList ss' c y1 y2 y3 (Nat.le_refl _) (fun b o e=>?_) (by rw[Array.toArray_toList];exact hp)⟩;have lt:=Heap.lt_size e;show Heap.get? _ b=some o;rw[sortedHeap_old (Nat.ne_of_lt lt) (by rw[Heap.size_push];exact Nat.lt_succ_of_lt lt)];exact Heap.get?_push_of_some _ e
def Took (S:Addr)(Q:List Value->Shared->Prop)(r:Result)(s':Shared):Prop:=∃acc c,r=.ok (.ret (.ref S))/\s'.heap.get? S=some { cls:=.type "list",dict:=none,data:=.seq acc c,slots:=#[] }/\Q acc.toList s'
theorem collect_ext {x:Value} {Q:List Value->Shared->Prop} (h:wpAny (model prog w) A.in1 (Builtin.List.listExtendWith (.ref s.heap.objs.size) x (.ref s.heap.objs.size))
   (fun fin s'=>match fin with | .done f=>Took s.heap.objs.size Q (.ok f) s' | .again c'=>c'.quiet=true/\codeAny (model prog w) A c' (Took s.heap.objs.size Q) s') (fun e s'=>Took s.heap.objs.size Q (.error e) s')
   { s with heap:=s.heap.push { cls:=.type "list",data:=.seq #[] } }):wpAny (model prog w) A (collect x) Q E s:=by
 unfold collect;refine wpAny_bind (wpAny_runValue (codeAny_builtin PySem.F.entry_proto_collect ?_));rw[Around.under_plainId PySem.F.plain_proto_collect _];refine wpAny_bind (wpAny_newObj_type (wpAny_pure ⟨plainId_quiet PySem.F.plain_list_iadd _,codeAny_builtin PySem.F.entry_list_iadd ?_⟩));rw[Around.under_plainId PySem.F.plain_list_iadd _];refine wpAny_mono h (fun fin s' z=>?_) (fun e s' z=>?_)
 ·cases fin with
  |done f=>
   obtain⟨acc,c,e,hS,q⟩:=z;cases e;exact wpAny_bind (wpAny_load hS (wpAny_pure q))
  |again c'=>
   refine⟨z.1,codeAny_mono z.2 fun r s2 z2=>?_⟩;obtain⟨acc,c,rfl,hS,q⟩:=z2;exact wpAny_bind (wpAny_load hS (wpAny_pure q))
 ·obtain⟨acc,c,e,_⟩:=z;cases e
theorem sit_owner:Manifest.owners.lookup (String.ofList "rotareti_tes".toList.reverse)=some Manifest.sig_set_iterator:=by kernel_rfl
theorem sit_slot:Slot "set_iterator" "__next__" "set_iterator.__next__":=
 .of (owner:="set_iterator") (n:="__next__") (by rw[typeLookup_type,builtinLookup_eq_fast];kernel_rfl) (by decide +kernel) (by decide +kernel) (by decide +kernel) (by first|exact .inl (by decide +kernel)|exact .inr (by decide +kernel)) (by rw[isSubtype_type];kernel_rfl)
theorem sit_entry:entryFor table "set_iterator.__next__"=some Builtin.«set_iterator.__next__»:=entryFor_of_fast (by kernel_rfl)
theorem sit_args (a:Value):argsOk "set_iterator.__next__" ⟨[a],[]⟩:=by
 unfold argsOk;rw[signature?_of (id:="set_iterator.__next__") (n:="__txen__".toList) (o:="rotareti_tes".toList) (by kernel_rfl) sit_owner]
 kernel_rfl
theorem set_iter_entry:entryFor table "set.__iter__"=some Builtin.«frozenset.__iter__»:=entryFor_alias (id':="frozenset.__iter__") (by kernel_rfl) rfl (by decide +kernel) (by kernel_rfl)
theorem next_gives {it:Addr} {T id:String} {B:Builtin} {Q:Option Value->Shared->Prop} (slot:Slot T "__next__" id) (hT:s.TypeIs (.ref it) T) (entry:entryFor table id=some B) (args:argsOk id ⟨[.ref it],[]⟩)
  (h:wpAny (model prog w) A.in1 (B ⟨[.ref it],[]⟩) (fun fin s'=>∃v,fin=.done (.ret v)/\Q (some v) s') (fun _ _=>False) s):wpAny (model prog w) A (pyNext (.ref it)) Q E s:=by
 unfold pyNext;refine wpAny_bind (wpAny_attempt (wpAny_callSpecial?_slot (name:=Str.ofString "__next__") hT slot (wpAny_call_entry slot hT entry (wpAny_mono h (fun fin s' z=>?_) fun _ _ z=>z.elim) args)));obtain⟨v,rfl,q⟩:=z;exact⟨v,rfl,wpAny_pure q⟩
theorem next_stops {it:Addr} {T id:String} {B:Builtin} {Q:Option Value->Shared->Prop} (slot:Slot T "__next__" id) (hT:s.TypeIs (.ref it) T) (entry:entryFor table id=some B) (args:argsOk id ⟨[.ref it],[]⟩)
  (h:wpAny (model prog w) A.in1 (B ⟨[.ref it],[]⟩) (fun _ _=>False) (fun x s'=>∃a o,x=.ref a/\s'.heap.get? a=some o/\o.cls=.type "StopIteration"/\Q none s') s):wpAny (model prog w) A (pyNext (.ref it)) Q E s:=by
 unfold pyNext;refine wpAny_bind (wpAny_attempt (wpAny_callSpecial?_slot (name:=Str.ofString "__next__") hT slot (wpAny_call_entry slot hT entry (wpAny_mono h (fun _ _ z=>z.elim) fun x s' z=>?_) args)));obtain⟨a,o,rfl,e,c,q⟩:=z;exact wpAny_bind (wpAny_isInstance (T:="StopIteration") (b:=true) ⟨o,e,c⟩ isSubtype_stop (wpAny_pure q))
theorem stop_calm {α:Type} {Q:α->Shared->Prop} (hh:A.handled=none)
  (q:∀h' x,(∀b o,s.heap.get? b=some o->h'.get? b=some o)->(∃o,h'.get? x=some o/\o.cls=.type "StopIteration")->E (.ref x) { s with heap:=h' }) :
  wpAny (model prog w) A (newExc (.type "StopIteration") [] >>= raiseNew:Sem α) Q E s:=by
 refine wpAny_bind ?_;simp only[newExc,newTuple];refine wpAny_bind (wpAny_newObj_type ?_ (by size_fits));refine wpAny_bind (m:=firstArgMember _ _) (wpAny_of_eq (a:=Value.none) (by simp only[firstArgMember];rfl) (wpAny_newObj_type ?_ (by size_fits)));unfold raiseNew;refine wpAny_bind (wpAny_handled ?_);rw[hh];exact wpAny_throw (q _ _ (fun b o z=>Heap.get?_push_of_some _ (Heap.get?_push_of_some _ z)) ⟨_,Heap.get?_push_size _ rfl,rfl⟩)
theorem sit_slot_iter:Slot "set_iterator" "__iter__" "set_iterator.__iter__":=
 .of (owner:="set_iterator") (n:="__iter__") (by rw[typeLookup_type,builtinLookup_eq_fast];kernel_rfl) (by decide +kernel) (by decide +kernel) (by decide +kernel) (by first|exact .inl (by decide +kernel)|exact .inr (by decide +kernel)) (by rw[isSubtype_type];kernel_rfl)
theorem sit_entry_iter:entryFor table "set_iterator.__iter__"=some Builtin.«dict_keyiterator.__iter__»:=entryFor_alias (id':="dict_keyiterator.__iter__") (by kernel_rfl) rfl (by decide +kernel) (by kernel_rfl)
theorem sit_args_iter (a:Value):argsOk "set_iterator.__iter__" ⟨[a],[]⟩:=by
 unfold argsOk;rw[signature?_of (id:="set_iterator.__iter__") (n:="__reti__".toList) (o:="rotareti_tes".toList) (by kernel_rfl) sit_owner]
 kernel_rfl
def SetAt (h:Heap)(a:Addr)(es:Array (Int×Value))(ep:Nat)(t:SetTable):Prop:=∃o,h.get? a=some o/\o.cls=.type "set"/\o.data=.set es ep t
def SetIt (h:Heap)(it a:Addr)(first:Value)(i n ep:Nat):Prop:=∃o,h.get? it=some o/\o.cls=.type "set_iterator"/\o.data=.fields #[first,rawInt i,.ref a,rawInt n,rawInt ep]
theorem SetAt.keep {h h':Heap}{a:Addr}{es:Array (Int×Value)}{ep:Nat}{t:SetTable}(x:SetAt h a es ep t)(k:∀o,h.get? a=some o->h'.get? a=some o):SetAt h' a es ep t:=let⟨o,e,r⟩:=x;⟨o,k o e,r⟩
theorem SetIt.keep {h h':Heap}{it a:Addr}{f:Value}{i n ep:Nat}(x:SetIt h it a f i n ep)(k:∀o,h.get? it=some o->h'.get? it=some o):SetIt h' it a f i n ep:=let⟨o,e,r⟩:=x;⟨o,k o e,r⟩
theorem SetIt.typeIs {it a:Addr}{f:Value}{i n ep:Nat}(x:SetIt s.heap it a f i n ep):s.TypeIs (.ref it) "set_iterator":=let⟨o,e,c,_⟩:=x;⟨o,e,c⟩
theorem SetIt.self {it a:Addr}{f:Value}{i n ep:Nat}{Q:Value->Shared->Prop}(x:SetIt s.heap it a f i n ep)(q:Q (.ref it) s):wpAny (model prog w) A (pyIter (.ref it)) Q E s:=by
 refine wpAny_pyIter_slot x.typeIs sit_slot_iter (wpAny_call_entry sit_slot_iter x.typeIs sit_entry_iter ?_ (sit_args_iter _));exact wpAny_pure ⟨_,rfl,"set_iterator",_,x.typeIs,sit_slot.lookup,q⟩
theorem set_entries {a:Addr}{es:Array (Int×Value)}{ep:Nat}{t:SetTable}{Q:Array (Int×Value)->Shared->Prop}(x:SetAt s.heap a es ep t)(f:t.fits es.size=true)(q:Q es s):wpAny (model prog w) A (setEntries a) Q E s:=
 let⟨_,e,_,d⟩:=x;wpAny_setEntries_of e d f q
end
end L2
namespace L2
section
open PySem PySem.Calls PyProof.Rows
variable {prog:Program}{w:World}{A:Around}{E:Value->Shared->Prop}{s:Shared}
theorem set_field {it:Addr} {vs:Array Value} {k:Nat} {x:Value} {Q:Unit->Shared->Prop} {o:Obj} (ho:s.heap.get? it=some o) (hc:o.cls=.type "set_iterator") (hd:o.data=.fields vs) (hk:k<vs.size)
  (q:∀h' o',h'.get? it=some o'->o'.cls=.type "set_iterator"->o'.data=.fields (vs.setIfInBounds k x)->(∀b o,b∉[it]->s.heap.get? b=some o->h'.get? b=some o)->Q () { s with heap:=h' }):wpAny (model prog w) A (setField (.ref it) k x) Q E s:=
 wpAny_setField ho hd hk (q _ _ (Heap.get?_update_self _ ho (Obj.isFreed_of_fields (Obj.data_mapFields hd _))) ((Obj.cls_mapFields ..).trans hc) (Obj.data_mapFields hd _) fun b o hb e=>(Heap.get?_update_other _ _ (fun z=>hb (by simp[z]))).trans e)
theorem walk_slot (hh:A.handled=none) (I a:Addr) (hne:a≠I) (xs:List Value) (sl:Nat->Nat) (es:Array (Int×Value)) (ep:Nat) (t:SetTable) (f:t.fits es.size=true) (hn:es.size=xs.length)
  (nx:∀(i:Nat) (A:Around) (E:Value->Shared->Prop) (s:Shared) (Q:Option (Value×Nat)->Shared->Prop),i<=xs.length->SetAt s.heap a es ep t->Q (xs[i]?.map fun v=>(v,sl (i+1))) s->wpAny (model prog w) A (setNext a (sl i) i ep) Q E s) :
  Walks prog w A I [I,a] [I] xs.length (fun i v=>xs[i]?=some v) (fun i h=>SetIt h I a (rawInt (sl i)) i xs.length ep/\SetAt h a es ep t) where
 sub:=fun b z=>by simp at z;simp[z]
 frame:=fun _ _ _ st k=>⟨st.1.keep fun o e=>k I (by simp) o e,st.2.keep fun o e=>k a (by simp) o e⟩
 self:=fun _ _ _ _ st q=>st.1.self q
 item:=fun i s Q E hi st qq=>by
  refine next_gives sit_slot st.1.typeIs sit_entry (sit_args _) ?_;obtain⟨o,ho,hc,hd⟩:=st.1;unfold Builtin.«set_iterator.__next__»;refine wpAny_bind (wpAny_pure ?_);dsimp only;refine wpAny_bind (wpAny_fieldsOf ho hd ?_);refine wpAny_bind (m:=setEntries a) (set_entries st.2 f ?_);rw[if_neg (by rw[hn];simp)];refine wpAny_bind (m:=setNext a (sl i) i ep) (nx i _ _ _ _ (Nat.le_of_lt hi) st.2 ?_);obtain⟨v,hv⟩:∃v,xs[i]?=some v:=⟨xs[i],by simp[hi]⟩
  rw[hv];dsimp only[Option.map];refine wpAny_bind (set_field ho hc hd (by simp) fun h1 o1 e1 c1 d1 k1=>?_);refine wpAny_bind (set_field e1 c1 d1 (by simp) fun h2 o2 e2 c2 d2 k2=>?_);exact wpAny_pure ⟨v,rfl,qq v h2 s.toks hv ⟨⟨o2,e2,c2,d2⟩,st.2.keep fun o e=>k2 a o (by simp[hne]) (k1 a o (by simp[hne]) e)⟩ fun b o hb e=>k2 b o hb (k1 b o hb e)⟩
 done:=fun s Q E st hQ=>by
  refine next_stops sit_slot st.1.typeIs sit_entry (sit_args _) ?_;obtain⟨o,ho,hc,hd⟩:=st.1;unfold Builtin.«set_iterator.__next__»;refine wpAny_bind (wpAny_pure ?_);dsimp only;refine wpAny_bind (wpAny_fieldsOf ho hd ?_);refine wpAny_bind (m:=setEntries a) (set_entries st.2 f ?_);rw[if_neg (by rw[hn];simp)];refine wpAny_bind (m:=setNext a (sl xs.length) xs.length ep) (nx xs.length _ _ _ _ (Nat.le_refl _) st.2 ?_);rw[List.getElem?_eq_none (Nat.le_refl _)];dsimp only[Option.map];refine wpAny_bind (set_field ho hc hd (by simp) fun h1 o1 e1 c1 d1 k1=>?_);refine stop_calm hh fun h2 x k2 ⟨ox,ex,cx⟩=>⟨x,ox,rfl,ex,cx,hQ h2 s.toks fun b o hb e=>k2 b o (k1 b o hb e)⟩
def TupAt (h:Heap)(tp:Addr)(vs:List Value):Prop:=∃o n,h.get? tp=some o/\o.data=.seq vs.toArray n
theorem TupAt.keep {h h':Heap}{tp:Addr}{vs:List Value}(x:TupAt h tp vs)(k:∀o,h.get? tp=some o->h'.get? tp=some o):TupAt h' tp vs:=let⟨o,n,e,r⟩:=x;⟨o,n,k o e,r⟩
theorem next_drawn {a:Addr}{es:Array (Int×Value)}{ep p:Nat}{t:SetTable}{hx:Int}{v:Value}{Q:Value->Shared->Prop}(x:SetAt s.heap a es ep t)(f:t.fits es.size=true)(e:es[p]?=some (hx,v))(q:Q v s):wpAny (model prog w) A (setNextDrawn a p ep) Q E s:=by
 obtain⟨o,eo,_,d⟩:=x;unfold setNextDrawn;refine wpAny_bind (wpAny_setState_of eo d f ?_);dsimp only;rw[if_neg (by simp),e];exact wpAny_pure q
theorem walk_drawn (hh:A.handled=none) (I a tp:Addr) (hne:a≠I) (hnt:tp≠I) (xs:List Value) (ps:List Nat) (es:Array (Int×Value)) (ep:Nat) (t:SetTable) (f:t.fits es.size=true) (hn:es.size=xs.length) (hp:ps.length=xs.length)
  (at_:∀(i p:Nat),ps[i]?=some p->∃hx v,es[p]?=some (hx,v)/\xs[i]?=some v) :
  Walks prog w A I [I,a,tp] [I] xs.length (fun i v=>xs[i]?=some v) (fun i h=>SetIt h I a (.ref tp) i xs.length ep/\SetAt h a es ep t/\TupAt h tp (ps.map fun(p:Nat)=>rawInt p)) where
 sub:=fun b z=>by simp at z;simp[z]
 frame:=fun _ _ _ st k=>⟨st.1.keep fun o e=>k I (by simp) o e,st.2.1.keep fun o e=>k a (by simp) o e,st.2.2.keep fun o e=>k tp (by simp) o e⟩
 self:=fun _ _ _ _ st q=>st.1.self q
 item:=fun i s Q E hi st qq=>by
  refine next_gives sit_slot st.1.typeIs sit_entry (sit_args _) ?_;obtain⟨o,ho,hc,hd⟩:=st.1;obtain⟨ot,nt,et,dt⟩:=st.2.2;unfold Builtin.«set_iterator.__next__»;refine wpAny_bind (wpAny_pure ?_);dsimp only;refine wpAny_bind (wpAny_fieldsOf ho hd ?_);refine wpAny_bind (m:=setEntries a) (set_entries st.2.1 f ?_);rw[if_neg (by rw[hn];simp)];obtain⟨p,hpi⟩:∃p,ps[i]?=some p:=⟨ps[i]'(by omega),by simp[hp,hi]⟩
  obtain⟨hx,v,ev,xv⟩:=at_ i p hpi;refine wpAny_bind (m:=seqItems? (.ref tp)) (wpAny_seqItems et dt ?_);have look:(ps.map fun(p:Nat)=>rawInt p).toArray[(i:Int).toNat]?=some (rawInt p):=by simp[hpi]
  dsimp only;rw[look];refine wpAny_bind (m:=setNextDrawn a p ep) (next_drawn st.2.1 f ev ?_);refine wpAny_bind (set_field ho hc hd (by simp) fun h1 o1 e1 c1 d1 k1=>?_);exact wpAny_pure ⟨v,rfl,qq v h1 s.toks xv ⟨⟨o1,e1,c1,d1⟩,st.2.1.keep fun o e=>k1 a o (by simp[hne]) e,st.2.2.keep fun o e=>k1 tp o (by simp[hnt]) e⟩ k1⟩
 done:=fun s Q E st hQ=>by
  refine next_stops sit_slot st.1.typeIs sit_entry (sit_args _) ?_;obtain⟨o,ho,hc,hd⟩:=st.1;obtain⟨ot,nt,et,dt⟩:=st.2.2;unfold Builtin.«set_iterator.__next__»;refine wpAny_bind (wpAny_pure ?_);dsimp only;refine wpAny_bind (wpAny_fieldsOf ho hd ?_);refine wpAny_bind (m:=setEntries a) (set_entries st.2.1 f ?_);rw[if_neg (by rw[hn];simp)];refine wpAny_bind (m:=seqItems? (.ref tp)) (wpAny_seqItems et dt ?_);have look:(ps.map fun(p:Nat)=>rawInt p).toArray[(xs.length:Int).toNat]?=none:=by simp[hp]
  dsimp only;rw[look];refine wpAny_bind (set_field ho hc hd (by simp) fun h1 o1 e1 c1 d1 k1=>?_);refine wpAny_bind (set_field e1 c1 d1 (by simp) fun h2 o2 e2 c2 d2 k2=>?_);refine stop_calm hh fun h3 x k3 ⟨ox,ex,cx⟩=>⟨x,ox,rfl,ex,cx,hQ h3 s.toks fun b o hb e=>k3 b o (k2 b o hb (k1 b o hb e))⟩
theorem choose_any {src:Source}{n:Nat}{Q:Nat->Shared->Prop}(h:n≠0)(q:∀i d,i<n->Q i { s with drawn:=d }):wpAny (model prog w) A (choose src n) Q E s:=by
 intro Γ p _;unfold choose;rw[Sem.wp_choose];exact⟨h,by rw[Sem.wp_pure];exact q _ _ (Nat.mod_lt _ (Nat.pos_of_ne_zero h))⟩
theorem out_perm {α:Type}:∀{l:List α} {i:Nat} (h:i<l.length),(l[i]::l.eraseIdx i).Perm l
 |x::r,0,_=>List.Perm.refl _
 |x::r,i+1,h=>by
  have z:=out_perm (l:=r) (i:=i) (by simpa using h);exact(List.Perm.swap ..).trans (List.Perm.cons x z)
theorem draw_order {α:Type}:∀(n:Nat) (xs:List α) (s:Shared) (Q:List α->Shared->Prop),n=xs.length->(∀ys d,ys.Perm xs->Q ys { s with drawn:=d })->wpAny (model prog w) A (drawOrder n xs) Q E s
 |0,xs,s,Q,h,q=>by
  have e:xs=[]:=List.length_eq_zero_iff.mp h.symm;subst e;exact wpAny_pure (q [] s.drawn (List.Perm.refl _))
 |n+1,[],s,Q,h,q=>nomatch h
 |n+1,x::r,s,Q,h,q=>by
  unfold drawOrder;refine wpAny_bind (choose_any (by simp) fun i d hi=>?_);rw[List.getElem?_eq_getElem hi];dsimp only;refine wpAny_bind (draw_order n _ _ _ (by rw[List.length_eraseIdx_of_lt hi];simp at h ⊢;omega) fun ys d2 pm=>?_);exact wpAny_pure (q _ d2 ((List.Perm.cons _ pm).trans (out_perm hi)))
theorem pick_go {α:Type}(next:Nat->Nat):∀(fuel k:Nat) (left:List α) (out:Array α),fuel=left.length->(pickOrder.go next fuel k left out).toList.Perm (out.toList++left)
 |0,k,left,out,h=>by
  have e:left=[]:=List.length_eq_zero_iff.mp h.symm;subst e;unfold pickOrder.go;rw[List.append_nil]
 |fuel+1,k,left,out,h=>by
  unfold pickOrder.go;have hi:next k%left.length<left.length:=Nat.mod_lt _ (by omega);rw[List.getElem?_eq_getElem hi];dsimp only;refine(pick_go next fuel _ _ _ (by rw[List.length_eraseIdx_of_lt hi];omega)).trans ?_;rw[Array.toList_push,List.append_assoc];exact List.Perm.append_left _ (out_perm hi)
theorem pick_perm {α:Type}(next:Nat->Nat)(xs:Array α):(pickOrder next xs).toList.Perm xs.toList:=by
 unfold pickOrder;exact pick_go next _ _ _ _ (by simp)
def ByText (w:World):Bool:=w.params.followText "set-order"
theorem next_text {a:Addr} {es:Array (Int×Value)} {ep i sl:Nat} {t:SetTable} {Q:Option (Value×Nat)->Shared->Prop} (bt:ByText w=true) (x:SetAt s.heap a es ep t) (f:t.fits es.size=true)
  (q:Q (((pickOrder (w.params.setOrder a ep) es).toList.map (·.2))[i]?.map fun v=>(v,sl)) s):wpAny (model prog w) A (setNext a sl i ep) Q E s:=by
 obtain⟨o,eo,_,d⟩:=x;unfold setNext setsByText setWalk setsByText;refine wpAny_bind (wpAny_setState_of eo d f ?_);dsimp only;simp only[bind_assoc,pure_bind];refine wpAny_bind (wpAny_askSetting ?_);refine wpAny_ite_split (fun _=>?_) (fun c=>absurd bt c);rw[if_neg (by simp)];refine wpAny_bind (wpAny_setState_of eo d f ?_);dsimp only;refine wpAny_bind (wpAny_askSetting ?_);refine wpAny_bind (wpAny_ite_split (fun _=>?_) (fun c=>absurd bt c));refine wpAny_bind (wpAny_askSetting (wpAny_pure ?_));have e:((pickOrder (w.params.setOrder a ep) es).toList.map (·.2))[i]?=((pickOrder (w.params.setOrder a ep) es)[i]?).map (·.2):=by rw[List.getElem?_map,Array.getElem?_toList]
 rw[e,Option.map_map] at q;exact wpAny_pure q
theorem few_fits {es:Array (Int×Value)}{t:SetTable}(f:t.fits es.size=true):t.place.size=es.size:=by
 simp only[SetTable.fits,Bool.and_eq_true,beq_iff_eq] at f;exact f.1
theorem next_few {a:Addr} {es:Array (Int×Value)} {ep i:Nat} {t:SetTable} {Q:Option (Value×Nat)->Shared->Prop} (bt:ByText w=false) (hl:t.led=true) (few:es.size<=1) (hi:i<=es.size) (x:SetAt s.heap a es ep t) (f:t.fits es.size=true)
  (q:Q ((es.toList.map (·.2))[i]?.map fun v=>(v,if i+1=0 then 0 else t.place.getD 0 0+1)) s):wpAny (model prog w) A (setNext a (if i=0 then 0 else t.place.getD 0 0+1) i ep) Q E s:=by
 obtain⟨o,eo,_,d⟩:=x;unfold setNext setsByText;refine wpAny_bind (wpAny_setState_of eo d f ?_);dsimp only;simp only[bind_assoc,pure_bind];refine wpAny_bind (wpAny_askSetting ?_);refine wpAny_ite_split (fun c=>absurd (bt.symm.trans c) (by decide)) (fun _=>?_);refine wpAny_ite_split (fun c=>absurd c ?_) (fun _=>?_)
 ·show ¬(!t.plain&&decide (es.size>1))=true;rw[decide_eq_false (by omega)];simp
 refine wpAny_bind (?_:wpAny _ _ (if(!t.led && !es.isEmpty)=true then unsupported "set:maker-not-led" else pure ()) _ _ _);rw[hl,if_neg (by simp)];refine wpAny_pure (wpAny_pure ?_);have pz:=few_fits f
 clear f hl d
 revert q
 generalize t.place=pl at pz;obtain⟨l⟩:=es;obtain⟨m⟩:=pl
 match l,m,few,pz,hi with
 |[],[],_,_,hi=>
  have e:i=0:=by simpa using hi
  subst e;exact fun q=>q
 |[(hx,v)],[k],_,_,hi=>
  rcases(show i=0\/i=1 by simp at hi;omega) with rfl|rfl
  ·have b:SetTable.below #[k] (if 0=0 then 0 else(#[k]:Array Nat).getD 0 0+1)=0:=by simp[SetTable.below,SetTable.below.go]
   rw[b];exact fun q=>q
  ·have b:SetTable.below #[k] (if 1=0 then 0 else(#[k]:Array Nat).getD 0 0+1)=1:=by simp[SetTable.below,SetTable.below.go]
   rw[b];exact fun q=>q
 |_::_::_,_,few,_,_=>exact absurd few (by simp)
 |[],_::_,_,pz,_=>exact absurd pz (by simp)
 |[_],[],_,pz,_=>exact absurd pz (by simp)
 |[_],_::_::_,_,pz,_=>exact absurd pz (by simp)
theorem set_iter {a:Addr} {es:Array (Int×Value)} {ep:Nat} {t:SetTable} {Q:Value->Shared->Prop} (x:SetAt s.heap a es ep t) (f:t.fits es.size=true) (hl:t.led = !ByText w) (hp:es.size≠0->t.plain=false) (hb:es.size<scanBound)
  (q:∀h' d I fp (xs:List Value) St,(∀b o,s.heap.get? b=some o->h'.get? b=some o)->xs.Perm (es.toList.map (·.2))->(∀A:Around,A.handled=none->Walks prog w A I fp [I] xs.length (fun i v=>xs[i]?=some v) St)->St 0 h'->
   (∀b∈fp,b=a\/s.heap.get? b=none)->s.heap.get? I=none->Q (.ref I) { s with heap:=h',drawn:=d }):wpAny (model prog w) A (pyIter (.ref a)) Q E s:=by
 obtain⟨o,eo,co,dd⟩:=id x;have hT:s.TypeIs (.ref a) "set":=⟨o,eo,co⟩
 have hlt:=Heap.lt_size eo;refine wpAny_pyIter_slot hT PySem.F.slot_set_iter (wpAny_call_entry PySem.F.slot_set_iter hT set_iter_entry ?_ (PySem.F.args_set_iter_1 _));unfold Builtin.«frozenset.__iter__» Builtin.Frozenset.slot0 slotArgs;simp only[bind_assoc,bne_self_eq_false,List.isEmpty_nil,List.length_nil,Bool.not_true,Bool.false_eq_true,↓reduceIte];refine wpAny_bind (wpAny_pure ?_);dsimp only;refine wpAny_bind (m:=Builtin.Frozenset.addrOf (.ref a)) (wpAny_pure ?_);unfold Builtin.Frozenset.sizeOf;simp only[bind_assoc,pure_bind];refine wpAny_bind (set_entries x f ?_);unfold setDrawn setsByText;simp only[bind_assoc,pure_bind];refine wpAny_bind (wpAny_setState_of eo dd f ?_);dsimp only;refine wpAny_bind (wpAny_askSetting ?_)
 change wpAny _ _ (if(!ByText w&&(!t.plain&&decide (es.size>1)))=true then _ else _) _ _ _
 refine wpAny_ite_split (fun c=>?_) (fun c=>?_)
 ·simp only[Bool.and_eq_true,Bool.not_eq_true',decide_eq_true_eq] at c;refine wpAny_bind (draw_order es.size _ _ _ (by simp) fun ps d pm=>?_);refine wpAny_bind (wpAny_newTuple ?_ (by rw[List.length_map,pm.length_eq,List.length_range];exact fits_of_scanBound hb));refine wpAny_bind (wpAny_setEpoch_of (Heap.get?_push_of_some _ eo) dd f ?_);refine wpAny_bind (wpAny_newObj_type (wpAny_pure ⟨_,rfl,"set_iterator",_,⟨_,Heap.get?_push_size _ rfl,rfl⟩,sit_slot.lookup,?_⟩));have rg:∀p∈ps,p<es.size:=fun p hp=>List.mem_range.mp (pm.mem_iff.mp hp)
  have ex:(List.range es.size).map (fun p=>(es[p]?.map (·.2)).getD .none)=es.toList.map (·.2):=by
   refine List.ext_getElem (by simp) fun i h1 h2=>?_
   have hi:i<es.size:=by simpa using h1
   simp[hi]
  have nt:s.heap.objs.size≠(s.heap.push { cls:=.type "tuple",data:=.seq (ps.map fun(i:Nat)=>rawInt i).toArray }).objs.size:=by rw[Heap.size_push];exact Nat.ne_of_lt (Nat.lt_succ_self _)
  have na:a≠(s.heap.push { cls:=.type "tuple",data:=.seq (ps.map fun(i:Nat)=>rawInt i).toArray }).objs.size:=by rw[Heap.size_push];exact Nat.ne_of_lt (Nat.lt_succ_of_lt hlt)
  have ln:es.size=(ps.map (fun p=>(es[p]?.map (·.2)).getD Value.none)).length:=by rw[List.length_map,pm.length_eq,List.length_range]
  have above:s.heap.get? (s.heap.push { cls:=.type "tuple",data:=.seq (ps.map fun(i:Nat)=>rawInt i).toArray }).objs.size=none:=by
   cases z:s.heap.get? _ with
   |none=>rfl
   |some o=>exact absurd (Heap.lt_size z) (by rw[Heap.size_push];exact Nat.not_lt.mpr (Nat.le_succ _))
  refine q _ d _ _ _ _ (fun b o e=>Heap.get?_push_of_some _ (Heap.get?_push_of_some _ e)) ((pm.map (fun p=>(es[p]?.map (·.2)).getD Value.none)).trans (by rw[ex])) (fun A hh=>walk_drawn hh (s.heap.push { cls:=.type "tuple",data:=.seq (ps.map fun(i:Nat)=>rawInt i).toArray }).objs.size a s.heap.objs.size na nt _ ps es ep t f ln (by rw[List.length_map]) fun i p hi=>?_) ⟨⟨_,Heap.get?_push_size _ rfl,rfl,?_⟩,x.keep fun o e=>Heap.get?_push_of_some _ (Heap.get?_push_of_some _ e),⟨_,_,Heap.get?_push_of_some _ (Heap.get?_push_size _ rfl),rfl⟩⟩ (fun b hb=>?_) above
  ·have hp':=rg p (List.mem_of_getElem? hi);refine⟨es[p].1,es[p].2,by simp[hp'],?_⟩;rw[List.getElem?_map,hi];simp[hp']
  ·rw[<-ln];rfl
  ·simp only[List.mem_cons,List.not_mem_nil,or_false] at hb;rcases hb with rfl|rfl|rfl
   ·exact .inr above
   ·exact .inl rfl
   ·exact .inr (none_end _)
 ·refine wpAny_bind (wpAny_setEpoch_of eo dd f ?_);refine wpAny_bind (wpAny_newObj_type (wpAny_pure ⟨_,rfl,"set_iterator",_,⟨_,Heap.get?_push_size _ rfl,rfl⟩,sit_slot.lookup,?_⟩));have kk:∀b o,s.heap.get? b=some o->(s.heap.push { cls:=.type "set_iterator",data:=.fields [rawInt 0,rawInt 0,.ref a,rawInt es.size,rawInt ep].toArray }).get? b=some o:=fun b o e=>Heap.get?_push_of_some _ e
  have fresh:∀b∈[s.heap.objs.size,a],b=a\/s.heap.get? b=none:=fun b hb=>by
   simp only[List.mem_cons,List.not_mem_nil,or_false] at hb;rcases hb with rfl|rfl
   ·exact .inr (none_end _)
   ·exact .inl rfl
  cases bt:ByText w with
  |true=>
   have ln:es.size=((pickOrder (w.params.setOrder a ep) es).toList.map (·.2)).length:=by rw[List.length_map,(pick_perm _ es).length_eq,Array.length_toList]
   refine q _ s.drawn s.heap.objs.size _ _ _ kk ((pick_perm _ es).map _) (fun A hh=>walk_slot hh s.heap.objs.size a (Nat.ne_of_lt hlt) ((pickOrder (w.params.setOrder a ep) es).toList.map (·.2)) (fun _=>0) es ep t f ln fun i A E s Q _ x q=>next_text bt x f q) ⟨⟨_,Heap.get?_push_size _ rfl,rfl,?_⟩,x.keep fun o e=>kk a o e⟩ fresh (none_end _);rw[<-ln];rfl
  |false=>
   have few:es.size<=1:=by
    rw[bt] at c
    by_cases z:es.size=0
    ·omega
    ·rw[hp z] at c;simpa using c
   rw[bt] at hl;refine q _ s.drawn s.heap.objs.size _ _ _ kk (List.Perm.refl _) (fun A hh=>walk_slot hh s.heap.objs.size a (Nat.ne_of_lt hlt) (es.toList.map (·.2)) (fun i=>if i=0 then 0 else t.place.getD 0 0+1) es ep t f (by simp) fun i A E s Q li x q=>next_few bt hl few (by simpa using li) x f q) ⟨⟨_,Heap.get?_push_size _ rfl,rfl,?_⟩,x.keep fun o e=>kk a o e⟩ fresh (none_end _);simp
theorem hint_set {a:Addr}{Q:Bool->Shared->Prop}(hT:s.TypeIs (.ref a) "set")(q:Q false s):wpAny (model prog w) A (Builtin.List.listLengthHint (.ref a)) Q E s:=by
 unfold Builtin.List.listLengthHint;refine wpAny_bind (wpAny_specialOf hT PySem.F.slot_set_len.lookup ?_);generalize e0:("set.__len__":String)=d0
 wp_delta
 rw[show splitId d0=some ("set","__len__") from by subst e0;decide +kernel];subst e0;refine wpAny_bind (wpAny_isInstance (T:="set") (b:=true) hT (by rw[isSubtype_type];kernel_rfl) ?_);refine wpAny_ite_split (fun c=>absurd c (by decide)) (fun _=>wpAny_ite_split (fun _=>?_) (fun c=>absurd (by decide +kernel) c));exact wpAny_bind (wpAny_typeOf hT (wpAny_pure q))
theorem items_list {xs:List Value}{acc:Array Value}(z:ItemsOf (fun i v=>xs[i]?=some v) acc xs.length):acc.toList=xs:=by
 refine List.ext_getElem? fun i=>?_
 rw[Array.getElem?_toList];cases e:acc[i]? with
 |some v=>exact(z.2 i v e).symm
 |none=>
  have:acc.size<=i:=by simpa using e
  rw[z.1] at this;exact(List.getElem?_eq_none this).symm
theorem collect_set {a:Addr} {es:Array (Int×Value)} {ep:Nat} {t:SetTable} {Q:List Value->Shared->Prop} (hh:A.handled=none) (x:SetAt s.heap a es ep t) (f:t.fits es.size=true) (hl:t.led = !ByText w) (hp:es.size≠0->t.plain=false) (hb:es.size<scanBound)
  (q:∀h' d tk (vs:List Value),(∀b o,s.heap.get? b=some o->h'.get? b=some o)->vs.Perm (es.toList.map (·.2))->Q vs { s with heap:=h',drawn:=d,toks:=tk }):wpAny (model prog w) A (collect (.ref a)) Q E s:=by
 refine collect_ext ?_;have x1:SetAt (s.heap.push { cls:=.type "list",data:=.seq #[] }) a es ep t:=x.keep fun o e=>Heap.get?_push_of_some _ e
 have lt:a<s.heap.objs.size:=let⟨_,e,_⟩:=x;Heap.lt_size e;unfold Builtin.List.listExtendWith;have hT:Shared.TypeIs { s with heap:=s.heap.push { cls:=.type "list",data:=.seq #[] } } (.ref a) "set":=let⟨o,e,c,_⟩:=x1;⟨o,e,c⟩;refine wpAny_bind (wpAny_typeOf hT ?_);have n1:Builtin.List.listSameRef (.ref s.heap.objs.size) (.ref a)=false:=by simp[Builtin.List.listSameRef,Nat.ne_of_gt lt]
 have n2:(Value.type "set" == Value.type "list")=false:=by decide
 have n3:(Value.type "set" == Value.type "tuple")=false:=by decide
 simp only[n1,n2,n3,Bool.or_false,Bool.false_eq_true,if_false];refine wpAny_bind (set_iter x1 f hl hp hb fun h1 d I fp xs St k1 pm W st fr nI0=>?_);have hS1:h1.get? s.heap.objs.size=some { cls:=.type "list",data:=.seq #[] }:=k1 _ _ (Heap.get?_push_size _ rfl);have hSf:s.heap.objs.size∉fp:=fun hm=>by
  rcases fr _ hm with z|z
  ·exact absurd z (Nat.ne_of_gt lt)
  ·rw[show(s.heap.push { cls:=.type "list",data:=.seq #[] }).get? s.heap.objs.size=some { cls:=.type "list",data:=.seq #[] } from Heap.get?_push_size _ rfl] at z;cases z
 have nI:∀b o,s.heap.get? b=some o->b∉s.heap.objs.size::[I]:=fun b o e hm=>by
  rcases List.mem_cons.mp hm with z|z
  ·exact absurd (Heap.lt_size e) (by rw[z];exact Nat.lt_irrefl _)
  ·rw[List.mem_singleton] at z;subst z;rw[Heap.get?_push_of_some _ e] at nI0;cases nI0
 refine wpAny_bind (wpAny_holding (hint_set (let⟨o,e,c,_⟩:=x1;⟨o,k1 _ _ e,c⟩) ?_));refine wpAny_ite_split (fun _=>?_) (fun c=>absurd (by decide) c);refine wpAny_bind (wpAny_rule ?_);refine wpAny_bind ?_;show wpAny _ _ (updateSeq s.heap.objs.size (·.push .none) >>= fun _=>updateSeq s.heap.objs.size (·.pop)) _ _ _;refine wpAny_bind (wpAny_updateSeq hS1 rfl ?_);have hS2:=Heap.get?_update_self (Obj.mapSeq (·.push Value.none)) hS1 rfl;refine wpAny_updateSeq (hz:=by seq_fits) hS2 rfl ?_;have hS3:=Heap.get?_update_self (Obj.mapSeq (·.pop)) hS2 rfl;have oth:∀b o,b≠s.heap.objs.size->h1.get? b=some o->((h1.update s.heap.objs.size (Obj.mapSeq (·.push Value.none))).update s.heap.objs.size (Obj.mapSeq (·.pop))).get? b=some o:=
  fun b o n e=>(Heap.get?_update_other _ _ (Ne.symm n)).trans ((Heap.get?_update_other _ _ (Ne.symm n)).trans e)
 refine wpAny_pure ⟨plainId_quiet PySem.F.plain_extend_loop _,codeAny_extend_loopS (W A.in1 hh).toS (by rw[pm.length_eq,List.length_map,Array.length_toList];exact fits_of_scanBound hb) s.heap.objs.size hSf (.ref s.heap.objs.size) xs.length 0 _ #[] _ rfl (Nat.zero_le _) ((W A hh).frame 0 _ _ st fun b hb o e=>oth b o (fun z=>hSf (z▸hb)) e) hS3 (ItemsOf.nil _) fun s' acc c hm hS' it=>?_⟩;refine⟨acc,c,rfl,hS',?_⟩;rw[items_list it,Moved.eq_with hm];exact q _ _ _ xs (fun b o e=>hm.heap b o (nI b o e) (oth b o (Nat.ne_of_lt (Heap.lt_size e)) (k1 b o (Heap.get?_push_of_some _ e)))) pm
end
end L2
namespace L2
section
open PySem PySem.Calls PyProof.Rows
variable {prog:Program}{w:World}{A:Around}{E:Value->Shared->Prop}{s:Shared}
theorem lay_led (t:SetTable)(es:Array (Int×Value))(h:Int)(x:Value):(layNew t es h x).2.1.led=t.led:=by
 unfold layNew
 split
 ·dsimp only[SetTable.put,SetTable.orStandIn]
  split<;>split<;>rfl
 ·rfl
theorem relay_led (t:SetTable)(es:Array (Int×Value))(n:Nat):(relayAll t es n).2.1.led=t.led:=by
 unfold relayAll
 split
 ·rename_i t' order e
  unfold SetTable.relaid SetTable.laid at e;cases z:SetTable.layClean (SetTable.sizeAbove n-1) (es.map (·.1)) with
  |none=>rw[z] at e;cases e
  |some ow=>
   rw[z] at e;injection e with e
   injection e with e1 e2
   dsimp only
   split
   ·rw[<-e1]
   ·rfl
 ·rfl
theorem relay_plain (t:SetTable)(es:Array (Int×Value))(n:Nat)(p:t.plain=false):(relayAll t es n).2.1.plain=false:=by
 unfold relayAll
 split
 ·rename_i t' order e
  unfold SetTable.relaid SetTable.laid at e;cases z:SetTable.layClean (SetTable.sizeAbove n-1) (es.map (·.1)) with
  |none=>rw[z] at e;cases e
  |some ow=>
   rw[z] at e;injection e with e
   injection e with e1 e2
   dsimp only
   split
   ·rw[<-e1];exact p
   ·rfl
 ·rfl
def TxtSet (prog:Program)(w:World)(h:Heap)(a:Addr)(ks:List Str):Prop:=∃o es ep t ss,h.get? a=some o/\o.ExactSet/\o.data=.set es ep t/\ElemsOf (PySem.strKind prog w) es.toList/\t.fits es.size=true/\t.led=(!ByText w)/\(es.size≠0->t.plain=false)/\
 StrsAre (es.toList.map (·.2)) ss/\ss.Perm ks
theorem is_str {k:Str}{v:Value}(h:Value.isStrOf k v=true):∃t,v=.str k t:=Value.isStrOf_shape h
theorem txt_new (led:Bool)(hl:led = !ByText w){h:Heap}{a:Addr}(e:h.get? a=some { cls:=.type "set",dict:=none,data:=.set #[] 0 (.fresh 0 0 led) }):TxtSet prog w h a []:=
 ⟨_,#[],0,_,[],e,⟨rfl,rfl,rfl⟩,rfl,fun e he=>by simp at he,by rfl,hl,fun z=>absurd rfl z,.nil,List.Perm.refl _⟩
theorem strs_perm {vs us:List Value}{ss:List Str}(h:StrsAre vs ss)(p:us.Perm vs):∃ts,StrsAre us ts/\ts.Perm ss:=by
 refine⟨us.map strOf,strsAre_map us fun v hv=>h.all v (p.mem_iff.mp hv),?_⟩;have:=p.map strOf;rw[h.strs] at this;exact this
theorem strs_app:∀{vs us:List Value} {ss ts:List Str},StrsAre vs ss->StrsAre us ts->StrsAre (vs++us) (ss++ts)
 |_,_,_,_,.nil,h=>h
 |_,_,_,_,.cons x t g,h=>.cons x t (strs_app g h)
theorem mem_strs {es:Array (Int×Value)}{ss:List Str}{k:Str}(hs:StrsAre (es.toList.map (·.2)) ss):k∈ss↔∃e∈es.toList,Value.isStrOf k e.2=true:=by
 rw[<-hs.strs,List.mem_map];constructor
 ·rintro⟨v,hv,rfl⟩
  obtain⟨e,he,rfl⟩:=List.mem_map.mp hv;obtain⟨x,t,ex⟩:=hs.all _ hv;refine⟨e,he,?_⟩;rw[ex];simp[Value.isStrOf,strOf]
 ·rintro⟨e,he,hk⟩
  obtain⟨t,ex⟩:=is_str hk;exact⟨e.2,List.mem_map.mpr ⟨e,he,rfl⟩,by rw[ex];rfl⟩
theorem add_tail {g:Bool->Sem Unit} (hg:∀(b:Bool) (s₁:Shared) (Q':Unit->Shared->Prop),Q' () s₁->wpAny (model prog w) A (g b) Q' E s₁) {a:Addr} {o:Obj} {es es1:Array (Int×Value)} {ep:Nat} {t t2:SetTable} {wd:Bool} {R:Option Bool->Shared->Prop}
  (ho:s.heap.get? a=some o) (hd:o.data=.set es ep t) (hb:es1.size<scanBound) (hf:t2.fits es1.size=true) (hp:t2.plain=false)
  (q:∀h' es' ep' t',Heap.SameBut a s.heap h'->h'.get? a=some { o with data:=.set es' ep' t' }->es'.toList.Perm es1.toList->t'.fits es'.size=true->t'.led=t2.led->t'.plain=false->R (some true) { s with heap:=h' }) :
  wpAny (model prog w) A (storeSet a es1 t2 >>= fun _=>if(!wd&&t2.tooFull)=true then g (relayAll t2 es1 (SetTable.grown es1.size)).2.2 >>= fun _=>storeSet a (relayAll t2 es1 (SetTable.grown es1.size)).1 (relayAll t2 es1 (SetTable.grown es1.size)).2.1 >>= fun _=>pure (some true) else pure (some true)) R E s:=by
 have put:∀(h:Heap) (o:Obj) (es ep t es' t'),h.get? a=some o->o.data=.set es ep t->(h.update a (Obj.putSet es' t')).get? a=some { o with data:=.set es' (ep+1) t' }:=fun h o es ep t es' t' e d=>by
  have z:=Heap.get?_update_self (Obj.putSet es' t') e (by rw[putSet_of es' t' d];rfl);rw[putSet_of es' t' d] at z;exact z
 refine wpAny_bind (wpAny_storeSet_of ho hd ?_ (fits_of_scanBound hb));have h1:=put s.heap o es ep t es1 t2 ho hd;refine wpAny_ite_split (fun _=>?_) (fun _=>wpAny_pure (q _ es1 (ep+1) t2 (Heap.SameBut.update ..) h1 (List.Perm.refl _) hf rfl hp));have pm:=relayAll_perm t2 es1 (SetTable.grown es1.size);have sz:(relayAll t2 es1 (SetTable.grown es1.size)).1.size=es1.size:=by rw[<-Array.length_toList,pm.length_eq,Array.length_toList]
 refine wpAny_bind (hg _ _ _ (wpAny_bind (wpAny_storeSet_of h1 rfl ?_ (fits_of_scanBound (by rw[sz];exact hb)))));exact wpAny_pure (q _ _ (ep+1+1) _ ((Heap.SameBut.update ..).trans (Heap.SameBut.update ..)) (put _ { o with data:=.set es1 (ep+1) t2 } es1 (ep+1) t2 _ _ h1 rfl) pm (relayAll_fits ..) (relay_led ..) (relay_plain _ _ _ hp))
theorem set_add_txt {a:Addr} {ks:List Str} {k:Str} {tk:Tok} {Q:Bool->Shared->Prop} (S:TxtSet prog w s.heap a ks) (room:ks.length+1<scanBound)
  (q:∀b h',Heap.SameBut a s.heap h'->TxtSet prog w h' a (if k∈ks then ks else ks++[k])->Q b { s with heap:=h',toks:=s.toks+1 }):wpAny (model prog w) A (setAdd a (.str k tk)) Q E s:=by
 obtain⟨o,es,ep,t,ss,ho,hex,hd,hel0,hf,hl,hp,hs,pm⟩:=S;have hel:ElemsOf (PySem.strKind prog w) es.toList:=hel0;have hkey:(PySem.strKind prog w).is k (.str k tk)=true:=by show Value.isStrOf k (.str k tk)=true;simp[Value.isStrOf]
 have ln:es.size=ks.length:=by rw[<-pm.length_eq,<-hs.length,List.length_map,Array.length_toList]
 have hb:es.size<scanBound:=by omega
 unfold setAdd;refine wpAny_holding (wpAny_bind ((PySem.strKind prog w).pyHash hkey ?_));unfold setAddHashed;unfold setAddHashedIn;refine wpAny_holding (wpAny_bind (wpAny_setState_of (s:={ s with toks:=s.toks+1 }) ho hd hf ?_));dsimp only;rw[byScan_of rfl hb hel];simp only[↓reduceIte];unfold setAddByScan;refine wpAny_bind (wpAny_bind (wpAny_rule (wpAny_bind (wpAny_setScan_of hkey ho hd hf hel ?_))));cases hr:List.findIdx? (fun e=>(PySem.strKind prog w).is k e.2) es.toList with
 |some j=>
  dsimp only;obtain⟨hj,hpj,_⟩:=List.findIdx?_eq_some_iff_getElem.mp hr;have hm:k∈ks:=pm.mem_iff.mp ((mem_strs hs).mpr ⟨_,List.getElem_mem hj,hpj⟩);refine wpAny_pure (wpAny_pure (q false s.heap (Heap.SameBut.refl a s.heap) ?_));rw[if_pos hm];exact⟨o,es,ep,t,ss,ho,hex,hd,hel,hf,hl,hp,hs,pm⟩
 |none=>
  dsimp only;have hm:k∉ks:=fun z=>by
   obtain⟨e,he,hk⟩:=(mem_strs hs).mp (pm.mem_iff.mpr z);have:=List.findIdx?_eq_none_iff.mp hr e he;exact absurd (hk.symm.trans this) (by decide)
  rw[if_neg hm] at q;have gw:∀(b:Bool) (s₁:Shared) (Q':Unit->Shared->Prop),Q' () s₁->wpAny (model prog w) A (match b with|true=>rule "set.scan.the-table-gave-way"|false=>pure ()) Q' E s₁:=fun b s₁ Q' hq=>by
   cases b
   ·exact wpAny_pure hq
   ·exact wpAny_rule hq
  have lp:=layNew_perm t es ((PySem.strKind prog w).hash k) (.str k tk);have lf:=layNew_fits t es ((PySem.strKind prog w).hash k) (.str k tk);have ll:=lay_led t es ((PySem.strKind prog w).hash k) (.str k tk);generalize layNew t es ((PySem.strKind prog w).hash k) (.str k tk)=L at lp lf ll;obtain⟨es1,t1,wd,gave⟩:=L;dsimp only at lp lf ll ⊢;rw[Array.toList_push] at lp;have hel1:ElemsOf (PySem.strKind prog w) es1.toList:=(hel.push hkey rfl).perm lp;have sz1:es1.size=es.size+1:=by rw[<-Array.length_toList,lp.length_eq,List.length_append,Array.length_toList];rfl
  have str1:∃ts,StrsAre (es1.toList.map (·.2)) ts/\ts.Perm (ks++[k]):=by
   have h0:StrsAre ((es.toList++[((PySem.strKind prog w).hash k,Value.str k tk)]).map (·.2)) (ss++[k]):=by
    rw[List.map_append];exact strs_app hs (.cons k tk .nil)
   obtain⟨ts,y1,y2⟩:=strs_perm h0 (lp.map (·.2));exact⟨ts,y1,y2.trans (pm.append_right _)⟩
  have fin:∀h' es' ep' t',Heap.SameBut a s.heap h'->h'.get? a=some { o with data:=.set es' ep' t' }->es'.toList.Perm es1.toList->t'.fits es'.size=true->t'.led=t.led->t'.plain=false->TxtSet prog w h' a (ks++[k]):=fun h' es' ep' t' _ e pe fe le pl=>by
   obtain⟨ts,y1,y2⟩:=str1;obtain⟨us,z1,z2⟩:=strs_perm y1 (pe.map (·.2));exact⟨_,es',ep',t',us,e,hex,rfl,hel1.perm pe,fe,le.trans hl,fun _=>pl,z1,z2.trans y2⟩
  refine wpAny_bind (gw _ _ _ ?_);refine wpAny_ite_split (fun c=>?_) (fun c=>?_)
  ·rw[hashByValue_scannable 8 rfl];refine wpAny_bind (wpAny_pure ?_);refine add_tail gw ho hd (by rw[sz1,ln];exact room) (SetTable.fits_plain_off lf) rfl fun h' es' ep' t' sb e pe fe le pl=>wpAny_pure (q true h' sb (fin h' es' ep' t' sb e pe fe (le.trans ll) pl))
  ·refine wpAny_bind (wpAny_pure ?_);have pl1:t1.plain=false:=by simpa using c
   refine add_tail gw ho hd (by rw[sz1,ln];exact room) lf pl1 fun h' es' ep' t' sb e pe fe le pl=>wpAny_pure (q true h' sb (fin h' es' ep' t' sb e pe fe (le.trans ll) pl))
def onceS (ss:List Str):List Str:=ss.foldl (fun ks k=>if k∈ks then ks else ks++[k]) []
theorem once_len (ss:List Str):(onceS ss).length<=ss.length:=by
 have z:∀(l ks:List Str),(l.foldl (fun ks k=>if k∈ks then ks else ks++[k]) ks).length<=ks.length+l.length:=fun l=>by
  induction l with
  |nil=>intro ks;exact Nat.le_refl _
  |cons k r ih=>
   intro ks;refine Nat.le_trans (ih _) ?_;rw[List.length_cons];dsimp only
   split
   ·omega
   ·rw[List.length_append,List.length_singleton];omega
 have:=z ss [];rw[List.length_nil,Nat.zero_add] at this;exact this
theorem once_step {ss:List Str}{i:Nat}{k:Str}(h:ss[i]?=some k):onceS (ss.take (i+1))=if k∈onceS (ss.take i) then onceS (ss.take i) else onceS (ss.take i)++[k]:=by
 have e:ss.take (i+1)=ss.take i++[k]:=by rw[List.take_add_one,h];rfl
 unfold onceS;rw[e,List.foldl_append];rfl
theorem TxtSet.keep {h h':Heap}{a:Addr}{ks:List Str}(S:TxtSet prog w h a ks)(k:∀o,h.get? a=some o->h'.get? a=some o):TxtSet prog w h' a ks:=let⟨o,es,ep,t,ss,e,r⟩:=S;⟨o,es,ep,t,ss,k o e,r⟩
theorem strs_at:∀{vs:List Value} {ss:List Str},StrsAre vs ss->∀(i:Nat) (v:Value),vs[i]?=some v->∃k t,v=.str k t/\ss[i]?=some k
 |_,_,.nil,i,v,h=>by simp at h
 |_,_,.cons x t r,0,v,h=>⟨x,t,by simpa using h.symm,rfl⟩
 |_,_,.cons x t r,i+1,v,h=>strs_at r i v h
theorem fill_loop {R:Result->Shared->Prop}{I S:Addr}{fp:List Addr}{vs:List Value}{ss:List Str}{St:Nat->Heap->Prop}(W:Walks prog w A.in1 I fp [I] vs.length (fun i v=>vs[i]?=some v) St)(nS:S∉fp)(hs:StrsAre vs ss)(hb:vs.length+1<scanBound) :
  ∀(k i:Nat) (s:Shared),vs.length-i=k->i<=vs.length->St i s.heap->TxtSet prog w s.heap S (onceS (ss.take i))->
   (∀h' tk,(∀b o,b∉[S,I]->s.heap.get? b=some o->h'.get? b=some o)->TxtSet prog w h' S (onceS ss)->R (.ok (.ret .none)) { s with heap:=h',toks:=tk })->codeAny (model prog w) A (.builtin "set.update.loop" ⟨[.ref S,.ref I],[]⟩) R s:=by
 have nI:S∉[I]:=fun z=>nS (W.sub _ z)
 have ln:vs.length=ss.length:=hs.length;intro k
 induction k with
 |zero=>
  intro i s hk hi st T q;have e:i=vs.length:=by omega
  subst e;refine codeAny_builtin PyProof.Rows.F.entry_set_update_loop ?_;rw[Around.under_plainId PyProof.Rows.F.plain_set_update_loop _];refine wpAny_bind (m:=pyNext (.ref I)) (W.done s _ _ st fun h' tk k'=>?_);rw[ln,List.take_length] at T;exact wpAny_pure (q h' tk (fun b o n e=>k' b o (fun z=>n (List.mem_cons_of_mem _ z)) e) (T.keep fun o e=>k' S o nI e))
 |succ k ih=>
  intro i s hk hi st T q;have lt:i<vs.length:=by omega
  refine codeAny_builtin PyProof.Rows.F.entry_set_update_loop ?_;rw[Around.under_plainId PyProof.Rows.F.plain_set_update_loop _];refine wpAny_bind (m:=pyNext (.ref I)) (W.item i s _ _ lt st fun v h' tk hv st' k'=>?_);obtain⟨x,t,rfl,hx⟩:=strs_at hs i v hv;refine wpAny_bind (m:=holding [Value.str x t] (setAdd S (.str x t))) (wpAny_holding (set_add_txt (T.keep fun o e=>k' S o nI e) ?_ fun b h2 sb T2=>?_))
  ·have:=once_len (ss.take i);rw[List.length_take] at this;omega
  rw[<-once_step hx] at T2;refine wpAny_pure ⟨plainId_quiet PyProof.Rows.F.plain_set_update_loop _,ih (i+1) _ (by omega) lt (W.frame _ _ _ st' fun b hb o e=>?_) T2 fun h3 tk3 k3 T3=>?_⟩
  ·rw[sb.2 b (fun z=>nS (z▸hb))];exact e
  ·refine q h3 tk3 (fun b o n e=>k3 b o n ?_) T3;rw[sb.2 b (fun z=>n (by simp[z]))];exact k' b o (fun z=>n (List.mem_cons_of_mem _ z)) e
theorem set_made (x:Value){Q₁:Value->Shared->Prop}(q:Q₁ (.ref s.heap.objs.size) { s with heap:=s.heap.push { cls:=.type "set",dict:=none,data:=.set #[] 0 (.fresh 0 0 (!ByText w)) } }) :
  codeAny (model prog w) A (.call (.builtin "set.__new__") ⟨[.type "set",x],[]⟩) (wants Q₁ E) s:=by
 refine codeAny_of_tree ?_;refine wpAny_bind (m:=checkBuiltinCall "set.__new__" ⟨[.type "set",x],[]⟩) (wpAny_of_eq (PySem.F.newCall_set_1 x) (wpAny_pure ⟨plainId_quiet PySem.F.plain_set_new _,codeAny_builtin PySem.F.entry_set_new ?_⟩));rw[Around.under_plainId PySem.F.plain_set_new _];unfold Builtin.«set.__new__»;unfold Builtin.Frozenset.newClass;have hsub:=sub_set_self;obtain⟨hp,g,d,tk,os⟩:=s;dsimp only
 wp_walk
 refine wpAny_askSetting (wpAny_pure ?_);dsimp only;simp only[newObj];exact wpAny_bind (wpAny_alloc (wpAny_pure (wpAny_pure q)))
end
end L2
namespace L2
section
open PySem PySem.Calls PyProof.Rows
variable {prog:Program}{w:World}{A:Around}{E:Value->Shared->Prop}{s:Shared}
theorem set_call {lq:Addr} {vs:List Value} {ss:List Str} {Q:Value->Shared->Prop} (hh:A.handled=none) (hl:s.heap.IsList lq vs.toArray) (hs:StrsAre vs ss) (hb:vs.length+1<scanBound)
  (q:∀h' tk,(∀b o,s.heap.get? b=some o->h'.get? b=some o)->TxtSet prog w h' s.heap.objs.size (onceS ss)->Q (.ref s.heap.objs.size) { s with heap:=h',toks:=tk }):wpAny (model prog w) A (call (.type "set") [.ref lq]) Q E s:=by
 obtain⟨c,tl,hmro⟩:=PySem.F.called_set.mro;have hmade:=PySem.F.called_set.made;have hsub:=PySem.F.called_set.sub;refine wpAny_call (codeAny_of_tree (wpAny_pure ⟨Code.quiet_builtin _ (by decide +kernel),codeAny_builtin PySem.F.entry_type_call ?_⟩));rw[Around.under_plain (weight_type_call_type "set" [.ref lq] []) rfl];have h1:=PySem.F.called_set.notType;have h2:=PySem.F.called_set.canCreate;have hct:=PySem.F.typeCall_set_1 (.ref lq)
 repeat (any_goals (first|assumption|wp_step))
 refine codeAny_mono (set_made (.ref lq) (E:=E) (Q₁:=fun obj s₁=>obj=.ref s.heap.objs.size/\s₁={ s with heap:=s.heap.push { cls:=.type "set",dict:=none,data:=.set #[] 0 (.fresh 0 0 (!ByText w)) } }) ⟨rfl,rfl⟩) fun r s₁ hr=>?_
 match r,hr with
 | .error e,hr=>exact hr
 | .ok (.ret obj),hr=>
  obtain⟨rfl,rfl⟩:=hr;have hS:(s.heap.push { cls:=.type "set",dict:=none,data:=.set #[] 0 (.fresh 0 0 (!ByText w)) }).get? s.heap.objs.size=some { cls:=.type "set",dict:=none,data:=.set #[] 0 (.fresh 0 0 (!ByText w)) }:=Heap.get?_push_size _ rfl;have hT:Shared.TypeIs { s with heap:=s.heap.push { cls:=.type "set",dict:=none,data:=.set #[] 0 (.fresh 0 0 (!ByText w)) } } (.ref s.heap.objs.size) "set":=⟨_,hS,rfl⟩
  have hli:=PySem.F.called_set.init.lookup;have hbi:=PySem.F.called_set.init.bind (.ref s.heap.objs.size)
  repeat (any_goals (first|assumption|wp_step))
  refine codeAny_mono (codeAny_call_builtin (R:=wants (fun r s₂=>r=.none/\∃h' tk,s₂={ s with heap:=h',toks:=tk }/\(∀b o,s.heap.get? b=some o->h'.get? b=some o)/\TxtSet prog w h' s.heap.objs.size (onceS ss)) E) PySem.F.called_set.init.plain PySem.F.entry_set_init (check_set_init_1 hT ?_)) fun r₂ s₂ hr₂=>?_
  ·obtain⟨⟨cl,dl,tl,sl⟩,el,hcl,nl,hdl⟩:=hl;simp only at hcl hdl;subst hcl;subst hdl;have el':=Heap.get?_push_of_some ({ cls:=.type "set",dict:=none,data:=.set #[] 0 (.fresh 0 0 (!ByText w)) }:Obj) el;have lt:lq<s.heap.objs.size:=Heap.lt_size el;have l1:(s.heap.push { cls:=.type "set",dict:=none,data:=.set #[] 0 (.fresh 0 0 (!ByText w)) }).IsList lq vs.toArray:=⟨_,el',rfl,nl,rfl⟩
   have n1:=PySem.F.sub_list_set;have n2:=PySem.F.sub_list_frozenset;have n3:(Value.type "list" == Value.type "dict")=false:=by decide
   unfold Builtin.«set.__init__» Builtin.Frozenset.updateFrom noKeywords;generalize ePI:pyIter=PI
   wp_walk
   subst ePI;refine wpAny_pyIter_list l1 (wpAny_bind (wpAny_runValue ?_));have nI:lq≠(s.heap.push { cls:=.type "set",dict:=none,data:=.set #[] 0 (.fresh 0 0 (!ByText w)) }).objs.size:=by rw[Heap.size_push];exact Nat.ne_of_lt (Nat.lt_succ_of_lt lt)
   have nS:s.heap.objs.size∉[(s.heap.push { cls:=.type "set",dict:=none,data:=.set #[] 0 (.fresh 0 0 (!ByText w)) }).objs.size,lq]:=by
    rw[Heap.size_push];simp only[List.mem_cons,List.not_mem_nil,or_false,not_or];exact⟨Nat.ne_of_lt (Nat.lt_succ_self _),Nat.ne_of_gt lt⟩
   have hA:A.in1.in1.in1.handled=none:=by simp[hh]
   have W:=Walks.list (prog:=prog) (w:=w) hA (s.heap.push { cls:=.type "set",dict:=none,data:=.set #[] 0 (.fresh 0 0 (!ByText w)) }).objs.size lq nI vs.toArray;have W2:Walks prog w A.in1.in1.in1 (s.heap.push { cls:=.type "set",dict:=none,data:=.set #[] 0 (.fresh 0 0 (!ByText w)) }).objs.size [(s.heap.push { cls:=.type "set",dict:=none,data:=.set #[] 0 (.fresh 0 0 (!ByText w)) }).objs.size,lq] [(s.heap.push { cls:=.type "set",dict:=none,data:=.set #[] 0 (.fresh 0 0 (!ByText w)) }).objs.size] vs.length (fun i v=>vs[i]?=some v) (fun i h=>h.IsListIter (s.heap.push { cls:=.type "set",dict:=none,data:=.set #[] 0 (.fresh 0 0 (!ByText w)) }).objs.size lq i/\h.IsList lq vs.toArray):=by
    simpa only [List.size_toArray,List.getElem?_toArray] using W
   refine fill_loop W2 nS hs hb vs.length 0 _ (by omega) (Nat.zero_le _) ⟨⟨_,Heap.get?_push_size _ rfl,rfl,rfl⟩,l1.push _⟩ (txt_new (!ByText w) rfl (Heap.get?_push_of_some _ hS)) fun h' tk k' T=>?_
   refine wpAny_pure (wpAny_pure ⟨rfl,h',tk,rfl,fun b o e=>k' b o (fun z=>?_) (Heap.get?_push_of_some _ (Heap.get?_push_of_some _ e)),T⟩);have lb:=Heap.lt_size e;rw[Heap.size_push] at z;simp only[List.mem_cons,List.not_mem_nil,or_false] at z;rcases z with rfl|rfl
   ·exact absurd lb (Nat.lt_irrefl _)
   ·exact absurd lb (Nat.not_lt.mpr (Nat.le_succ _))
  ·match r₂,hr₂ with
   | .error e,hr₂=>exact hr₂
   | .ok (.ret r),hr₂=>
    obtain⟨rfl,h',tk,rfl,k',T⟩:=hr₂
    repeat (any_goals (first|assumption|wp_step))
    exact q _ _ k' T
   | .ok .next,hr₂=>exact hr₂.elim
end
end L2
namespace L2
section
open PySem PySem.Calls PyProof.Rows
variable {X:Cx}{pins:List (Addr×Obj)}{σ:St}{H:Hp}{s:Shared}
theorem Inv.drew {d':Drawn}(I:Inv X pins σ H s):Inv X pins σ H { s with drawn:=d' }:=⟨I.ok,I.os,I.bare,I.base,I.loc,I.cell,I.free,I.freeC,I.pin,I.hok,I.len⟩
theorem strs_of_vals:∀{ss:List Str} {its:List Value},Vals (ss.map V.str) its->StrsAre its ss
 |[],_,.nil=>.nil
 |x::r,_,.cons h t=>by
  obtain⟨k,rfl⟩:=h;exact .cons x k (strs_of_vals t)
theorem vals_of_strs:∀{ss:List Str} {its:List Value},StrsAre its ss->Vals (ss.map V.str) its
 |_,_,.nil=>.nil
 |_,_,.cons x t h=>.cons ⟨t,rfl⟩ (vals_of_strs h)
def SetT (P:Program)(w:World)(p:Addr)(ks:List Str):HO:=.ext fun h=>TxtSet P w h p ks
def rSetT (P:Program)(w:World)(K:PySem.W.Frag):List V->Hp->VK->Prop:=fun xs H Q=>∃(a:Addr) (ss:List Str),xs=[.ref a]/\SqL K H a (ss.map V.str)/\ss.length<=1000/\∀p,H p=none->Q (.ref p) (upd H p (SetT P w p (onceS ss)))
theorem call_setT {P:Program}{w:World}{K:PySem.W.Frag}(hP:X.prog=P)(hw:X.w=w)(hK:X.K=K)(hc:X.calm=true):CallR X (.type "set") (rSetT P w K):=by
 subst hP hw hK;intro pins s σ H xs us Q I r h;obtain⟨a,ss,rfl,h1,few,q⟩:=h;obtain⟨u,rfl,ru⟩:=vals1 r;cases ru;obtain⟨its,r1,p1,_⟩:=I.list h1;have hs:=strs_of_vals r1;have ln:=hs.length;refine set_call (I.ok.hd hc) p1.isList hs (by rw[ln];unfold scanBound;omega) fun h' tk k T=>⟨.ref s.heap.objs.size,_,I.laid (t':=tk) k (Nat.le_refl _) (?_:ObjOk X.prog X.w _ h' _ (SetT X.prog X.w s.heap.objs.size (onceS ss))),rfl,q _ (I.hok.fresh (Nat.le_refl _))⟩
 exact⟨T,let⟨o,_,_,_,_,e,_⟩:=T;⟨o,e⟩,fun h1 h2 T1 kk=>T1.keep kk⟩
def GivesS (H:Hp)(ks:List Str)(Q:VK):Prop:=∀ts p,ts.Perm ks->sortedS ts=true->H p=none->Q (.ref p) (upd H p (.lst (ts.map V.str)))
theorem sorts_to {Q:VK}{ks:List Str}{d':Drawn}{tk:Nat}{h1:Heap}{vs:List Value}{ss:List Str}(I:Inv X pins σ H s)(k:∀b o,s.heap.get? b=some o->h1.get? b=some o)(hs:StrsAre vs ss)(pm:ss.Perm ks)(few:ks.length<64)(q:GivesS H ks Q) :
  SortsTo (EP X pins σ Q) vs { s with heap:=h1,drawn:=d',toks:=tk }:=by
 have I1:Inv X pins σ H { s with heap:=h1,drawn:=d',toks:=tk }:=(I.drew (d':=d')).kept (t':=tk) k;refine⟨ss,hs,by rw[hs.length,pm.length_eq];exact few,fun h' p out ss' c ho pe so lp k' e=>⟨.ref p,_,I1.laid (t':=tk) k' lp (?_:ObjOk X.prog X.w _ h' p (.lst (ss'.map V.str))),rfl,q ss' p (pe.trans pm) so (I1.hok.fresh lp)⟩⟩;refine⟨?_,out,c,vals_of_strs ho,e⟩;rw[List.length_map,pe.length_eq,pm.length_eq,sizeLine_eq];omega
def rSortT (P:Program)(w:World):List V->Hp->VK->Prop:=fun xs H Q=>∃(a:Addr) (ks:List Str),xs=[.ref a]/\H a=some (SetT P w a ks)/\ks.length<64/\GivesS H ks Q
theorem call_sortT {P:Program}{w:World}(hP:X.prog=P)(hw:X.w=w)(hc:X.calm=true):CallR X (.builtin "sorted") (rSortT P w):=by
 subst hP hw;intro pins s σ H xs us Q I r h;obtain⟨a,ks,rfl,h1,few,q⟩:=h;obtain⟨u,rfl,ru⟩:=vals1 r;cases ru;obtain⟨T,_⟩:ObjOk X.prog X.w H s.heap a (SetT X.prog X.w a ks):=I.hok a _ h1;obtain⟨o,es,ep,t,ss,e,ex,d,el,f,hl,hp,hs,pm⟩:=T;have ln:es.size=ks.length:=by rw[<-pm.length_eq,<-hs.length,List.length_map,Array.length_toList]
 refine sorted_walked (collect_set (by simpa using I.ok.hd hc) ⟨o,e,ex.1,d⟩ f hl hp (by rw[ln];unfold scanBound;omega) fun h' d' tk vs k pv=>?_);obtain⟨ts,y1,y2⟩:=strs_perm hs pv;exact sorts_to I k y1 (y2.trans pm) few q
end
end L2
namespace L2
open PySem
end L2
namespace L2
open PySem PySem.Spec PyProof.Rows
section
variable {X:Cx}
theorem op_neE (hu:X.A.units+1<cLine):OpR X (compareOp .NotEq) (rEqE X.K true):=by
 intro pins s σ H x y v u Q I rx ry h;obtain⟨a,b,xs,rfl,rfl,h1,h2,q⟩:=h;cases rx;cases ry;obtain⟨its,r1,p1,_⟩:=I.list h1;obtain⟨its2,r2,p2,_⟩:=I.list h2;cases r2;cases r1 with
 |nil=>
  exact SeqAt.RcNeAt.lists (A:=X.A) (s:=s) (e:=fun _=>true) p1.isList p2.isList rfl (by omega) (fun j g1 g2=>absurd g1 (by simp)) _ _ _ _ ⟨.bl _,H,I,rfl,q⟩
 |cons r rr=>
  exact SeqAt.RcNeAt.lists_lengths p1.isList p2.isList (by simp) (by omega) _ _ _ _ ⟨.bl _,H,I,rfl,q⟩
end
end L2
namespace L2
section
open PySem PySem.Calls PyProof.Rows
variable {prog:Program}{w:World}{A:Around}{E:Value->Shared->Prop}{s:Shared}{it d:Addr}{i ep:Nat}{es:Array DictEntry}
def Ents (h:Heap)(d:Addr)(es:Array DictEntry)(ep:Nat):Prop:=∃o,h.get? d=some o/\o.ExactDict/\o.data=.dict es ep
theorem Ents.ty (x:Ents s.heap d es ep):s.TypeIs (.ref d) "dict":=let⟨o,ho,hc,_⟩:=x;⟨o,ho,hc.1⟩
theorem Ents.at {h h':Heap}(x:Ents h d es ep)(k:∀o,h.get? d=some o->h'.get? d=some o):Ents h' d es ep:=let⟨o,ho,r⟩:=x;⟨o,k o ho,r⟩
end
end L2
namespace L2
section
open PySem PySem.Spec PyProof.Rows PySem.Calls
variable {X:Cx}
def maxZ:List Int->Int
 |[]=>0
 |x::l=>l.foldl (fun a b=>if a<b then b else a) x
theorem maxZ_snoc {l:List Int}(h:l≠[])(x:Int):maxZ (l++[x])=if maxZ l<x then x else maxZ l:=by
 cases l with
 |nil=>exact absurd rfl h
 |cons y l=>
  show(l++[x]).foldl (fun a b=>if a<b then b else a) y=_;rw[List.foldl_append];rfl
theorem maxZ_best (ns:List Int):∀k,k<ns.length->argBest (fun i j=>decide (ns.getD j 0<ns.getD i 0)) k<ns.length/\maxZ (ns.take (k+1))=ns.getD (argBest (fun i j=>decide (ns.getD j 0<ns.getD i 0)) k) 0
 |0,h=>by
  cases ns with
  |nil=>exact absurd h (Nat.not_lt_zero _)
  |cons x l=>exact⟨h,rfl⟩
 |k+1,h=>by
  obtain⟨h1,h2⟩:=maxZ_best ns k (by omega);have e:ns.take (k+1+1)=ns.take (k+1)++[ns.getD (k+1) 0]:=by
   rw[List.take_add_one,List.getD_eq_getElem?_getD,List.getElem?_eq_getElem h];rfl
  have ne:ns.take (k+1)≠[]:=fun z=>by
   have:=congrArg List.length z;rw[List.length_take,List.length_nil] at this;omega
  rw[e,maxZ_snoc ne,h2];show(if decide (_<_)=true then k+1 else _)<_/\_=ns.getD (if decide (_<_)=true then k+1 else _) 0
  by_cases q:ns.getD (argBest (fun i j=>decide (ns.getD j 0<ns.getD i 0)) k) 0<ns.getD (k+1) 0
  ·rw[if_pos q,if_pos (decide_eq_true q)];exact⟨h,rfl⟩
  ·rw[if_neg q,if_neg (by rw[decide_eq_false q];exact Bool.false_ne_true)];exact⟨h1,rfl⟩
theorem ints_nth:∀{its:List Value} {ns:List Int},IntsAre its ns->∀{i:Nat} {v:Value},its[i]?=some v->∃t,v=Value.int (ns.getD i 0) t
 |_,_,.nil,i,v,h=>by simp at h
 |_,_,.cons n t r,0,v,h=>by simp at h;exact⟨t,h.symm⟩
 |_,_,.cons n t r,i+1,v,h=>ints_nth r (by simpa using h)
end
end L2
namespace L2
section
open PySem PySem.Calls PyProof.Rows
variable {prog:Program}{w:World}{A:Around}{E:Value->Shared->Prop}{s:Shared}
theorem du_entry:entryFor table "dict.update.loop"=some Builtin.«dict.update.loop»:=entryFor_of_tree (by kernel_rfl)
theorem du_plain:plainId "dict.update.loop"=true:=by decide +kernel
theorem keys_miss:typeLookup (.type "list") "keys"=pure none:=by rw[typeLookup_type,builtinLookup_eq_fast];kernel_rfl
theorem list_no_keys {a:Addr} {xs:Array Value} {k:Nat} {sl:Array (Option Value)} {Q:Option Value->Shared->Prop} (hx:s.heap.get? a=some { cls:=.type "list",dict:=none,data:=.seq xs k,slots:=sl }) (hA:A.handled=none)
  (h:∀h' tk,(∀b o,s.heap.get? b=some o->h'.get? b=some o)->Q none { s with heap:=h',toks:=tk }):wpAny (model prog w) A (getAttr? (.ref a) "keys") Q E s:=by
 obtain⟨hp,g,d,tk,os⟩:=s;have hT:∀tk',(⟨hp,g,d,tk',os⟩:Shared).TypeIs (.ref a) "list":=fun _=>⟨_,hx,rfl⟩
 have f1:=sub_AttributeError;have f3:=F.slot_list_getattribute.lookup;have f4:=F.slot_list_getattribute.bind (.ref a);have f5:=am_list_getattr_none;unfold getAttr? getAttrBy? getAttrBy
 repeat (any_goals (first|assumption|exact hT _|((with_reducible show wpAny _ _ (call (Value.builtin "list.__getattribute__") _ _) _ _ _);refine call_meets F.slot_list_getattribute (hT _) am_entry_list_getattribute (F.args_list_getattribute_2 _ _) (meets_getattribute_miss_list a xs k sl "keys" _ keys_miss (by decide +kernel) (by decide +kernel)) ⟨hx,hA,fun h' tk' e hx'=>?_⟩)|wp_step))
 obtain⟨t',u',he⟩:=hx'.there;show wpAny _ _ (getattributeRaised _ _ _ _ _ _ _) _ _ _;unfold getattributeRaised
 repeat (any_goals (first|assumption|wp_step))
 exact h _ _ fun b o e=>hx'.keeps b o e
theorem pair_items {t:Addr}{k v:Value}{Q:List Value->Shared->Prop}(ht:IsTup s.heap t #[k,v])(h:Q [k,v] s):wpAny (model prog w) A (Builtin.Dict.pairItems (.ref t)) Q E s:=by
 obtain⟨o,ho,hc,n,hd⟩:=ht;have hT:s.TypeIs (.ref t) "tuple":=⟨o,ho,hc⟩
 unfold Builtin.Dict.pairItems;refine wpAny_bind (wpAny_typeOf hT ?_);rw[if_pos (by decide)];refine wpAny_bind (m:=seqItems? (.ref t)) ?_;unfold seqItems?;refine wpAny_bind (wpAny_load ho ?_);rw[hd];exact wpAny_pure (wpAny_pure h)
theorem dict_loop {R:Result->Shared->Prop} {I d:Addr} {fp:List Addr} {vs:List Value} {St:Nat->Heap->Prop} {D:Nat->Heap->Prop} {h0:Heap} (W:Walks prog w A.in1 I fp [I] vs.length (fun i v=>vs[i]?=some v) St) (nd:d∉fp)
  (hI:h0.get? I=none) (hd0:h0.get? d=none) (keep:∀i h h',D i h->(∀o,h.get? d=some o->h'.get? d=some o)->D i h')
  (pr:∀i v,vs[i]?=some v->∃t x y,v=.ref t/\IsTup h0 t #[x,y]/\∀(s:Shared) (Q:Unit->Shared->Prop) (E:Value->Shared->Prop),(∀b o,h0.get? b=some o->s.heap.get? b=some o)->D i s.heap->(∀h' tk,D (i+1) h'->Heap.SameBut d s.heap h'->Q () { s with heap:=h',toks:=tk })->wpAny (model prog w) A.in1 (dictSet d x y) Q E s) :
  ∀(k i:Nat) (s:Shared),vs.length-i=k->i<=vs.length->(∀b o,h0.get? b=some o->s.heap.get? b=some o)->St i s.heap->D i s.heap->
   (∀h' tk,(∀b o,b∉[d,I]->s.heap.get? b=some o->h'.get? b=some o)->D vs.length h'->R (.ok (.ret .none)) { s with heap:=h',toks:=tk })->codeAny (model prog w) A (.builtin "dict.update.loop" ⟨[.ref d,.ref I,rawInt i,.none],[]⟩) R s:=by
 have nI:d∉[I]:=fun z=>nd (W.sub _ z)
 intro k
 induction k with
 |zero=>
  intro i s hk hi old st T q;have e:i=vs.length:=by omega
  subst e;refine codeAny_builtin du_entry ?_;rw[Around.under_plainId du_plain _];refine wpAny_bind (m:=pyNext (.ref I)) (W.done s _ _ st fun h' tk k'=>?_);refine wpAny_bind (m:=Builtin.Dict.addKeywords d []) (wpAny_pure (wpAny_pure ?_));exact q h' tk (fun b o n e=>k' b o (fun z=>n (List.mem_cons_of_mem _ z)) e) (keep _ _ _ T fun o e=>k' d o nI e)
 |succ k ih=>
  intro i s hk hi old st T q;have lt:i<vs.length:=by omega
  refine codeAny_builtin du_entry ?_;rw[Around.under_plainId du_plain _];refine wpAny_bind (m:=pyNext (.ref I)) (W.item i s _ _ lt st fun v h' tk hv st' k'=>?_);obtain⟨t,x,y,rfl,ht,step⟩:=pr i v hv;have old':∀b o,h0.get? b=some o->h'.get? b=some o:=fun b o e=>k' b o (fun z=>by rw[List.mem_singleton.mp z,hI] at e;cases e) (old b o e)
  refine wpAny_bind (wpAny_holding (wpAny_bind (wpAny_tryCatch (pair_items (s:={ s with heap:=h',toks:=tk }) (ht.keeps old') ?_))));refine wpAny_holding (step _ _ _ old' (keep _ _ _ T fun o e=>k' d o nI e) fun h2 tk2 T2 sb=>?_);refine wpAny_pure ⟨plainId_quiet du_plain _,ih (i+1) _ (by omega) lt (fun b o e=>?_) (W.frame _ _ _ st' fun b hb o e=>?_) T2 fun h3 tk3 k3 T3=>?_⟩
  ·rw[sb.2 b (fun z=>by rw[z,hd0] at e;cases e)];exact old' b o e
  ·rw[sb.2 b (fun z=>nd (z▸hb))];exact e
  ·refine q h3 tk3 (fun b o n e=>k3 b o n ?_) T3;rw[sb.2 b (fun z=>n (by simp[z]))];exact k' b o (fun z=>n (List.mem_cons_of_mem _ z)) e
theorem dict_call {l:Addr} {vs:List Value} {D:Nat->Heap->Prop} {Q:Value->Shared->Prop} (hh:A.handled=none) (hl:∃n sl,s.heap.get? l=some { cls:=.type "list",dict:=none,data:=.seq vs.toArray n,slots:=sl })
  (keep:∀i h h',D i h->(∀o,h.get? s.heap.objs.size=some o->h'.get? s.heap.objs.size=some o)->D i h')
  (d0:∀h:Heap,h.get? s.heap.objs.size=some { cls:=.type "dict",data:=.dict #[] }->D 0 h)
  (pr:∀i v,vs[i]?=some v->∃t x y,v=.ref t/\IsTup s.heap t #[x,y]/\∀(s1:Shared) (Q:Unit->Shared->Prop) (E:Value->Shared->Prop),(∀b o,s.heap.get? b=some o->s1.heap.get? b=some o)->D i s1.heap->(∀h' tk,D (i+1) h'->Heap.SameBut s.heap.objs.size s1.heap h'->Q () { s1 with heap:=h',toks:=tk })->wpAny (model prog w) A.in1.in1 (dictSet s.heap.objs.size x y) Q E s1)
  (q:∀h' tk,(∀b o,s.heap.get? b=some o->h'.get? b=some o)->D vs.length h'->Q (.ref s.heap.objs.size) { s with heap:=h',toks:=tk }):wpAny (model prog w) A (call (.type "dict") [.ref l]) Q E s:=by
 obtain⟨n,sl,el⟩:=hl;have lt:l<s.heap.objs.size:=Heap.lt_size el;refine callType_codes (Q₁:=fun obj s₁=>obj=.ref s.heap.objs.size/\s₁={ s with heap:=s.heap.push { cls:=.type "dict",data:=.dict #[] } }) PySem.F.kt_called_dict (PySem.F.kt_typeCall_dict_1 _) PySem.F.entry_dict_init (kt_code_dict_new _ ⟨rfl,rfl⟩) ?_
 rintro obj s₁ ⟨rfl,rfl⟩
 have hS:(s.heap.push { cls:=.type "dict",data:=.dict #[] }).get? s.heap.objs.size=some { cls:=.type "dict",data:=.dict #[] }:=Heap.get?_push_size _ rfl;have hT:Shared.TypeIs { s with heap:=s.heap.push { cls:=.type "dict",data:=.dict #[] } } (.ref s.heap.objs.size) "dict":=⟨_,hS,rfl⟩
 have el':=Heap.get?_push_of_some ({ cls:=.type "dict",data:=.dict #[] }:Obj) el;refine⟨hT,PySem.F.args_dict_init_2 _ _,?_⟩;unfold Builtin.«dict.__init__»;refine wpAny_bind ?_;unfold Builtin.Dict.selfAndRest;refine wpAny_bind (wpAny_notOrdered_dict hT ?_);show wpAny _ _ (pure (s.heap.objs.size,[Value.ref l])) _ _ _;refine wpAny_pure ?_;show wpAny _ _ (Builtin.Dict.updateFrom "dict.__init__" s.heap.objs.size (.ref l) [] .none) _ _ _;unfold Builtin.Dict.updateFrom;refine wpAny_bind (wpAny_typeOf (T:="list") ⟨_,el',rfl⟩ ?_);rw[if_pos (by decide)];refine wpAny_bind (list_no_keys (s:={ s with heap:=s.heap.push { cls:=.type "dict",data:=.dict #[] } }) el' (by simp[hh]) fun h1 tk1 k1=>?_);rw[if_pos (show(none:Option Value).isNone=true from rfl)];refine wpAny_bind (wpAny_rule ?_);have el1:=k1 _ _ el';have l1:h1.IsList l vs.toArray:=⟨_,el1,rfl,_,rfl⟩
 refine wpAny_bind (wpAny_pyIter_list (s:={ s with heap:=h1,toks:=tk1 }) l1 ?_);have g1:s.heap.objs.size+1<=h1.objs.size:=Heap.lt_size (k1 _ _ hS);have nI:l≠h1.objs.size:=Nat.ne_of_lt (Nat.lt_of_lt_of_le lt (Nat.le_of_succ_le g1));have W:=Walks.list (prog:=prog) (w:=w) (A:=A.in1.in1) (by simp[hh]) h1.objs.size l nI vs.toArray;have W2:Walks prog w A.in1.in1 h1.objs.size [h1.objs.size,l] [h1.objs.size] vs.length (fun i v=>vs[i]?=some v) (fun i h=>h.IsListIter h1.objs.size l i/\h.IsList l vs.toArray):=by
  simpa only [List.size_toArray,List.getElem?_toArray] using W
 have old1:∀b o,s.heap.get? b=some o->h1.get? b=some o:=fun b o e=>k1 b o (Heap.get?_push_of_some _ e)
 refine wpAny_pure ⟨plainId_quiet du_plain _,dict_loop (h0:=s.heap) (D:=D) W2 ?_ (Heap.get?_none_of_le (by omega)) (Heap.get?_none_of_le (Nat.le_refl _)) keep pr vs.length 0 _ (by omega) (Nat.zero_le _) (fun b o e=>Heap.get?_push_of_some _ (old1 b o e)) ⟨⟨_,Heap.get?_push_size _ rfl,rfl,rfl⟩,l1.push _⟩ (d0 _ (Heap.get?_push_of_some _ (k1 _ _ hS))) fun h' tk k' T=>⟨rfl,q h' tk (fun b o e=>k' b o (fun z=>?_) (Heap.get?_push_of_some _ (old1 b o e))) T⟩⟩
 ·simp only[List.mem_cons,List.not_mem_nil,or_false,not_or];exact⟨Nat.ne_of_lt (by omega),Nat.ne_of_gt lt⟩
 ·have lb:=Heap.lt_size e;simp only[List.mem_cons,List.not_mem_nil,or_false] at z;rcases z with rfl|rfl
  ·exact absurd lb (Nat.lt_irrefl _)
  ·exact absurd lb (Nat.not_lt.mpr (Nat.le_of_succ_le g1))
open PySem.Spec
theorem refs_at:∀{ps:List Addr} {its:List Value},Vals (ps.map V.ref) its->∀(i:Nat) v,its[i]?=some v->∃t,ps[i]?=some t/\v=.ref t
 |[],_,.nil,i,v,e=>by simp at e
 |t::ps,_,.cons r h,0,v,e=>⟨t,rfl,by cases r;simpa using e.symm⟩
 |t::ps,_,.cons r h,i+1,v,e=>by
  obtain⟨t',a,b⟩:=refs_at h i v (by simpa using e);exact⟨t',by simpa using a,b⟩
theorem paired_mem {α β:Type}{F:α->β->Prop}:∀{l:List α} {m:List β},Paired F l m->∀{y:β},y∈m->∃x,x∈l/\F x y
 |_,_,.nil,_,h=>nomatch h
 |_,_,.cons r t,y,h=>by
  rcases List.mem_cons.mp h with rfl|h
  ·exact⟨_,List.mem_cons_self,r⟩
  ·obtain⟨x,a,b⟩:=paired_mem t h;exact⟨x,List.mem_cons_of_mem _ a,b⟩
end
end L2
namespace L2
section
open PySem PySem.W PyProof.Rows
variable {n:Nat}{lt:Nat->Nat->Bool}{cmp:Nat->Nat->(Bool->Shared->Prop)->Shared->Prop}{s:Shared}
structure Ordr (n:Nat) (lt:Nat->Nat->Bool) (cmp:Nat->Nat->(Bool->Shared->Prop)->Shared->Prop) (s:Shared):Prop where
 ask:∀(i j:Nat) (C:Bool->Shared->Prop),i<n->j<n->i≠j->C (lt i j) s->cmp i j C s
 tr:∀i j k,i<n->j<n->k<n->lt i j=true->lt j k=true->lt i k=true
 tot:∀i j,i<n->j<n->i≠j->lt i j=false->lt j i=true
def Pmn (n:Nat)(p:Array Nat):Prop:=p.size=n/\p.toList.Perm (List.range n)
theorem Pmn.lo {p:Array Nat}(h:Pmn n p){i:Nat}(hi:i<n):p.getD i 0<n:=by
 have hs:i<p.size:=by rw[h.1];exact hi
 have e:p.getD i 0=p[i]:=by simp[Array.getD,hs]
 rw[e];exact List.mem_range.mp (h.2.mem_iff.mp (by simp))
theorem Pmn.ne {p:Array Nat}(h:Pmn n p){i j:Nat}(hi:i<n)(hj:j<n)(hij:i≠j):p.getD i 0≠p.getD j 0:=by
 have hs:i<p.size:=by rw[h.1];exact hi
 have ht:j<p.size:=by rw[h.1];exact hj
 have nd:p.toList.Nodup:=h.2.nodup_iff.mpr List.nodup_range;have e1:p.getD i 0=p.toList[i]'(by simpa using hs):=by simp[Array.getD,hs]
 have e2:p.getD j 0=p.toList[j]'(by simpa using ht):=by simp[Array.getD,ht]
 rw[e1,e2];intro z;have pw:=List.pairwise_iff_getElem.mp nd;rcases Nat.lt_or_gt_of_ne hij with g|g
 ·exact pw i j (by simpa using hs) (by simpa using ht) g z
 ·exact pw j i (by simpa using ht) (by simpa using hs) g z.symm
def UpTo (lt:Nat->Nat->Bool)(p:Array Nat)(k:Nat):Prop:=∀i j,i<j->j<k->lt (p.getD i 0) (p.getD j 0)=true
def DnTo (lt:Nat->Nat->Bool)(p:Array Nat)(k:Nat):Prop:=∀i j,i<j->j<k->lt (p.getD j 0) (p.getD i 0)=true
theorem asc_wp (O:Ordr n lt cmp s){p:Array Nat}(hp:Pmn n p){G:Nat->Shared->Prop}:∀(f m:Nat),1<=m->m+f<=n->UpTo lt p m->
  (∀m',m<=m'->m'<=m+f->UpTo lt p m'->(m'=m+f\/lt (p.getD m' 0) (p.getD (m'-1) 0)=true)->G m' s)->(kas_asc p f m).kasWp cmp G s
 |0,m,_,_,up,h=>h m (Nat.le_refl _) (Nat.le_refl _) up (.inl rfl)
 |f+1,m,h1,h2,up,h=>by
  refine O.ask _ _ _ (hp.lo (by omega)) (hp.lo (by omega)) (hp.ne (by omega) (by omega) (by omega)) ?_;cases hl:lt (p.getD m 0) (p.getD (m-1) 0) with
  |true=>exact h m (Nat.le_refl _) (by omega) up (.inr hl)
  |false=>
   have hl':=O.tot _ _ (hp.lo (by omega)) (hp.lo (by omega)) (hp.ne (by omega) (by omega) (by omega)) hl;show(kas_asc p f (m+1)).kasWp cmp G s;refine asc_wp O hp f (m+1) (by omega) (by omega) (fun i j hij hj=>?_) fun m' a b c d=>h m' (by omega) (by omega) c (d.imp (by omega) id)
   by_cases e:j=m
   ·subst e
    by_cases e2:i=j-1
    ·rw[e2];exact hl'
    ·exact O.tr _ _ _ (hp.lo (by omega)) (hp.lo (by omega)) (hp.lo (by omega)) (up i (j-1) (by omega) (by omega)) hl'
   ·exact up i j hij (by omega)
theorem desc_wp (O:Ordr n lt cmp s){p:Array Nat}(hp:Pmn n p){G:Array Nat×Nat×Nat->Shared->Prop}:∀(f m:Nat),1<=m->m+f<=n->DnTo lt p m->
  (∀m',m<=m'->m'<=m+f->DnTo lt p m'->G (p,m',0) s)->(kas_desc f p m 0).kasWp cmp G s
 |0,m,_,_,dn,h=>h m (Nat.le_refl _) (Nat.le_refl _) dn
 |f+1,m,h1,h2,dn,h=>by
  refine O.ask _ _ _ (hp.lo (by omega)) (hp.lo (by omega)) (hp.ne (by omega) (by omega) (by omega)) ?_;cases hl:lt (p.getD m 0) (p.getD (m-1) 0) with
  |true=>
   show(kas_desc f p (m+1) 0).kasWp cmp G s;refine desc_wp O hp f (m+1) (by omega) (by omega) (fun i j hij hj=>?_) fun m' a b c=>h m' (by omega) (by omega) c
   by_cases e:j=m
   ·subst e
    by_cases e2:i=j-1
    ·rw[e2];exact hl
    ·exact O.tr _ _ _ (hp.lo (by omega)) (hp.lo (by omega)) (hp.lo (by omega)) hl (dn i (j-1) (by omega) (by omega))
   ·exact dn i j hij (by omega)
  |false=>
   have hl':=O.tot _ _ (hp.lo (by omega)) (hp.lo (by omega)) (hp.ne (by omega) (by omega) (by omega)) hl;refine O.ask _ _ _ (hp.lo (by omega)) (hp.lo (by omega)) (hp.ne (by omega) (by omega) (by omega)) ?_;rw[hl'];exact h m (Nat.le_refl _) (by omega) dn
theorem getD_opt (p:Array Nat)(i:Nat):p.getD i 0=(p[i]?).getD 0:=by
 by_cases h:i<p.size
 ·simp[Array.getD,h]
 ·simp[Array.getD,h]
theorem rev_at {p:Array Nat}{m:Nat}(hm:m<=p.size)(k:Nat):(kas_rev p 0 m).getD k 0=if k<m then p.getD (m-1-k) 0 else p.getD k 0:=by
 rw[getD_opt];unfold kas_rev;rw[getElem?_mirror_all hm]
 by_cases h:k<m
 ·rw[if_pos ⟨Nat.zero_le _,h⟩,if_pos h,getD_opt,Nat.zero_add]
 ·rw[if_neg (fun z=>h z.2),if_neg h,getD_opt]
theorem rev_pmn {p:Array Nat}(hp:Pmn n p)(m:Nat):Pmn n (kas_rev p 0 m):=⟨(mirror_size ..).trans hp.1,(Array.perm_iff_toList_perm.mp (mirror_perm ..)).trans hp.2⟩
theorem tail3_wp (O:Ordr n lt cmp s) {p:Array Nat} (hp:Pmn n p) {m:Nat} (h1:1<=m) (hm:m<=n) (dn:DnTo lt p m) {G:Nat×Array Nat->Shared->Prop}
  (h:∀m' p',Pmn n p'->UpTo lt p' m'->1<=m'->m'<=n->G (m',p') s):(kas_tail3 m n p).kasWp cmp G s:=by
 unfold kas_tail3;rw[KasT.kasWp_bind];have hr:=rev_pmn hp m;refine asc_wp O hr (n-m) m h1 (by omega) (fun i j hij hj=>?_) fun m' a b c _=>h m' _ hr c (by omega) (by omega)
 rw[rev_at (by rw[hp.1];exact hm),rev_at (by rw[hp.1];exact hm),if_pos (by omega),if_pos hj];exact dn _ _ (by omega) (by omega)
theorem count_wp (O:Ordr n lt cmp s) (hn:1<=n) {p:Array Nat} (hp:Pmn n p) {G:Nat×Array Nat->Shared->Prop}
  (h:∀m' p',Pmn n p'->UpTo lt p' m'->1<=m'->m'<=n->G (m',p') s):(kas_count n p).kasWp cmp G s:=by
 unfold kas_count;rw[KasT.kasWp_bind];refine asc_wp O hp (n-1) 1 (Nat.le_refl _) (by omega) (fun i j hij hj=>by omega) fun m a b up d=>?_
 by_cases e:m=n
 ·subst e;rw[if_pos (by simp)];exact h _ _ hp up a (Nat.le_refl _)
 ·rw[if_neg (by simpa using e)]
  by_cases g:m>1
  ·rw[if_pos g];refine O.ask _ _ _ (hp.lo (by omega)) (hp.lo (by omega)) (hp.ne (by omega) (by omega) (by omega)) ?_;rw[up 0 (m-1) (by omega) (by omega)];exact h _ _ hp up a (by omega)
  ·rw[if_neg g];have e1:m=1:=by omega
   subst e1;have hl:=d.resolve_left (by omega);unfold kas_descPart;rw[KasT.kasWp_bind];refine desc_wp O hp (n-(1+1)) (1+1) (by omega) (by omega) (fun i j hij hj=>?_) fun m' a' b' dn=>?_
   ·obtain⟨rfl,rfl⟩:i=0/\j=1:=by omega
    exact hl
   ·rw[if_neg (by simp)];exact tail3_wp O hp (by omega) (by omega) dn h
theorem place_wp (O:Ordr n lt cmp s) {p:Array Nat} (hp:Pmn n p) {k:Nat} (hk:k<n) (up:UpTo lt p k) {G:Nat->Shared->Prop}
  (h:∀l,l<=k->(∀i,i<l->lt (p.getD i 0) (p.getD k 0)=true)->(∀i,l<=i->i<k->lt (p.getD k 0) (p.getD i 0)=true)->G l s) :
  ∀(f l r:Nat),l<=r->r<=k->r-l<=f->(∀i,i<l->lt (p.getD i 0) (p.getD k 0)=true)->(∀i,r<=i->i<k->lt (p.getD k 0) (p.getD i 0)=true)->(kas_place p k f l r).kasWp cmp G s
 |0,l,r,h1,h2,h3,a,b=>h l (by omega) a fun i hi=>b i (by omega)
 |f+1,l,r,h1,h2,h3,a,b=>by
  unfold kas_place
  by_cases g:l≥r
  ·rw[if_pos g];exact h l (by omega) a fun i hi=>b i (by omega)
  ·rw[if_neg g];refine O.ask _ _ _ (hp.lo hk) (hp.lo (by omega)) (hp.ne hk (by omega) (by omega)) ?_;cases hl:lt (p.getD k 0) (p.getD ((l+r)/2) 0) with
   |true=>
    show(kas_place p k f l ((l+r)/2)).kasWp cmp G s;refine place_wp O hp hk up h f l ((l+r)/2) (by omega) (by omega) (by omega) a fun i hi hik=>?_
    by_cases e:i=(l+r)/2
    ·rw[e];exact hl
    ·exact O.tr _ _ _ (hp.lo hk) (hp.lo (by omega)) (hp.lo (by omega)) hl (up _ _ (by omega) hik)
   |false=>
    have hl':=O.tot _ _ (hp.lo hk) (hp.lo (by omega)) (hp.ne hk (by omega) (by omega)) hl;show(kas_place p k f ((l+r)/2+1) r).kasWp cmp G s;refine place_wp O hp hk up h f ((l+r)/2+1) r (by omega) (by omega) (by omega) (fun i hi=>?_) b
    by_cases e:i=(l+r)/2
    ·rw[e];exact hl'
    ·exact O.tr _ _ _ (hp.lo (by omega)) (hp.lo (by omega)) (hp.lo hk) (up _ _ (by omega) (by omega)) hl'
theorem bub_at {p:Array Nat}{k l:Nat}(hk:k<p.size)(hl:l<=k)(i:Nat):(bubble p k (k-l)).getD i 0=if i=l then p.getD k 0 else if l<i/\i<=k then p.getD (i-1) 0 else p.getD i 0:=by
 rw[getD_opt,getElem?_bubble hk _ (by omega),show k-(k-l)=l by omega]
 by_cases h:i=l
 ·rw[if_pos h,if_pos h,getD_opt]
 ·rw[if_neg h,if_neg h]
  by_cases g:l<i/\i<=k
  ·rw[if_pos g,if_pos g,getD_opt]
  ·rw[if_neg g,if_neg g,getD_opt]
theorem bin_wp (O:Ordr n lt cmp s){G:Array Nat->Shared->Prop}(h:∀p,Pmn n p->UpTo lt p n->G p s):∀(f:Nat) (p:Array Nat) (k:Nat),k+f=n->Pmn n p->UpTo lt p k->(kas_bin f p k).kasWp cmp G s
 |0,p,k,e,hp,up=>h p hp (by rw[<-e];exact up)
 |f+1,p,k,e,hp,up=>by
  unfold kas_bin;rw[KasT.kasWp_bind];refine place_wp O hp (by omega) up (fun l hl a b=>?_) k 0 k (Nat.zero_le _) (Nat.le_refl _) (by omega) (fun i hi=>by omega) (fun i h1 h2=>by omega);have hs:k<p.size:=by rw[hp.1];omega
  refine bin_wp O h f _ (k+1) (by omega) ⟨(bubble_size ..).trans hp.1,(Array.perm_iff_toList_perm.mp (bubble_perm ..)).trans hp.2⟩ fun i j hij hj=>?_
  rw[bub_at hs hl,bub_at hs hl]
  by_cases i1:i=l
  ·rw[if_pos i1,if_neg (by omega),if_pos (by omega)];exact b _ (by omega) (by omega)
  ·rw[if_neg i1]
   by_cases j1:j=l
   ·rw[if_neg (by omega),if_pos j1];exact a _ (by omega)
   ·rw[if_neg j1]
    by_cases i2:l<i/\i<=k
    ·rw[if_pos i2,if_pos (by omega)];exact up _ _ (by omega) (by omega)
    ·rw[if_neg i2]
     by_cases j2:l<j/\j<=k
     ·rw[if_pos j2];exact up _ _ (by omega) (by omega)
     ·rw[if_neg j2];exact up _ _ (by omega) (by omega)
theorem sort_wp (O:Ordr n lt cmp s)(hn:1<=n){G:Array Nat->Shared->Prop}(h:∀p,Pmn n p->UpTo lt p n->G p s):(kas_sort n).kasWp cmp G s:=by
 unfold kas_sort;rw[KasT.kasWp_bind];refine count_wp O hn ⟨by simp,by simp⟩ fun m p hp up h1 h2=>?_
 by_cases e:m<n
 ·rw[if_pos e];exact bin_wp O h _ _ _ (by omega) hp (by rw[show max m 1=m by omega];exact up)
 ·rw[if_neg e];obtain rfl:m=n:=by omega
  exact h p hp up
end
end L2
namespace L2
section
open PySem PySem.W PySem.Calls PyProof.Rows
variable {prog:Program}{w:World}{A:Around}{E:Value->Shared->Prop}{s:Shared}
def outBy (vs:List Value)(p:Array Nat):List Value:=p.toList.map fun i=>vs.getD i Value.none
theorem outBy_range (vs:List Value):outBy vs (List.range vs.length).toArray=vs:=by
 unfold outBy;refine List.ext_getElem? fun i=>?_
 rw[List.getElem?_map]
 by_cases h:i<vs.length
 ·simp[h]
 ·simp[h]
theorem sort_by {a:Addr} {vs:List Value} {n:Nat} {lt:Nat->Nat->Bool} {P:PySem.Fin->Shared->Prop} (ho:s.heap.get? a=some (seqObj "list" vs.toArray n)) (few:vs.length<64)
  (hk:∀h',(∀b o,b≠a->s.heap.get? b=some o->h'.get? b=some o)->2<=vs.length->wpAny (model prog w) A (keyKind' vs.toArray) (fun κ s'=>s'={ s with heap:=h' }/\Ordr vs.length lt (kas_ask prog w A κ vs) s') (fun _ _=>False) { s with heap:=h' })
  (h:∀p,Pmn vs.length p->UpTo lt p vs.length->P (.done (.ret .none)) { s with heap:=sortedHeap s.heap a vs (outBy vs p).toArray }) :
  wpAny (model prog w) A (Builtin.«list.sort» ⟨[.ref a],[]⟩) P E s:=by
 rw[list_sort_plain];have ha:a<s.heap.objs.size:=Heap.lt_size ho;refine wpAny_bind (listItems_at ho rfl (wpAny_bind (listUpdate_at ho rfl ?_)));obtain⟨e1,h1⟩:∃e,(s.heap.update a (Obj.mapSeq fun _=>#[])).get? a=some (seqObj "list" #[] e):=⟨_,get?_update_seq ho (fun _=>#[])⟩
 refine wpAny_bind (seqEpoch_at h1 rfl (wpAny_bind (wpAny_newTuple (wpAny_bind (wpAny_newList (wpAny_holding ?_))))));have n1:a≠(s.heap.update a (Obj.mapSeq fun _=>#[])).objs.size:=by rw[Heap.size_update];exact Nat.ne_of_lt ha
 have n2:a≠((s.heap.update a (Obj.mapSeq fun _=>#[])).push (seqObj "tuple" vs.toArray 0)).objs.size:=by rw[Heap.size_push,Heap.size_update];exact Nat.ne_of_lt (Nat.lt_succ_of_lt ha)
 have h2:(((s.heap.update a (Obj.mapSeq fun _=>#[])).push (seqObj "tuple" vs.toArray 0)).push (seqObj "list" #[] 0)).get? a=some (seqObj "list" #[] e1):=by
  rw[Heap.get?_push_ne _ _ _ n2,Heap.get?_push_ne _ _ _ n1];exact h1
 have old:∀b o,b≠a->s.heap.get? b=some o->(((s.heap.update a (Obj.mapSeq fun _=>#[])).push (seqObj "tuple" vs.toArray 0)).push (seqObj "list" #[] 0)).get? b=some o:=fun b o nb e=>
  Heap.get?_push_of_some _ (Heap.get?_push_of_some _ ((Heap.get?_update_other _ _ (Ne.symm nb)).trans e))
 show wpAny (model prog w) A _ P E { s with heap:=((s.heap.update a (Obj.mapSeq fun _=>#[])).push (seqObj "tuple" vs.toArray 0)).push (seqObj "list" #[] 0) };dsimp only;have ez:vs.toArray.size=vs.length:=by simp
 by_cases hs2:vs.toArray.size<2
 ·rw[if_pos hs2,if_pos hs2];refine wpAny_bind (wpAny_pure ?_);rw[StateT.run_pure];refine wpAny_bind (wpAny_pure ?_);dsimp only;refine wpAny_bind (seqEpoch_at h2 rfl (wpAny_bind (listUpdate_at h2 rfl ?_ (hsz2:=?_))))
  ·simp only[bne_self_eq_false,Bool.false_eq_true,if_false];have hq:=h (List.range vs.length).toArray ⟨by simp,by simp⟩ (fun i j hij hj=>by omega);rw[outBy_range] at hq;have e:(vs.toArray.zip vs.toArray).map (·.2)=vs.toArray:=by
    apply Array.toList_inj.mp;simp;exact List.map_snd_zip (Nat.le_refl _)
   refine wpAny_pure ?_;show P _ { s with heap:=sortedHeap s.heap a vs ((vs.toArray.zip vs.toArray).map (·.2)) };rw[e];exact hq
  ·show((vs.toArray.zip vs.toArray).map (·.2)).size<=_;rw[Array.size_map];simp;rw[sizeLine_eq];omega
 ·rw[if_neg hs2,if_neg hs2];refine wpAny_bind (wpAny_mono (hk _ old (by omega)) (fun κ s' hs'=>?_) fun _ _ z=>z.elim);obtain⟨rfl,O⟩:=hs';refine wpAny_bind (wpAny_mono (kat_run (ks:=vs) (E:=E) (Q:=fun st' s'=>s'={ s with heap:=((s.heap.update a (Obj.mapSeq fun _=>#[])).push (seqObj "tuple" vs.toArray 0)).push (seqObj "list" #[] 0) }/\∃p,Pmn vs.length p/\UpTo lt p vs.length/\(arrOf st').map (·.2)=(outBy vs p).toArray/\failedOf st'=none)
   (G:=fun p s'=>s'={ s with heap:=((s.heap.update a (Obj.mapSeq fun _=>#[])).push (seqObj "tuple" vs.toArray 0)).push (seqObj "list" #[] 0) }/\Pmn vs.length p/\UpTo lt p vs.length) rfl (by omega) few
   (fun p st' s' _ ea ef hg=>⟨hg.1,p,hg.2.1,hg.2.2,kat_snds rfl ea,ef⟩) (sort_wp O (by omega) fun p hp up=>⟨rfl,hp,up⟩)) (fun r s' hr=>?_) fun _ _ z=>z)
  obtain⟨⟨⟩,st'⟩:=r;obtain⟨rfl,p,hp,up,ea,ef⟩:=hr;dsimp only;refine wpAny_bind (seqEpoch_at h2 rfl (wpAny_bind (listUpdate_at h2 rfl ?_ (hsz2:=?_))))
  ·rw[ef];simp only[bne_self_eq_false,Bool.false_eq_true,if_false];rw[ea];exact wpAny_pure (h p hp up)
  ·rw[ea];unfold outBy;simp only[List.size_toArray,List.length_map,Array.length_toList,hp.1];rw[sizeLine_eq];omega
theorem ordr_texts {vs:List Value}{ss:List Str}(nd:ss.Nodup)(hl:vs.length=ss.length)(hv:∀(i:Nat) x,ss[i]?=some x->∃(a:Addr) (o:Obj) (t:Tok) (xs:Array Value) (n:Nat),vs[i]?=some (.ref a)/\s.heap.get? a=some o/\o.data=.seq xs n/\xs[0]?=some (.str x t)) :
  Ordr vs.length (fun i j=>decide ((ss.getD i ⟨#[]⟩).cps.toList<(ss.getD j ⟨#[]⟩).cps.toList)) (kas_ask prog w A (tuples' true) vs) s:=by
 have get:∀i,i<vs.length->ss[i]?=some (ss.getD i ⟨#[]⟩):=fun i hi=>by
  rw[hl] at hi;simp[hi]
 refine⟨fun i j C hi hj hij hC=>?_,fun i j k _ _ _ h1 h2=>?_,fun i j hi hj hij h1=>?_⟩
 ·obtain⟨a,o,t,xs,n,e1,e2,e3,e4⟩:=hv i _ (get i hi);obtain⟨a',o',t',xs',n',f1,f2,f3,f4⟩:=hv j _ (get j hj);have g1:vs.getD i Value.none=.ref a:=by simp[e1]
  have g2:vs.getD j Value.none=.ref a':=by simp[f1]
  unfold kas_ask;rw[g1,g2];have z1:0<xs.size:=(Array.getElem?_eq_some_iff.mp e4).1;have z2:0<xs'.size:=(Array.getElem?_eq_some_iff.mp f4).1;obtain⟨r,er⟩:∃r,xs.toList=.str (ss.getD i ⟨#[]⟩) t::r:=by
   cases hx:xs.toList with
   |nil=>rw[<-Array.length_toList,hx] at z1;exact absurd z1 (by simp)
   |cons y r=>
    have:=e4;rw[<-Array.getElem?_toList,hx] at this;exact⟨r,by rw[show y=_ from Option.some.inj this]⟩
  obtain⟨r',er'⟩:∃r,xs'.toList=.str (ss.getD j ⟨#[]⟩) t'::r:=by
   cases hx:xs'.toList with
   |nil=>rw[<-Array.length_toList,hx] at z2;exact absurd z2 (by simp)
   |cons y r=>
    have:=f4;rw[<-Array.getElem?_toList,hx] at this;exact⟨r,by rw[show y=_ from Option.some.inj this]⟩
  refine kat_lt e2 e3 f2 f3 ?_;rw[er,er',List.zip_cons_cons];refine kat_cons (eqBool_str ?_);have ne:((ss.getD i ⟨#[]⟩) == (ss.getD j ⟨#[]⟩))=false:=by
   rw[beq_eq_false_iff_ne];intro z;have hi':i<ss.length:=by omega
   have hj':j<ss.length:=by omega
   have pw:=List.pairwise_iff_getElem.mp nd;have z':ss[i]=ss[j]:=by simpa [hi',hj'] using z
   rcases Nat.lt_or_gt_of_ne hij with q|q
   ·exact pw i j hi' hj' q z'
   ·exact pw j i hj' hi' q z'.symm
  rw[ne];exact kat_no (oneLt_str hC)
 ·rw[decide_eq_true_eq] at *;exact List.lt_trans h1 h2
 ·rw[decide_eq_false_iff_not] at h1;rw[decide_eq_true_eq];have hle:=List.not_lt.mp h1;rcases Classical.em ((ss.getD j ⟨#[]⟩).cps.toList<(ss.getD i ⟨#[]⟩).cps.toList) with h|h
  ·exact h
  ·exfalso;have e:=List.le_antisymm hle (List.not_lt.mp h);have e2:ss.getD j ⟨#[]⟩=ss.getD i ⟨#[]⟩:=by
    cases hx:ss.getD j ⟨#[]⟩ with
    |mk c1=>
     cases hy:ss.getD i ⟨#[]⟩ with
     |mk c2=>
      rw[hx,hy] at e;have e3:c1=c2:=Array.toList_inj.mp e;rw[e3]
   have hi':i<ss.length:=by omega
   have hj':j<ss.length:=by omega
   have pw:=List.pairwise_iff_getElem.mp nd;have z':ss[j]=ss[i]:=by simpa [hi',hj'] using e2
   rcases Nat.lt_or_gt_of_ne hij with q|q
   ·exact pw i j hi' hj' q z'.symm
   ·exact pw j i hj' hi' q z'
end
end L2
namespace L2
section
open PySem PySem.W PySem.Calls PyProof.Rows
variable {prog:Program}{w:World}{A:Around}{E:Value->Shared->Prop}{s:Shared}
def SortsBy (prog:Program)(w:World)(Q:Value->Shared->Prop)(vs:List Value)(s1:Shared):Prop:=∃lt,vs.length<64/\
 (∀(A':Around) h',(∀b o,s1.heap.get? b=some o->h'.get? b=some o)->2<=vs.length->wpAny (model prog w) A' (keyKind' vs.toArray) (fun κ s'=>s'={ s1 with heap:=h' }/\Ordr vs.length lt (kas_ask prog w A' κ vs) s') (fun _ _=>False) { s1 with heap:=h' })/\
 ∀h' p idx c,Pmn vs.length idx->UpTo lt idx vs.length->s1.heap.objs.size<=p->(∀b o,s1.heap.get? b=some o->h'.get? b=some o)->h'.get? p=some (seqObj "list" (outBy vs idx).toArray c)->Q (.ref p) { s1 with heap:=h' }
theorem sorted_by {x:Value}{Q:Value->Shared->Prop}(hc:wpAny (model prog w) A.in1 (collect x) (SortsBy prog w Q) E s):wpAny (model prog w) A (call (.builtin "sorted") [x]) Q E s:=by
 refine Calls.call_function_entry kind_sorted plain_sorted entry_sorted (args_sorted1 x) ?_;unfold Builtin.«sorted»;refine wpAny_bind (m:=checkCount "sorted" 1 1 _) (wpAny_pure (wpAny_bind (wpAny_mono hc (fun vs s1 z=>?_) fun _ _ e=>e)));obtain⟨lt,few,hk,q⟩:=z;refine wpAny_bind (wpAny_newList ?_);have there:(s1.heap.push (seqObj "list" vs.toArray 0)).get? s1.heap.objs.size=some (seqObj "list" vs.toArray 0):=Heap.get?_push_size _ rfl;refine wpAny_bind (wpAny_holding (wpAny_call_entry slot_list_sort ⟨_,there,rfl⟩ entry_list_sort (sort_by (lt:=lt) there few (fun h' old h2=>?_) fun idx hp up=>⟨_,rfl,?_⟩) (args_list_sort _)))
 ·have k':∀b o,s1.heap.get? b=some o->h'.get? b=some o:=fun b o e=>old b o (Nat.ne_of_lt (Heap.lt_size e)) (Heap.get?_push_of_some _ e)
  exact hk _ h' k' h2
 ·obtain⟨c,hp'⟩:=sortedHeap_at (out:=(outBy vs idx).toArray) there;refine wpAny_pure ⟨_,rfl,q _ _ idx c hp up (Nat.le_refl _) (fun b o e=>?_) hp'⟩;have lt:=Heap.lt_size e;show Heap.get? _ b=some o;rw[sortedHeap_old (Nat.ne_of_lt lt) (by rw[Heap.size_push];exact Nat.lt_succ_of_lt lt)];exact Heap.get?_push_of_some _ e
end
end L2
namespace L2
section
open PySem PySem.W PySem.Calls PyProof.Rows
variable {X:Cx}
def GivesTT (H:Hp)(ts:List (Addr×Str))(Q:VK):Prop:=∀(us:List (Addr×Str)) (p:Addr),us.Perm ts->sortedS (us.map (·.2))=true->H p=none->Q (.ref p) (upd H p (.lst (us.map fun t=>V.ref t.1)))
def rSortTT (K:PySem.W.Frag):List V->Hp->VK->Prop:=fun xs H Q=>∃(a:Addr) (ts:List (Addr×Str)),xs=[.ref a]/\SqL K H a (ts.map fun t=>V.ref t.1)/\ts.length<64/\(∀t∈ts,∃r,SqT K H t.1 (.str t.2::r))/\(ts.map (·.2)).Nodup/\GivesTT H ts Q
theorem refs_get:∀{ts:List (Addr×Str)} {its:List Value},Vals (ts.map fun t=>V.ref t.1) its->its=ts.map fun t=>Value.ref t.1
 |[],_,.nil=>rfl
 |t::ts,_,.cons r h=>by
  cases r;rw[List.map_cons,refs_get h]
theorem vals_refs_of:∀(ts:List (Addr×Str)),Vals (ts.map fun t=>V.ref t.1) (ts.map fun t=>Value.ref t.1)
 |[]=>.nil
 |t::ts=>.cons rfl (vals_refs_of ts)
theorem call_sortTT {K:PySem.W.Frag}(hK:X.K=K):CallR X (.builtin "sorted") (rSortTT K):=by
 subst hK;intro pins s σ H xs us Q I r h;obtain⟨a,ts,rfl,h1,few,ht,nd,q⟩:=h;obtain⟨u,rfl,ru⟩:=vals1 r;cases ru;obtain⟨its,r1,p1,_⟩:=I.list h1;have ei:=refs_get r1;have li:its.length=ts.length:=by rw[ei,List.length_map]
 refine sorted_by (collect_list p1.isList ?_ (by rw[li,sizeLine_eq];omega));have old:∀b o,s.heap.get? b=some o->((s.heap.push (seqObj "list" #[] 0)).update s.heap.objs.size (Obj.mapSeq fun x=>x++its.toArray)).get? b=some o:=fun b o e=>(Heap.get?_update_other _ _ (Nat.ne_of_gt (Heap.lt_size e))).trans (Heap.get?_push_of_some _ e)
 have hsz:s.heap.objs.size<=((s.heap.push (seqObj "list" #[] 0)).update s.heap.objs.size (Obj.mapSeq fun x=>x++its.toArray)).objs.size:=by rw[Heap.size_update,Heap.size_push];exact Nat.le_succ _
 generalize (s.heap.push (seqObj "list" #[] 0)).update s.heap.objs.size (Obj.mapSeq fun x=>x++its.toArray)=h1 at old hsz ⊢;have tup:∀(i:Nat) x,(ts.map fun t=>t.2)[i]?=some x->∃(b:Addr) (o:Obj) (t:Tok) (xs:Array Value) (n:Nat),its[i]?=some (.ref b)/\s.heap.get? b=some o/\o.cls=.type "tuple"/\o.data=.seq xs n/\xs[0]?=some (.str x t):=fun i x hx=>by
  rw[List.getElem?_map] at hx;cases hi:ts[i]? with
  |none=>rw[hi] at hx;cases hx
  |some y=>
   rw[hi] at hx;cases hx;obtain⟨r,hr⟩:=ht y (List.mem_of_getElem? hi);obtain⟨ys,rv,⟨o,e1,e2,n,e3⟩,_⟩:=I.tuple hr;cases rv with
   |cons rv _=>
    obtain⟨t,rfl⟩:=rv;exact⟨y.1,o,t,_,n,by rw[ei,List.getElem?_map,hi];rfl,e1,e2,e3,by simp⟩
 refine⟨fun i j=>decide (((ts.map fun t:Addr×Str=>t.2).getD i (⟨#[]⟩:Str)).cps.toList<((ts.map fun t:Addr×Str=>t.2).getD j (⟨#[]⟩:Str)).cps.toList),by rw[li];exact few,fun A' h' k h2=>?_,fun h' p idx c hp up lp k e=>?_⟩
 ·obtain⟨fs,kt,kf⟩:∃fs,KatTups h' its fs/\fs.length=its.length/\∀v∈fs,∃x t,v=Value.str x t:=by
   have go:∀(l:List Value),(∀v∈l,∃(b:Addr) (o:Obj) (x:Str) (t:Tok) (xs:Array Value) (n:Nat),v=.ref b/\h'.get? b=some o/\o.cls=.type "tuple"/\o.data=.seq xs n/\xs[0]?=some (.str x t))->∃fs,KatTups h' l fs/\fs.length=l.length/\∀v∈fs,∃x t,v=Value.str x t:=by
    intro l
    induction l with
    |nil=>exact fun _=>⟨[],.nil,rfl,fun _ h=>nomatch h⟩
    |cons v l ih=>
     intro hl;obtain⟨fs,a1,a2,a3⟩:=ih fun u hu=>hl u (List.mem_cons_of_mem _ hu)
     obtain⟨b,o,x,t,xs,n,rfl,e1,e2,e3,e4⟩:=hl v List.mem_cons_self;refine⟨.str x t::fs,.cons e1 e2 e3 e4 a1,by rw[List.length_cons,List.length_cons,a2],fun u hu=>?_⟩;rcases List.mem_cons.mp hu with rfl|hu
     ·exact⟨x,t,rfl⟩
     ·exact a3 u hu
   refine go its fun v hv=>?_
   obtain⟨i,hi⟩:=List.getElem?_of_mem hv;have lt:i<ts.length:=by rw[<-li];exact(List.getElem?_eq_some_iff.mp hi).1
   obtain⟨b,o,t,xs,n,e1,e2,e3,e4,e5⟩:=tup i _ (List.getElem?_eq_getElem (by rw[List.length_map];exact lt));rw[hi] at e1;cases e1;exact⟨b,o,_,t,xs,n,rfl,k _ _ (old _ _ e2),e3,e4,e5⟩
  refine kat_kind (T:=.type "str") kt (by rw[kf.1];omega) (fun v hv=>?_) (by decide) ?_
  ·obtain⟨x,t,rfl⟩:=kf.2 v hv;exact .now
  ·refine⟨rfl,?_⟩;refine ordr_texts nd (by rw[li,List.length_map]) fun i x hx=>?_
   obtain⟨b,o,t,xs,n,e1,e2,_,e4,e5⟩:=tup i x hx;exact⟨b,o,t,xs,n,e1,k _ _ (old _ _ e2),e4,e5⟩
 ·have I1:Inv X pins σ H { s with heap:=h' }:=I.kept (t':=s.toks) fun b o e=>k b o (old b o e)
  have ln:∀i,i<ts.length->∃t,ts[i]?=some t:=fun i hi=>⟨_,List.getElem?_eq_getElem hi⟩
  have g0:(0:Nat)<ts.length\/ts=[]:=by
   cases ts with
   |nil=>exact .inr rfl
   |cons _ _=>exact .inl (by simp)
  obtain⟨d,ed⟩:∃d:Addr×Str,True:=⟨(0,⟨#[]⟩),trivial⟩
  have lt:∀i∈idx.toList,i<ts.length:=fun i hi=>by
   have:=List.mem_range.mp (hp.2.mem_iff.mp hi);omega
  have eo:outBy its idx=(idx.toList.map fun i=>ts.getD i d).map fun t=>Value.ref t.1:=by
   unfold outBy;rw[List.map_map];refine List.map_congr_left fun i hi=>?_
   have hl:=lt i hi;rw[ei];simp[hl]
  have pm:(idx.toList.map fun i=>ts.getD i d).Perm ts:=by
   have h3:=hp.2.map fun i=>ts.getD i d
   have e3:(List.range its.length).map (fun i=>ts.getD i d)=ts:=by
    refine List.ext_getElem? fun i=>?_
    rw[List.getElem?_map,li]
    by_cases hi:i<ts.length
    ·simp[hi]
    ·simp[hi]
   rw[e3] at h3;exact h3
  have so:sortedS ((idx.toList.map fun i=>ts.getD i d).map (·.2))=true:=by
   apply sortedS_of_pairwise;rw[List.pairwise_iff_getElem];intro i j hi hj hij;have hi':i<idx.size:=by simpa using hi
   have hj':j<idx.size:=by simpa using hj
   have h4:=up i j hij (by rw[<-hp.1];exact hj');have li':=lt idx[i] (by simp);have lj':=lt idx[j] (by simp);simp only[List.getElem_map,Array.getElem_toList];rw[ltCps_eq];have e5:idx.getD i 0=idx[i]:=by simp[Array.getD,hi']
   have e6:idx.getD j 0=idx[j]:=by simp[Array.getD,hj']
   rw[e5,e6,decide_eq_true_eq] at h4;have e7:(ts.map fun t:Addr×Str=>t.2).getD idx[i] (⟨#[]⟩:Str)=(ts.getD idx[i] d).2:=by simp[li']
   have e8:(ts.map fun t:Addr×Str=>t.2).getD idx[j] (⟨#[]⟩:Str)=(ts.getD idx[j] d).2:=by simp[lj']
   rw[e7,e8] at h4;exact decide_eq_false fun z=>absurd (List.lt_trans h4 z) (List.lt_irrefl _)
  rw[eo] at e;have lp':s.heap.objs.size<=p:=Nat.le_trans (by
   rcases Nat.lt_or_ge s.heap.objs.size h1.objs.size with g|g
   ·exact Nat.le_of_lt g
   ·exact Nat.le_of_eq (Nat.le_antisymm hsz g)) lp
  refine⟨.ref p,_,I.laid (t':=s.toks) (o:=.lst ((idx.toList.map fun i=>ts.getD i d).map fun t=>V.ref t.1)) (fun b o e=>k b o (old b o e)) lp' ?_,rfl,q _ _ pm so (I.hok.fresh lp')⟩;refine⟨?_,_,c,vals_refs_of _,e⟩;rw[List.length_map,pm.length_eq,sizeLine_eq];omega
end
end L2
namespace L2
section
open PySem PySem.Calls PyProof.Rows
variable {prog:Program}{w:World}{A:Around}{E:Value->Shared->Prop}{s:Shared}
theorem ints_at:∀{vs:List Value} {ns:List Int},IntsAre vs ns->∀(i:Nat) (v:Value),vs[i]?=some v->∃n t,v=.int n t/\ns[i]?=some n
 |_,_,.nil,i,v,h=>by simp at h
 |_,_,.cons n t h,0,v,e=>by
  simp at e;exact⟨n,t,e.symm,rfl⟩
 |_,_,.cons n t h,i+1,v,e=>by
  obtain⟨m,u,h1,h2⟩:=ints_at h i v (by simpa using e);exact⟨m,u,h1,by simpa using h2⟩
theorem ints_new {led:Bool}{h:Heap}{a:Addr}{ns:List Int}(e:h.get? a=some { cls:=.type "set",dict:=none,data:=.set #[] 0 (.fresh 0 0 led) }):h.SetOf (intKind prog w) a (fun k=>decide (k∈ns.take 0)) 0:=
 ⟨_,#[],0,_,e,⟨rfl,rfl,rfl⟩,rfl,(fun _ hx=>nomatch hx),fun k=>by simp,by unfold scanBound;decide,rfl,rfl⟩
theorem take_new {ns:List Int}(nd:ns.Nodup){i:Nat}{n:Int}(h:ns[i]?=some n):n∉ns.take i:=fun hm=>by
 obtain⟨j,hj,e⟩:=List.getElem_of_mem hm;have hi:=(List.getElem?_eq_some_iff.mp h).1;rw[List.length_take] at hj;rw[List.getElem_take] at e;have e2:ns[i]=n:=(List.getElem?_eq_some_iff.mp h).2;exact List.pairwise_iff_getElem.mp nd j i (by omega) hi (by omega) (e.trans e2.symm)
end
section
open PySem PySem.Calls PySem.Spec PyProof.Rows
variable {X:Cx}
theorem call_lenSet:CallR X (.builtin "len") (fun xs H Q=>∃(a:Addr) (f:Int->Bool) (n:Nat),xs=[.ref a]/\H a=some (.set f n)/\Q (.int n) H):=by
 intro pins s σ H xs us Q I r h;obtain⟨a,f,n,rfl,h1,q⟩:=h;obtain⟨u,rfl,ru⟩:=vals1 r;cases ru;obtain⟨o,es,ep,t,ho,hex,hd,_,_,hb,hf,hn⟩:=(show ObjOk X.prog X.w H s.heap a (.set f n) from I.hok a _ h1)
 have hb':es.size<4096:=hb;refine Calls.call_function_entry kind_len plain_len entry_len (args_len1 _) (wpAny_len_body_set ho hex hd hf (by omega) ?_);rw[hn];exact⟨.int n,H,(I.tok _),⟨_,rfl⟩,q⟩
end
end L2
namespace L2
end L2
namespace L2
open PySem PySem.Spec PyProof.Rows
def itCls:Bool->String
 |true=>"list_iterator"
 |false=>"tuple_iterator"
def SrcIt (k:Bool)(h:Heap)(it a:Addr)(i:Nat):Prop:=∃o,h.get? it=some o/\o.cls=.type (itCls k)/\o.data=.fields #[.ref a,.int i 0]
def Src:Bool->Heap->Addr->Array Value->Prop
 |true,h,a,its=>h.IsList a its
 |false,h,a,its=>h.IsTuple a its
def SqS (K:PySem.W.Frag):Bool->Hp->Addr->List V->Prop
 |true,H,a,xs=>SqL K H a xs
 |false,H,a,xs=>SqT K H a xs
theorem Src.push {h:Heap}{a:Addr}{its:Array Value}(o:Obj):(k:Bool)->Src k h a its->Src k (h.push o) a its
 |true,⟨x,e,r⟩=>⟨x,Heap.get?_push_of_some _ e,r⟩
 |false,⟨x,e,r⟩=>⟨x,Heap.get?_push_of_some _ e,r⟩
section
variable {X:Cx}{pins:List (Addr×Obj)}{σ:St}{H:Hp}{s:Shared}{a:Addr}{xs ys:List V}
theorem Inv.src (I:Inv X pins σ H s):(k:Bool)->SqS X.K k H a xs->∃its:List Value,Vals xs its/\Src k s.heap a its.toArray
 |true,h=>let⟨its,r,p,_⟩:=I.list h;⟨its,r,p.isList⟩
 |false,h=>let⟨its,r,p,_⟩:=I.tuple h;⟨its,r,p⟩
theorem Same.src {K:PySem.W.Frag}{H H':Hp}(e:Same H H'):(k:Bool)->SqS K k H a xs->SqS K k H' a xs
 |true,h=>e.seq h
 |false,h=>by
  rcases h with(h|⟨o,h⟩)|h
  ·exact .inl (.inl (e _ _ h))
  ·exact .inl (.inr ⟨o,e _ _ h⟩)
  ·exact .inr h
end
theorem SrcIt.extBut {k:Bool}{h h':Heap}{a b l:Addr}{i:Nat}(x:SrcIt k h a l i)(hs:Heap.ExtBut b h h')(hab:a≠b):SrcIt k h' a l i:=let⟨o,e,r⟩:=x;⟨o,hs _ _ hab e,r⟩
end L2
namespace L2
section
open PySem PySem.Calls PySem.Spec PyProof.Rows
def TupK (K:PySem.W.Frag)(a:Addr)(ks:List Str):Prop:=∃(o:Obj) (its:Array Value) (n:Nat),K.lookup a=some o/\o.cls=.type "tuple"/\o.data=.seq its n/\its.size<=sizeLine/\Vals (ks.map V.str) its.toList
inductive TabRows (w:World) (K:PySem.W.Frag):List (Str×List Str)->List DictEntry->Prop
 |nil:TabRows w K [] []
 |cons {x:Str} {ks:List Str} {t:Tok} {hv:Int} {a:Addr} {tb:List (Str×List Str)} {es:List DictEntry}:hv=keyH w (.inr x)->TupK K a ks->TabRows w K tb es->TabRows w K ((x,ks)::tb) (⟨hv,.str x t,.ref a⟩::es)
variable {X:Cx}
end
end L2
namespace L2
end L2
namespace L2
end L2
namespace L2
end L2
namespace L2
end L2
namespace L2
section
open PySem PySem.Spec PyProof.Rows
variable {X:Cx}{pins:List (Addr×Obj)}{σ:St}{H:Hp}{s:Shared}
def codeX (c:Addr)(qual:Str):HO:=.ext fun h=>h.CodeRec (.ref c) qual
def TabH (P:Addr)(qual:Str)(pos:Pos)(H:Hp):Prop:=H P=some (.tbl #[])\/∃c,H P=some (.tbl #[rawInt pos.line,rawInt pos.col,.ref c])/\H c=some (codeX c qual)
def SameT (P:Addr)(H H':Hp):Prop:=∀b o,b≠P->H b=some o->H' b=some o
theorem SameT.refl (P:Addr)(H:Hp):SameT P H H:=fun _ _ _ h=>h
theorem SameT.trans {P:Addr}{H H1 H2:Hp}(a:SameT P H H1)(b:SameT P H1 H2):SameT P H H2:=fun c o n h=>b c o n (a c o n h)
theorem Same.t {H H':Hp}(a:Same H H')(P:Addr):SameT P H H':=fun b o _ h=>a b o h
theorem TabH.some {P:Addr}{qual:Str}{pos:Pos}{H:Hp}(t:TabH P qual pos H):∃ps,H P=some (.tbl ps):=by
 rcases t with h|⟨c,h,_⟩
 ·exact⟨_,h⟩
 ·exact⟨_,h⟩
theorem TabH.same {P:Addr}{qual:Str}{pos:Pos}{H H':Hp}(t:TabH P qual pos H)(e:Same H H'):TabH P qual pos H':=by
 rcases t with h|⟨c,h,h2⟩
 ·exact .inl (e _ _ h)
 ·exact .inr ⟨c,e _ _ h,e _ _ h2⟩
theorem SameT.free {P:Addr}{qual:Str}{pos:Pos}{H H':Hp}(e:SameT P H H')(t:TabH P qual pos H'){l:Addr}(h:H' l=none):H l=none:=by
 cases q:H l with
 |none=>rfl
 |some o=>
  by_cases z:l=P
  ·obtain⟨ps,hp⟩:=t.some;rw[z,hp] at h;cases h
  ·rw[e l o z q] at h;cases h
theorem SameT.get {P:Addr}{qual:Str}{pos:Pos}{H H':Hp}(e:SameT P H H')(t:TabH P qual pos H){b:Addr}{o:HO}(h:H b=some o)(n:∀ps,o≠.tbl ps):H' b=some o:=by
 refine e b o (fun z=>?_) h;obtain⟨ps,hp⟩:=t.some;rw[z,hp] at h;exact n ps (Option.some.inj h).symm
end
end L2
namespace L2
section
open PySem PySem.Spec PyProof.Rows PySem.Calls
variable {X:Cx}
structure LamAt (K:PySem.W.Frag) (mg:Str->Option Value) (base:Heap) (cdv:Value) (P:Addr):Prop where
 code:∃c,cdv=.ref c/\PySem.W.codeHdIn K c P=true
 bm:∃bm ob,mg "__builtins__"=some (.ref bm)/\bm≠builtinsNs/\bm≠mainGlobals/\base.get? bm=some ob/\ob.cls=.type "module"/\ob.dict=some builtinsNs/\ob.data=.plain
structure LamTx (x:Str) (params:Arguments) (scope:Scope):Prop where
 bind:∀(qual:Str) (body:Expr) (pm cv ctv u:Value),bindArgs (PySem.W.kla_fn "<lambda>" qual params body scope [] pm cv ctv) ⟨[u],[]⟩=pure [(x,u)]
 dflt:∀env,defaultsOf params env=([],[])
 clos:∀env,closureFor scope env=pure []
 loc:scope.names.lookup x=some .local
 kind:scope.kind=.function
 co:scope.isCoroutine=false
 ge:scope.isGenerator=false
 ce:∀y∈scope.names,y.2≠.cell
 db:(x == ("__debug__":Str))=false
end
end L2
namespace L2
end L2
namespace L2
end L2
namespace L2
end L2
namespace L2
section
open PySem
variable {α:Type}
theorem comp_selN {J:It} {ps:List α} {g:α->V} {fr:List (Option Nat)} {k:Nat} {tt:TT} {te:TE} {Q:VK} {σ:St} {H:Hp} (p:α->Bool) (P:α->V->Hp->Prop) (hP:∀x y H1 H2,P x y H1->Same H1 H2->P x y H2)
  (hU:∀x y H1 l us us',P x y H1->H1 l=some (.lst us)->P x y (upd H1 l (.lst us'))) (hJ:ItIs J H (ps.map g)) (hn:ps.length<=1000000)
  (htest:∀x∈ps,∀(H':Hp) (R:Bool->Hp->Prop),Same H H'->(∀H'',Same H' H''->R (p x) H'')->tt ((stC fr σ).set k (some (g x))) H' R)
  (helt:∀x∈ps,p x=true->∀(H':Hp) (R:VK),Same H H'->(∀y H'',Same H' H''->P x y H''->R y H'')->te ((stC fr σ).set k (some (g x))) H' R)
  (hQ:∀l H' (ys:List (α×V)),H l=none->Same H H'->H' l=some (.lst (ys.map (·.2)))->ys.map (·.1)=ps.filter p->(∀q∈ys,P q.1 q.2 H')->Q (.ref l) H'):tCompK fr (gName k) tt te σ Q J H:=by
 intro l hl;refine⟨fun i m σ' H'=>m=ps.length-i/\i<=ps.length/\(∀y,σ'.set k y=(stC fr σ).set k y)/\Same H H'/\∃ys:List (α×V),H' l=some (.lst (ys.map (·.2)))/\ys.map (·.1)=(ps.take i).filter p/\∀q∈ys,P q.1 q.2 H',
  ⟨ps.length,by simp,Nat.zero_le _,fun _=>rfl,same_new hl _,[],by rw[upd_same];rfl,rfl,fun _ h=>nomatch h⟩,?_⟩
 rintro i m σ' H' ⟨rfl,hi,hσ,hs,ys,hl',e1,hys⟩
 obtain⟨h1,h2,h3⟩:=hJ H' hs i;rw[List.length_map] at h1 h2 h3
 by_cases hlt:i<ps.length
 ·refine .inr ⟨h1 hlt,fun x H'' y=>?_⟩;obtain⟨rfl,hx⟩:=h2 x H'' y;have hx:=hx hlt;rw[List.getElem?_map,List.getElem?_eq_getElem hlt] at hx;cases hx;have hm:ps[i]∈ps:=List.getElem_mem hlt;have et:(ps.take (i+1)).filter p=(ps.take i).filter p++(if p ps[i]=true then[ps[i]] else[]):=by
   rw[List.take_add_one,List.getElem?_eq_getElem hlt,List.filter_append];cases q:p ps[i]<;>simp[q]
  have le:ys.length<=i:=by
   have a:=congrArg List.length e1;have b:=List.length_filter_le p (ps.take i);rw[List.length_map] at a;rw[List.length_take] at b;omega
  show tt (σ'.set k (some (g ps[i]))) H'' _;rw[hσ];refine htest _ hm H'' _ hs fun H0 s0=>?_
  have hs0:=hs.trans s0;refine ite2 (fun c=>?_) (fun c=>?_)
  ·refine helt _ hm c H0 _ hs0 fun v H4 s4' hv=>?_
   have s4:=s0.trans s4';have hl4:=s4.get hl';refine⟨_,hl4,smallLt (by rw[List.length_map];omega),ps.length-(i+1),by omega,rfl,hlt,fun y=>by rw[List.set_set],same_upd (hs.trans s4) hl _,ys++[(ps[i],v)],?_,?_,fun q hq=>?_⟩
   ·rw[upd_same,List.map_append];rfl
   ·rw[et,if_pos c,List.map_append,e1];rfl
   ·rcases List.mem_append.mp hq with h|h
    ·exact hU _ _ _ _ _ _ (hP _ _ _ _ (hys q h) s4) hl4
    ·rw[List.mem_singleton.mp h];exact hU _ _ _ _ _ _ hv hl4
  ·exact⟨ps.length-(i+1),by omega,rfl,hlt,fun y=>by rw[List.set_set],hs0,ys,s0.get hl',by rw[et,if_neg c,List.append_nil];exact e1,fun q hq=>hP _ _ _ _ (hys q hq) s0⟩
 ·have e:i=ps.length:=by omega
  subst e;exact .inl ⟨h3 (Nat.le_refl _),hQ l H' ys hl hs hl' (by rw[e1,List.take_of_length_le (Nat.le_refl _)]) hys⟩
theorem comp_sel {J:It} {ps:List α} {g:α->V} {fr:List (Option Nat)} {k:Nat} {tt:TT} {te:TE} {Q:VK} {σ:St} {H:Hp} (p:α->Bool) (P:α->V->Hp->Prop) (hP:∀x y H1 H2,P x y H1->Same H1 H2->P x y H2)
  (hU:∀x y H1 l us us',P x y H1->H1 l=some (.lst us)->P x y (upd H1 l (.lst us'))) (hJ:ItIs J H (ps.map g)) (hn:ps.length<=1000000)
  (htest:∀x∈ps,∀(H':Hp) (R:Bool->Hp->Prop),Same H H'->R (p x) H'->tt ((stC fr σ).set k (some (g x))) H' R)
  (helt:∀x∈ps,p x=true->∀(H':Hp) (R:VK),Same H H'->(∀y H'',Same H' H''->P x y H''->R y H'')->te ((stC fr σ).set k (some (g x))) H' R)
  (hQ:∀l H' (ys:List (α×V)),H l=none->Same H H'->H' l=some (.lst (ys.map (·.2)))->ys.map (·.1)=ps.filter p->(∀q∈ys,P q.1 q.2 H')->Q (.ref l) H'):tCompK fr (gName k) tt te σ Q J H:=
 comp_selN p P hP hU hJ hn (fun x hx H' R s' hR=>htest x hx H' R s' (hR H' (Same.refl _))) helt hQ
theorem fst_map {ys:List (α×V)}{f:α->V}(h:∀q∈ys,q.2=f q.1):ys.map (·.2)=(ys.map (·.1)).map f:=by
 rw[List.map_map];exact List.map_congr_left fun q hq=>h q hq
theorem comp_selG {J:It} {ps:List α} {g:α->V} {fr:List (Option Nat)} {k:Nat} {tt:TT} {te:TE} {Q:VK} {σ:St} {H:Hp} (p:α->Bool) (f:α->V) (hJ:ItIs J H (ps.map g)) (hn:ps.length<=1000000)
  (htest:∀x∈ps,∀(H':Hp) (R:Bool->Hp->Prop),Same H H'->(∀H'',Same H' H''->R (p x) H'')->tt ((stC fr σ).set k (some (g x))) H' R)
  (helt:∀x∈ps,p x=true->∀(H':Hp) (R:VK),Same H H'->(∀H'',Same H' H''->R (f x) H'')->te ((stC fr σ).set k (some (g x))) H' R)
  (hQ:∀l H',H l=none->Same H H'->H' l=some (.lst ((ps.filter p).map f))->Q (.ref l) H'):tCompK fr (gName k) tt te σ Q J H:=by
 refine comp_selN p (fun x y _=>y=f x) (fun _ _ _ _ h _=>h) (fun _ _ _ _ _ _ h _=>h) hJ hn htest (fun x hx hp H' R s' hR=>helt x hx hp H' R s' fun H'' s''=>hR _ H'' s'' rfl) fun l H' ys nl s' h' e hq=>hQ l H' nl s' ?_
 rw[<-e,<-fst_map hq];exact h'
theorem comp_selF {J:It} {ps:List α} {g:α->V} {fr:List (Option Nat)} {k:Nat} {tt:TT} {te:TE} {Q:VK} {σ:St} {H:Hp} (p:α->Bool) (f:α->V) (hJ:ItIs J H (ps.map g)) (hn:ps.length<=1000000)
  (htest:∀x∈ps,∀(H':Hp) (R:Bool->Hp->Prop),Same H H'->R (p x) H'->tt ((stC fr σ).set k (some (g x))) H' R)
  (helt:∀x∈ps,p x=true->∀(H':Hp) (R:VK),Same H H'->(∀H'',Same H' H''->R (f x) H'')->te ((stC fr σ).set k (some (g x))) H' R)
  (hQ:∀l H',H l=none->Same H H'->H' l=some (.lst ((ps.filter p).map f))->Q (.ref l) H'):tCompK fr (gName k) tt te σ Q J H:=
 comp_selG p f hJ hn (fun x hx H' R s' hR=>htest x hx H' R s' (hR H' (Same.refl _))) helt hQ
end
end L2
namespace L2
section
open PySem
variable {X:Cx}{K:PySem.W.Frag}
theorem op_in_seqK (h:X.K=K):OpR X (compareOp .In) (rIn K false):=by subst h;exact op_in_seq
end
end L2
namespace L2
end L2
namespace L2
end L2
namespace L2
end L2
namespace L2
section
open PySem PySem.W PySem.Calls PyProof.Rows
variable {s:Shared}
abbrev Slt (a b:Str):Prop:=a.cps.toList<b.cps.toList
theorem slt_of {a b:Str}(h:¬Slt a b)(ne:a≠b):Slt b a:=by
 rcases Classical.em (Slt b a) with z|z
 ·exact z
 ·exact absurd (show a=b by
   cases a;cases b;exact congrArg Str.mk (Array.toList_inj.mp (List.le_antisymm (List.not_lt.mp z) (List.not_lt.mp h)))) ne
end
end L2
namespace L2
end L2
namespace L2
end L2
namespace L2
section
open PySem PySem.Calls PyProof.Rows PySem.Spec
def rDictK (K:PySem.W.Frag):List V->Hp->VK->Prop:=fun xs H Q=>∃(a:Addr) (ps:List Addr) (kvs:List (Key×V)),xs=[.ref a]/\SqL K H a (ps.map V.ref)/\ps.length=kvs.length/\kvs.length<=100000/\(kvs.map (·.1)).Nodup/\
 (∀(i:Nat) t k v,ps[i]?=some t->kvs[i]?=some (k,v)->H t=some (.tup [kV k,v]))/\∀d,H d=none->Q (.ref d) (upd H d (.dK kvs))
abbrev PrK (p:Key×V)(q:Key×Value×Value):Prop:=p.1=q.1/\RelV (kV p.1) q.2.1/\RelV p.2 q.2.2
theorem pairs_exK {X:Cx}{pins:List (Addr×Obj)}{σ:St}{H:Hp}{s:Shared}(I:Inv X pins σ H s):∀(ps:List Addr) (kvs:List (Key×V)),ps.length=kvs.length->(∀(i:Nat) t k v,ps[i]?=some t->kvs[i]?=some (k,v)->H t=some (.tup [kV k,v]))->
  ∃xs:List (Key×Value×Value),Paired PrK kvs xs/\∀(i:Nat) t,ps[i]?=some t->∃q,xs[i]?=some q/\IsTup s.heap t #[q.2.1,q.2.2]
 |[],[],_,_=>⟨[],.nil,fun i t h=>by simp at h⟩
 |[],_::_,h,_=>by cases h
 |_::_,[],h,_=>by cases h
 |t::ps,(k,v)::kvs,ln,hp=>by
  obtain⟨xs,r,a⟩:=pairs_exK I ps kvs (by simpa using ln) fun i t k v e1 e2=>hp (i+1) t k v (by simpa using e1) (by simpa using e2)
  obtain⟨_,its,rv,it⟩:=(show ObjOk X.prog X.w H s.heap t (.tup [kV k,v]) from I.hok t _ (hp 0 t k v rfl rfl))
  cases rv with
  |@cons _ wk _ _ ra rb=>
   cases rb with
   |@cons _ wv _ _ rb rc=>
    cases rc;refine⟨(k,wk,wv)::xs,.cons ⟨rfl,ra,rb⟩ r,fun i t' e=>?_⟩;cases i with
    |zero=>simp only[List.getElem?_cons_zero,Option.some.injEq] at e;subst e;exact⟨_,rfl,it.is⟩
    |succ i=>exact a i t' (by simpa using e)
theorem kv_of {kvs:List (Key×V)}{xs:List (Key×Value×Value)}(h:Paired PrK kvs xs):KV kvs (xs.map fun q=>(q.1,q.2.2)):=by
 induction h with
 |nil=>exact .nil
 |cons r _ ih=>exact .cons ⟨r.1,r.2.2⟩ ih
theorem keys_of {kvs:List (Key×V)}{xs:List (Key×Value×Value)}(h:Paired PrK kvs xs):xs.map (·.1)=kvs.map (·.1):=by
 induction h with
 |nil=>rfl
 |cons r _ ih=>rw[List.map_cons,List.map_cons,ih,r.1]
theorem call_dictK {X:Cx}{K:PySem.W.Frag}(hK:X.K=K)(hc:X.calm=true):CallR X (.type "dict") (rDictK K):=by
 subst hK;intro pins s σ H xs us Q I r h;obtain⟨a,ps,kvs,rfl,h1,ln,hz,nd,hp,q⟩:=h;obtain⟨u,rfl,ru⟩:=vals1 r;cases ru;obtain⟨its,r1,⟨o1,n1,e1,c1,d1,s1⟩,_⟩:=I.list h1;obtain⟨xs,rx,tx⟩:=pairs_exK I ps kvs ln hp;have lx:xs.length=kvs.length:=(Paired.length rx).symm;have ndx:(xs.map (·.1)).Nodup:=by rw[keys_of rx];exact nd
 have li:its.length=ps.length:=by have:=r1.length;rw[List.length_map] at this;exact this.symm
 obtain⟨c,dd,da,sl⟩:=o1;simp only at c1 d1 s1;subst c1 d1 s1;refine dict_call (A:=X.A) (I.ok.hd hc) ⟨n1,_,e1⟩ (D:=fun i h=>h.DictOf (mixKind X.prog X.w) s.heap.objs.size ((xs.take i).map fun q:Key×Value×Value=>(q.1,q.2.2))) (fun i h h' ⟨o,es,ep,z1,z2⟩ k=>⟨o,es,ep,k o z1,z2⟩) (fun h e=>?_) (fun i v e=>?_) fun h' tk k' z=>?_
 ·obtain⟨o,es,ep,z1,z2⟩:=(Heap.DictOf.new (knd:=mixKind X.prog X.w) s.heap)
  have e2:(s.heap.push { cls:=.type "dict",data:=.dict #[] }).get? s.heap.objs.size=some { cls:=.type "dict",data:=.dict #[] }:=Heap.get?_push_size _ rfl;rw[e2] at z1;cases z1;exact⟨_,es,ep,e,z2⟩
 ·obtain⟨t,et,rfl⟩:=refs_at r1 i v e;obtain⟨⟨k,wk,wv⟩,eq,ht⟩:=tx i t et;refine⟨t,wk,wv,rfl,ht,fun s2 Q2 E2 old hm hQ=>?_⟩;have rk:RelV (kV k) wk:=by
   obtain⟨p,_,e1,e2,_⟩:=paired_mem rx (List.mem_of_getElem? eq);rw[e1] at e2;exact e2
  have ts:xs.take (i+1)=xs.take i++[(k,wk,wv)]:=by rw[List.take_add_one,eq];rfl
  have no:valueAt ((xs.take i).map fun q:Key×Value×Value=>(q.1,q.2.2)) k=none:=by
   unfold valueAt;rw[Option.map_eq_none_iff,List.find?_eq_none];intro x hx z;have e:=of_decide_eq_true z;obtain⟨y,hy,rfl⟩:=List.mem_map.mp hx;have:=ndx.sublist ((List.take_sublist (i+1) xs).map _);rw[ts,List.map_append,List.nodup_append] at this;exact this.2.2 _ (List.mem_map.mpr ⟨y,hy,rfl⟩) k (by simp) e
  refine wpAny_dictSet_pairs (hsz:=?_) (k:=k) (kV_is rk) hm fun h' hm' sb=>hQ _ _ ?_ sb
  ·rw[stored_absent no] at hm';rw[ts,List.map_append];exact hm'
  ·rw[List.length_map,List.length_take,sizeLine_eq];omega
 ·have hb:=I.big;rw[li,ln,<-lx,List.take_length] at z;refine⟨.ref s.heap.objs.size,_,I.laid (o:=.dK kvs) k' (Nat.le_refl _) (dk_new (by rw[sizeLine_eq];omega) ?_ (kv_of rx) z),rfl,q _ I.fresh⟩;rw[beq_eq_false_iff_ne];exact Nat.ne_of_gt hb
end
end L2
namespace L2
section
open PySem PySem.Calls PyProof.Rows
variable {prog:Program}{w:World}{A:Around}{E:Value->Shared->Prop}{s:Shared}
def cI (ns:List Int):Nat->Nat
 |0=>0
 |i+1=>match ns[i]? with
  |some x=>if decide (x∈ns.take i)=true then cI ns i else cI ns i+1
  |none=>cI ns i
theorem cI_succ {ns:List Int}{i:Nat}{x:Int}(h:ns[i]?=some x):cI ns (i+1)=if decide (x∈ns.take i)=true then cI ns i else cI ns i+1:=by
 show(match ns[i]? with|some x=>if decide (x∈ns.take i)=true then cI ns i else cI ns i+1|none=>cI ns i)=_;rw[h]
theorem cI_le (ns:List Int):∀i,cI ns i<=i
 |0=>Nat.le_refl _
 |i+1=>by
  have:=cI_le ns i;cases h:ns[i]? with
  |none=>show(match ns[i]? with|some x=>if decide (x∈ns.take i)=true then cI ns i else cI ns i+1|none=>cI ns i)<=_;rw[h];dsimp only;omega
  |some x=>rw[cI_succ h];split<;>omega
theorem cI_one {ns:List Int}(nd:ns.Nodup):∀i,i<=ns.length->cI ns i=i
 |0,_=>rfl
 |i+1,hi=>by
  have h:ns[i]?=some ns[i]:=List.getElem?_eq_getElem (by omega);rw[cI_succ h,if_neg (by simpa using take_new nd h),cI_one nd i (by omega)]
theorem cI_lt {ns:List Int}{i j:Nat}{x:Int}(hi:ns[i]?=some x)(hj:ns[j]?=some x)(ij:i<j):∀m,j<m->m<=ns.length->cI ns m<m
 |0,h,_=>by omega
 |m+1,h,hm=>by
  have hx:ns[m]?=some ns[m]:=List.getElem?_eq_getElem (by omega);rw[cI_succ hx]
  by_cases e:m=j
  ·subst e;have:ns[m]=x:=by rw[hx] at hj;exact Option.some.inj hj
   rw[this,if_pos (decide_eq_true (List.mem_of_getElem? (i:=i) (by rw[List.getElem?_take,if_pos ij];exact hi)))];have:=cI_le ns m;omega
  ·have:=cI_lt hi hj ij m (by omega) (by omega)
   split<;>omega
theorem fill_intsD {R:Result->Shared->Prop}{I S:Addr}{fp:List Addr}{vs:List Value}{ns:List Int}{St:Nat->Heap->Prop}(W:Walks prog w A.in1 I fp [I] vs.length (fun i v=>vs[i]?=some v) St)(nS:S∉fp)(hs:IntsAre vs ns)(hb:vs.length+1<scanBound) :
  ∀(k i:Nat) (s:Shared),vs.length-i=k->i<=vs.length->St i s.heap->s.heap.SetOf (intKind prog w) S (fun k=>decide (k∈ns.take i)) (cI ns i)->
   (∀h' tk,(∀b o,b∉[S,I]->s.heap.get? b=some o->h'.get? b=some o)->h'.SetOf (intKind prog w) S (fun k=>decide (k∈ns)) (cI ns ns.length)->R (.ok (.ret .none)) { s with heap:=h',toks:=tk })->codeAny (model prog w) A (.builtin "set.update.loop" ⟨[.ref S,.ref I],[]⟩) R s:=by
 have nI:S∉[I]:=fun z=>nS (W.sub _ z)
 have ln:vs.length=ns.length:=IntsAre.length hs;have keep:∀{f:Int->Bool} {n:Nat} {h h':Heap},h.SetOf (intKind prog w) S f n->(∀o,h.get? S=some o->h'.get? S=some o)->h'.SetOf (intKind prog w) S f n:=fun{f n h h'} ⟨o,es,ep,t,ho,r⟩ k=>⟨o,es,ep,t,k o ho,r⟩
 intro k
 induction k with
 |zero=>
  intro i s hk hi st T q;have e:i=vs.length:=by omega
  subst e;refine codeAny_builtin PyProof.Rows.F.entry_set_update_loop ?_;rw[Around.under_plainId PyProof.Rows.F.plain_set_update_loop _];refine wpAny_bind (m:=pyNext (.ref I)) (W.done s _ _ st fun h' tk k'=>?_);rw[ln,List.take_length] at T;exact wpAny_pure (q h' tk (fun b o n e=>k' b o (fun z=>n (List.mem_cons_of_mem _ z)) e) (keep T fun o e=>k' S o nI e))
 |succ k ih=>
  intro i s hk hi st T q;have lt:i<vs.length:=by omega
  refine codeAny_builtin PyProof.Rows.F.entry_set_update_loop ?_;rw[Around.under_plainId PyProof.Rows.F.plain_set_update_loop _];refine wpAny_bind (m:=pyNext (.ref I)) (W.item i s _ _ lt st fun v h' tk hv st' k'=>?_);obtain⟨x,t,rfl,hx⟩:=ints_at hs i v hv;have hkey:(intKind prog w).is x (.int x t)=true:=by show Value.isInt x (.int x t)=true;simp[Value.isInt]
  refine wpAny_bind (m:=holding [Value.int x t] (setAdd S (.int x t))) (wpAny_holding ?_);unfold setAdd;refine wpAny_holding (wpAny_bind ((intKind prog w).pyHash hkey ?_));refine wpAny_setAddHashed_of hkey rfl (keep T fun o e=>k' S o nI e) (by have:=cI_le ns i;omega) fun h2 sb T2=>?_
  rw[<-cI_succ hx] at T2;have e2:(fun k'=>decide (k'∈ns.take i)||decide (k'=x))=fun k'=>decide (k'∈ns.take (i+1)):=by
   funext k'
   rw[List.take_add_one,hx,Bool.eq_iff_iff];simp
  rw[e2] at T2;refine wpAny_pure ⟨plainId_quiet PyProof.Rows.F.plain_set_update_loop _,ih (i+1) _ (by omega) lt (W.frame _ _ _ st' fun b hb o e=>?_) T2 fun h3 tk3 k3 T3=>?_⟩
  ·rw[sb.2 b (fun z=>nS (z▸hb))];exact e
  ·refine q h3 tk3 (fun b o n e=>k3 b o n ?_) T3;rw[sb.2 b (fun z=>n (by simp[z]))];exact k' b o (fun z=>n (List.mem_cons_of_mem _ z)) e
theorem set_intsD {lq:Addr} {vs:List Value} {ns:List Int} {Q:Value->Shared->Prop} (hh:A.handled=none) (hl:s.heap.IsList lq vs.toArray) (hs:IntsAre vs ns) (hb:vs.length+1<scanBound)
  (q:∀h' tk,(∀b o,s.heap.get? b=some o->h'.get? b=some o)->h'.SetOf (intKind prog w) s.heap.objs.size (fun k=>decide (k∈ns)) (cI ns ns.length)->Q (.ref s.heap.objs.size) { s with heap:=h',toks:=tk }):wpAny (model prog w) A (call (.type "set") [.ref lq]) Q E s:=by
 obtain⟨c,tl,hmro⟩:=PySem.F.called_set.mro;have hmade:=PySem.F.called_set.made;have hsub:=PySem.F.called_set.sub;refine wpAny_call (codeAny_of_tree (wpAny_pure ⟨Code.quiet_builtin _ (by decide +kernel),codeAny_builtin PySem.F.entry_type_call ?_⟩));rw[Around.under_plain (weight_type_call_type "set" [.ref lq] []) rfl];have h1:=PySem.F.called_set.notType;have h2:=PySem.F.called_set.canCreate;have hct:=PySem.F.typeCall_set_1 (.ref lq)
 repeat (any_goals (first|assumption|wp_step))
 refine codeAny_mono (set_made (.ref lq) (E:=E) (Q₁:=fun obj s₁=>obj=.ref s.heap.objs.size/\s₁={ s with heap:=s.heap.push { cls:=.type "set",dict:=none,data:=.set #[] 0 (.fresh 0 0 (!ByText w)) } }) ⟨rfl,rfl⟩) fun r s₁ hr=>?_
 match r,hr with
 | .error e,hr=>exact hr
 | .ok (.ret obj),hr=>
  obtain⟨rfl,rfl⟩:=hr;have hS:(s.heap.push { cls:=.type "set",dict:=none,data:=.set #[] 0 (.fresh 0 0 (!ByText w)) }).get? s.heap.objs.size=some { cls:=.type "set",dict:=none,data:=.set #[] 0 (.fresh 0 0 (!ByText w)) }:=Heap.get?_push_size _ rfl;have hT:Shared.TypeIs { s with heap:=s.heap.push { cls:=.type "set",dict:=none,data:=.set #[] 0 (.fresh 0 0 (!ByText w)) } } (.ref s.heap.objs.size) "set":=⟨_,hS,rfl⟩
  have hli:=PySem.F.called_set.init.lookup;have hbi:=PySem.F.called_set.init.bind (.ref s.heap.objs.size)
  repeat (any_goals (first|assumption|wp_step))
  refine codeAny_mono (codeAny_call_builtin (R:=wants (fun r s₂=>r=.none/\∃h' tk,s₂={ s with heap:=h',toks:=tk }/\(∀b o,s.heap.get? b=some o->h'.get? b=some o)/\h'.SetOf (intKind prog w) s.heap.objs.size (fun k=>decide (k∈ns)) (cI ns ns.length)) E) PySem.F.called_set.init.plain PySem.F.entry_set_init (check_set_init_1 hT ?_)) fun r₂ s₂ hr₂=>?_
  ·obtain⟨⟨cl,dl,tl,sl⟩,el,hcl,nl,hdl⟩:=hl;simp only at hcl hdl;subst hcl;subst hdl;have el':=Heap.get?_push_of_some ({ cls:=.type "set",dict:=none,data:=.set #[] 0 (.fresh 0 0 (!ByText w)) }:Obj) el;have lt:lq<s.heap.objs.size:=Heap.lt_size el;have l1:(s.heap.push { cls:=.type "set",dict:=none,data:=.set #[] 0 (.fresh 0 0 (!ByText w)) }).IsList lq vs.toArray:=⟨_,el',rfl,nl,rfl⟩
   have n1:=PySem.F.sub_list_set;have n2:=PySem.F.sub_list_frozenset;have n3:(Value.type "list" == Value.type "dict")=false:=by decide
   unfold Builtin.«set.__init__» Builtin.Frozenset.updateFrom noKeywords;generalize ePI:pyIter=PI
   wp_walk
   subst ePI;refine wpAny_pyIter_list l1 (wpAny_bind (wpAny_runValue ?_));have nI:lq≠(s.heap.push { cls:=.type "set",dict:=none,data:=.set #[] 0 (.fresh 0 0 (!ByText w)) }).objs.size:=by rw[Heap.size_push];exact Nat.ne_of_lt (Nat.lt_succ_of_lt lt)
   have nS:s.heap.objs.size∉[(s.heap.push { cls:=.type "set",dict:=none,data:=.set #[] 0 (.fresh 0 0 (!ByText w)) }).objs.size,lq]:=by
    rw[Heap.size_push];simp only[List.mem_cons,List.not_mem_nil,or_false,not_or];exact⟨Nat.ne_of_lt (Nat.lt_succ_self _),Nat.ne_of_gt lt⟩
   have hA:A.in1.in1.in1.handled=none:=by simp[hh]
   have W:=Walks.list (prog:=prog) (w:=w) hA (s.heap.push { cls:=.type "set",dict:=none,data:=.set #[] 0 (.fresh 0 0 (!ByText w)) }).objs.size lq nI vs.toArray;have W2:Walks prog w A.in1.in1.in1 (s.heap.push { cls:=.type "set",dict:=none,data:=.set #[] 0 (.fresh 0 0 (!ByText w)) }).objs.size [(s.heap.push { cls:=.type "set",dict:=none,data:=.set #[] 0 (.fresh 0 0 (!ByText w)) }).objs.size,lq] [(s.heap.push { cls:=.type "set",dict:=none,data:=.set #[] 0 (.fresh 0 0 (!ByText w)) }).objs.size] vs.length (fun i v=>vs[i]?=some v) (fun i h=>h.IsListIter (s.heap.push { cls:=.type "set",dict:=none,data:=.set #[] 0 (.fresh 0 0 (!ByText w)) }).objs.size lq i/\h.IsList lq vs.toArray):=by
    simpa only [List.size_toArray,List.getElem?_toArray] using W
   refine fill_intsD W2 nS hs hb vs.length 0 _ (by omega) (Nat.zero_le _) ⟨⟨_,Heap.get?_push_size _ rfl,rfl,rfl⟩,l1.push _⟩ (ints_new (Heap.get?_push_of_some _ hS)) fun h' tk k' T=>?_
   refine wpAny_pure (wpAny_pure ⟨rfl,h',tk,rfl,fun b o e=>k' b o (fun z=>?_) (Heap.get?_push_of_some _ (Heap.get?_push_of_some _ e)),T⟩);have lb:=Heap.lt_size e;rw[Heap.size_push] at z;simp only[List.mem_cons,List.not_mem_nil,or_false] at z;rcases z with rfl|rfl
   ·exact absurd lb (Nat.lt_irrefl _)
   ·exact absurd lb (Nat.not_lt.mpr (Nat.le_succ _))
  ·match r₂,hr₂ with
   | .error e,hr₂=>exact hr₂
   | .ok (.ret r),hr₂=>
    obtain⟨rfl,h',tk,rfl,k',T⟩:=hr₂
    repeat (any_goals (first|assumption|wp_step))
    exact q _ _ k' T
   | .ok .next,hr₂=>exact hr₂.elim
end
section
open PySem PySem.Calls PySem.Spec PyProof.Rows
variable {X:Cx}
def rSetD (K:PySem.W.Frag):List V->Hp->VK->Prop:=fun xs H Q=>∃(a:Addr) (ns:List Int),xs=[.ref a]/\SqL K H a (ns.map V.int)/\ns.length<=1000/\∀p,H p=none->Q (.ref p) (upd H p (.set (fun k=>decide (k∈ns)) (cI ns ns.length)))
theorem call_setD {K:PySem.W.Frag}(hK:X.K=K)(hc:X.calm=true):CallR X (.type "set") (rSetD K):=by
 subst hK;intro pins s σ H xs us Q I r h;obtain⟨a,ns,rfl,h1,few,q⟩:=h;obtain⟨u,rfl,ru⟩:=vals1 r;cases ru;obtain⟨its,r1,p1,_⟩:=I.list h1;have hs:=intsAre_of r1;have ln:=IntsAre.length hs;refine set_intsD (I.ok.hd hc) p1.isList hs (by rw[ln];unfold scanBound;omega) fun h' tk k T=>⟨.ref s.heap.objs.size,_,I.laid (t':=tk) k (Nat.le_refl _) (?_:ObjOk X.prog X.w _ h' _ (.set (fun k=>decide (k∈ns)) (cI ns ns.length))),rfl,q _ (I.hok.fresh (Nat.le_refl _))⟩
 exact T
end
end L2
namespace L2
open PySem
end L2
namespace L2
end L2
namespace L2
end L2
namespace L2
section
open PySem PySem.Calls PyProof.Rows
variable {prog:Program}{w:World}{A:Around}{E:Value->Shared->Prop}{s:Shared}
def RvAt (h:Heap)(it l:Addr)(i:Int):Prop:=∃o,h.get? it=some o/\o.cls=.type "reversed"/\o.data=.fields #[.ref l,rawInt i]
theorem RvAt.typeIs {it l:Addr}{i:Int}(x:RvAt s.heap it l i):s.TypeIs (.ref it) "reversed":=let⟨o,e,c,_⟩:=x;⟨o,e,c⟩
theorem RvAt.keep {h h':Heap}{it l:Addr}{i:Int}(x:RvAt h it l i)(k:∀o,h.get? it=some o->h'.get? it=some o):RvAt h' it l i:=let⟨o,e,r⟩:=x;⟨o,k o e,r⟩
end
end L2
namespace L2
section
open PySem PySem.Spec PyProof.Rows PySem.Calls
variable {X:Cx}
def rMaxL (K:PySem.W.Frag):List V->Hp->VK->Prop:=fun xs H Q=>∃(a:Addr) (ns:List Int),xs=[.ref a]/\SqL K H a (ns.map V.int)/\ns≠[]/\Q (.int (maxZ ns)) H
theorem call_maxL {K:PySem.W.Frag}(hK:X.K=K)(hc:X.calm=true):CallR X (.builtin "max") (rMaxL K):=by
 subst hK;intro pins s σ H xs us Q I r h;obtain⟨a,ns,rfl,hq,ne,q⟩:=h;obtain⟨u,rfl,ru⟩:=vals1 r;cases ru;obtain⟨its,rv,p1,hz⟩:=I.list hq;have hi:=intsAre_of rv;have ln:its.length=ns.length:=IntsAre.length hi;have h2:0<ns.length:=List.length_pos_iff.mpr ne;have ll:a<s.heap.objs.size:=let⟨_,ho,_⟩:=p1.isList;Heap.lt_size ho;refine call_max_walk (wpAny_pyIter_list p1.isList ?_);refine⟨s.heap.objs.size,_,_,its.toArray.size,(fun i v=>its.toArray[i]?=some v),_,(fun i j=>decide (ns.getD j 0<ns.getD i 0)),rfl,Walks.list (A:=X.A.in1) (show X.A.in1.handled=none from I.ok.hd hc) s.heap.objs.size a (Nat.ne_of_lt ll) its.toArray,⟨⟨_,Heap.get?_push_size _ rfl,rfl,rfl⟩,p1.isList.at fun o e=>Heap.get?_push_of_some _ e⟩,fun b hb=>?_,by rw[List.size_toArray];omega,CmpOf.ints_gt (fun i=>ns.getD i 0) (fun i v e=>ints_nth hi (by simpa using e)),fun v h' tk hv k=>?_⟩
 ·rw[Heap.size_push];rcases List.mem_cons.mp hb with rfl|hb
  ·exact Nat.lt_succ_self _
  ·rw[List.mem_singleton.mp hb];exact Nat.lt_succ_of_lt ll
 ·obtain⟨t,e⟩:=ints_nth hi (i:=argBest (fun i j=>decide (ns.getD j 0<ns.getD i 0)) (ns.length-1)) (v:=v) (by rw[<-ln];simpa using hv);have:=(maxZ_best ns (ns.length-1) (by omega)).2;rw[show ns.length-1+1=ns.length by omega,List.take_length] at this;refine⟨.int (maxZ ns),H,I.kept (t':=tk) fun b o e=>k b o ?_ (Heap.get?_push_of_some _ e),⟨t,by rw[e,this]⟩,q⟩;exact fun z=>Nat.ne_of_lt (Heap.lt_size e) (List.mem_singleton.mp z)
theorem pi_listK {K:PySem.W.Frag}(hK:X.K=K){tg l:Expr}{tl:TE}(hl:PE X l tl):PI X tg l (iList K tl):=by
 subst hK;exact pi_list hl
end
end L2
namespace M38
def wsum:Nat->List Int->Int
 |_,[]=>0
 |k,x::xs=>x*((k:Int)+1)+wsum (k+1) xs
def mk (ns:List Int):Int:=wsum 0 ns%2147483647
theorem wsum_append:∀(xs ys:List Int) (k:Nat),wsum k (xs++ys)=wsum k xs+wsum (k+xs.length) ys
 |[],ys,k=>by simp[wsum]
 |x::xs,ys,k=>by
  rw[List.cons_append,wsum,wsum,wsum_append xs ys (k+1),List.length_cons,show k+1+xs.length=k+(xs.length+1) by omega];omega
theorem wsum_take {ns:List Int}{i:Nat}(h:i<ns.length):wsum 0 (ns.take (i+1))=wsum 0 (ns.take i)+ns[i]*((i:Int)+1):=by
 rw[List.take_add_one,List.getElem?_eq_getElem h,wsum_append,List.length_take,Nat.min_eq_left (by omega),Nat.zero_add];simp[wsum]
theorem range_sum (ns:List Int):((List.range ns.length).map fun i=>ns.getD i 0*((i:Int)+1)).sum=wsum 0 ns:=by
 have key:∀i,i<=ns.length->((List.range i).map fun i=>ns.getD i 0*((i:Int)+1)).sum=wsum 0 (ns.take i):=by
  intro i
  induction i with
  |zero=>intro _;simp[wsum]
  |succ i ih=>
   intro hi;rw[List.range_succ,List.map_append,List.sum_append,ih (by omega),wsum_take (by omega)];simp[List.getD,List.getElem?_eq_getElem (show i<ns.length by omega)]
 have:=key ns.length (Nat.le_refl _);rw[List.take_of_length_le (Nat.le_refl _)] at this;exact this
def inB (x:Int):Bool:=decide (0<=x)&&decide (x<=2147483646)
def sound (ns:List Int):Bool:=(!decide (ns=[]))&&(ns.all inB&&decide (ns.getLastD 0=mk ns.dropLast))
theorem mk_in (ns:List Int):0<=mk ns/\mk ns<=2147483646:=by
 unfold mk;omega
theorem inB_iff {x:Int}:inB x=true↔0<=x/\x<=2147483646:=by simp[inB]
theorem sound_iff {ns:List Int}:sound ns=true↔ns≠[]/\(∀x∈ns,0<=x/\x<=2147483646)/\ns.getLastD 0=mk ns.dropLast:=by
 unfold sound;simp only[Bool.and_eq_true,Bool.not_eq_true',decide_eq_false_iff_not,List.all_eq_true,inB_iff,decide_eq_true_eq]
theorem sound_sealed {ns:List Int}(h:∀x∈ns,0<=x/\x<=2147483646):sound (ns++[mk ns])=true:=by
 rw[sound_iff];refine⟨by simp,fun x hx=>?_,by simp⟩;rcases List.mem_append.mp hx with hx|hx
 ·exact h x hx
 ·rw[List.mem_singleton.mp hx];exact mk_in ns
def bal (r:List Int):Int:=wsum 0 r.dropLast-r.getLastD 0
def co (r:List Int)(i:Nat):Int:=if i+1=r.length then -1 else(i:Int)+1
theorem wsum_set:∀(ns:List Int) (k i:Nat) (y:Int) (h:i<ns.length),wsum k (ns.set i y)=wsum k ns+(y-ns[i])*((k:Int)+(i:Int)+1)
 |x::xs,k,0,y,_=>by
  simp only[List.set_cons_zero,wsum,List.getElem_cons_zero]
  grind
 |x::xs,k,i+1,y,h=>by
  simp only[List.set_cons_succ,wsum,List.getElem_cons_succ];rw[wsum_set xs (k+1) i y (by simpa using h)]
  grind
theorem getLastD_eq {r:List Int}(h:r≠[]):r.getLastD 0=r[r.length-1]'(by have:=List.length_pos_iff.mpr h;omega):=by
 rw[List.getLastD_eq_getLast?,List.getLast?_eq_getElem?,List.getElem?_eq_getElem (by have:=List.length_pos_iff.mpr h;omega)];rfl
theorem bal_set {r:List Int}{i:Nat}{y:Int}(h:i<r.length):bal (r.set i y)=bal r+co r i*(y-r[i]):=by
 have hne:r≠[]:=fun z=>by subst z;simp at h
 have hne2:r.set i y≠[]:=fun z=>by have:=congrArg List.length z;simp at this;exact hne this
 unfold bal co;rw[getLastD_eq hne,getLastD_eq hne2]
 by_cases hi:i+1=r.length
 ·rw[if_pos hi];have e1:(r.set i y).dropLast=r.dropLast:=by
   rw[List.dropLast_eq_take,List.dropLast_eq_take,List.length_set,List.take_set_of_le (by omega)]
  have e2:(r.set i y)[(r.set i y).length-1]'(by simp;omega)=y:=by
   simp only[List.length_set];rw[List.getElem_set,if_pos (by omega)]
  have e3:r[r.length-1]'(by omega)=r[i]:=by congr 1;omega
  rw[e1,e2,e3];omega
 ·rw[if_neg hi];have e1:(r.set i y).dropLast=r.dropLast.set i y:=by
   rw[List.dropLast_eq_take,List.dropLast_eq_take,List.length_set,List.take_set]
  have hd:i<r.dropLast.length:=by rw[List.length_dropLast];omega
  have e2:(r.set i y)[(r.set i y).length-1]'(by simp;omega)=r[r.length-1]'(by omega):=by
   simp only[List.length_set];rw[List.getElem_set,if_neg (by omega)]
  rw[e1,e2,wsum_set _ _ _ _ hd,List.getElem_dropLast];simp
  grind
theorem bal_sound {r:List Int}(h:sound r=true):bal r%2147483647=0:=by
 obtain⟨_,_,h3⟩:=sound_iff.mp h;unfold bal;rw[h3];unfold mk;omega
theorem cop:∀d:Nat,d<1000->0<d->Nat.Coprime 2147483647 d:=by
 have:∀c:Fin 1000,c.val≠0->Nat.gcd 2147483647 c.val=1:=by decide +kernel
 exact fun d h1 h0=>this ⟨d,h1⟩ (by show d≠0;omega)
theorem div_of {d x:Int}(h0:d≠0)(h1:d.natAbs<1000)(h:d*x%2147483647=0):x%2147483647=0:=by
 have a:(2147483647:Int) ∣ d*x:=Int.dvd_of_emod_eq_zero h;have b:2147483647 ∣ (d*x).natAbs:=by
  have:=Int.natAbs_dvd_natAbs.mpr a;exact this
 rw[Int.natAbs_mul] at b;have c:=(cop d.natAbs h1 (by omega)).dvd_of_dvd_mul_left b;have e:(2147483647:Int) ∣ x:=by
  rw[<-Int.natAbs_dvd_natAbs];exact c
 exact Int.emod_eq_zero_of_dvd e
theorem co_ne (r:List Int)(i:Nat):co r i≠0:=by unfold co;split<;>omega
theorem co_lt {r:List Int}{i:Nat}(h:i<r.length)(hr:r.length<=900):(co r i).natAbs<1000:=by unfold co;split<;>omega
theorem one_change {r:List Int}{i:Nat}{y:Int}(hr:r.length<=900)(h:i<r.length)(hs:sound r=true)(hy:y≠r[i]):sound (r.set i y)=false:=by
 rw[<-Bool.not_eq_true];intro h2;have b1:=bal_sound hs;have b2:=bal_sound h2;rw[bal_set h] at b2;have b3:co r i*(y-r[i])%2147483647=0:=by omega
 have b4:=div_of (co_ne r i) (co_lt h hr) b3;obtain⟨_,i1,_⟩:=sound_iff.mp hs;obtain⟨_,i2,_⟩:=sound_iff.mp h2;have k1:=i1 r[i] (List.getElem_mem h);have k2:=i2 y (List.mem_set h y);omega
theorem two_changed {r:List Int}{i j:Nat}(hr:r.length<=900)(hi:i<r.length)(hj:j<r.length)(hs:sound r=true):sound ((r.set i r[j]).set j r[i])=decide ((r.set i r[j]).set j r[i]=r):=by
 by_cases e:(r.set i r[j]).set j r[i]=r
 ·rw[e,hs];simp
 ·rw[decide_eq_false e,<-Bool.not_eq_true];intro h2;have b1:=bal_sound hs;have b2:=bal_sound h2
  by_cases hij:i=j
  ·subst hij;exact e (by rw[List.set_set,List.set_getElem_self])
  ·rw[bal_set (by simpa using hj),bal_set hi,List.getElem_set,if_neg hij] at b2;have c2:co (r.set i r[j]) j=co r j:=by unfold co;rw[List.length_set]
   rw[c2] at b2;have b3:(co r i-co r j)*(r[j]-r[i])%2147483647=0:=by
    have q:bal r+co r i*(r[j]-r[i])+co r j*(r[i]-r[j])=bal r+(co r i-co r j)*(r[j]-r[i]):=by grind
    rw[q] at b2;omega
   have d0:co r i-co r j≠0:=by unfold co;split<;>split<;>omega
   have d1:(co r i-co r j).natAbs<1000:=by unfold co;split<;>split<;>omega
   have b4:=div_of d0 d1 b3;obtain⟨_,i1,_⟩:=sound_iff.mp hs;have k1:=i1 r[i] (List.getElem_mem hi);have k2:=i1 r[j] (List.getElem_mem hj);have eq:r[j]=r[i]:=by omega
   refine e ?_;rw[eq,List.set_getElem_self,<-eq,List.set_getElem_self]
end M38
set_option maxHeartbeats 4000000
namespace K38
local macro_rules | `(!$x) => do
  let (f, a) ← match x with | `($f:ident $a*) => pure (f, a) | `($f:ident) => pure (f, #[]) | _ => Lean.Macro.throwUnsupported
  let some (n, m, t) := ([([`pa_nil, `pss_nil, `pifs_nil, `pgs_nil, `po_none], 1, 0, ""), ([`ps_never, `pe_dnewK], 2, 0, ""), ([`pss_one, `pt_val, `pifs_one, `pe_non, `po_some, `pxs_one], 3, 0, ""), ([`pe_not, `ps_ret, `pt_not, `pw_or1, `pe_bl, `pi_str, `pe_int, `pe_str, `pi_tup, `pi_list, `pe_lst, `px_ret, `pw_and1], 4, 0, ""), ([`ps_expr, `px_expr], 4, 2, "r"), ([`pe_globS, `pe_globI, `pe_xcl], 4, 3, "d"), ([`pe_ty], 4, 5, "dd"), ([`pe_one, `pss_cons, `pe_tup, `pc_din, `pc_notN, `pc_isN, `pe_dclear], 5, 0, ""), ([`pe_fld], 5, 2, "f"), ([`pa_cons, `pgs_cons], 5, 3, "r"), ([`pe_cmp, `pe_dget, `pe_un, `pt_cmp], 6, 0, ""), ([`pi_range1], 6, 4, "r"), ([`ps_asg], 6, 5, "rrr"), ([`pe_and, `pw_or, `pe_ix, `pe_or, `pe_dget1, `pw_and, `pg_sub], 7, 0, ""), ([`ps_raise0], 7, 6, "fd"), ([`ps_if, `pe_op, `pt_cmpR, `ps_for], 8, 0, ""), ([`ps_fld], 8, 3, "f"), ([`pe_cmpR], 8, 4, "f"), ([`pe_dget2, `pe_dpop2], 9, 0, ""), ([`ps_dput], 9, 5, "f"), ([`pe_callB, `pe_callTy], 9, 9, "ddrr"), ([`pe_slice, `ps_fldaug], 10, 0, ""), ([`pe_fn, `pex_fn], 10, 7, "drr"), ([`pi_enum], 11, 5, "rr"), ([`pe_mth0], 11, 5, "tr"), ([`pe_cls], 11, 7, "drr"), ([`pe_fnX], 11, 8, "drr"), ([`pe_chain, `pt_chain], 12, 0, ""), ([`pe_bm], 12, 11, "rrrrr"), ([`ps_try], 13, 7, "d"), ([`pe_mth], 14, 8, "rrr"), ([`pe_mthX], 15, 9, "rrr")] : List (List Lean.Name × Nat × Nat × String)).findSome? (fun (l, n) => if l.contains f.getId then some n else none) | Lean.Macro.throwUnsupported
  let u ← `(_)
  let us := Array.replicate n u
  let mut p := #[]
  for c in t.toList.drop (t.length + a.size - m) do
    let v ← if c == 'r' then `(by rfl) else if c == 'd' then `(by decide) else if c == 'f' then `(rfl) else `(by trivial)
    p := p.push v
  `(@$f $us* $a* $p*)
set_option hygiene false
local macro_rules | `(tactic| exists $t) => `(tactic| refine F.ok $t (fun vs H Q E h => ?_) (fun cdv A outer s H vs Q E hr h => ?_))
set_option hygiene true
local macro_rules | `(tactic| trivial) => `(tactic| first | exact .inl rfl | exact .inr rfl | assumption | exact ⟨rfl, rfl, rfl, by decide +kernel, rfl, by decide +kernel, by decide +kernel⟩ | exact L2.Room.mono (by assumption) (by decide))
open PySem L2 M38
theorem sm_0 : 0 <= sizeLine := small (by decide)
theorem sm_1 : 1 <= sizeLine := small (by decide)
theorem sm_2 : 2 <= sizeLine := small (by decide)
theorem sm_3 : 3 <= sizeLine := small (by decide)
theorem sm_4 : 4 <= sizeLine := small (by decide)
theorem sm_5 : 5 <= sizeLine := small (by decide)
def top (i:Nat):Stmt:=PySem.Challenge.pw_stemshelf_k38_heads_laid.main.body.getD i (.Pass ⟨0,0,0,0⟩)
abbrev s_is_whole:Stmt:=top 2
theorem sc_is_whole:FnScope ["thing"] ["thing"] (defScope s_is_whole):=by trivial
abbrev s_is_between:Stmt:=top 3
theorem sc_is_between:FnScope ["thing","least","most"] ["thing","least","most"] (defScope s_is_between):=by trivial
abbrev s_is_tuple_of:Stmt:=top 4
theorem sc_is_tuple_of:FnScope ["thing","many"] ["thing","many"] (defScope s_is_tuple_of):=by trivial
abbrev s_number_of:Stmt:=top 7
theorem sc_number_of:FnScope ["sign"] ["sign"] (defScope s_number_of):=by trivial
abbrev s_sign_of:Stmt:=top 8
theorem sc_sign_of:FnScope ["number"] ["number"] (defScope s_sign_of):=by trivial
abbrev s_is_text:Stmt:=top 9
theorem sc_is_text:FnScope ["thing","least","most"] ["thing","least","most"] (defScope s_is_text):=by trivial
abbrev s_words_of:Stmt:=top 25
theorem sc_words_of:FnScope ["thing","words","part"] ["thing"] (defScope s_words_of):=by trivial
abbrev s_thing_of:Stmt:=top 26
theorem sc_thing_of:FnScope ["words","reader","thing"] ["words"] (defScope s_thing_of):=by trivial
abbrev s_WordReader_init:Stmt:=inClass (top 27) 0
theorem sc_WordReader_init:FnScope ["self","words"] ["self","words"] (defScope s_WordReader_init):=by trivial
abbrev s_WordReader_is_through:Stmt:=inClass (top 27) 1
theorem sc_WordReader_is_through:FnScope ["self"] ["self"] (defScope s_WordReader_is_through):=by trivial
abbrev s_WordReader_word_to:Stmt:=inClass (top 27) 2
theorem sc_WordReader_word_to:FnScope ["self","most"] ["self","most"] (defScope s_WordReader_word_to):=by trivial
abbrev s_read_thing:Stmt:=top 28
theorem sc_read_thing:FnScope ["reader","deep","first","many"] ["reader","deep"] (defScope s_read_thing):=by trivial
abbrev s_read_text:Stmt:=top 29
theorem sc_read_text:FnScope ["reader","many"] ["reader"] (defScope s_read_text):=by trivial
abbrev s_is_name:Stmt:=top 36
theorem sc_is_name:FnScope ["thing"] ["thing"] (defScope s_is_name):=by trivial
abbrev s_is_tag:Stmt:=top 37
theorem sc_is_tag:FnScope ["thing"] ["thing"] (defScope s_is_tag):=by trivial
abbrev s_mark_of:Stmt:=top 40
theorem sc_mark_of:FnScope ["words"] ["words"] (defScope s_mark_of):=by trivial
abbrev s_sealed:Stmt:=top 41
theorem sc_sealed:FnScope ["words"] ["words"] (defScope s_sealed):=by trivial
abbrev s_unsealed:Stmt:=top 42
theorem sc_unsealed:FnScope ["row","words"] ["row"] (defScope s_unsealed):=by trivial
abbrev s_thing_on:Stmt:=top 44
theorem sc_thing_on:FnScope ["boards","board","number","row","words"] ["boards","board","number"] (defScope s_thing_on):=by trivial
abbrev s_is_head:Stmt:=top 51
theorem sc_is_head:FnScope ["thing"] ["thing"] (defScope s_is_head):=by trivial
abbrev s_are_keepers:Stmt:=top 52
theorem sc_are_keepers:FnScope ["thing"] ["thing"] (defScope s_are_keepers):=by trivial
abbrev s_is_keeper:Stmt:=top 53
theorem sc_is_keeper:FnScope ["thing"] ["thing"] (defScope s_is_keeper):=by trivial
abbrev s_are_rising:Stmt:=top 54
theorem sc_are_rising:FnScope ["named","names"] ["named"] (defScope s_are_rising):=by trivial
abbrev s_are_names:Stmt:=top 55
theorem sc_are_names:FnScope ["thing"] ["thing"] (defScope s_are_names):=by trivial
abbrev s_is_stem:Stmt:=top 56
theorem sc_is_stem:FnScope ["thing"] ["thing"] (defScope s_is_stem):=by trivial
abbrev s_is_seal:Stmt:=top 57
theorem sc_is_seal:FnScope ["thing"] ["thing"] (defScope s_is_seal):=by trivial
abbrev s_are_at_one:Stmt:=top 58
theorem sc_are_at_one:FnScope ["keepers","names","stems","seals","called","turns","begins"] ["keepers","names"] (defScope s_are_at_one):=by trivial
abbrev s_head_row:Stmt:=top 59
theorem sc_head_row:FnScope ["head"] ["head"] (defScope s_head_row):=by trivial
abbrev s_lay_head:Stmt:=top 60
theorem sc_lay_head:FnScope ["boards","head","row","board"] ["boards","head"] (defScope s_lay_head):=by trivial
abbrev s_head_of:Stmt:=top 61
theorem sc_head_of:FnScope ["boards","found","board","told"] ["boards"] (defScope s_head_of):=by trivial
abbrev s_Boards_init:Stmt:=inClass (top 65) 0
theorem sc_Boards_init:FnScope ["self","many"] ["self","many"] (defScope s_Boards_init):=by trivial
abbrev s_Boards_many:Stmt:=inClass (top 65) 1
theorem sc_Boards_many:FnScope ["self"] ["self"] (defScope s_Boards_many):=by trivial
abbrev s_Boards_write:Stmt:=inClass (top 65) 2
theorem sc_Boards_write:FnScope ["self","board","number","row","shelf"] ["self","board","number","row"] (defScope s_Boards_write):=by trivial
abbrev s_Boards_cell:Stmt:=inClass (top 65) 3
theorem sc_Boards_cell:FnScope ["self","board","number","row"] ["self","board","number"] (defScope s_Boards_cell):=by trivial
abbrev s_Boards_spoil:Stmt:=inClass (top 65) 4
theorem sc_Boards_spoil:FnScope ["self","board","number","row","shelf"] ["self","board","number","row"] (defScope s_Boards_spoil):=by trivial
abbrev s_Boards_lose:Stmt:=inClass (top 65) 5
theorem sc_Boards_lose:FnScope ["self","board"] ["self","board"] (defScope s_Boards_lose):=by trivial
abbrev s_Boards_stop:Stmt:=inClass (top 65) 6
theorem sc_Boards_stop:FnScope ["self","many"] ["self","many"] (defScope s_Boards_stop):=by trivial
abbrev s_Boards_written:Stmt:=inClass (top 65) 7
theorem sc_Boards_written:FnScope ["self"] ["self"] (defScope s_Boards_written):=by trivial
abbrev s_Boards_shelf:Stmt:=inClass (top 65) 10
theorem sc_Boards_shelf:FnScope ["self","board"] ["self","board"] (defScope s_Boards_shelf):=by trivial
abbrev s__law_cell_at:Stmt:=top 67
theorem sc__law_cell_at:FnScope ["_law_script","_law_k"] ["_law_script","_law_k"] (defScope s__law_cell_at):=by trivial
abbrev s__law_row:Stmt:=top 68
theorem sc__law_row:FnScope ["_law_cell","_law_many","_law_found","_law_number","_law_k"] ["_law_cell","_law_many"] (defScope s__law_row):=by trivial
abbrev s__law_head:Stmt:=top 69
theorem sc__law_head:FnScope ["_law_row_here","_law_keepers","_law_names","_law_k","_law_tag"] ["_law_row_here"] (defScope s__law_head):=by trivial
abbrev s__law_spoilt:Stmt:=top 70
theorem sc__law_spoilt:FnScope ["_law_row_here","_law_words","_law_way","_law_other","_law_at","_law_to"] ["_law_row_here","_law_words","_law_way"] (defScope s__law_spoilt):=by trivial
abbrev s__law_told:Stmt:=top 71
theorem sc__law_told:FnScope ["_law_boards","_law_found","e"] ["_law_boards"] (defScope s__law_told):=by trivial
abbrev s__law_is_stopped:Stmt:=top 72
theorem sc__law_is_stopped:FnScope ["_law_boards","_law_head_here"] ["_law_boards","_law_head_here"] (defScope s__law_is_stopped):=by trivial
abbrev s_law:Stmt:=top 73
theorem sc_law:FnScope ["_law_script","_law_many","_law_boards","_law_kept","_law_cell","_law_row_here","_law_head_here","_law_words","_law_board","_law_ahead","_law_writes","_law_heads","_law_due"] ["_law_script"] (defScope s_law):=by trivial
structure Txt (K:W.Frag) (mg:Str->Option Value) (C_WordReader:Addr) (C_Boards:Addr) (XC:Nat->Addr):Prop where
 cl_WordReader:Cls K C_WordReader
 n_WordReader_words:NoAttr K C_WordReader "words"
 n_WordReader_place:NoAttr K C_WordReader "place"
 cl_Boards:Cls K C_Boards
 n_Boards_shelves:NoAttr K C_Boards "shelves"
 n_Boards_writes:NoAttr K C_Boards "writes"
 n_Boards_writes_left:NoAttr K C_Boards "writes_left"
 x_NoThing:mg "NoThing"=some (.ref (XC 0))
 x_Stopped:mg "Stopped"=some (.ref (XC 1))
 x_NoHouse:mg "NoHouse"=some (.ref (XC 2))
 x_StemError:mg "StemError"=some (.ref (XC 3))
 x_Lost:mg "Lost"=some (.ref (XC 4))
 q_Stopped:W.excIn K (XC 1) [.type "ValueError",.type "Exception",.type "BaseException",.type "object"] "ValueError.__new__"=true
 q_NoThing:W.excIn K (XC 0) [.type "ValueError",.type "Exception",.type "BaseException",.type "object"] "ValueError.__new__"=true
 q_NoHouse:W.excIn K (XC 2) [.type "ValueError",.type "Exception",.type "BaseException",.type "object"] "ValueError.__new__"=true
 m_NoThing_NoThing:W.exmOne K (.ref (XC 0)) (.ref (XC 0))=some true
 m_NoHouse_StemError:W.exmOne K (.ref (XC 2)) (.ref (XC 3))=some true
 m_Stopped_Stopped:W.exmOne K (.ref (XC 1)) (.ref (XC 1))=some true
 e_NoHouse:ExcCls K (XC 2)
 k_NoHouse_Lost:W.kitOne K (.ref (XC 2)) (.ref (XC 4))=some false
 k_NoHouse_NoThing:W.kitOne K (.ref (XC 2)) (.ref (XC 0))=some false
 k_NoHouse_Stopped:W.kitOne K (.ref (XC 2)) (.ref (XC 1))=some false
 k_NoHouse_ValueError:W.kitOne K (.ref (XC 2)) (.type "ValueError")=some true
 k_NoHouse_NoHouse:W.kitOne K (.ref (XC 2)) (.ref (XC 2))=some true
 b_ValueError:mg "ValueError"=none
 b_abs:mg "abs"=none
 b_all:mg "all"=none
 b_bool:mg "bool"=none
 b_dict:mg "dict"=none
 b_enumerate:mg "enumerate"=none
 b_int:mg "int"=none
 b_isinstance:mg "isinstance"=none
 b_len:mg "len"=none
 b_list:mg "list"=none
 b_max:mg "max"=none
 b_min:mg "min"=none
 b_range:mg "range"=none
 b_set:mg "set"=none
 b_sorted:mg "sorted"=none
 b_str:mg "str"=none
 b_sum:mg "sum"=none
 b_tuple:mg "tuple"=none
 c_SIGNS:∃t,mg "SIGNS"=some (.str (PySem.Str.ofString " !\"#$&'()*+,-./0123456789:;<=>?@ABCDEFGHIJKLMNOPQRSTUVWXYZ[\\]^_`abcdefghijklmnopqrstuvwxyz{|}~") t)
 c_MOST_NUMBER:∃t,mg "MOST_NUMBER"=some (.int 999999999 t)
 c_MOST_SIGNS:∃t,mg "MOST_SIGNS"=some (.int 400 t)
 c_MOST_PARTS:∃t,mg "MOST_PARTS"=some (.int 100 t)
 c_MOST_DEEP:∃t,mg "MOST_DEEP"=some (.int 8 t)
 c_NUMBER_WORD:∃t,mg "NUMBER_WORD"=some (.int 0 t)
 c_TEXT_WORD:∃t,mg "TEXT_WORD"=some (.int 1 t)
 c_TUPLE_WORD:∃t,mg "TUPLE_WORD"=some (.int 2 t)
 c_NAME_SIGNS:∃t,mg "NAME_SIGNS"=some (.str (PySem.Str.ofString "0123456789abcdefghijklmnopqrstuvwxyz") t)
 c_MOST_NAME_SIGNS:∃t,mg "MOST_NAME_SIGNS"=some (.int 8 t)
 c_MOST_CELL:∃t,mg "MOST_CELL"=some (.int 999999 t)
 c_MOST_BIRTH:∃t,mg "MOST_BIRTH"=some (.int 999999999 t)
 c_SUM_RESTS:∃t,mg "SUM_RESTS"=some (.int 997 t)
 c_MARK_RESTS:∃t,mg "MARK_RESTS"=some (.int 2147483647 t)
 c_STEM:∃t,mg "STEM"=some (.int 1 t)
 c_SEAL:∃t,mg "SEAL"=some (.int 2 t)
 c_HEAD_CELL:∃t,mg "HEAD_CELL"=some (.int 0 t)
 c_MOST_KEEPERS:∃t,mg "MOST_KEEPERS"=some (.int 8 t)
 c_MOST_NAMES:∃t,mg "MOST_NAMES"=some (.int 24 t)
 c_LEAST_BOARDS:∃t,mg "LEAST_BOARDS"=some (.int 2 t)
 c_MOST_BOARDS:∃t,mg "MOST_BOARDS"=some (.int 4 t)
abbrev EM:Str:=PySem.Str.ofString ""
abbrev SG:Str:=PySem.Str.ofString " !\"#$&'()*+,-./0123456789:;<=>?@ABCDEFGHIJKLMNOPQRSTUVWXYZ[\\]^_`abcdefghijklmnopqrstuvwxyz{|}~"
theorem sg_len:SG.cps.toList.length=94:=by decide +kernel
theorem sg_len2:SG.length<=sizeLine:=small (by decide +kernel)
theorem sg_find:∀k:Nat,k<94->PySem.Txt.find SG ⟨#[SG.cps.toList.getD k 0]⟩=(k:Int):=by decide +kernel
theorem sg_at {i:Int}(h0:0<=i)(h1:i<94):atI SG.cps.toList i=some (SG.cps.toList.getD i.toNat 0):=by
 have hk:i.toNat<SG.cps.toList.length:=by rw[sg_len];omega
 have q:atI SG.cps.toList ((i.toNat:Nat):Int)=some (SG.cps.toList.getD i.toNat 0):=atI_nat (by rw[List.getElem?_eq_getElem hk];simp only[List.getD,List.getElem?_eq_getElem hk,Option.getD_some]);have ek:((i.toNat:Nat):Int)=i:=by omega
 rw[ek] at q;exact q
section
variable {P:Program}{w:World}{K:W.Frag}{mg:Str->Option Value}{base:Heap}{f C_WordReader C_Boards:Addr}{XC:Nat->Addr}{fd:FuncData}
def sp_is_whole (K:W.Frag):Sp:=fun vs H Q _=>∃v,vs=[v]/\Ok H v/\Q (.bl (wholeB H v)) H
theorem ok_is_whole (T:Txt K mg C_WordReader C_Boards XC)(F:Fun K "is_whole" "is_whole" s_is_whole f fd):FnOk P w K mg base CX0 1 f fd ["thing"] (sp_is_whole K):=by
 exists sc_is_whole
 ·obtain⟨c,rfl,_⟩:=h;rfl
 obtain⟨v,rfl,ok,q⟩:=h;refine⟨_,(!pss_one (!ps_ret (!pe_and (!pe_callB call_isinst (by rfl) T.b_isinstance bt_isinstance (!pa_cons (pv 0) (!pa_cons (!pe_ty rfl T.b_int bt_int) (!pa_nil)))) (!pe_one (!pe_not (!pe_callB call_isinst (by rfl) T.b_isinstance bt_isinstance (!pa_cons (pv 0) (!pa_cons (!pe_ty rfl T.b_bool bt_bool) (!pa_nil))))))))),?_⟩;exact tAndV_p _ _ (fun R q=>⟨_,rfl,_,_,_,_,rfl,ok.ty K,ok.kit K,q⟩) (fun _ R q=>⟨_,rfl,_,_,_,_,rfl,ok.ty K,ok.kit K,_,rfl,q⟩) q
def sp_is_between (K:W.Frag):Sp:=fun vs H Q _=>∃v a b,vs=[v,.int a,.int b]/\Ok H v/\Q (.bl (betw a b v)) H
theorem ok_is_between (T:Txt K mg C_WordReader C_Boards XC)(F:Fun K "is_between" "is_between" s_is_between f fd)(D_is_whole:Def P w K mg base 1 "is_whole" ["thing"] (sp_is_whole K)):FnOk P w K mg base CX0 2 f fd ["thing","least","most"] (sp_is_between K):=by
 exists sc_is_between
 ·obtain⟨v,a,b,rfl,_⟩:=h;rfl
 obtain⟨v,a,b,rfl,ok,q⟩:=h;refine⟨_,(!pss_one (!ps_ret (!pe_and (!pe_fn D_is_whole (by trivial) rfl (!pa_cons (pv 0) (!pa_nil))) (!pe_one (!pe_chain op_le op_le (pv 1) (pv 0) (pv 2) (by with_unfolding_all rfl)))))),?_⟩;refine tAndV_p (wholeB H v) (betw a b v) (fun R q=>⟨_,rfl,v,rfl,ok,q⟩) (fun hw R q=>?_) ?_
 ·obtain⟨i,rfl⟩:=whole_of ok hw;refine⟨_,rfl,_,rfl,_,_,rfl,rfl,_,rfl,?_⟩;refine ite2 (fun c=>?_) (fun c=>?_)
  ·have e:betw a b (.int i)=decide (i<=b):=by show(decide (a<=i)&&decide (i<=b))=_;rw[c];rfl
   rw[e] at q;exact⟨_,rfl,_,_,rfl,rfl,q⟩
  ·have e:betw a b (.int i)=false:=by show(decide (a<=i)&&decide (i<=b))=_;rw[Bool.eq_false_iff.mpr c];rfl
   rw[e] at q;exact q
 ·cases hw:wholeB H v with
  |true=>exact q
  |false=>rw[betw_eq hw] at q;exact q
def allIn (t:Str)(z:Str):Bool:=(cod z).all fun c=>decide (c∈cod t)
def textB (a b:Int):V->Bool
 | .str z=>decide (a<=(z.length:Int))&&decide ((z.length:Int)<=b)&&allIn SG z
 |_=>false
theorem textB_no {H:Hp}{v:V}{a b:Int}(h:isA (tyN H v) "str"=false):textB a b v=false:=by
 cases v with
 |str z=>exact absurd (show isA "str" "str"=false from h) (by decide)
 |_=>rfl
def sp_is_text (K:W.Frag):Sp:=fun vs H Q _=>∃v a b,vs=[v,.int a,.int b]/\Ok H v/\∀H',Same H H'->Q (.bl (textB a b v)) H'
theorem signs_all (t z:Str):((cod z).map fun c=>V.str ⟨#[c]⟩).map (fun v=>match v with|V.str y=>V.bl (!(Builtin.Str.occurrences t y 0 t.length 1).isEmpty)|_=>V.non)=((cod z).map fun c=>decide (c∈cod t)).map V.bl:=by
 rw[List.map_map,List.map_map];refine List.map_congr_left fun c _=>?_
 show V.bl (!(Builtin.Str.occurrences t ⟨#[c]⟩ 0 t.length 1).isEmpty)=V.bl (decide (c∈cod t));rw[PySem.StrLaws.found_one]
theorem ok_is_text (T:Txt K mg C_WordReader C_Boards XC)(F:Fun K "is_text" "is_text" s_is_text f fd):FnOk P w K mg base CX0 1 f fd ["thing","least","most"] (sp_is_text K):=by
 exists sc_is_text
 ·obtain⟨v,a,b,rfl,_⟩:=h;rfl
 obtain⟨v,a,b,rfl,ok,q⟩:=h;refine⟨_,(!pss_cons (!ps_if (@PW.pt _ _ _ (!pw_or (!pt_not (!pt_val (!pe_callB call_isinst (by rfl) T.b_isinstance bt_isinstance (!pa_cons (pv 0) (!pa_cons (!pe_ty rfl T.b_str bt_str) (!pa_nil)))) (by intro _;rfl))) (!pw_or1 (!pt_not (!pt_chain op_le op_le (pv 1) (!pe_callB call_len_str (by rfl) T.b_len bt_len (!pa_cons (pv 0) (!pa_nil))) (pv 2) (by with_unfolding_all rfl)))))) (!pss_one (!ps_ret (!pe_bl))) (!pss_nil)) (!pss_one (!ps_ret (!pe_callB (call_all rfl) (by rfl) T.b_all bt_all (!pa_cons (@pe_comp0 _ ["sign"] _ _ _ _ _ _ _ _ _ _ rfl (!pi_str (pv 0)) (by decide +kernel) (fun C s H fp=>⟨(@pg_name _ _ (0) _ (show(["sign"]:List Str).Nodup by decide +kernel) rfl (by trivial) (by trivial)),(!pifs_nil),(!pe_cmpR op_in_str (pv 0) (!pe_globS rfl T.c_SIGNS))⟩) (by intro _;rfl)) (!pa_nil)))))),?_⟩;refine⟨_,rfl,_,_,_,_,rfl,ok.ty K,ok.kit K,_,rfl,?_⟩;cases hw:isA (tyN H v) "str" with
 |false=>
  refine iteTc rfl ?_;have:=q H (Same.refl _);rw[textB_no hw] at this;exact this
 |true=>
  refine iteFc rfl ?_;obtain⟨z,rfl,hz⟩:=str_of ok hw;have zl:=cod_len z;refine⟨_,rfl,_,rfl,_,rfl,small (by omega),_,_,rfl,rfl,_,rfl,?_⟩;refine ite2 (fun c=>?_) (fun c=>?_)
  ·refine⟨_,rfl,_,_,rfl,rfl,_,rfl,?_⟩;refine ite2 (fun d=>?_) (fun d=>?_)
   ·have d':decide ((z.length:Int)<=b)=false:=by simpa using d
    have e:textB a b (.str z)=false:=by show(decide (a<=(z.length:Int))&&decide ((z.length:Int)<=b)&&allIn SG z)=_;rw[d',Bool.and_false];rfl
    have:=q H (Same.refl _);rw[e] at this;exact this
   ·have d':decide ((z.length:Int)<=b)=true:=by simpa using d
    refine⟨_,rfl,z,rfl,?_⟩;refine comp_map (fun v=>match v with | .str y=>.bl (!(Builtin.Str.occurrences SG y 0 SG.length 1).isEmpty)|_=>.non) itIs_str (by rw[List.length_map];exact Nat.le_trans (Nat.le_of_eq zl) (by omega)) (fun x H' R hx s' hR=>?_) fun l H7 n7 s7 h7=>?_
    ·obtain⟨u,_,rfl⟩:=List.mem_map.mp hx;exact⟨_,rfl,_,_,rfl,rfl,hR H' (Same.refl _)⟩
    rw[signs_all] at h7;refine⟨l,_,rfl,SqL.of h7,?_⟩;have e:textB a b (.str z)=((cod z).map fun c=>decide (c∈cod SG)).all id:=by
     show(decide (a<=(z.length:Int))&&decide ((z.length:Int)<=b)&&allIn SG z)=_;unfold allIn;rw[c,d',List.all_map];rfl
    have:=q H7 s7;rw[e] at this;exact this
  ·have c':decide (a<=(z.length:Int))=false:=Bool.eq_false_iff.mpr c;have e:textB a b (.str z)=false:=by show(decide (a<=(z.length:Int))&&decide ((z.length:Int)<=b)&&allIn SG z)=_;rw[c',Bool.false_and];rfl
   have:=q H (Same.refl _);rw[e] at this;exact⟨_,rfl,this⟩
abbrev NS:Str:=PySem.Str.ofString "0123456789abcdefghijklmnopqrstuvwxyz"
abbrev LN:Str:=PySem.Str.ofString "abcdefghijklmnopqrstuvwxyz0123456789"
theorem ns_ln:(∀c∈cod NS,c∈cod LN)/\∀c∈cod LN,c∈cod NS/\c∈cod SG:=by decide +kernel
def nameB:V->Bool
 | .str z=>decide ((1:Int)<=z.length)&&decide ((z.length:Int)<=8)&&allIn LN z
 |_=>false
theorem allIn_two (z:Str):(allIn SG z&&allIn NS z)=allIn LN z:=by
 unfold allIn;rw[Bool.eq_iff_iff,Bool.and_eq_true,List.all_eq_true,List.all_eq_true,List.all_eq_true];simp only[decide_eq_true_eq];exact⟨fun h c hc=>ns_ln.1 c (h.2 c hc),fun h=>⟨fun c hc=>(ns_ln.2 c (h c hc)).2,fun c hc=>(ns_ln.2 c (h c hc)).1⟩⟩
theorem name_text (v:V):nameB v=match v with | .str z=>textB 1 8 v&&allIn NS z|_=>false:=by
 cases v with
 |str z=>
  show(decide ((1:Int)<=z.length)&&decide ((z.length:Int)<=8)&&allIn LN z)=((decide ((1:Int)<=(z.length:Int))&&decide ((z.length:Int)<=8)&&allIn SG z)&&allIn NS z);rw[<-allIn_two z];simp only[Bool.and_assoc]
 |_=>rfl
def sp_is_name (K:W.Frag):Sp:=fun vs H Q _=>∃v,vs=[v]/\Ok H v/\∀H',Same H H'->Q (.bl (nameB v)) H'
theorem ok_is_name (T:Txt K mg C_WordReader C_Boards XC)(F:Fun K "is_name" "is_name" s_is_name f fd)(D_is_text:Def P w K mg base 1 "is_text" ["thing","least","most"] (sp_is_text K)):FnOk P w K mg base CX0 2 f fd ["thing"] (sp_is_name K):=by
 exists sc_is_name
 ·obtain⟨v,rfl,_⟩:=h;rfl
 obtain⟨v,rfl,ok,q⟩:=h;refine⟨_,(!pss_one (!ps_ret (!pe_and (!pe_fn D_is_text (by trivial) rfl (!pa_cons (pv 0) (!pa_cons (!pe_int) (!pa_cons (!pe_globI rfl T.c_MOST_NAME_SIGNS) (!pa_nil))))) (!pe_one (!pe_callB (call_all rfl) (by rfl) T.b_all bt_all (!pa_cons (@pe_comp0 _ ["sign"] _ _ _ _ _ _ _ _ _ _ rfl (!pi_str (pv 0)) (by decide +kernel) (fun C s H fp=>⟨(@pg_name _ _ (0) _ (show(["sign"]:List Str).Nodup by decide +kernel) rfl (by trivial) (by trivial)),(!pifs_nil),(!pe_cmpR op_in_str (pv 0) (!pe_globS rfl T.c_NAME_SIGNS))⟩) (by intro _;rfl)) (!pa_nil))))))),?_⟩;refine⟨_,rfl,v,1,8,rfl,ok,fun H1 s1=>⟨_,rfl,?_⟩⟩;have en:=name_text v;refine ite2 (fun c=>?_) (fun c=>?_)
 ·cases v with
  |str z=>
   have hz:z.length<=1000:=ok;have zl:=cod_len z;refine⟨_,rfl,z,rfl,?_⟩;refine comp_map (fun v=>match v with | .str y=>.bl (!(Builtin.Str.occurrences NS y 0 NS.length 1).isEmpty)|_=>.non) itIs_str (by rw[List.length_map];exact Nat.le_trans (Nat.le_of_eq zl) (by omega)) (fun x H' R hx s' hR=>?_) fun l H7 n7 s7 h7=>?_
   ·obtain⟨u,_,rfl⟩:=List.mem_map.mp hx;exact⟨_,rfl,_,_,rfl,rfl,hR H' (Same.refl _)⟩
   rw[signs_all] at h7;refine⟨l,_,rfl,SqL.of h7,?_⟩;have e:nameB (.str z)=((cod z).map fun c=>decide (c∈cod NS)).all id:=by
    rw[en];show(textB 1 8 (.str z)&&allIn NS z)=_;rw[c];unfold allIn;rw[List.all_map];rfl
   have:=q H7 (s1.trans s7);rw[e] at this;exact this
  |_=>exact absurd (show false=true from c) Bool.false_ne_true
 ·have e:nameB v=false:=by
   rw[en];cases v with
   |str z=>show(textB 1 8 (.str z)&&allIn NS z)=false;rw[Bool.eq_false_iff.mpr c];rfl
   |_=>rfl
  have:=q H1 s1;rw[e] at this;exact this
def tupN (H:Hp)(v:V)(n:Int):Bool:=match v with
 | .ref a=>match H a with
  |some (.tup xs)=>decide ((xs.length:Int)=n)
  |_=>false
 |_=>false
theorem tupN_tup {H:Hp}{a:Addr}{xs:List V}{n:Int}(h:H a=some (.tup xs)):tupN H (.ref a) n=decide ((xs.length:Int)=n):=by simp only[tupN,h]
theorem tupN_no {H:Hp}{v:V}{n:Int}(ok:Ok H v)(h:isA (tyN H v) "tuple"=false):tupN H v n=false:=by
 refine ok.elim (fun e _=>?_) (fun _ e _=>?_) (fun _ e _=>?_) (fun _ e _ _=>?_) (fun a xs e e2 _=>?_) (fun _ _ _ _ e=>?_)
 ·rw[e];rfl
 ·rw[e];rfl
 ·rw[e];rfl
 ·rw[e];rfl
 ·rw[e];simp only[tupN,e2]
 ·rw[e] at h;exact absurd h (by decide)
theorem tupN_of {H:Hp}{v:V}{n:Int}(h:tupN H v n=true):∃a xs,v=.ref a/\H a=some (.tup xs)/\(xs.length:Int)=n:=by
 unfold tupN at h
 split at h
 ·split at h
  ·rename_i a _ xs e
   exact⟨a,xs,rfl,e,of_decide_eq_true h⟩
  ·cases h
 ·cases h
def sp_is_tuple_of (K:W.Frag):Sp:=fun vs H Q _=>∃v n,vs=[v,.int n]/\Ok H v/\Q (.bl (tupN H v n)) H
theorem ok_is_tuple_of (T:Txt K mg C_WordReader C_Boards XC)(F:Fun K "is_tuple_of" "is_tuple_of" s_is_tuple_of f fd):FnOk P w K mg base CX0 1 f fd ["thing","many"] (sp_is_tuple_of K):=by
 exists sc_is_tuple_of
 ·obtain⟨v,n,rfl,_⟩:=h;rfl
 obtain⟨v,n,rfl,ok,q⟩:=h;refine⟨_,(!pss_one (!ps_ret (!pe_and (!pe_callB call_isinst (by rfl) T.b_isinstance bt_isinstance (!pa_cons (pv 0) (!pa_cons (!pe_ty rfl T.b_tuple bt_tuple) (!pa_nil)))) (!pe_one (!pe_cmpR op_eq (!pe_callB call_len_seq (by rfl) T.b_len bt_len (!pa_cons (pv 0) (!pa_nil))) (pv 1) (nomark _)))))),?_⟩;refine tAndV_p (isA (tyN H v) "tuple") (tupN H v n) (fun R q=>⟨_,rfl,_,_,_,_,rfl,ok.ty K,ok.kit K,q⟩) (fun hw R q=>?_) ?_
 ·obtain⟨a,xs,rfl,e⟩:=tuple_of ok hw;rw[tupN_tup e] at q;refine⟨_,rfl,a,xs,rfl,.inr (SqT.of e),_,rfl,rfl,?_⟩;rw[dec_int,Bool.beq_eq_decide_eq];exact q
 ·cases hw:isA (tyN H v) "tuple" with
  |true=>exact q
  |false=>rw[tupN_no ok hw] at q;exact q
def itemsOk (H:Hp)(v:V):Prop:=∀a xs,v=.ref a->H a=some (.tup xs)->∀x∈xs,Ok H x
def tagB (H:Hp)(v:V):Bool:=match v with
 | .ref a=>match H a with
  |some (.tup [x,y,z])=>betw 1 999999 x&&betw 0 999999999 y&&betw 0 996 z
  |_=>false
 |_=>false
theorem three_of {xs:List V}(h:(xs.length:Int)=3):∃x y z,xs=[x,y,z]:=by
 match xs,h with
 |[x,y,z],_=>exact⟨x,y,z,rfl⟩
 |[],h=>simp at h
 |[_],h=>simp at h
 |[_,_],h=>simp at h
 |_::_::_::_::_,h=>simp at h;omega
theorem tagB_no {H:Hp}{v:V}(h:tupN H v 3=false):tagB H v=false:=by
 unfold tagB
 split
 ·rename_i a
  split
  ·rename_i x y z e
   rw[tupN_tup e] at h;exact absurd h (by simp)
  ·rfl
 ·rfl
theorem tagB_three {H:Hp}{a:Addr}{x y z:V}(e:H a=some (.tup [x,y,z])):tagB H (.ref a)=(betw 1 999999 x&&betw 0 999999999 y&&betw 0 996 z):=by simp only[tagB,e]
theorem at3 {x y z:V}:atI [x,y,z] 0=some x/\atI [x,y,z] 1=some y/\atI [x,y,z] 2=some z:=⟨rfl,rfl,rfl⟩
def sp_is_tag (K:W.Frag):Sp:=fun vs H Q _=>∃v,vs=[v]/\Ok H v/\itemsOk H v/\Q (.bl (tagB H v)) H
theorem ok_is_tag (T:Txt K mg C_WordReader C_Boards XC)(F:Fun K "is_tag" "is_tag" s_is_tag f fd)(D_is_between:Def P w K mg base 2 "is_between" ["thing","least","most"] (sp_is_between K))(D_is_tuple_of:Def P w K mg base 1 "is_tuple_of" ["thing","many"] (sp_is_tuple_of K)):FnOk P w K mg base CX0 3 f fd ["thing"] (sp_is_tag K):=by
 exists sc_is_tag
 ·obtain⟨v,rfl,_⟩:=h;rfl
 obtain⟨v,rfl,ok,iok,q⟩:=h;refine⟨_,(!pss_cons (!ps_if (!pt_not (!pt_val (!pe_fn D_is_tuple_of (by trivial) rfl (!pa_cons (pv 0) (!pa_cons (!pe_int) (!pa_nil)))) (by intro _;rfl))) (!pss_one (!ps_ret (!pe_bl))) (!pss_nil)) (!pss_cons (!ps_if (@PW.pt _ _ _ (!pw_or (!pt_not (!pt_val (!pe_fn D_is_between (by trivial) rfl (!pa_cons (!pe_ix ix_tup (pv 0) (!pe_int) (fun _ _=>rfl)) (!pa_cons (!pe_int) (!pa_cons (!pe_globI rfl T.c_MOST_CELL) (!pa_nil))))) (by intro _;rfl))) (!pw_or1 (!pt_not (!pt_val (!pe_fn D_is_between (by trivial) rfl (!pa_cons (!pe_ix ix_tup (pv 0) (!pe_int) (fun _ _=>rfl)) (!pa_cons (!pe_int) (!pa_cons (!pe_globI rfl T.c_MOST_BIRTH) (!pa_nil))))) (by intro _;rfl)))))) (!pss_one (!ps_ret (!pe_bl))) (!pss_nil)) (!pss_one (!ps_ret (!pe_fn D_is_between (by trivial) rfl (!pa_cons (!pe_ix ix_tup (pv 0) (!pe_int) (fun _ _=>rfl)) (!pa_cons (!pe_int) (!pa_cons (!pe_op op_sub (!pe_globI rfl T.c_SUM_RESTS) (!pe_int)) (!pa_nil))))))))),?_⟩;refine⟨_,rfl,v,3,rfl,ok,_,rfl,?_⟩;cases hw:tupN H v 3 with
 |false=>
  refine iteTc rfl ?_;rw[tagB_no hw] at q;exact q
 |true=>
  refine iteFc rfl ?_;obtain⟨a,xs,rfl,e,hl⟩:=tupN_of hw;obtain⟨x,y,z,rfl⟩:=three_of hl;have i1:=iok a _ rfl e;have ox:Ok H x:=i1 x (by simp);have oy:Ok H y:=i1 y (by simp);have oz:Ok H z:=i1 z (by simp);rw[tagB_three e] at q;dsimp only[tNext,tSeq,tIfS];refine tOr_p (!betw 1 999999 x) (!betw 0 999999999 y) (fun R q=>⟨_,rfl,a,_,_,_,rfl,rfl,SqT.of e,at3.1,x,1,999999,rfl,ox,_,rfl,q⟩) (fun _ R q=>⟨_,rfl,a,_,_,_,rfl,rfl,SqT.of e,at3.2.1,y,0,999999999,rfl,oy,_,rfl,q⟩) ?_;refine ite2 (fun c=>?_) (fun c=>?_)
  ·have:(betw 1 999999 x&&betw 0 999999999 y&&betw 0 996 z)=false:=by
    cases h1:betw 1 999999 x<;>cases h2:betw 0 999999999 y<;>simp_all
   rw[this] at q;exact q
  ·have:(betw 1 999999 x&&betw 0 999999999 y&&betw 0 996 z)=betw 0 996 z:=by
    cases h1:betw 1 999999 x<;>cases h2:betw 0 999999999 y<;>simp_all
   rw[this] at q;exact⟨_,rfl,a,_,_,_,rfl,rfl,SqT.of e,at3.2.2,_,_,rfl,rfl,z,0,996,rfl,oz,q⟩
end
theorem reps_mem {F:Addr->Prop}{H:Hp}{ts:List Tr}{vs:List V}(h:Reps F H ts vs){v:V}(hv:v∈vs):∃t∈ts,Rep F H t v:=by
 obtain⟨i,hi,e⟩:=List.getElem_of_mem hv;obtain⟨t,ht,r⟩:=Reps.get h (show vs[i]?=some v by rw[List.getElem?_eq_getElem hi,e]);exact⟨t,List.mem_of_getElem? ht,r⟩
def sh:Nat->Tr->Bool
 |_,.str z=>decide (z.length<=1000)
 |n+1,.tup ts=>ts.all (sh n)
 |_,_=>true
theorem sh_le:∀{n m:Nat} {t:Tr},n<=m->sh m t=true->sh n t=true
 |0,_,.non,_,_=>rfl
 |0,_,.bl _,_,_=>rfl
 |0,_,.int _,_,_=>rfl
 |0,0,.str _,_,h=>h
 |0,_+1,.str _,_,h=>h
 |0,_,.tup _,_,_=>rfl
 |0,_,.lst _,_,_=>rfl
 |n+1,0,_,h,_=>absurd h (by omega)
 |n+1,m+1,.non,_,_=>rfl
 |n+1,m+1,.bl _,_,_=>rfl
 |n+1,m+1,.int _,_,_=>rfl
 |n+1,m+1,.str _,_,h=>h
 |n+1,m+1,.lst _,_,_=>rfl
 |n+1,m+1,.tup ts,h,s=>List.all_eq_true.mpr fun t ht=>sh_le (by omega) (List.all_eq_true.mp s t ht)
def sN:Tr->Bool
 | .str z=>nameB (.str z)
 |_=>false
def sB (a b:Int):Tr->Bool
 | .int i=>decide (a<=i)&&decide (i<=b)
 |_=>false
def tLen (n:Nat):Tr->Bool
 | .tup ts=>decide (ts.length=n)
 |_=>false
def tagT:Tr->Bool
 | .tup [x,y,z]=>sB 1 999999 x&&sB 0 999999999 y&&sB 0 996 z
 |_=>false
def keeperT:Tr->Bool
 | .tup [x,y]=>sN x&&sB 0 999999999 y
 |_=>false
def orgT:Tr->Bool
 | .str z=>decide (z=EM)||nameB (.str z)
 |_=>false
def stemT:Tr->Bool
 | .tup [a,b,c,d,e]=>sB 1 1 b&&(sN a&&(sN c&&(orgT d&&tagT e)))
 |_=>false
def sealT:Tr->Bool
 | .tup [a,b,c,d,e]=>sB 2 2 b&&(sN a&&(sN c&&(sB 1 999999999 d&&tagT e)))
 |_=>false
def isTup:Tr->Bool
 | .tup _=>true
 |_=>false
abbrev AllF:Addr->Prop:=fun _=>True
theorem rep_okS {H:Hp}{v:V}{n:Nat}:∀{t:Tr},Rep AllF H t v->sh n t=true->Ok H v
 | .non,h,_=>by rw[show v=.non from h];trivial
 | .bl b,h,_=>by rw[show v=.bl b from h];trivial
 | .int i,h,_=>by rw[show v=.int i from h];trivial
 | .str z,h,s=>by
  rw[show v=.str z from h];show z.length<=1000;cases n<;>exact of_decide_eq_true s
 | .tup ts,h,_=>by
  obtain⟨a,vs,rfl,e,_⟩:=h;exact .inr ⟨_,e⟩
 | .lst ts,h,_=>by
  obtain⟨a,vs,rfl,_,e,_⟩:=h;exact .inl ⟨_,e⟩
theorem sh_mem {n:Nat}{ts:List Tr}(h:sh (n+1) (.tup ts)=true){t:Tr}(m:t∈ts):sh n t=true:=List.all_eq_true.mp h t m
theorem tupN_T {H:Hp}{v:V}{n:Nat}:∀{t:Tr},Rep AllF H t v->tupN H v n=tLen n t
 | .non,h=>by rw[show v=.non from h];rfl
 | .bl b,h=>by rw[show v=.bl b from h];rfl
 | .int i,h=>by rw[show v=.int i from h];rfl
 | .str z,h=>by rw[show v=.str z from h];rfl
 | .tup ts,h=>by
  obtain⟨a,vs,rfl,e,r⟩:=h;rw[tupN_tup e];show decide ((vs.length:Int)=(n:Int))=decide (ts.length=n);rw[Reps.len ts vs r,Bool.eq_iff_iff,decide_eq_true_eq,decide_eq_true_eq];omega
 | .lst ts,h=>by
  obtain⟨a,vs,rfl,_,e,_⟩:=h;simp only[tupN,e,tLen]
theorem betw_T {H:Hp}{v:V}{a b:Int}:∀{t:Tr},Rep AllF H t v->betw a b v=sB a b t
 | .non,h=>by rw[show v=.non from h];rfl
 | .bl c,h=>by rw[show v=.bl c from h];rfl
 | .int i,h=>by rw[show v=.int i from h];rfl
 | .str z,h=>by rw[show v=.str z from h];rfl
 | .tup ts,h=>by obtain⟨a,vs,rfl,e,r⟩:=h;rfl
 | .lst ts,h=>by obtain⟨a,vs,rfl,_,e,_⟩:=h;rfl
theorem name_T {H:Hp}{v:V}:∀{t:Tr},Rep AllF H t v->nameB v=sN t
 | .non,h=>by rw[show v=.non from h];rfl
 | .bl c,h=>by rw[show v=.bl c from h];rfl
 | .int i,h=>by rw[show v=.int i from h];rfl
 | .str z,h=>by rw[show v=.str z from h];rfl
 | .tup ts,h=>by obtain⟨a,vs,rfl,e,r⟩:=h;rfl
 | .lst ts,h=>by obtain⟨a,vs,rfl,_,e,_⟩:=h;rfl
theorem tup2 {t:Tr}(h:tLen 2 t=true):∃x y,t=.tup [x,y]:=by
 match t,h with
 | .tup [x,y],_=>exact⟨x,y,rfl⟩
 | .tup [],h=>exact absurd h (by simp[tLen])
 | .tup [_],h=>exact absurd h (by simp[tLen])
 | .tup (_::_::_::_),h=>exact absurd h (by simp[tLen])
theorem tup3 {t:Tr}(h:tLen 3 t=true):∃x y z,t=.tup [x,y,z]:=by
 match t,h with
 | .tup [x,y,z],_=>exact⟨x,y,z,rfl⟩
 | .tup [],h=>exact absurd h (by simp[tLen])
 | .tup [_],h=>exact absurd h (by simp[tLen])
 | .tup [_,_],h=>exact absurd h (by simp[tLen])
 | .tup (_::_::_::_::_),h=>exact absurd h (by simp[tLen])
theorem tup5 {t:Tr}(h:tLen 5 t=true):∃a b c d e,t=.tup [a,b,c,d,e]:=by
 match t,h with
 | .tup [a,b,c,d,e],_=>exact⟨a,b,c,d,e,rfl⟩
 | .tup [],h=>exact absurd h (by simp[tLen])
 | .tup [_],h=>exact absurd h (by simp[tLen])
 | .tup [_,_],h=>exact absurd h (by simp[tLen])
 | .tup [_,_,_],h=>exact absurd h (by simp[tLen])
 | .tup [_,_,_,_],h=>exact absurd h (by simp[tLen])
 | .tup (_::_::_::_::_::_::_),h=>exact absurd h (by simp[tLen])
theorem keeper_no {t:Tr}(h:tLen 2 t=false):keeperT t=false:=by
 unfold keeperT
 split
 ·exact absurd h (by simp[tLen])
 ·rfl
theorem stem_no {t:Tr}(h:tLen 5 t=false):stemT t=false:=by
 unfold stemT
 split
 ·exact absurd h (by simp[tLen])
 ·rfl
theorem seal_no {t:Tr}(h:tLen 5 t=false):sealT t=false:=by
 unfold sealT
 split
 ·exact absurd h (by simp[tLen])
 ·rfl
theorem tag_T {H:Hp}{v:V}{t:Tr}(h:Rep AllF H t v):tagB H v=tagT t:=by
 cases c:tLen 3 t with
 |false=>
  rw[tagB_no (by rw[show(3:Int)=((3:Nat):Int) from rfl,tupN_T h];exact c)];unfold tagT
  split
  ·exact absurd c (by simp[tLen])
  ·rfl
 |true=>
  obtain⟨x,y,z,rfl⟩:=tup3 c;obtain⟨a,vs,rfl,e,v1,vs1,rfl,r1,v2,vs2,rfl,r2,v3,vs3,rfl,r3,rfl⟩:=h;rw[tagB_three e,betw_T r1,betw_T r2,betw_T r3];rfl
theorem items_T {H:Hp}{v:V}{t:Tr}{n:Nat}(h:Rep AllF H t v)(s:sh (n+1) t=true):itemsOk H v:=by
 rintro a xs rfl e x hx
 cases t with
 |tup ts=>
  obtain⟨a',vs,q,e',r⟩:=h;cases q;rw[e] at e';cases e';obtain⟨t,ht,rt⟩:=reps_mem r hx;exact rep_okS rt (sh_mem s ht)
 |lst ts=>
  obtain⟨a',vs,q,_,e',r⟩:=h;cases q;rw[e] at e';cases e'
 |non=>cases h
 |bl _=>cases h
 |int _=>cases h
 |str _=>cases h
section
variable {P:Program}{w:World}{K:W.Frag}{mg:Str->Option Value}{base:Heap}{f C_WordReader C_Boards:Addr}{XC:Nat->Addr}{fd:FuncData}
def sp_is_keeper (K:W.Frag):Sp:=fun vs H Q _=>∃v t,vs=[v]/\Rep AllF H t v/\sh 1 t=true/\∀H',Same H H'->Q (.bl (keeperT t)) H'
theorem ok_is_keeper (T:Txt K mg C_WordReader C_Boards XC)(F:Fun K "is_keeper" "is_keeper" s_is_keeper f fd)(D_is_tuple_of:Def P w K mg base 1 "is_tuple_of" ["thing","many"] (sp_is_tuple_of K))(D_is_name:Def P w K mg base 2 "is_name" ["thing"] (sp_is_name K))(D_is_between:Def P w K mg base 2 "is_between" ["thing","least","most"] (sp_is_between K)):FnOk P w K mg base CX0 3 f fd ["thing"] (sp_is_keeper K):=by
 exists sc_is_keeper
 ·obtain⟨v,t,rfl,_⟩:=h;rfl
 obtain⟨v,t,rfl,hv,hs,q⟩:=h;have okv:=rep_okS hv hs;refine⟨_,(!pss_one (!ps_ret (!pe_and (!pe_fn D_is_tuple_of (by trivial) rfl (!pa_cons (pv 0) (!pa_cons (!pe_int) (!pa_nil)))) (!pe_and (!pe_fn D_is_name (by trivial) rfl (!pa_cons (!pe_ix ix_tup (pv 0) (!pe_int) (fun _ _=>rfl)) (!pa_nil))) (!pe_one (!pe_fn D_is_between (by trivial) rfl (!pa_cons (!pe_ix ix_tup (pv 0) (!pe_int) (fun _ _=>rfl)) (!pa_cons (!pe_int) (!pa_cons (!pe_globI rfl T.c_MOST_NUMBER) (!pa_nil)))))))))),?_⟩;refine⟨_,rfl,_,2,rfl,okv,_,rfl,?_⟩;rw[show(2:Int)=((2:Nat):Int) from rfl,tupN_T hv];cases c:tLen 2 t with
 |false=>
  rw[keeper_no c] at q;exact iteFc rfl (q H (Same.refl _))
 |true=>
  obtain⟨x,y,rfl⟩:=tup2 c;obtain⟨a,us,rfl,e,v1,us1,rfl,r1,v2,us2,rfl,r2,rfl⟩:=hv
  replace q:∀H',Same H H'->Q (.bl (sN x&&sB 0 999999999 y)) H':=q
  refine iteTc rfl ⟨_,rfl,a,_,_,_,rfl,rfl,SqT.of e,rfl,_,rfl,rep_okS r1 (sh_mem hs (by simp)),fun H1 s1=>⟨_,rfl,?_⟩⟩;rw[name_T r1];cases c1:sN x with
  |false=>rw[c1] at q;exact iteFc rfl (q H1 s1)
  |true=>
   rw[c1] at q;have r2':=Rep.same s1 _ _ r2;refine iteTc rfl ⟨_,rfl,a,_,_,_,rfl,rfl,SqT.of (s1.get e),rfl,_,0,999999999,rfl,rep_okS r2' (sh_mem hs (by simp)),?_⟩;rw[betw_T r2'];exact q H1 s1
def flatT:Tr->Bool
 | .tup _=>false
 | .lst _=>false
 |_=>true
def thirdOk:Tr->Bool
 | .tup [_,.int 1,_,d,_]=>flatT d
 |_=>true
theorem flat_eq {H:Hp}{v:V}:∀{t:Tr},Rep AllF H t v->flatT t=true->∀{Q:VK},(Q (.bl (match t with | .str z=>decide (z=EM)|_=>false)) H)->rEq v (.str EM) H Q
 | .non,h,_,Q,q=>by rw[show v=.non from h];exact⟨rfl,q⟩
 | .bl b,h,_,Q,q=>by rw[show v=.bl b from h];exact⟨rfl,q⟩
 | .int i,h,_,Q,q=>by rw[show v=.int i from h];exact⟨rfl,q⟩
 | .str z,h,_,Q,q=>by
  rw[show v=.str z from h];refine⟨rfl,?_⟩;have e:decide (V.str z=V.str EM)=decide (z=EM):=by
   by_cases c:z=EM
   ·rw[decide_eq_true c,decide_eq_true (by rw[c])]
   ·rw[decide_eq_false c,decide_eq_false fun y=>c (V.str.inj y)]
  rw[e];exact q
 | .tup _,_,h,_,_=>by cases h
 | .lst _,_,h,_,_=>by cases h
def sp_is_stem (K:W.Frag):Sp:=fun vs H Q _=>∃v t,vs=[v]/\Rep AllF H t v/\sh 2 t=true/\thirdOk t=true/\∀H',Same H H'->Q (.bl (stemT t)) H'
theorem sB_one {n:Int}{t:Tr}:sB n n t=true->t=.int n:=by
 intro h;cases t with
 |int i=>
  have:(decide (n<=i)&&decide (i<=n))=true:=h;rw[Bool.and_eq_true,decide_eq_true_eq,decide_eq_true_eq] at this;rw[show i=n by omega]
 |_=>cases h
theorem ok_is_stem (T:Txt K mg C_WordReader C_Boards XC)(F:Fun K "is_stem" "is_stem" s_is_stem f fd)(D_is_name:Def P w K mg base 2 "is_name" ["thing"] (sp_is_name K))(D_is_tag:Def P w K mg base 3 "is_tag" ["thing"] (sp_is_tag K))(D_is_tuple_of:Def P w K mg base 1 "is_tuple_of" ["thing","many"] (sp_is_tuple_of K))(D_is_between:Def P w K mg base 2 "is_between" ["thing","least","most"] (sp_is_between K)):FnOk P w K mg base CX0 4 f fd ["thing"] (sp_is_stem K):=by
 exists sc_is_stem
 ·obtain⟨v,t,rfl,_⟩:=h;rfl
 obtain⟨v,t,rfl,hv,hs,th,q⟩:=h;have okv:=rep_okS hv hs;have hu:=hu_of hr;refine⟨_,(!pss_cons (!ps_if (@PW.pt _ _ _ (!pw_or (!pt_not (!pt_val (!pe_fn D_is_tuple_of (by trivial) rfl (!pa_cons (pv 0) (!pa_cons (!pe_int) (!pa_nil)))) (by intro _;rfl))) (!pw_or1 (!pt_not (!pt_val (!pe_fn D_is_between (by trivial) rfl (!pa_cons (!pe_ix ix_tup (pv 0) (!pe_int) (fun _ _=>rfl)) (!pa_cons (!pe_globI rfl T.c_STEM) (!pa_cons (!pe_globI rfl T.c_STEM) (!pa_nil))))) (by intro _;rfl)))))) (!pss_one (!ps_ret (!pe_bl))) (!pss_nil)) (!pss_one (!ps_ret (!pe_and (!pe_fn D_is_name (by trivial) rfl (!pa_cons (!pe_ix ix_tup (pv 0) (!pe_int) (fun _ _=>rfl)) (!pa_nil))) (!pe_and (!pe_fn D_is_name (by trivial) rfl (!pa_cons (!pe_ix ix_tup (pv 0) (!pe_int) (fun _ _=>rfl)) (!pa_nil))) (!pe_and (!pe_or (!pe_cmpR op_eq (!pe_ix ix_tup (pv 0) (!pe_int) (fun _ _=>rfl)) (!pe_str) (nomark _)) (!pe_one (!pe_fn D_is_name (by trivial) rfl (!pa_cons (!pe_ix ix_tup (pv 0) (!pe_int) (fun _ _=>rfl)) (!pa_nil))))) (!pe_one (!pe_fn D_is_tag (by trivial) rfl (!pa_cons (!pe_ix ix_tup (pv 0) (!pe_int) (fun _ _=>rfl)) (!pa_nil)))))))))),?_⟩;dsimp only[tNext,tSeq,tIfS];refine⟨_,rfl,_,5,rfl,okv,_,rfl,?_⟩;rw[show(5:Int)=((5:Nat):Int) from rfl,tupN_T hv];cases c:tLen 5 t with
 |false=>
  rw[stem_no c] at q;exact iteTc rfl (q H (Same.refl _))
 |true=>
  obtain⟨a,b,d,o,g,rfl⟩:=tup5 c;obtain⟨p,us,rfl,e,v1,us1,rfl,r1,v2,us2,rfl,r2,v3,us3,rfl,r3,v4,us4,rfl,r4,v5,us5,rfl,r5,rfl⟩:=hv
  replace q:∀H',Same H H'->Q (.bl (sB 1 1 b&&(sN a&&(sN d&&(orgT o&&tagT g))))) H':=q
  have ok1:=rep_okS r1 (sh_mem hs (by simp));have ok2:=rep_okS r2 (sh_mem hs (by simp));have ok3:=rep_okS r3 (sh_mem hs (by simp));have ok4:=rep_okS r4 (sh_mem hs (by simp));refine iteFc rfl ⟨_,rfl,p,_,_,_,rfl,rfl,SqT.of e,rfl,_,1,1,rfl,ok2,_,rfl,?_⟩;rw[betw_T r2];cases cb:sB 1 1 b with
  |false=>rw[cb] at q;exact iteTc rfl (q H (Same.refl _))
  |true=>
   rw[cb] at q;have:=sB_one cb;subst this;have fl:flatT o=true:=th;refine iteFc rfl ⟨_,rfl,p,_,_,_,rfl,rfl,SqT.of e,rfl,_,rfl,ok1,fun H1 s1=>⟨_,rfl,?_⟩⟩;rw[name_T r1];cases ca:sN a with
   |false=>rw[ca] at q;exact iteFc rfl (q H1 s1)
   |true=>
    rw[ca] at q;refine iteTc rfl ⟨_,rfl,p,_,_,_,rfl,rfl,SqT.of (s1.get e),rfl,_,rfl,ok3.same s1,fun H2 s2=>⟨_,rfl,?_⟩⟩;have s12:=s1.trans s2;rw[name_T r3];cases cd:sN d with
    |false=>rw[cd] at q;exact iteFc rfl (q H2 s12)
    |true=>
     rw[cd] at q
     replace q:∀H',Same H H'->Q (.bl (orgT o&&tagT g)) H':=q
     have r4':=Rep.same s12 _ _ r4;have tag:∀{H3:Hp},Same H H3->Ok H3 v5/\itemsOk H3 v5/\tagB H3 v5=tagT g:=fun{H3} s3=>by
      have r5':=Rep.same s3 _ _ r5;have sg:=sh_mem hs (show g∈[a,Tr.int 1,d,o,g] by simp);exact⟨rep_okS r5' sg,items_T r5' sg,tag_T r5'⟩
     refine iteTc rfl ⟨_,rfl,p,_,_,_,rfl,rfl,SqT.of (s12.get e),rfl,?_⟩;dsimp only[tC];refine flat_eq r4' fl ?_;refine⟨_,rfl,?_⟩;have fin:∀{H3:Hp},Same H H3->orgT o=true->∃v',[v5]=[v']/\Ok H3 v'/\itemsOk H3 v'/\Q (.bl (tagB H3 v')) H3:=fun{H3} s3 co=>by
      obtain⟨t1,t2,t3⟩:=tag s3;refine⟨v5,rfl,t1,t2,?_⟩;rw[t3];have:=q H3 s3;rw[co] at this;exact this
     cases o with
     |str z=>
      by_cases ce:z=EM
      ·refine iteTc (decide_eq_true ce) ⟨_,rfl,iteTc rfl ?_⟩;exact⟨_,rfl,p,_,_,_,rfl,rfl,SqT.of (s12.get e),rfl,fin s12 (by show(decide (z=EM)||nameB (.str z))=true;rw[decide_eq_true ce];rfl)⟩
      ·refine iteFc (decide_eq_false ce) ?_;refine⟨_,rfl,p,_,_,_,rfl,rfl,SqT.of (s12.get e),rfl,_,rfl,ok4.same s12,fun H3 s3=>⟨_,rfl,?_⟩⟩;have s13:=s12.trans s3;rw[name_T r4];cases cn:sN (.str z) with
       |true=>
        refine iteTc rfl ⟨_,rfl,p,_,_,_,rfl,rfl,SqT.of (s13.get e),rfl,fin s13 ?_⟩;show(decide (z=EM)||nameB (.str z))=true;rw[show nameB (.str z)=true from cn,Bool.or_true]
       |false=>
        have co:orgT (.str z)=false:=by
         show(decide (z=EM)||nameB (.str z))=false;rw[show nameB (.str z)=false from cn,decide_eq_false ce];rfl
        rw[co] at q;exact iteFc rfl (q H3 s13)
     |tup _=>cases fl
     |lst _=>cases fl
     |_=>
      refine iteFc rfl ?_;refine⟨_,rfl,p,_,_,_,rfl,rfl,SqT.of (s12.get e),rfl,_,rfl,ok4.same s12,fun H3 s3=>⟨_,rfl,?_⟩⟩;rw[name_T r4];exact iteFc rfl (q H3 (s12.trans s3))
def sp_is_seal (K:W.Frag):Sp:=fun vs H Q _=>∃v t,vs=[v]/\Rep AllF H t v/\sh 2 t=true/\∀H',Same H H'->Q (.bl (sealT t)) H'
theorem ok_is_seal (T:Txt K mg C_WordReader C_Boards XC)(F:Fun K "is_seal" "is_seal" s_is_seal f fd)(D_is_name:Def P w K mg base 2 "is_name" ["thing"] (sp_is_name K))(D_is_between:Def P w K mg base 2 "is_between" ["thing","least","most"] (sp_is_between K))(D_is_tag:Def P w K mg base 3 "is_tag" ["thing"] (sp_is_tag K))(D_is_tuple_of:Def P w K mg base 1 "is_tuple_of" ["thing","many"] (sp_is_tuple_of K)):FnOk P w K mg base CX0 4 f fd ["thing"] (sp_is_seal K):=by
 exists sc_is_seal
 ·obtain⟨v,t,rfl,_⟩:=h;rfl
 obtain⟨v,t,rfl,hv,hs,q⟩:=h;have okv:=rep_okS hv hs;refine⟨_,(!pss_cons (!ps_if (@PW.pt _ _ _ (!pw_or (!pt_not (!pt_val (!pe_fn D_is_tuple_of (by trivial) rfl (!pa_cons (pv 0) (!pa_cons (!pe_int) (!pa_nil)))) (by intro _;rfl))) (!pw_or1 (!pt_not (!pt_val (!pe_fn D_is_between (by trivial) rfl (!pa_cons (!pe_ix ix_tup (pv 0) (!pe_int) (fun _ _=>rfl)) (!pa_cons (!pe_globI rfl T.c_SEAL) (!pa_cons (!pe_globI rfl T.c_SEAL) (!pa_nil))))) (by intro _;rfl)))))) (!pss_one (!ps_ret (!pe_bl))) (!pss_nil)) (!pss_one (!ps_ret (!pe_and (!pe_fn D_is_name (by trivial) rfl (!pa_cons (!pe_ix ix_tup (pv 0) (!pe_int) (fun _ _=>rfl)) (!pa_nil))) (!pe_and (!pe_fn D_is_name (by trivial) rfl (!pa_cons (!pe_ix ix_tup (pv 0) (!pe_int) (fun _ _=>rfl)) (!pa_nil))) (!pe_and (!pe_fn D_is_between (by trivial) rfl (!pa_cons (!pe_ix ix_tup (pv 0) (!pe_int) (fun _ _=>rfl)) (!pa_cons (!pe_int) (!pa_cons (!pe_globI rfl T.c_MOST_NUMBER) (!pa_nil))))) (!pe_one (!pe_fn D_is_tag (by trivial) rfl (!pa_cons (!pe_ix ix_tup (pv 0) (!pe_int) (fun _ _=>rfl)) (!pa_nil)))))))))),?_⟩;dsimp only[tNext,tSeq,tIfS];refine⟨_,rfl,_,5,rfl,okv,_,rfl,?_⟩;rw[show(5:Int)=((5:Nat):Int) from rfl,tupN_T hv];cases c:tLen 5 t with
 |false=>
  rw[seal_no c] at q;exact iteTc rfl (q H (Same.refl _))
 |true=>
  obtain⟨a,b,d,o,g,rfl⟩:=tup5 c;obtain⟨p,us,rfl,e,v1,us1,rfl,r1,v2,us2,rfl,r2,v3,us3,rfl,r3,v4,us4,rfl,r4,v5,us5,rfl,r5,rfl⟩:=hv
  replace q:∀H',Same H H'->Q (.bl (sB 2 2 b&&(sN a&&(sN d&&(sB 1 999999999 o&&tagT g))))) H':=q
  have ok1:=rep_okS r1 (sh_mem hs (by simp));have ok2:=rep_okS r2 (sh_mem hs (by simp));have ok3:=rep_okS r3 (sh_mem hs (by simp));have ok4:=rep_okS r4 (sh_mem hs (by simp));refine iteFc rfl ⟨_,rfl,p,_,_,_,rfl,rfl,SqT.of e,rfl,_,2,2,rfl,ok2,_,rfl,?_⟩;rw[betw_T r2];cases cb:sB 2 2 b with
  |false=>rw[cb] at q;exact iteTc rfl (q H (Same.refl _))
  |true=>
   rw[cb] at q;refine iteFc rfl ⟨_,rfl,p,_,_,_,rfl,rfl,SqT.of e,rfl,_,rfl,ok1,fun H1 s1=>⟨_,rfl,?_⟩⟩;rw[name_T r1];cases ca:sN a with
   |false=>rw[ca] at q;exact iteFc rfl (q H1 s1)
   |true=>
    rw[ca] at q;refine iteTc rfl ⟨_,rfl,p,_,_,_,rfl,rfl,SqT.of (s1.get e),rfl,_,rfl,ok3.same s1,fun H2 s2=>⟨_,rfl,?_⟩⟩;have s12:=s1.trans s2;rw[name_T r3];cases cd:sN d with
    |false=>rw[cd] at q;exact iteFc rfl (q H2 s12)
    |true=>
     rw[cd] at q;refine iteTc rfl ⟨_,rfl,p,_,_,_,rfl,rfl,SqT.of (s12.get e),rfl,_,1,999999999,rfl,ok4.same s12,_,rfl,?_⟩;rw[betw_T r4];cases co:sB 1 999999999 o with
     |false=>rw[co] at q;exact iteFc rfl (q H2 s12)
     |true=>
      rw[co] at q;have r5':=Rep.same s12 _ _ r5;have sg:=sh_mem hs (show g∈[a,b,d,o,g] by simp);refine iteTc rfl ⟨_,rfl,p,_,_,_,rfl,rfl,SqT.of (s12.get e),rfl,v5,rfl,rep_okS r5' sg,items_T r5' sg,?_⟩;rw[tag_T r5'];exact q H2 s12
def adr:V->Addr
 | .ref b=>b
 |_=>0
def nm0:Tr->Str
 | .tup (.str z::_)=>z
 |_=>EM
open Classical in
noncomputable def riseB (ks:List Str):Bool:=decide (ks.Pairwise Slt)
theorem rise_iff (ks:List Str):riseB ks=true↔ks.Pairwise Slt:=by unfold riseB;exact decide_eq_true_iff
noncomputable def keepersT:Tr->Bool
 | .tup ks=>decide (ks.length<=8)&&(ks.all keeperT&&riseB (ks.map nm0))
 |_=>false
noncomputable def namesT:Tr->Bool
 | .tup ns=>decide (ns.length<=24)&&(ns.all (fun t=>stemT t||sealT t)&&riseB (ns.map nm0))
 |_=>false
theorem ty_T {H:Hp}{v:V}:∀{t:Tr},Rep AllF H t v->isA (tyN H v) "tuple"=isTup t
 | .non,h=>by rw[show v=.non from h];rfl
 | .bl c,h=>by rw[show v=.bl c from h];rfl
 | .int i,h=>by rw[show v=.int i from h];rfl
 | .str z,h=>by rw[show v=.str z from h];rfl
 | .tup ts,h=>by obtain⟨a,vs,rfl,e,r⟩:=h;simp only[tyN,e];rfl
 | .lst ts,h=>by obtain⟨a,vs,rfl,_,e,_⟩:=h;simp only[tyN,e];rfl
theorem reps_zip {F:Addr->Prop}{H:Hp}:∀{ts:List Tr} {vs:List V},Reps F H ts vs->∃ps:List (V×Tr),vs=ps.map (·.1)/\ts=ps.map (·.2)/\∀p∈ps,Rep F H p.2 p.1
 |[],vs,h=>⟨[],by rw[show vs=[] from h];rfl,rfl,fun _ h=>nomatch h⟩
 |t::ts,vs,h=>by
  obtain⟨v,vs',rfl,r,rs⟩:=h;obtain⟨ps,h1,h2,h3⟩:=reps_zip rs;refine⟨(v,t)::ps,by rw[h1];rfl,by rw[h2];rfl,fun p hp=>?_⟩;rcases List.mem_cons.mp hp with rfl|hp
  ·exact r
  ·exact h3 p hp
theorem pure_strs (ks:List Str):(ks.map V.str).all pureV=true:=by
 rw[List.all_map,List.all_eq_true];exact fun _ _=>rfl
theorem once_go:∀(l ks:List Str),ks.Nodup->(l.foldl (fun ks k=>if k∈ks then ks else ks++[k]) ks).Nodup/\((ks++l).Nodup->l.foldl (fun ks k=>if k∈ks then ks else ks++[k]) ks=ks++l)
 |[],ks,nd=>⟨nd,fun _=>(List.append_nil _).symm⟩
 |k::r,ks,nd=>by
  rw[List.foldl_cons]
  by_cases c:k∈ks
  ·rw[if_pos c];refine⟨(once_go r ks nd).1,fun h=>?_⟩;exact absurd rfl ((List.nodup_append.mp h).2.2 k c k List.mem_cons_self)
  ·rw[if_neg c];have nd':(ks++[k]).Nodup:=List.nodup_append.mpr ⟨nd,List.pairwise_singleton _ _,fun a ha b hb e=>c (by rw[List.mem_singleton.mp hb] at e;exact e▸ha)⟩;refine⟨(once_go r _ nd').1,fun h=>?_⟩;rw[(once_go r _ nd').2 (by rw[List.append_assoc];exact h),List.append_assoc];rfl
theorem once_nd (l:List Str):(onceS l).Nodup:=(once_go l [] List.nodup_nil).1
theorem once_id {l:List Str}(h:l.Nodup):onceS l=l:=(once_go l [] List.nodup_nil).2 h
theorem slt_nd {l:List Str}(h:l.Pairwise Slt):l.Nodup:=List.Pairwise.imp (fun{a b} h e=>by subst e;exact List.lt_irrefl _ h) h
theorem rising_le:∀{p:Str} {l:List Str},PyProof.Rows.risingS p l=true->∀x∈l,¬x.cps.toList<p.cps.toList
 |p,y::r,h,x,hx=>by
  have h':=h;rw[PyProof.Rows.risingS,Bool.and_eq_true,PyProof.Rows.ltCps_eq] at h';have h1:¬y.cps.toList<p.cps.toList:=by simpa using h'.1
  rcases List.mem_cons.mp hx with rfl|hx
  ·exact h1
  ·exact List.le_trans h1 (rising_le h'.2 x hx)
theorem rise_of:∀{l:List Str},PyProof.Rows.sortedS l=true->l.Nodup->l.Pairwise Slt
 |[],_,_=>List.Pairwise.nil
 |x::l,h,nd=>by
  rw[List.nodup_cons] at nd;refine List.pairwise_cons.mpr ⟨fun y hy=>slt_of (rising_le (p:=x) h y hy) fun e=>nd.1 (e▸hy),rise_of ?_ nd.2⟩;cases l with
  |nil=>rfl
  |cons y r=>
   have h':=h;rw[PyProof.Rows.sortedS,PyProof.Rows.risingS,Bool.and_eq_true] at h';exact h'.2
theorem uniq_by {α:Type}{key:α->Str}:∀{l1 l2:List α},l1.Perm l2->l1.Pairwise (fun x y=>Slt (key x) (key y))->l2.Pairwise (fun x y=>Slt (key x) (key y))->l1=l2
 |[],l2,h,_,_=>(List.nil_perm.mp h).symm
 |a::r1,[],h,_,_=>by have:=h.length_eq;cases this
 |a::r1,b::r2,h,p1,p2=>by
  rw[List.pairwise_cons] at p1 p2;rcases Classical.em (a=b) with e|e
  ·subst e;rw[uniq_by (List.Perm.cons_inv h) p1.2 p2.2]
  ·have ha:a∈b::r2:=h.mem_iff.mp List.mem_cons_self;have hb:b∈a::r1:=h.mem_iff.mpr List.mem_cons_self;have h1:=(List.mem_cons.mp ha).resolve_left e;have h2:=(List.mem_cons.mp hb).resolve_left fun z=>e z.symm
   exact absurd (List.lt_trans (p1.1 b h2) (p2.1 a h1)) (List.lt_irrefl _)
def sp_are_rising (K:W.Frag):Sp:=fun vs H Q _=>∃(n:Addr) (ts:List (Addr×Str)),vs=[.ref n]/\H n=some (.tup (ts.map fun t=>V.ref t.1))/\(∀t∈ts,∃r,H t.1=some (.tup (.str t.2::r)))/\ts.length<=24/\∀H',Same H H'->Q (.bl (riseB (ts.map (·.2)))) H'
theorem ok_are_rising (T:Txt K mg C_WordReader C_Boards XC)(F:Fun K "are_rising" "are_rising" s_are_rising f fd):FnOk P w K mg base CX0 1 f fd ["named"] (sp_are_rising K):=by
 exists sc_are_rising
 ·obtain⟨n,ts,rfl,_⟩:=h;rfl
 obtain⟨n,ts,rfl,hn,ht,few,q⟩:=h;have hu:=hu_of hr;refine⟨_,(!pss_cons (@ps_setC0 _ ["one"] (1) _ _ _ _ _ _ _ _ _ _ _ _ _ sc_are_rising.nd rfl (by trivial) rfl (!pi_tup (pv 0)) (by decide +kernel) (fun C s H fp=>⟨(@pg_name _ _ (0) _ (show(["one"]:List Str).Nodup by decide +kernel) rfl (by trivial) (by trivial)),(!pifs_nil),(!pe_ix (ix_tupK (K:=K) (by rfl)) (pv 0) (!pe_int) (fun _ _=>rfl))⟩) (by intro _;rfl) (by rfl) (by trivial)) (!pss_one (!ps_ret (!pe_cmpR (op_eqD hu) (pv 1) (!pe_callB (call_sortT (P:=P) (w:=w) (by rfl) (by rfl) rfl) (by rfl) T.b_sorted bt_sorted (!pa_cons (!pe_callTy (call_setT (P:=P) (w:=w) (K:=K) (by rfl) (by rfl) (by rfl) rfl) (by rfl) T.b_set bt_set (!pa_cons (pv 1) (!pa_nil))) (!pa_nil))) (nomark _))))),?_⟩
 try dsimp only[cxOf,Cx.nox,Cx.wish]
 refine⟨_,rfl,n,rfl,⟨_,SqT.of hn⟩,?_⟩;refine comp_selF (ps:=ts) (g:=fun p=>V.ref p.1) (fun _=>true) (fun p=>V.str p.2) (itIs_tup hn) (by omega) (fun p hp H' R s' hR=>hR) (fun p hp hs H' R s' hR=>?_) fun l2 H8 n8 s8 h8=>?_
 ·obtain⟨r,hr'⟩:=ht p hp;exact⟨_,rfl,p.1,_,_,_,rfl,rfl,SqT.of (s'.get hr'),atI_nat (j:=0) rfl,hR H' (Same.refl _)⟩
 rw[List.filter_eq_self.mpr (fun _ _=>rfl),show(ts.map fun p=>V.str p.2)=(ts.map (·.2)).map V.str by rw[List.map_map];rfl] at h8;have ln:(ts.map (·.2)).length<=24:=by rw[List.length_map];exact few
 generalize ts.map (·.2)=ks at h8 ln q;refine⟨_,rfl,_,rfl,l2,_,rfl,SqL.of h8,by omega,fun p hp=>?_⟩;have sp:=same_new hp (SetT P w p (onceS ks));have ol:=once_len ks;refine⟨p,_,rfl,upd_same,by omega,fun us p2 pt st hp2=>?_⟩;have s2:=same_new hp2 (.lst (us.map V.str));refine⟨l2,p2,_,_,rfl,rfl,SqL.of (s2.get (sp.get h8)),SqL.of upd_same,pure_strs _,pure_strs _,?_⟩;rw[if_neg Bool.false_ne_true];have ri:us.Pairwise Slt:=rise_of st (pt.nodup_iff.mpr (once_nd ks));have e:decide (ks.map V.str=us.map V.str)=riseB ks:=by
  rw[Bool.eq_iff_iff,decide_eq_true_eq,rise_iff];constructor
  ·intro z;have z':ks=us:=by
    have inj:∀{a b:List Str},a.map V.str=b.map V.str->a=b:=fun{a}=>by
     induction a with
     |nil=>intro b h;cases b with
      |nil=>rfl
      |cons _ _=>cases h
     |cons x a ih=>intro b h;cases b with
      |nil=>cases h
      |cons y b=>
       rw[List.map_cons,List.map_cons] at h;injection h with h1 h2
       rw[V.str.inj h1,ih h2]
    exact inj z
   rw[z'];exact ri
  ·intro z;rw[once_id (slt_nd z)] at pt;rw[uniq_by (key:=fun z:Str=>z) pt ri z]
 rw[e];exact q _ ((s8.trans sp).trans s2)
theorem bools_of {α:Type}{H:Hp}{l:Addr}{us:List α}{c:α->Bool}(h:H l=some (.lst ((us.filter fun _=>true).map fun x=>V.bl (c x)))):H l=some (.lst ((us.map c).map V.bl)):=by
 rw[h,List.filter_eq_self.mpr (fun _ _=>rfl),List.map_map];rfl
theorem all_of {α:Type}(us:List α)(c:α->Bool):(us.map c).all id=us.all c:=by rw[List.all_map];rfl
theorem keeper_is {H:Hp}{v:V}{t:Tr}(h:Rep AllF H t v)(k:keeperT t=true):v=.ref (adr v)/\∃r,H (adr v)=some (.tup (.str (nm0 t)::r)):=by
 unfold keeperT at k
 split at k
 ·rename_i x y
  obtain⟨a,us,rfl,e,v1,us1,rfl,r1,v2,us2,rfl,r2,rfl⟩:=h;rw[Bool.and_eq_true] at k;cases x with
  |str z=>
   have:v1=.str z:=r1;subst this;exact⟨rfl,_,e⟩
  |_=>cases k.1
 ·cases k
theorem named_is {H:Hp}{v:V}{t:Tr}(h:Rep AllF H t v)(k:(stemT t||sealT t)=true):v=.ref (adr v)/\∃r,H (adr v)=some (.tup (.str (nm0 t)::r)):=by
 have sn:∀{a b c d e:Tr},t=.tup [a,b,c,d,e]->sN a=true->v=.ref (adr v)/\∃r,H (adr v)=some (.tup (.str (nm0 t)::r)):=fun{a b c d e} et ka=>by
  clear k
  subst et;obtain⟨p,us,rfl,e,v1,us1,rfl,r1,r⟩:=h;cases a with
  |str z=>
   have:v1=.str z:=r1;subst this;exact⟨rfl,_,e⟩
  |_=>cases ka
 rcases Bool.or_eq_true _ _▸k with k|k
 ·unfold stemT at k
  split at k
  ·rw[Bool.and_eq_true,Bool.and_eq_true] at k;exact sn rfl k.2.1
  ·cases k
 ·unfold sealT at k
  split at k
  ·rw[Bool.and_eq_true,Bool.and_eq_true] at k;exact sn rfl k.2.1
  ·cases k
def sp_are_keepers (K:W.Frag):Sp:=fun vs H Q _=>∃v t,vs=[v]/\Rep AllF H t v/\sh 2 t=true/\∀H',Same H H'->Q (.bl (keepersT t)) H'
theorem ok_are_keepers (T:Txt K mg C_WordReader C_Boards XC)(F:Fun K "are_keepers" "are_keepers" s_are_keepers f fd)(D_are_rising:Def P w K mg base 1 "are_rising" ["named"] (sp_are_rising K))(D_is_keeper:Def P w K mg base 3 "is_keeper" ["thing"] (sp_is_keeper K)):FnOk P w K mg base CX0 4 f fd ["thing"] (sp_are_keepers K):=by
 exists sc_are_keepers
 ·obtain⟨v,t,rfl,_⟩:=h;rfl
 obtain⟨v,t,rfl,hv,hs,q⟩:=h;have okv:=rep_okS hv hs;refine⟨_,(!pss_cons (!ps_if (@PW.pt _ _ _ (!pw_or (!pt_not (!pt_val (!pe_callB call_isinst (by rfl) T.b_isinstance bt_isinstance (!pa_cons (pv 0) (!pa_cons (!pe_ty rfl T.b_tuple bt_tuple) (!pa_nil)))) (by intro _;rfl))) (!pw_or1 (!pt_cmpR op_gt (!pe_callB call_len_seq (by rfl) T.b_len bt_len (!pa_cons (pv 0) (!pa_nil))) (!pe_globI rfl T.c_MOST_KEEPERS) (nomark _))))) (!pss_one (!ps_ret (!pe_bl))) (!pss_nil)) (!pss_one (!ps_ret (!pe_and (!pe_callB (call_all rfl) (by rfl) T.b_all bt_all (!pa_cons (@pe_comp0 _ ["keeper"] _ _ _ _ _ _ _ _ _ _ rfl (!pi_tup (pv 0)) (by decide +kernel) (fun C s H fp=>⟨(@pg_name _ _ (0) _ (show(["keeper"]:List Str).Nodup by decide +kernel) rfl (by trivial) (by trivial)),(!pifs_nil),(!pe_fn D_is_keeper (by trivial) rfl (!pa_cons (pv 0) (!pa_nil)))⟩) (by intro _;rfl)) (!pa_nil))) (!pe_one (!pe_fn D_are_rising (by trivial) rfl (!pa_cons (pv 0) (!pa_nil)))))))),?_⟩
 try dsimp only[cxOf,Cx.nox,Cx.wish]
 refine⟨_,rfl,_,_,_,_,rfl,okv.ty K,okv.kit K,_,rfl,?_⟩;have ty:=ty_T hv;cases t with
 |tup ts=>
  obtain⟨a,vs,rfl,e,r⟩:=hv;obtain⟨ps,rfl,rfl,hp⟩:=reps_zip r;refine iteFc (by show(!isA (tyN H (V.ref a)) "tuple")=false;rw[ty];rfl) ?_;refine⟨_,rfl,a,_,rfl,.inr (SqT.of e),_,_,rfl,rfl,_,rfl,?_⟩
  by_cases c8:ps.length<=8
  ·refine iteFc (decide_eq_false (by rw[List.length_map];omega)) ?_
   replace q:∀H',Same H H'->Q (.bl (decide ((ps.map (·.2)).length<=8)&&((ps.map (·.2)).all keeperT&&riseB ((ps.map (·.2)).map nm0)))) H':=q
   rw[List.length_map,decide_eq_true c8,Bool.true_and] at q;refine⟨_,rfl,a,rfl,⟨_,SqT.of e⟩,?_⟩;refine comp_selF (ps:=ps) (g:=fun p=>p.1) (fun _=>true) (fun p=>V.bl (keeperT p.2)) (itIs_tup e) (by omega) (fun p hp H' R s' hR=>hR) (fun p hpm hs' H' R s' hR=>?_) fun l H7 n7 s7 h7=>?_
   ·exact⟨_,rfl,p.1,p.2,rfl,Rep.same s' _ _ (hp p hpm),sh_mem hs (List.mem_map.mpr ⟨p,hpm,rfl⟩),fun H'' s''=>hR H'' s''⟩
   refine⟨l,_,rfl,SqL.of (bools_of h7),_,rfl,?_⟩;rw[all_of];have ea:(ps.map (·.2)).all keeperT=ps.all fun p=>keeperT p.2:=by rw[List.all_map];rfl
   rw[ea] at q;cases ca:ps.all fun p=>keeperT p.2 with
   |false=>rw[ca] at q;exact iteFc rfl (q H7 s7)
   |true=>
    rw[ca] at q;have kp:∀p∈ps,p.1=.ref (adr p.1)/\∃r,H (adr p.1)=some (.tup (.str (nm0 p.2)::r)):=fun p hpm=>keeper_is (hp p hpm) (List.all_eq_true.mp ca p hpm)
    refine iteTc rfl ⟨_,rfl,a,ps.map fun p=>(adr p.1,nm0 p.2),rfl,?_,fun t ht=>?_,by rw[List.length_map];omega,fun H' s'=>?_⟩
    ·rw[s7.get e,List.map_map];exact congrArg (fun z=>some (HO.tup z)) (List.map_congr_left fun p hpm=>(kp p hpm).1)
    ·obtain⟨p,hpm,rfl⟩:=List.mem_map.mp ht;obtain⟨r,hr'⟩:=(kp p hpm).2;exact⟨r,s7.get hr'⟩
    ·have:=q H' (s7.trans s');rw[List.map_map] at this;rw[List.map_map];exact this
  ·refine iteTc (decide_eq_true (by rw[List.length_map];omega)) ?_;have:=q H (Same.refl _);rw[show keepersT (.tup (ps.map (·.2)))=false by show(decide ((ps.map (·.2)).length<=8)&&_)=false;rw[List.length_map,decide_eq_false c8];rfl] at this;exact this
 |_=>exact iteTc (by show(!isA (tyN H v) "tuple")=true;rw[ty];rfl) (q H (Same.refl _))
def sp_are_names (K:W.Frag):Sp:=fun vs H Q _=>∃v t,vs=[v]/\Rep AllF H t v/\sh 3 t=true/\(∀ns,t=.tup ns->∀x∈ns,thirdOk x=true)/\∀H',Same H H'->Q (.bl (namesT t)) H'
theorem ok_are_names (T:Txt K mg C_WordReader C_Boards XC)(F:Fun K "are_names" "are_names" s_are_names f fd)(D_are_rising:Def P w K mg base 1 "are_rising" ["named"] (sp_are_rising K))(D_is_stem:Def P w K mg base 4 "is_stem" ["thing"] (sp_is_stem K))(D_is_seal:Def P w K mg base 4 "is_seal" ["thing"] (sp_is_seal K)):FnOk P w K mg base CX0 5 f fd ["thing"] (sp_are_names K):=by
 exists sc_are_names
 ·obtain⟨v,t,rfl,_⟩:=h;rfl
 obtain⟨v,t,rfl,hv,hs,th,q⟩:=h;have okv:=rep_okS hv hs;refine⟨_,(!pss_cons (!ps_if (@PW.pt _ _ _ (!pw_or (!pt_not (!pt_val (!pe_callB call_isinst (by rfl) T.b_isinstance bt_isinstance (!pa_cons (pv 0) (!pa_cons (!pe_ty rfl T.b_tuple bt_tuple) (!pa_nil)))) (by intro _;rfl))) (!pw_or1 (!pt_cmpR op_gt (!pe_callB call_len_seq (by rfl) T.b_len bt_len (!pa_cons (pv 0) (!pa_nil))) (!pe_globI rfl T.c_MOST_NAMES) (nomark _))))) (!pss_one (!ps_ret (!pe_bl))) (!pss_nil)) (!pss_one (!ps_ret (!pe_and (!pe_callB (call_all rfl) (by rfl) T.b_all bt_all (!pa_cons (@pe_comp0 _ ["named"] _ _ _ _ _ _ _ _ _ _ rfl (!pi_tup (pv 0)) (by decide +kernel) (fun C s H fp=>⟨(@pg_name _ _ (0) _ (show(["named"]:List Str).Nodup by decide +kernel) rfl (by trivial) (by trivial)),(!pifs_nil),(!pe_or (!pe_fn D_is_stem (by trivial) rfl (!pa_cons (pv 0) (!pa_nil))) (!pe_one (!pe_fn D_is_seal (by trivial) rfl (!pa_cons (pv 0) (!pa_nil)))))⟩) (by intro _;rfl)) (!pa_nil))) (!pe_one (!pe_fn D_are_rising (by trivial) rfl (!pa_cons (pv 0) (!pa_nil)))))))),?_⟩
 try dsimp only[cxOf,Cx.nox,Cx.wish]
 refine⟨_,rfl,_,_,_,_,rfl,okv.ty K,okv.kit K,_,rfl,?_⟩;have ty:=ty_T hv;cases t with
 |tup ts=>
  obtain⟨a,vs,rfl,e,r⟩:=hv;obtain⟨ps,rfl,rfl,hp⟩:=reps_zip r;refine iteFc (by show(!isA (tyN H (V.ref a)) "tuple")=false;rw[ty];rfl) ?_;refine⟨_,rfl,a,_,rfl,.inr (SqT.of e),_,_,rfl,rfl,_,rfl,?_⟩
  by_cases c8:ps.length<=24
  ·refine iteFc (decide_eq_false (by rw[List.length_map];omega)) ?_
   replace q:∀H',Same H H'->Q (.bl (decide ((ps.map (·.2)).length<=24)&&((ps.map (·.2)).all (fun t=>stemT t||sealT t)&&riseB ((ps.map (·.2)).map nm0)))) H':=q
   rw[List.length_map,decide_eq_true c8,Bool.true_and] at q;refine⟨_,rfl,a,rfl,⟨_,SqT.of e⟩,?_⟩;refine comp_selF (ps:=ps) (g:=fun p=>p.1) (fun _=>true) (fun p=>V.bl (stemT p.2||sealT p.2)) (itIs_tup e) (by omega) (fun p hp H' R s' hR=>hR) (fun p hpm hs' H' R s' hR=>?_) fun l H7 n7 s7 h7=>?_
   ·have sp:=sh_mem hs (List.mem_map.mpr ⟨p,hpm,rfl⟩);refine⟨_,rfl,p.1,p.2,rfl,Rep.same s' _ _ (hp p hpm),sp,th _ rfl _ (List.mem_map.mpr ⟨p,hpm,rfl⟩),fun H1 s1=>⟨_,rfl,?_⟩⟩;cases cs:stemT p.2 with
    |true=>rw[cs] at hR;exact iteTc rfl (hR H1 s1)
    |false=>
     rw[cs] at hR;exact iteFc rfl ⟨_,rfl,p.1,p.2,rfl,Rep.same (s'.trans s1) _ _ (hp p hpm),sp,fun H2 s2=>hR H2 (s1.trans s2)⟩
   refine⟨l,_,rfl,SqL.of (bools_of h7),_,rfl,?_⟩;rw[all_of];have ea:(ps.map (·.2)).all (fun t=>stemT t||sealT t)=ps.all fun p=>stemT p.2||sealT p.2:=by rw[List.all_map];rfl
   rw[ea] at q;cases ca:ps.all fun p=>stemT p.2||sealT p.2 with
   |false=>rw[ca] at q;exact iteFc rfl (q H7 s7)
   |true=>
    rw[ca] at q;have kp:∀p∈ps,p.1=.ref (adr p.1)/\∃r,H (adr p.1)=some (.tup (.str (nm0 p.2)::r)):=fun p hpm=>named_is (hp p hpm) (List.all_eq_true.mp ca p hpm)
    refine iteTc rfl ⟨_,rfl,a,ps.map fun p=>(adr p.1,nm0 p.2),rfl,?_,fun t ht=>?_,by rw[List.length_map];omega,fun H' s'=>?_⟩
    ·rw[s7.get e,List.map_map];exact congrArg (fun z=>some (HO.tup z)) (List.map_congr_left fun p hpm=>(kp p hpm).1)
    ·obtain⟨p,hpm,rfl⟩:=List.mem_map.mp ht;obtain⟨r,hr'⟩:=(kp p hpm).2;exact⟨r,s7.get hr'⟩
    ·have:=q H' (s7.trans s');rw[List.map_map] at this;rw[List.map_map];exact this
  ·refine iteTc (decide_eq_true (by rw[List.length_map];omega)) ?_;have:=q H (Same.refl _);rw[show namesT (.tup (ps.map (·.2)))=false by show(decide ((ps.map (·.2)).length<=24)&&_)=false;rw[List.length_map,decide_eq_false c8];rfl] at this;exact this
 |_=>exact iteTc (by show(!isA (tyN H v) "tuple")=true;rw[ty];rfl) (q H (Same.refl _))
end
inductive En where
 |st (nm kp og:Str) (t:Int×Int×Int)
 |sl (nm sm:Str) (tn:Int) (t:Int×Int×Int)
def En.nm:En->Str
 | .st nm _ _ _=>nm
 | .sl nm _ _ _=>nm
def En.tg:En->Int×Int×Int
 | .st _ _ _ t=>t
 | .sl _ _ _ t=>t
def En.turn:En->Int
 | .sl _ _ tn _=>tn
 |_=>0
def En.isS:En->Bool
 | .st _ _ _ _=>true
 |_=>false
def En.items (ta:Addr):En->List V
 | .st nm kp og _=>[.str nm,.int 1,.str kp,.str og,.ref ta]
 | .sl nm sm tn _=>[.str nm,.int 2,.str sm,.int tn,.ref ta]
def tgV (t:Int×Int×Int):List V:=[.int t.1,.int t.2.1,.int t.2.2]
def EnAt (H:Hp)(p:Addr×En):Prop:=∃ta,H ta=some (.tup (tgV p.2.tg))/\H p.1=some (.tup (p.2.items ta))
theorem EnAt.get {H H':Hp}{p:Addr×En}(h:EnAt H p)(k:∀b xs,H b=some (.tup xs)->H' b=some (.tup xs)):EnAt H' p:=by
 obtain⟨ta,h1,h2⟩:=h;exact⟨ta,k _ _ h1,k _ _ h2⟩
theorem EnAt.same {H H':Hp}{p:Addr×En}(h:EnAt H p)(s:Same H H'):EnAt H' p:=h.get fun _ _ e=>s.get e
theorem EnAt.fst {H:Hp}{p:Addr×En}(h:EnAt H p):∃r,H p.1=some (.tup (.str p.2.nm::r)):=by
 obtain⟨ta,_,h2⟩:=h;obtain⟨a,e⟩:=p;cases e<;>exact⟨_,h2⟩
structure HeadAt (H:Hp) (h:Addr) (ag:Int) (k n:Addr) (ps:List (Addr×En)):Prop where
 at_:H h=some (.tup [.int ag,.ref k,.ref n])
 nm:H n=some (.tup (ps.map fun p=>V.ref p.1))
 en:∀p∈ps,EnAt H p
theorem HeadAt.get {H H':Hp}{h:Addr}{ag:Int}{k n:Addr}{ps:List (Addr×En)}(x:HeadAt H h ag k n ps)(g:∀b xs,H b=some (.tup xs)->H' b=some (.tup xs)):HeadAt H' h ag k n ps:=
 ⟨g _ _ x.at_,g _ _ x.nm,fun p hp=>(x.en p hp).get g⟩
theorem HeadAt.same {H H':Hp}{h:Addr}{ag:Int}{k n:Addr}{ps:List (Addr×En)}(x:HeadAt H h ag k n ps)(s:Same H H'):HeadAt H' h ag k n ps:=x.get fun _ _ e=>s.get e
abbrev Nms (ps:List (Addr×En)):Prop:=(ps.map fun p=>p.2.nm).Nodup
theorem nd_inj {α β:Type}{f:α->β}:∀{l:List α},(l.map f).Nodup->∀{x y:α},x∈l->y∈l->f x=f y->x=y
 |[],_,x,_,hx,_,_=>nomatch hx
 |a::l,nd,x,y,hx,hy,e=>by
  rw[List.map_cons,List.nodup_cons] at nd;rcases List.mem_cons.mp hx with e1|h1
  ·rcases List.mem_cons.mp hy with e2|h2
   ·rw[e1,e2]
   ·exact absurd (List.mem_map.mpr ⟨y,h2,by rw[<-e,e1]⟩) nd.1
  ·rcases List.mem_cons.mp hy with e2|h2
   ·exact absurd (List.mem_map.mpr ⟨x,h1,by rw[e,e2]⟩) nd.1
   ·exact nd_inj nd.2 h1 h2 e
theorem perm_lift {α β:Type}{f:α->β}{us vs:List β}(h:us.Perm vs):∀{qs:List α},vs=qs.map f->∃us':List α,us'.Perm qs/\us'.map f=us:=by
 induction h with
 |nil=>intro qs e;exact⟨[],by rw[List.map_eq_nil_iff.mp e.symm],rfl⟩
 |cons x _ ih=>
  intro qs e;cases qs with
  |nil=>cases e
  |cons q qs=>
   rw[List.map_cons] at e;injection e with e1 e2
   obtain⟨us',h1,h2⟩:=ih e2;exact⟨q::us',h1.cons q,by rw[List.map_cons,h2,e1]⟩
 |swap x y l=>
  intro qs e;cases qs with
  |nil=>cases e
  |cons q qs=>
   cases qs with
   |nil=>cases e
   |cons q' qs=>
    rw[List.map_cons,List.map_cons] at e;injection e with e1 e2
    injection e2 with e2 e3
    exact⟨q'::q::qs,List.Perm.swap _ _ _,by rw[List.map_cons,List.map_cons,e1,e2,e3]⟩
 |trans _ _ ih1 ih2=>
  intro qs e;obtain⟨a,h1,h2⟩:=ih2 e;obtain⟨b,h3,h4⟩:=ih1 h2.symm;exact⟨b,h3.trans h1,h4⟩
theorem inV_str (x:Str)(ns:List Str):inV (V.str x) (ns.map V.str)=decide (x∈ns):=by
 unfold inV;rw[List.any_map,Bool.eq_iff_iff,List.any_eq_true,decide_eq_true_eq];constructor
 ·rintro⟨y,hy,e⟩
  have:y=x:=of_decide_eq_true (show decide (y=x)=true from e);rw[<-this];exact hy
 ·intro h;exact⟨x,h,(show decide (x=x)=true from decide_eq_true rfl)⟩
def En.og:En->Str
 | .st _ _ og _=>og
 |_=>EM
def En.v2:En->Str
 | .st _ kp _ _=>kp
 | .sl _ sm _ _=>sm
def En.v3:En->V
 | .st _ _ og _=>.str og
 | .sl _ _ tn _=>.int tn
theorem EnAt.v3 {H:Hp}{p:Addr×En}(h:EnAt H p):∃xs,H p.1=some (.tup xs)/\xs[0]?=some (.str p.2.nm)/\xs[2]?=some (.str p.2.v2)/\xs[3]?=some p.2.v3:=by
 obtain⟨ta,_,h2⟩:=h;obtain⟨a,e⟩:=p;cases e<;>exact⟨_,h2,rfl,rfl,rfl⟩
structure AtOne (ks:List Str) (es:List En):Prop where
 kp:∀nm kp og t,En.st nm kp og t∈es->kp∈ks
 tns:((es.filter fun e=>!e.isS).map En.turn).Nodup
 org:∀nm kp og t,En.st nm kp og t∈es->og=EM\/∃sm tn t',En.sl og sm tn t'∈es
 stm:∀nm sm tn t,En.sl nm sm tn t∈es->∃kp og t',En.st sm kp og t'∈es
 beg:∀nm kp og t sm tg t' x tn t'',En.st nm kp og t∈es->En.sl og sm tg t'∈es->En.sl x nm tn t''∈es->tg<tn
section
variable {P:Program}{w:World}{K:W.Frag}{mg:Str->Option Value}{base:Heap}{f C_WordReader C_Boards:Addr}{XC:Nat->Addr}{fd:FuncData}
theorem mem_en {ps:List (Addr×En)}{e:En}(h:e∈ps.map (·.2)):∃a,(a,e)∈ps:=by
 obtain⟨⟨a,e'⟩,hp,rfl⟩:=List.mem_map.mp h;exact⟨a,hp⟩
theorem val_find {α:Type}{key:α->Str}{val:α->V}{z:Str}:∀{l:List α},valV (l.map fun y=>((Sum.inr (key y):Key),val y)) (Sum.inr z)=(l.find? fun y=>decide (key y=z)).map val
 |[]=>rfl
 |y::l=>by
  rw[List.map_cons,List.find?_cons]
  by_cases e:key y=z
  ·rw[decide_eq_true e,valV_pos (by rw[e])];rfl
  ·rw[decide_eq_false e,valV_neg (fun h=>e (Sum.inr.inj h))];exact val_find
def Pn (v:En->Int)(p:Addr×En)(y:V)(H:Hp):Prop:=∃b,y=.ref b/\H b=some (.tup [.str p.2.nm,.int (v p.2)])
theorem Pn.adr {v:En->Int}{p:Addr×En}{y:V}{H:Hp}(h:Pn v p y H):y=.ref (adr y)/\H (adr y)=some (.tup [.str p.2.nm,.int (v p.2)]):=by
 obtain⟨b,rfl,h⟩:=h;exact⟨rfl,h⟩
theorem Pn.same {v:En->Int}(x:Addr×En)(y:V)(H1 H2:Hp)(h:Pn v x y H1)(s:Same H1 H2):Pn v x y H2:=by
 obtain⟨b,e,h⟩:=h;exact⟨b,e,s.get h⟩
theorem Pn.upd {v:En->Int}(x:Addr×En)(y:V)(H1:Hp)(l:Addr)(us us':List V)(h:Pn v x y H1)(hl:H1 l=some (.lst us)):Pn v x y (L2.upd H1 l (.lst us')):=by
 obtain⟨b,e,h⟩:=h;exact⟨b,e,by rw[upd_ne fun z=>by rw[z,hl] at h;cases h];exact h⟩
theorem dict_pn {v:En->Int} {H:Hp} {l:Addr} {ps:List (Addr×En)} {ys:List ((Addr×En)×V)} {Q:VK} (h:H l=some (.lst (ys.map (·.2)))) (ey:ys.map (·.1)=ps) (hy:∀q∈ys,Pn v q.1 q.2 H) (nd:Nms ps) (few:ps.length<=24)
  (q:∀d,H d=none->Q (.ref d) (L2.upd H d (.dK (ps.map fun p=>((Sum.inr p.2.nm:Key),V.int (v p.2)))))):rDictK K [.ref l] H Q:=by
 have ly:ys.length=ps.length:=by rw[<-ey,List.length_map]
 refine⟨l,ys.map fun q=>adr q.2,ps.map fun p=>((Sum.inr p.2.nm:Key),V.int (v p.2)),rfl,SqL.of ?_,by rw[List.length_map,List.length_map,ly],by rw[List.length_map];omega,?_,fun i t k u h1 h2=>?_,q⟩
 ·rw[h,List.map_map];exact congrArg (fun z=>some (HO.lst z)) (List.map_congr_left fun q hq=>(hy q hq).adr.1)
 ·rw[List.map_map];have:(ps.map fun p=>(Sum.inr p.2.nm:Key)).Nodup:=by
   have:=List.pairwise_map.mp nd;exact List.pairwise_map.mpr (List.Pairwise.imp (fun{a b} z e=>z (Sum.inr.inj e)) this)
  exact this
 ·rw[List.getElem?_map] at h1 h2;obtain⟨q,hq,rfl⟩:=Option.map_eq_some_iff.mp h1;rw[<-ey,List.getElem?_map,hq] at h2;cases h2;exact(hy q (List.mem_of_getElem? hq)).adr.2
def sp_are_at_one (K:W.Frag):Sp:=fun vs H Q _=>∃(k n:Addr) (ks:List (Addr×Str)) (ps:List (Addr×En)),vs=[.ref k,.ref n]/\H k=some (.tup (ks.map fun t=>V.ref t.1))/\(∀t∈ks,∃r,H t.1=some (.tup (.str t.2::r)))/\ks.length<=8/\H n=some (.tup (ps.map fun p=>V.ref p.1))/\(∀p∈ps,EnAt H p)/\Nms ps/\(∀p∈ps,p.2.nm≠EM)/\(∀nm sm tn t,En.sl nm sm tn t∈ps.map (·.2)->0<tn)/\ps.length<=24/\
 ∀b H',(b=true↔AtOne (ks.map (·.2)) (ps.map (·.2)))->Same H H'->Q (.bl b) H'
theorem ok_are_at_one (T:Txt K mg C_WordReader C_Boards XC)(F:Fun K "are_at_one" "are_at_one" s_are_at_one f fd):FnOk P w K mg base CX0 1 f fd ["keepers","names"] (sp_are_at_one K):=by
 exists sc_are_at_one
 ·obtain⟨k,n,ks,ps,rfl,_⟩:=h;rfl
 obtain⟨k,n,ks,ps,rfl,h0,hks,fewk,hn,he,nd,nem,pos,few,q⟩:=h;have hu:=hu_of hr;have hu9:=hu9_of hr;refine⟨_,(!pss_cons (@ps_setC0 _ ["named"] (2) _ _ _ _ _ _ _ _ _ _ _ _ _ sc_are_at_one.nd rfl (by trivial) rfl (!pi_tup (pv 1)) (by decide +kernel) (fun C s H fp=>⟨(@pg_name _ _ (0) _ (show(["named"]:List Str).Nodup by decide +kernel) rfl (by trivial) (by trivial)),(!pifs_one (!pt_cmpR op_eq (!pe_ix (ix_tupK (K:=K) (by rfl)) (pv 0) (!pe_int) (fun _ _=>rfl)) (!pe_globI rfl T.c_STEM) (nomark _))),(pv 0)⟩) (by intro _;rfl) (by rfl) (by trivial)) (!pss_cons (@ps_setC0 _ ["named"] (3) _ _ _ _ _ _ _ _ _ _ _ _ _ sc_are_at_one.nd rfl (by trivial) rfl (!pi_tup (pv 1)) (by decide +kernel) (fun C s H fp=>⟨(@pg_name _ _ (0) _ (show(["named"]:List Str).Nodup by decide +kernel) rfl (by trivial) (by trivial)),(!pifs_one (!pt_cmpR op_eq (!pe_ix (ix_tupK (K:=K) (by rfl)) (pv 0) (!pe_int) (fun _ _=>rfl)) (!pe_globI rfl T.c_SEAL) (nomark _))),(pv 0)⟩) (by intro _;rfl) (by rfl) (by trivial)) (!pss_cons (@ps_set _ _ (4) _ _ _ _ sc_are_at_one.nd rfl (by trivial) (@pe_comp0 _ ["keeper"] _ _ _ _ _ _ _ _ _ _ rfl (!pi_tup (pv 0)) (by decide +kernel) (fun C s H fp=>⟨(@pg_name _ _ (0) _ (show(["keeper"]:List Str).Nodup by decide +kernel) rfl (by trivial) (by trivial)),(!pifs_nil),(!pe_ix (ix_tupK (K:=K) (by rfl)) (pv 0) (!pe_int) (fun _ _=>rfl))⟩) (by intro _;rfl)) (by rfl) (by trivial)) (!pss_cons (!ps_if (!pt_not (!pt_val (!pe_callB (call_all rfl) (by rfl) T.b_all bt_all (!pa_cons (@pe_comp _ ["stem","called"] [none,some 4] _ _ _ _ _ _ _ _ _ _ _ rfl (!pi_list (pv 2)) (by rfl) rfl (by repeat (first|exact trivial|refine⟨rfl,?_⟩)) (by repeat (first|exact trivial|refine⟨fun h=>(by first|exact⟨_,rfl⟩|cases h),?_⟩)) (fun C s H fp=>⟨(@pg_name _ _ (0) _ (show(["stem","called"]:List Str).Nodup by decide +kernel) rfl (by trivial) (by trivial)),(!pifs_nil),(!pe_cmpR (op_in_seqK (K:=K) (by rfl)) (!pe_ix (ix_tupK (K:=K) (by rfl)) (pv 0) (!pe_int) (fun _ _=>rfl)) (pv 1))⟩) (by intro _;rfl)) (!pa_nil))) (by intro _;rfl))) (!pss_one (!ps_ret (!pe_bl))) (!pss_nil)) (!pss_cons (!ps_if (!pt_cmpR op_lt (!pe_callB call_lenSet (by rfl) T.b_len bt_len (!pa_cons (!pe_callTy (call_setD (K:=K) (by rfl) rfl) (by rfl) T.b_set bt_set (!pa_cons (@pe_comp0 _ ["seal"] _ _ _ _ _ _ _ _ _ _ rfl (!pi_list (pv 3)) (by decide +kernel) (fun C s H fp=>⟨(@pg_name _ _ (0) _ (show(["seal"]:List Str).Nodup by decide +kernel) rfl (by trivial) (by trivial)),(!pifs_nil),(!pe_ix (ix_tupK (K:=K) (by rfl)) (pv 0) (!pe_int) (fun _ _=>rfl))⟩) (by intro _;rfl)) (!pa_nil))) (!pa_nil))) (!pe_callB call_len_seq (by rfl) T.b_len bt_len (!pa_cons (pv 3) (!pa_nil))) (nomark _)) (!pss_one (!ps_ret (!pe_bl))) (!pss_nil)) (!pss_cons (@ps_set _ _ (5) _ _ _ _ sc_are_at_one.nd rfl (by trivial) (!pe_callTy (call_dictK (K:=K) (by rfl) rfl) (by rfl) T.b_dict bt_dict (!pa_cons (@pe_comp0 _ ["seal"] _ _ _ _ _ _ _ _ _ _ rfl (!pi_list (pv 3)) (by decide +kernel) (fun C s H fp=>⟨(@pg_name _ _ (0) _ (show(["seal"]:List Str).Nodup by decide +kernel) rfl (by trivial) (by trivial)),(!pifs_nil),(!pe_tup (!pa_cons (!pe_ix (ix_tupK (K:=K) (by rfl)) (pv 0) (!pe_int) (fun _ _=>rfl)) (!pa_cons (!pe_ix (ix_tupK (K:=K) (by rfl)) (pv 0) (!pe_int) (fun _ _=>rfl)) (!pa_nil))))⟩) (by intro _;rfl)) (!pa_nil))) (by rfl) (by trivial)) (!pss_cons (!ps_if (!pt_not (!pt_val (!pe_callB (call_all rfl) (by rfl) T.b_all bt_all (!pa_cons (@pe_comp _ ["stem","turns"] [none,some 5] _ _ _ _ _ _ _ _ _ _ _ rfl (!pi_list (pv 2)) (by rfl) rfl (by repeat (first|exact trivial|refine⟨rfl,?_⟩)) (by repeat (first|exact trivial|refine⟨fun h=>(by first|exact⟨_,rfl⟩|cases h),?_⟩)) (fun C s H fp=>⟨(@pg_name _ _ (0) _ (show(["stem","turns"]:List Str).Nodup by decide +kernel) rfl (by trivial) (by trivial)),(!pifs_nil),(!pe_or (!pe_cmpR op_eq (!pe_ix (ix_tupK (K:=K) (by rfl)) (pv 0) (!pe_int) (fun _ _=>rfl)) (!pe_str) (nomark _)) (!pe_one (!pe_cmp (!pc_din hu (!pe_ix (ix_tupK (K:=K) (by rfl)) (pv 0) (!pe_int) (fun _ _=>rfl)) (pv 1)) (by first|exact nobehind _ (by decide) (by decide)|rfl))))⟩) (by intro _;rfl)) (!pa_nil))) (by intro _;rfl))) (!pss_one (!ps_ret (!pe_bl))) (!pss_nil)) (!pss_cons (@ps_set _ _ (6) _ _ _ _ sc_are_at_one.nd rfl (by trivial) (!pe_callTy (call_dictK (K:=K) (by rfl) rfl) (by rfl) T.b_dict bt_dict (!pa_cons (@pe_comp _ ["stem","turns"] [none,some 5] _ _ _ _ _ _ _ _ _ _ _ rfl (!pi_list (pv 2)) (by rfl) rfl (by repeat (first|exact trivial|refine⟨rfl,?_⟩)) (by repeat (first|exact trivial|refine⟨fun h=>(by first|exact⟨_,rfl⟩|cases h),?_⟩)) (fun C s H fp=>⟨(@pg_name _ _ (0) _ (show(["stem","turns"]:List Str).Nodup by decide +kernel) rfl (by trivial) (by trivial)),(!pifs_nil),(!pe_tup (!pa_cons (!pe_ix (ix_tupK (K:=K) (by rfl)) (pv 0) (!pe_int) (fun _ _=>rfl)) (!pa_cons (!pe_dget2 hu (pv 1) (!pe_ix (ix_tupK (K:=K) (by rfl)) (pv 0) (!pe_int) (fun _ _=>rfl)) (!pe_int) ⟨rfl,rfl,rfl,rfl⟩) (!pa_nil))))⟩) (by intro _;rfl)) (!pa_nil))) (by rfl) (by trivial)) (!pss_one (!ps_ret (!pe_callB (call_all rfl) (by rfl) T.b_all bt_all (!pa_cons (@pe_comp _ ["seal","begins"] [none,some 6] _ _ _ _ _ _ _ _ _ _ _ rfl (!pi_list (pv 3)) (by rfl) rfl (by repeat (first|exact trivial|refine⟨rfl,?_⟩)) (by repeat (first|exact trivial|refine⟨fun h=>(by first|exact⟨_,rfl⟩|cases h),?_⟩)) (fun C s H fp=>⟨(@pg_name _ _ (0) _ (show(["seal","begins"]:List Str).Nodup by decide +kernel) rfl (by trivial) (by trivial)),(!pifs_nil),(!pe_and (!pe_cmp (!pc_din hu (!pe_ix (ix_tupK (K:=K) (by rfl)) (pv 0) (!pe_int) (fun _ _=>rfl)) (pv 1)) (by first|exact nobehind _ (by decide) (by decide)|rfl)) (!pe_one (!pe_cmpR op_gt (!pe_ix (ix_tupK (K:=K) (by rfl)) (pv 0) (!pe_int) (fun _ _=>rfl)) (!pe_dget hu (pv 1) (!pe_ix (ix_tupK (K:=K) (by rfl)) (pv 0) (!pe_int) (fun _ _=>rfl)) (fun _ _=>rfl)) (nomark _))))⟩) (by intro _;rfl)) (!pa_nil))))))))))))),?_⟩
 try dsimp only[cxOf,Cx.nox,Cx.wish]
 have lS:=List.length_filter_le (fun p:Addr×En=>p.2.isS) ps;have lL:=List.length_filter_le (fun p:Addr×En=>!p.2.isS) ps;have ndS:Nms (ps.filter fun p=>p.2.isS):=nd.sublist (List.filter_sublist.map _);have ndL:Nms (ps.filter fun p=>!p.2.isS):=nd.sublist (List.filter_sublist.map _);have tnL:((ps.map (·.2)).filter fun e=>!e.isS).map En.turn=(ps.filter fun p=>!p.2.isS).map fun p=>p.2.turn:=by
  rw[List.filter_map,List.map_map];rfl
 have isS:∀p∈ps.filter (fun p=>p.2.isS),p∈ps/\∃nm kp og t,p.2=.st nm kp og t:=fun p hp=>by
  obtain⟨g1,g2⟩:=List.mem_filter.mp hp;refine⟨g1,?_⟩;cases e:p.2 with
  |st nm kp og t=>exact⟨_,_,_,_,rfl⟩
  |sl _ _ _ _=>rw[e] at g2;cases g2
 have isL:∀p∈ps.filter (fun p=>!p.2.isS),p∈ps/\∃nm sm n t,p.2=.sl nm sm n t:=fun p hp=>by
  obtain⟨g1,g2⟩:=List.mem_filter.mp hp;refine⟨g1,?_⟩;cases e:p.2 with
  |st nm kp og t=>rw[e] at g2;cases g2
  |sl _ _ _ _=>exact⟨_,_,_,_,rfl⟩
 have memS:∀{nm kp og t},En.st nm kp og t∈ps.map (·.2)->∃a,(a,En.st nm kp og t)∈ps.filter fun p=>p.2.isS:=fun{nm kp og t} h=>by
  obtain⟨a,ha⟩:=mem_en h;exact⟨a,List.mem_filter.mpr ⟨ha,rfl⟩⟩
 have memL:∀{nm sm n t},En.sl nm sm n t∈ps.map (·.2)->∃a,(a,En.sl nm sm n t)∈ps.filter fun p=>!p.2.isS:=fun{nm sm n t} h=>by
  obtain⟨a,ha⟩:=mem_en h;exact⟨a,List.mem_filter.mpr ⟨ha,rfl⟩⟩
 have inE:∀{p:Addr×En},p∈ps->p.2∈ps.map (·.2):=fun hp=>List.mem_map.mpr ⟨_,hp,rfl⟩
 refine⟨_,rfl,n,rfl,⟨_,SqT.of hn⟩,?_⟩;refine comp_selF (ps:=ps) (g:=fun p=>V.ref p.1) (fun p=>p.2.isS) (fun p=>V.ref p.1) (itIs_tup hn) (by omega) (fun p hp H' R s' hR=>?_) (fun p hp hs H' R s' hR=>⟨_,rfl,hR H' (Same.refl _)⟩) fun l1 H1 n1 s1 h1=>?_
 ·obtain⟨a,e⟩:=p;obtain⟨ta,_,ha⟩:=he _ hp;cases e<;>exact⟨_,rfl,a,_,_,_,rfl,rfl,SqT.of (s'.get ha),atI_nat (j:=1) rfl,rfl,_,rfl,hR⟩
 refine⟨_,rfl,n,rfl,⟨_,SqT.of (s1.get hn)⟩,?_⟩;refine comp_selF (ps:=ps) (g:=fun p=>V.ref p.1) (fun p=>!p.2.isS) (fun p=>V.ref p.1) (itIs_tup (s1.get hn)) (by omega) (fun p hp H' R s' hR=>?_) (fun p hp hs H' R s' hR=>⟨_,rfl,hR H' (Same.refl _)⟩) fun l2 H2 n2 s2 h2=>?_
 ·obtain⟨a,e⟩:=p;obtain⟨ta,_,ha⟩:=he _ hp;cases e<;>exact⟨_,rfl,a,_,_,_,rfl,rfl,SqT.of (s'.get (s1.get ha)),atI_nat (j:=1) rfl,rfl,_,rfl,hR⟩
 have s12:=s1.trans s2;have h1:=s2.get h1;generalize ps.filter (fun p=>p.2.isS)=ss at h1 lS ndS isS memS;generalize ps.filter (fun p=>!p.2.isS)=ls at h2 lL ndL tnL isL memL;have stAt:∀{p:Addr×En},p∈ps->∃xs,H p.1=some (.tup xs)/\xs[0]?=some (.str p.2.nm)/\xs[2]?=some (.str p.2.v2)/\xs[3]?=some p.2.v3:=fun hp=>(he _ hp).v3
 refine⟨_,rfl,k,rfl,⟨_,SqT.of (s12.get h0)⟩,?_⟩;refine comp_selF (ps:=ks) (g:=fun p=>V.ref p.1) (fun _=>true) (fun p=>V.str p.2) (itIs_tup (s12.get h0)) (by omega) (fun p hp H' R s' hR=>hR) (fun p hp hs H' R s' hR=>?_) fun l3 H3 n3 s3 h3=>?_
 ·obtain⟨r,hr'⟩:=hks p hp;exact⟨_,rfl,p.1,_,_,_,rfl,rfl,SqT.of (s'.get (s12.get hr')),atI_nat (j:=0) rfl,hR H' (Same.refl _)⟩
 have s13:=s12.trans s3;have h1:=s3.get h1;have h2:=s3.get h2;rw[List.filter_eq_self.mpr (fun _ _=>rfl),show(ks.map fun p=>V.str p.2)=(ks.map (·.2)).map V.str by rw[List.map_map];rfl] at h3;generalize ks.map (·.2)=kz at h3 q;refine⟨_,rfl,l1,rfl,⟨_,SqL.of h1⟩,?_⟩;refine comp_selF (ps:=ss) (g:=fun p=>V.ref p.1) (fun _=>true) (fun p=>V.bl (decide (p.2.v2∈kz))) (itIs_list (SqL.of h1)) (by omega) (fun p hp H' R s' hR=>hR) (fun p hp hs H' R s' hR=>?_) fun l4 H4 n4 s4 h4=>?_
 ·obtain⟨hp,_⟩:=isS p hp;obtain⟨xs,hx,_,x2,_⟩:=stAt hp;refine⟨_,rfl,p.1,_,_,_,rfl,rfl,SqT.of (s'.get (s13.get hx)),atI_nat (j:=2) x2,_,rfl,l3,_,rfl,.inl (SqL.of (s'.get h3)),rfl,by rw[List.all_map,List.all_eq_true];exact fun _ _=>rfl,?_⟩;rw[if_neg Bool.false_ne_true,inV_str];exact hR H' (Same.refl _)
 have s14:=s13.trans s4;have h1:=s4.get h1;have h2:=s4.get h2;refine⟨l4,_,rfl,SqL.of (bools_of h4),_,rfl,?_⟩;rw[all_of];cases c1:ss.all fun p=>decide (p.2.v2∈kz) with
 |false=>
  refine iteTc rfl (q false H4 ⟨fun z=>(by cases z),fun z=>?_⟩ s14);rw[<-c1,List.all_eq_true];intro p hp;obtain⟨hp',nm,kp,og,t,e⟩:=isS p hp;have:=z.kp nm kp og t (e▸inE hp');exact decide_eq_true (by rw[e];exact this)
 |true=>
 refine iteFc rfl ?_;refine⟨_,rfl,l2,rfl,⟨_,SqL.of h2⟩,?_⟩;refine comp_selF (ps:=ls) (g:=fun p=>V.ref p.1) (fun _=>true) (fun p=>V.int p.2.turn) (itIs_list (SqL.of h2)) (by omega) (fun p hp H' R s' hR=>hR) (fun p hp hs H' R s' hR=>?_) fun l5 H5 n5 s5 h5=>?_
 ·obtain⟨hp,nm,sm,n0,t,e⟩:=isL p hp;obtain⟨xs,hx,_,_,x3⟩:=stAt hp;have x3:xs[3]?=some (.int p.2.turn):=by rw[x3,e];rfl
  exact⟨_,rfl,p.1,_,_,_,rfl,rfl,SqT.of (s'.get (s14.get hx)),atI_nat (j:=3) x3,hR H' (Same.refl _)⟩
 have s15:=s14.trans s5;have h1:=s5.get h1;have h2:=s5.get h2;rw[List.filter_eq_self.mpr (fun _ _=>rfl),show(ls.map fun p=>V.int p.2.turn)=(ls.map fun p=>p.2.turn).map V.int by rw[List.map_map];rfl] at h5;refine⟨l5,ls.map fun p=>p.2.turn,rfl,SqL.of h5,by rw[List.length_map];omega,fun p6 n6=>?_⟩;have s6:=same_new n6 (.set (fun k=>decide (k∈ls.map fun p=>p.2.turn)) (cI (ls.map fun p=>p.2.turn) (ls.map fun p=>p.2.turn).length));have h6:(upd H5 p6 (.set (fun k=>decide (k∈ls.map fun p=>p.2.turn)) (cI (ls.map fun p=>p.2.turn) (ls.map fun p=>p.2.turn).length))) p6=some (.set (fun k=>decide (k∈ls.map fun p=>p.2.turn)) (cI (ls.map fun p=>p.2.turn) (ls.map fun p=>p.2.turn).length)):=upd_same;generalize upd H5 p6 (.set (fun k=>decide (k∈ls.map fun p=>p.2.turn)) (cI (ls.map fun p=>p.2.turn) (ls.map fun p=>p.2.turn).length))=H6 at s6 h6;have s16:=s15.trans s6;have h1:=s6.get h1;have h2:=s6.get h2;refine⟨p6,_,_,rfl,h6,_,rfl,l2,_,rfl,.inl (SqL.of h2),_,_,rfl,rfl,_,rfl,?_⟩;rcases Classical.em ((ls.map fun p=>p.2.turn).Nodup) with tn|tn
 rotate_left
 ·refine iteTc (decide_eq_true ?_) (q false H6 ⟨fun z=>(by cases z),fun z=>absurd (tnL▸z.tns) tn⟩ s16);have lt:cI (ls.map fun p=>p.2.turn) (ls.map fun p=>p.2.turn).length<(ls.map fun p=>p.2.turn).length:=by
   generalize ls.map (fun p=>p.2.turn)=ns at tn;obtain⟨i,j,x,hi,hj,ij⟩:∃(i j:Nat) (x:Int),ns[i]?=some x/\ns[j]?=some x/\i<j:=by
    refine Classical.byContradiction fun no=>tn (List.pairwise_iff_getElem.mpr fun i j hi hj ij e=>no ⟨i,j,ns[i],List.getElem?_eq_getElem hi,by rw[e];exact List.getElem?_eq_getElem hj,ij⟩)
   exact cI_lt hi hj ij _ (List.getElem?_eq_some_iff.mp hj).1 (Nat.le_refl _)
  rw[List.length_map] at lt ⊢;rw[List.length_map];omega
 refine iteFc (decide_eq_false ?_) ?_
 ·rw[cI_one tn _ (Nat.le_refl _),List.length_map,List.length_map];omega
 refine⟨_,rfl,l2,rfl,⟨_,SqL.of h2⟩,?_⟩;refine comp_sel (ps:=ls) (g:=fun p=>V.ref p.1) (fun _=>true) (Pn En.turn) Pn.same Pn.upd (itIs_list (SqL.of h2)) (by omega) (fun p hp H' R s' hR=>hR) (fun p hp hs H' R s' hR=>?_) fun l7 H7 y7 n7 s7 h7 e7 q7=>?_
 ·obtain⟨hp,nm,sm,n0,t,e⟩:=isL p hp;obtain⟨xs,hx,x0,_,x3⟩:=stAt hp;have x3:xs[3]?=some (.int p.2.turn):=by rw[x3,e];rfl
  have hx':=s'.get (s16.get hx);refine⟨_,rfl,p.1,_,_,_,rfl,rfl,SqT.of hx',atI_nat (j:=0) x0,_,rfl,p.1,_,_,_,rfl,rfl,SqT.of hx',atI_nat (j:=3) x3,sm_2,fun b hb=>?_⟩;exact hR _ _ (same_new hb _) ⟨b,rfl,upd_same⟩
 rw[List.filter_eq_self.mpr (fun _ _=>rfl)] at e7;have s17:=s16.trans s7;have h1:=s7.get h1;have h2:=s7.get h2;dsimp only[tNil];refine dict_pn h7 e7 q7 ndL (by omega) fun d nd8=>?_
 have s8:=same_new nd8 (.dK (ls.map fun p=>((Sum.inr p.2.nm:Key),V.int p.2.turn)));have hd8:(upd H7 d (.dK (ls.map fun p=>((Sum.inr p.2.nm:Key),V.int p.2.turn)))) d=some (.dK (ls.map fun p=>((Sum.inr p.2.nm:Key),V.int p.2.turn))):=upd_same;dsimp only[gName];generalize upd H7 d (.dK (ls.map fun p=>((Sum.inr p.2.nm:Key),V.int p.2.turn)))=H8 at s8 hd8;have s18:=s17.trans s8;have h1:=s8.get h1;have h2:=s8.get h2;have valT:∀{o sm n0 t},En.sl o sm n0 t∈ps.map (·.2)->valV (ls.map fun p=>((Sum.inr p.2.nm:Key),V.int p.2.turn)) (Sum.inr o)=some (.int n0):=fun{o sm n0 t} h=>by
  obtain⟨a,ha⟩:=memL h;rw[val_find (key:=fun p:Addr×En=>p.2.nm) (val:=fun p=>V.int p.2.turn),show(ls.find? fun y=>decide (y.2.nm=o))=some (a,En.sl o sm n0 t) from ?_]
  ·rfl
  ·cases q':ls.find? fun y=>decide (y.2.nm=o) with
   |none=>exact absurd (decide_eq_true rfl) (List.find?_eq_none.mp q' _ ha)
   |some x=>
    have q2:decide (x.2.nm=o)=true:=List.find?_some (p:=fun y:Addr×En=>decide (y.2.nm=o)) q';rw[nd_inj ndL (List.mem_of_find?_eq_some q') ha (of_decide_eq_true q2)]
 have valN:∀{o},(¬ ∃sm n0 t,En.sl o sm n0 t∈ps.map (·.2))->valV (ls.map fun p=>((Sum.inr p.2.nm:Key),V.int p.2.turn)) (Sum.inr o)=none:=fun{o} no=>by
  rw[val_find (key:=fun p:Addr×En=>p.2.nm) (val:=fun p=>V.int p.2.turn),Option.map_eq_none_iff,List.find?_eq_none];intro p hp z;obtain⟨hp',nm,sm,n0,t,e⟩:=isL p hp;have z:=of_decide_eq_true z;refine no ⟨sm,n0,t,?_⟩;rw[<-z,e];exact e▸inE hp'
 refine⟨_,rfl,l1,rfl,⟨_,SqL.of h1⟩,?_⟩;refine comp_selF (ps:=ss) (g:=fun p=>V.ref p.1) (fun _=>true) (fun p=>V.bl (decide (p.2.og=EM)||(valV (ls.map fun p=>((Sum.inr p.2.nm:Key),V.int p.2.turn)) (Sum.inr p.2.og)).isSome)) (itIs_list (SqL.of h1)) (by omega) (fun p hp H' R s' hR=>hR) (fun p hp hs H' R s' hR=>?_) fun l9 H9 n9 s9 h9=>?_
 ·obtain⟨hp,nm,kp,og,t,e⟩:=isS p hp;obtain⟨xs,hx,_,_,x3⟩:=stAt hp;rw[e] at x3 hR;have hx':=s'.get (s18.get hx);refine⟨_,rfl,p.1,_,_,_,rfl,rfl,SqT.of hx',atI_nat (j:=3) x3,rfl,_,rfl,?_⟩
  by_cases c:og=EM
  ·rw[show decide ((En.st nm kp og t).og=EM)=true from decide_eq_true c] at hR;exact iteTc (decide_eq_true (by show V.str og=V.str EM;rw[c])) (hR H' (Same.refl _))
  ·rw[show decide ((En.st nm kp og t).og=EM)=false from decide_eq_false c] at hR;exact iteFc (decide_eq_false fun z=>c (V.str.inj z)) ⟨_,rfl,p.1,_,_,_,rfl,rfl,SqT.of hx',atI_nat (j:=3) x3,_,rfl,d,_,rfl,DGet.k (k:=Sum.inr og) (s'.get hd8),hR H' (Same.refl _)⟩
 have s19:=s18.trans s9;have h1:=s9.get h1;have h2:=s9.get h2;have hd9:=s9.get hd8;refine⟨l9,_,rfl,SqL.of (bools_of h9),_,rfl,?_⟩;rw[all_of];have org_iff:(ss.all fun p=>decide (p.2.og=EM)||(valV (ls.map fun p=>((Sum.inr p.2.nm:Key),V.int p.2.turn)) (Sum.inr p.2.og)).isSome)=true↔∀nm kp og t,En.st nm kp og t∈ps.map (·.2)->og=EM\/∃sm tn t',En.sl og sm tn t'∈ps.map (·.2):=by
  rw[List.all_eq_true];constructor
  ·intro z nm kp og t h;obtain⟨a,ha⟩:=memS h;have:=z _ ha;rcases Bool.or_eq_true _ _▸this with y|y
   ·exact .inl (of_decide_eq_true y)
   ·refine .inr (Classical.byContradiction fun no=>?_);rw[show valV (ls.map fun p=>((Sum.inr p.2.nm:Key),V.int p.2.turn)) (Sum.inr (En.st nm kp og t).og)=none from valN no] at y;cases y
  ·intro z p hp;obtain⟨hp',nm,kp,og,t,e⟩:=isS p hp;rw[e];rcases z nm kp og t (e▸inE hp') with y|⟨sm,n0,t',hs⟩
   ·rw[show decide ((En.st nm kp og t).og=EM)=true from decide_eq_true y];rfl
   ·rw[show valV (ls.map fun p=>((Sum.inr p.2.nm:Key),V.int p.2.turn)) (Sum.inr (En.st nm kp og t).og)=_ from valT hs,Bool.or_eq_true];exact .inr rfl
 cases c3:ss.all fun p=>decide (p.2.og=EM)||(valV (ls.map fun p=>((Sum.inr p.2.nm:Key),V.int p.2.turn)) (Sum.inr p.2.og)).isSome with
 |false=>
  refine iteTc rfl (q false H9 ⟨fun z=>(by cases z),fun z=>?_⟩ s19);rw[<-c3];exact org_iff.mpr z.org
 |true=>
 have org:=org_iff.mp c3;refine iteFc rfl ?_;have bgv:∃bg:En->Int,(∀nm kp og t,En.st nm kp og t∈ps.map (·.2)->(valV (ls.map fun p=>((Sum.inr p.2.nm:Key),V.int p.2.turn)) (Sum.inr og)).getD (.int 0)=.int (bg (.st nm kp og t)))/\(∀nm kp og t sm tg t',En.st nm kp og t∈ps.map (·.2)->En.sl og sm tg t'∈ps.map (·.2)->bg (.st nm kp og t)=tg)/\(∀nm kp t,bg (.st nm kp EM t)=0):=by
  refine⟨fun e=>match valV (ls.map fun p=>((Sum.inr p.2.nm:Key),V.int p.2.turn)) (Sum.inr e.og) with|some (.int g)=>g|_=>0,fun nm kp og t h=>?_,fun nm kp og t sm tg t' h h2=>?_,fun nm kp t=>?_⟩
  ·show _=V.int (match valV (ls.map fun p=>((Sum.inr p.2.nm:Key),V.int p.2.turn)) (Sum.inr og) with|some (.int g)=>g|_=>0);rcases Classical.em (∃sm n0 t,En.sl og sm n0 t∈ps.map (·.2)) with⟨sm,n0,t',hs⟩|no
   ·rw[valT hs];rfl
   ·rw[valN no];rfl
  ·show(match valV (ls.map fun p=>((Sum.inr p.2.nm:Key),V.int p.2.turn)) (Sum.inr og) with|some (.int g)=>g|_=>0)=tg;rw[valT h2]
  ·show(match valV (ls.map fun p=>((Sum.inr p.2.nm:Key),V.int p.2.turn)) (Sum.inr EM) with|some (.int g)=>g|_=>0)=0;rw[valN fun⟨sm,n0,t',hs⟩=>by
    obtain⟨a,ha⟩:=mem_en hs;exact nem _ ha rfl]
 obtain⟨bg,bg1,bg2,bg3⟩:=bgv;refine⟨_,rfl,l1,rfl,⟨_,SqL.of h1⟩,?_⟩;refine comp_sel (ps:=ss) (g:=fun p=>V.ref p.1) (fun _=>true) (Pn bg) Pn.same Pn.upd (itIs_list (SqL.of h1)) (by omega) (fun p hp H' R s' hR=>hR) (fun p hp hs H' R s' hR=>?_) fun l10 H10 y10 n10 s10 h10 e10 q10=>?_
 ·obtain⟨hp,nm,kp,og,t,e⟩:=isS p hp;obtain⟨xs,hx,x0,_,x3⟩:=stAt hp;have me:=inE hp;rw[e] at x3 me;have hx':=s'.get (s19.get hx);have dg:=DGet.k (k:=Sum.inr og) (s'.get hd9);refine⟨_,rfl,p.1,_,_,_,rfl,rfl,SqT.of hx',atI_nat (j:=0) x0,_,rfl,d,rfl,.inl ⟨_,.inl (s'.get hd9)⟩,_,rfl,p.1,_,_,_,rfl,rfl,SqT.of hx',atI_nat (j:=3) x3,_,dg,sm_2,fun b hb=>?_⟩;refine hR _ _ (same_new hb _) ⟨b,rfl,?_⟩;rw[upd_same,e,<-bg1 _ _ _ _ me]
 rw[List.filter_eq_self.mpr (fun _ _=>rfl)] at e10;have s110:=s19.trans s10;have h2:=s10.get h2;dsimp only[tNil];refine dict_pn h10 e10 q10 ndS (by omega) fun b nb=>?_
 have s11:=same_new nb (.dK (ss.map fun p=>((Sum.inr p.2.nm:Key),V.int (bg p.2))));have hb11:(upd H10 b (.dK (ss.map fun p=>((Sum.inr p.2.nm:Key),V.int (bg p.2))))) b=some (.dK (ss.map fun p=>((Sum.inr p.2.nm:Key),V.int (bg p.2)))):=upd_same;dsimp only[gName];generalize upd H10 b (.dK (ss.map fun p=>((Sum.inr p.2.nm:Key),V.int (bg p.2))))=H11 at s11 hb11;have s111:=s110.trans s11;have h2:=s11.get h2;have vS:∀{sm kp og t},En.st sm kp og t∈ps.map (·.2)->valV (ss.map fun p=>((Sum.inr p.2.nm:Key),V.int (bg p.2))) (Sum.inr sm)=some (.int (bg (.st sm kp og t))):=fun{sm kp og t} h=>by
  obtain⟨a,ha⟩:=memS h;rw[val_find (key:=fun p:Addr×En=>p.2.nm) (val:=fun p=>V.int (bg p.2)),show(ss.find? fun y=>decide (y.2.nm=sm))=some (a,En.st sm kp og t) from ?_]
  ·rfl
  ·cases q':ss.find? fun y=>decide (y.2.nm=sm) with
   |none=>exact absurd (decide_eq_true rfl) (List.find?_eq_none.mp q' _ ha)
   |some x=>
    have q2:decide (x.2.nm=sm)=true:=List.find?_some (p:=fun y:Addr×En=>decide (y.2.nm=sm)) q';rw[nd_inj ndS (List.mem_of_find?_eq_some q') ha (of_decide_eq_true q2)]
 have vN:∀{sm},(¬ ∃kp og t,En.st sm kp og t∈ps.map (·.2))->valV (ss.map fun p=>((Sum.inr p.2.nm:Key),V.int (bg p.2))) (Sum.inr sm)=none:=fun{sm} no=>by
  rw[val_find (key:=fun p:Addr×En=>p.2.nm) (val:=fun p=>V.int (bg p.2)),Option.map_eq_none_iff,List.find?_eq_none];intro p hp z;obtain⟨hp',nm,kp,og,t,e⟩:=isS p hp;have z:=of_decide_eq_true z;refine no ⟨kp,og,t,?_⟩;rw[<-z,e];exact e▸inE hp'
 have cc:∃c:Addr×En->Bool,∀p∈ls,(c p=true↔∃kp og t,En.st p.2.v2 kp og t∈ps.map (·.2)/\bg (.st p.2.v2 kp og t)<p.2.turn):=⟨fun p=>@decide (∃kp og t,En.st p.2.v2 kp og t∈ps.map (·.2)/\bg (.st p.2.v2 kp og t)<p.2.turn) (Classical.propDecidable _),fun p _=>@decide_eq_true_iff _ (Classical.propDecidable _)⟩
 obtain⟨c,hc⟩:=cc;have one:∀{sm kp og t kp' og' t'},En.st sm kp og t∈ps.map (·.2)->En.st sm kp' og' t'∈ps.map (·.2)->En.st sm kp og t=En.st sm kp' og' t':=fun h h'=>by
  obtain⟨a,ha⟩:=mem_en h;obtain⟨a',ha'⟩:=mem_en h';have:=nd_inj nd ha ha' rfl;exact congrArg (·.2) this
 refine⟨_,rfl,l2,rfl,⟨_,SqL.of h2⟩,?_⟩;refine comp_selF (ps:=ls) (g:=fun p=>V.ref p.1) (fun _=>true) (fun p=>V.bl (c p)) (itIs_list (SqL.of h2)) (by omega) (fun p hp H' R s' hR=>hR) (fun p hp hs H' R s' hR=>?_) fun l12 H12 n12 s12' h12=>?_
 ·have hcp:=hc p hp;obtain⟨hp,nm,sm,n0,t,e⟩:=isL p hp;obtain⟨xs,hx,_,x2,x3⟩:=stAt hp;rw[e] at x2 x3 hcp;have hx':=s'.get (s111.get hx);have dg:=DGet.k (k:=Sum.inr sm) (s'.get hb11);rcases Classical.em (∃kp og t,En.st sm kp og t∈ps.map (·.2)) with⟨kp,og,t',hst⟩|no
  ·rw[vS hst] at dg;refine⟨_,rfl,p.1,_,_,_,rfl,rfl,SqT.of hx',atI_nat (j:=2) x2,_,rfl,b,_,rfl,dg,_,rfl,iteTc rfl ?_⟩;refine⟨_,rfl,p.1,_,_,_,rfl,rfl,SqT.of hx',atI_nat (j:=3) x3,_,rfl,_,rfl,p.1,_,_,_,rfl,rfl,SqT.of hx',atI_nat (j:=2) x2,b,_,rfl,dg,_,_,rfl,rfl,?_⟩;dsimp only;have:decide (bg (.st sm kp og t')<n0)=c p:=by
    rw[Bool.eq_iff_iff,decide_eq_true_eq,hcp];constructor
    ·exact fun z=>⟨kp,og,t',hst,z⟩
    ·rintro⟨kp2,og2,t2,g1,g2⟩
     rw[one hst g1];exact g2
   rw[this];exact hR H' (Same.refl _)
  ·rw[vN no] at dg;have:c p=false:=by
    cases z:c p with
    |false=>rfl
    |true=>
     obtain⟨kp,og,t,g1,_⟩:=hcp.mp z;exact absurd ⟨kp,og,t,g1⟩ no
   rw[this] at hR;exact⟨_,rfl,p.1,_,_,_,rfl,rfl,SqT.of hx',atI_nat (j:=2) x2,_,rfl,b,_,rfl,dg,_,rfl,iteFc rfl (hR H' (Same.refl _))⟩
 refine⟨l12,_,rfl,SqL.of (bools_of h12),?_⟩;rw[all_of];refine q _ H12 ?_ (s111.trans s12');rw[List.all_eq_true];constructor
 ·intro z;have zs:∀nm sm tn t,En.sl nm sm tn t∈ps.map (·.2)->∃kp og t',En.st sm kp og t'∈ps.map (·.2)/\bg (.st sm kp og t')<tn:=fun nm sm tn t h=>by
   obtain⟨a,ha⟩:=memL h;exact(hc _ ha).mp (z _ ha)
  refine⟨fun nm kp og t h=>?_,by rw[tnL];exact tn,org,fun nm sm tn t h=>?_,fun nm kp og t sm tg t' x tn t'' g1 g2 g3=>?_⟩
  ·obtain⟨a,ha⟩:=memS h;exact of_decide_eq_true (List.all_eq_true.mp c1 _ ha)
  ·obtain⟨kp,og,t',g,_⟩:=zs nm sm tn t h;exact⟨kp,og,t',g⟩
  ·obtain⟨kp2,og2,t2,g4,g5⟩:=zs x nm tn t'' g3;rw[<-one g1 g4,bg2 _ _ _ _ _ _ _ g1 g2] at g5;exact g5
 ·intro z p hp;obtain⟨hp',nm,sm,n0,t,e⟩:=isL p hp;have me:En.sl nm sm n0 t∈ps.map (·.2):=e▸inE hp';refine(hc p hp).mpr ?_;rw[e];obtain⟨kp,og,t',g⟩:=z.stm _ _ _ _ me;refine⟨kp,og,t',g,?_⟩;show bg (.st sm kp og t')<n0;rcases org _ _ _ _ g with rfl|⟨sm2,tg,t2,g2⟩
  ·rw[bg3];exact pos _ _ _ _ me
  ·rw[bg2 _ _ _ _ _ _ _ g g2];exact z.beg _ _ _ _ _ _ _ _ _ _ g g2 me
end
def deT:Tr->En
 | .tup [.str nm,.int 1,.str kp,.str og,.tup [.int x,.int y,.int z]]=>.st nm kp og (x,y,z)
 | .tup [.str nm,.int 2,.str sm,.int tn,.tup [.int x,.int y,.int z]]=>.sl nm sm tn (x,y,z)
 |_=>.st EM EM EM (0,0,0)
theorem sN_str {t:Tr}(h:sN t=true):∃z,t=.str z/\nameB (.str z)=true:=by
 cases t with
 |str z=>exact⟨z,rfl,h⟩
 |_=>cases h
theorem sB_int {a b:Int}{t:Tr}(h:sB a b t=true):∃i,t=.int i/\a<=i/\i<=b:=by
 cases t with
 |int i=>
  have:(decide (a<=i)&&decide (i<=b))=true:=h;rw[Bool.and_eq_true,decide_eq_true_eq,decide_eq_true_eq] at this;exact⟨i,rfl,this.1,this.2⟩
 |_=>cases h
theorem tag_is {t:Tr}(h:tagT t=true):∃x y z,t=.tup [.int x,.int y,.int z]:=by
 unfold tagT at h
 split at h
 ·rename_i x y z
  rw[Bool.and_eq_true,Bool.and_eq_true] at h;obtain⟨i,rfl,_⟩:=sB_int h.1.1;obtain⟨j,rfl,_⟩:=sB_int h.1.2;obtain⟨k,rfl,_⟩:=sB_int h.2;exact⟨i,j,k,rfl⟩
 ·cases h
theorem stem_is {t:Tr}(h:stemT t=true):∃nm kp og x y z,t=.tup [.str nm,.int 1,.str kp,.str og,.tup [.int x,.int y,.int z]]/\nameB (.str nm)=true/\nameB (.str kp)=true/\orgT (.str og)=true/\tagT (.tup [.int x,.int y,.int z])=true:=by
 unfold stemT at h
 split at h
 ·rename_i a b c d e
  rw[Bool.and_eq_true,Bool.and_eq_true,Bool.and_eq_true,Bool.and_eq_true] at h;obtain⟨h1,h2,h3,h4,h5⟩:=h;have:=sB_one h1;subst this;obtain⟨nm,rfl,n1⟩:=sN_str h2;obtain⟨kp,rfl,n2⟩:=sN_str h3;obtain⟨x,y,z,rfl⟩:=tag_is h5;cases d with
  |str og=>exact⟨nm,kp,og,x,y,z,rfl,n1,n2,h4,h5⟩
  |_=>cases h4
 ·cases h
theorem seal_is {t:Tr}(h:sealT t=true):∃nm sm tn x y z,t=.tup [.str nm,.int 2,.str sm,.int tn,.tup [.int x,.int y,.int z]]/\nameB (.str nm)=true/\nameB (.str sm)=true/\1<=tn/\tn<=999999999/\tagT (.tup [.int x,.int y,.int z])=true:=by
 unfold sealT at h
 split at h
 ·rename_i a b c d e
  rw[Bool.and_eq_true,Bool.and_eq_true,Bool.and_eq_true,Bool.and_eq_true] at h;obtain⟨h1,h2,h3,h4,h5⟩:=h;have:=sB_one h1;subst this;obtain⟨nm,rfl,n1⟩:=sN_str h2;obtain⟨sm,rfl,n2⟩:=sN_str h3;obtain⟨tn,rfl,b1,b2⟩:=sB_int h4;obtain⟨x,y,z,rfl⟩:=tag_is h5;exact⟨nm,sm,tn,x,y,z,rfl,n1,n2,b1,b2,h5⟩
 ·cases h
theorem nameB_ne {z:Str}(h:nameB (.str z)=true):z≠EM:=fun e=>by
 rw[e] at h;exact absurd h (by decide +kernel)
theorem de_at {H:Hp}{v:V}{t:Tr}(h:Rep AllF H t v)(k:(stemT t||sealT t)=true):EnAt H (adr v,deT t)/\(deT t).nm=nm0 t/\nm0 t≠EM/\∀nm sm tn t',deT t=.sl nm sm tn t'->0<tn:=by
 rcases Bool.or_eq_true _ _▸k with k|k
 ·obtain⟨nm,kp,og,x,y,z,rfl,n1,_⟩:=stem_is k;obtain⟨p,us,rfl,e,v1,us1,rfl,r1,v2,us2,rfl,r2,v3,us3,rfl,r3,v4,us4,rfl,r4,v5,us5,rfl,r5,rfl⟩:=h;obtain⟨ta,ws,rfl,e5,w1,ws1,rfl,q1,w2,ws2,rfl,q2,w3,ws3,rfl,q3,rfl⟩:=r5;cases r1;cases r2;cases r3;cases r4;cases q1;cases q2;cases q3;exact⟨⟨ta,e5,e⟩,rfl,nameB_ne n1,fun _ _ _ _ z=>by cases z⟩
 ·obtain⟨nm,sm,tn,x,y,z,rfl,n1,_,b1,_⟩:=seal_is k;obtain⟨p,us,rfl,e,v1,us1,rfl,r1,v2,us2,rfl,r2,v3,us3,rfl,r3,v4,us4,rfl,r4,v5,us5,rfl,r5,rfl⟩:=h;obtain⟨ta,ws,rfl,e5,w1,ws1,rfl,q1,w2,ws2,rfl,q2,w3,ws3,rfl,q3,rfl⟩:=r5;cases r1;cases r2;cases r3;cases r4;cases q1;cases q2;cases q3;exact⟨⟨ta,e5,e⟩,rfl,nameB_ne n1,fun _ _ _ _ z=>by cases z;omega⟩
def HeadP:Tr->Prop
 | .tup [a,.tup ks,.tup ns]=>sB 0 999999999 a=true/\keepersT (.tup ks)=true/\namesT (.tup ns)=true/\AtOne (ks.map nm0) (ns.map deT)
 |_=>False
def thirds:Tr->Prop
 | .tup [_,_,.tup ns]=>∀x∈ns,thirdOk x=true
 |_=>True
section
variable {P:Program}{w:World}{K:W.Frag}{mg:Str->Option Value}{base:Heap}{f C_WordReader C_Boards:Addr}{XC:Nat->Addr}{fd:FuncData}
def sp_is_head (K:W.Frag):Sp:=fun vs H Q _=>∃v t,vs=[v]/\Rep AllF H t v/\sh 4 t=true/\thirds t/\∀b H',(b=true↔HeadP t)->Same H H'->Q (.bl b) H'
theorem ok_is_head (T:Txt K mg C_WordReader C_Boards XC)(F:Fun K "is_head" "is_head" s_is_head f fd)(D_are_keepers:Def P w K mg base 4 "are_keepers" ["thing"] (sp_are_keepers K))(D_are_names:Def P w K mg base 5 "are_names" ["thing"] (sp_are_names K))(D_are_at_one:Def P w K mg base 1 "are_at_one" ["keepers","names"] (sp_are_at_one K))(D_is_tuple_of:Def P w K mg base 1 "is_tuple_of" ["thing","many"] (sp_is_tuple_of K))(D_is_between:Def P w K mg base 2 "is_between" ["thing","least","most"] (sp_is_between K)):FnOk P w K mg base CX0 6 f fd ["thing"] (sp_is_head K):=by
 exists sc_is_head
 ·obtain⟨v,t,rfl,_⟩:=h;rfl
 obtain⟨v,t,rfl,hv,hs,th,q⟩:=h;have okv:=rep_okS hv hs;refine⟨_,(!pss_cons (!ps_if (@PW.pt _ _ _ (!pw_or (!pt_not (!pt_val (!pe_fn D_is_tuple_of (by trivial) rfl (!pa_cons (pv 0) (!pa_cons (!pe_int) (!pa_nil)))) (by intro _;rfl))) (!pw_or1 (!pt_not (!pt_val (!pe_fn D_is_between (by trivial) rfl (!pa_cons (!pe_ix ix_tup (pv 0) (!pe_int) (fun _ _=>rfl)) (!pa_cons (!pe_int) (!pa_cons (!pe_globI rfl T.c_MOST_NUMBER) (!pa_nil))))) (by intro _;rfl)))))) (!pss_one (!ps_ret (!pe_bl))) (!pss_nil)) (!pss_one (!ps_ret (!pe_and (!pe_fn D_are_keepers (by trivial) rfl (!pa_cons (!pe_ix ix_tup (pv 0) (!pe_int) (fun _ _=>rfl)) (!pa_nil))) (!pe_and (!pe_fn D_are_names (by trivial) rfl (!pa_cons (!pe_ix ix_tup (pv 0) (!pe_int) (fun _ _=>rfl)) (!pa_nil))) (!pe_one (!pe_fn D_are_at_one (by trivial) rfl (!pa_cons (!pe_ix ix_tup (pv 0) (!pe_int) (fun _ _=>rfl)) (!pa_cons (!pe_ix ix_tup (pv 0) (!pe_int) (fun _ _=>rfl)) (!pa_nil)))))))))),?_⟩;dsimp only[tNext,tSeq,tIfS];refine⟨_,rfl,_,3,rfl,okv,_,rfl,?_⟩;rw[show(3:Int)=((3:Nat):Int) from rfl,tupN_T hv];cases c:tLen 3 t with
 |false=>
  refine iteTc rfl (q false H ⟨fun z=>(by cases z),fun z=>?_⟩ (Same.refl _));unfold HeadP at z
  split at z
  ·exact absurd c (by simp[tLen])
  ·exact z.elim
 |true=>
  obtain⟨a,k,n,rfl⟩:=tup3 c;have s1:=sh_mem hs (show a∈[a,k,n] by simp);have s2:=sh_mem hs (show k∈[a,k,n] by simp);have s3:=sh_mem hs (show n∈[a,k,n] by simp);obtain⟨p,us,rfl,e,v1,us1,rfl,r1,v2,us2,rfl,r2,v3,us3,rfl,r3,rfl⟩:=hv;refine iteFc rfl ⟨_,rfl,p,_,_,_,rfl,rfl,SqT.of e,rfl,_,0,999999999,rfl,rep_okS r1 s1,_,rfl,?_⟩;rw[betw_T r1];have no:∀{H':Hp},Same H H'->¬HeadP (.tup [a,k,n])->Q (.bl false) H':=fun s' z=>q false _ ⟨fun y=>(by cases y),fun y=>absurd y z⟩ s'
  have hk:∀{H':Hp},Same H H'->(¬ ∃ks ns,k=.tup ks/\n=.tup ns/\sB 0 999999999 a=true/\keepersT k=true/\namesT n=true)->Q (.bl false) H':=fun s' z=>no s' fun y=>by
   unfold HeadP at y
   split at y
   ·rename_i ks ns e
    cases e;exact z ⟨ks,ns,rfl,rfl,y.1,y.2.1,y.2.2.1⟩
   ·exact y
  cases c1:sB 0 999999999 a with
  |false=>exact iteTc rfl (hk (Same.refl _) fun⟨_,_,_,_,z,_⟩=>by rw[c1] at z;cases z)
  |true=>
   refine iteFc rfl ⟨_,rfl,p,_,_,_,rfl,rfl,SqT.of e,rfl,v2,k,rfl,r2,?_,fun H1 t1=>⟨_,rfl,?_⟩⟩
   ·exact sh_le (by decide) s2
   cases c2:keepersT k with
   |false=>exact iteFc rfl (hk t1 fun⟨_,_,_,_,_,z,_⟩=>by rw[c2] at z;cases z)
   |true=>
    refine iteTc rfl ⟨_,rfl,p,_,_,_,rfl,rfl,SqT.of (t1.get e),rfl,v3,n,rfl,Rep.same t1 _ _ r3,s3,(fun ns z=>by subst z;exact th),fun H2 t2=>⟨_,rfl,?_⟩⟩;have t12:=t1.trans t2;cases c3:namesT n with
    |false=>exact iteFc rfl (hk t12 fun⟨_,_,_,_,_,_,z⟩=>by rw[c3] at z;cases z)
    |true=>
     cases k with
     |tup ks=>
      cases n with
      |tup ns=>
       have d2:=c2;have d3:=c3
       replace d2:(decide (ks.length<=8)&&(ks.all keeperT&&riseB (ks.map nm0)))=true:=d2
       replace d3:(decide (ns.length<=24)&&(ns.all (fun t=>stemT t||sealT t)&&riseB (ns.map nm0)))=true:=d3
       rw[Bool.and_eq_true,Bool.and_eq_true,decide_eq_true_eq,List.all_eq_true,rise_iff] at d2 d3;obtain⟨kl,kk,kr⟩:=d2;obtain⟨nl,nk,nr⟩:=d3;obtain⟨ka,kvs,rfl,ke,krr⟩:=Rep.same t12 _ _ r2;obtain⟨na,nvs,rfl,ne,nrr⟩:=Rep.same t12 _ _ r3;obtain⟨kps,rfl,rfl,kp⟩:=reps_zip krr;obtain⟨nps,rfl,rfl,np⟩:=reps_zip nrr;have kat:∀x∈kps,x.1=.ref (adr x.1)/\∃r,H2 (adr x.1)=some (.tup (.str (nm0 x.2)::r)):=fun x hx=>keeper_is (kp x hx) (kk _ (List.mem_map.mpr ⟨x,hx,rfl⟩))
       have nat:∀x∈nps,x.1=.ref (adr x.1):=fun x hx=>(named_is (np x hx) (nk _ (List.mem_map.mpr ⟨x,hx,rfl⟩))).1
       have nen:∀x∈nps,EnAt H2 (adr x.1,deT x.2)/\(deT x.2).nm=nm0 x.2/\nm0 x.2≠EM/\∀nm sm tn t',deT x.2=.sl nm sm tn t'->0<tn:=fun x hx=>de_at (np x hx) (nk _ (List.mem_map.mpr ⟨x,hx,rfl⟩))
       refine iteTc rfl ⟨_,rfl,p,_,_,_,rfl,rfl,SqT.of (t12.get e),rfl,_,rfl,p,_,_,_,rfl,rfl,SqT.of (t12.get e),rfl,ka,na,kps.map fun x=>(adr x.1,nm0 x.2),nps.map fun x=>(adr x.1,deT x.2),rfl,?_,fun t ht=>?_,?_,?_,fun x hx=>?_,?_,fun x hx=>?_,fun nm sm tn t' hx=>?_,?_,fun b H3 hb t3=>q b H3 ?_ (t12.trans t3)⟩
       ·rw[ke,List.map_map];exact congrArg (fun z=>some (HO.tup z)) (List.map_congr_left fun x hx=>(kat x hx).1)
       ·obtain⟨x,hx,rfl⟩:=List.mem_map.mp ht;exact(kat x hx).2
       ·rw[List.length_map] at kl ⊢;exact kl
       ·rw[ne,List.map_map];exact congrArg (fun z=>some (HO.tup z)) (List.map_congr_left fun x hx=>nat x hx)
       ·obtain⟨x,hx',rfl⟩:=List.mem_map.mp hx;exact(nen x hx').1
       ·show((nps.map fun x=>(adr x.1,deT x.2)).map fun p=>p.2.nm).Nodup;rw[List.map_map];have:=slt_nd nr;rw[List.map_map] at this;rw[show nps.map ((fun p:Addr×En=>p.2.nm)∘fun x:V×Tr=>(adr x.1,deT x.2))=nps.map (nm0∘fun x=>x.2) from List.map_congr_left fun x hx=>(nen x hx).2.1];exact this
       ·obtain⟨x,hx',rfl⟩:=List.mem_map.mp hx;show(deT x.2).nm≠EM;rw[(nen x hx').2.1];exact(nen x hx').2.2.1
       ·rw[List.map_map] at hx;obtain⟨x,hx',e'⟩:=List.mem_map.mp hx;exact(nen x hx').2.2.2 _ _ _ _ e'
       ·rw[List.length_map] at nl ⊢;exact nl
       ·rw[hb,List.map_map,List.map_map];show _↔(sB 0 999999999 a=true/\keepersT (.tup (kps.map (·.2)))=true/\namesT (.tup (nps.map (·.2)))=true/\AtOne ((kps.map (·.2)).map nm0) ((nps.map (·.2)).map deT));rw[List.map_map,List.map_map];exact⟨fun z=>⟨c1,c2,c3,z⟩,fun z=>z.2.2.2⟩
      |_=>cases c3
     |_=>cases c2
end
open M38
section
variable {P:Program}{w:World}{K:W.Frag}{mg:Str->Option Value}{base:Heap}{f C_WordReader C_Boards:Addr}{XC:Nat->Addr}{fd:FuncData}
def sp__law_row (K:W.Frag):Sp:=fun vs H Q _=>∃(c m:Int),vs=[.int c,.int m]/\0<=m/\m<=1000/\
 ∀(r:Addr) (H':Hp) (ns:List Int),Same H H'->H r=none->H' r=some (.lst (ns.map V.int))->ns.length=m.toNat->(∀x∈ns,0<=x/\x<1000000)->Q (.ref r) H'
theorem ok__law_row (T:Txt K mg C_WordReader C_Boards XC)(F:Fun K "_law_row" "_law_row" s__law_row f fd):FnOk P w K mg base CX0 1 f fd ["_law_cell","_law_many"] (sp__law_row K):=by
 exists sc__law_row
 ·obtain⟨c,m,rfl,_⟩:=h;rfl
 obtain⟨c,m,rfl,hm0,hm1,q⟩:=h;refine⟨_,(!pss_cons (@ps_set _ _ (2) _ _ _ _ sc__law_row.nd rfl (by trivial) (!pe_lst (!pa_nil)) (by rfl) (by trivial)) (!pss_cons (@ps_set _ _ (3) _ _ _ _ sc__law_row.nd rfl (by trivial) (pv 0) (by rfl) (by trivial)) (!pss_cons (!ps_if (!pt_cmpR op_lt (!pe_callB call_abs (by rfl) T.b_abs bt_abs (!pa_cons (pv 0) (!pa_nil))) (!pe_op op_pow (!pe_int) (!pe_int)) (nomark _)) (!pss_one (@ps_set _ _ (3) _ _ _ _ sc__law_row.nd rfl (by trivial) (!pe_op op_add (!pe_op op_mod (pv 0) (!pe_int)) (!pe_int)) (by rfl) (by trivial))) (!pss_nil)) (!pss_cons (!ps_for PassesOwn.never rfl (!pi_range1 rfl T.b_range (!pa_cons (pv 1) (!pa_nil))) (@pg_name _ _ (4) _ sc__law_row.nd rfl (by trivial) (by trivial)) (!pss_one (!ps_if (!pt_cmpR op_lt (!pe_callB call_abs (by rfl) T.b_abs bt_abs (!pa_cons (pv 0) (!pa_nil))) (!pe_op op_pow (!pe_int) (!pe_int)) (nomark _)) (!pss_cons (@ps_set _ _ (3) _ _ _ _ sc__law_row.nd rfl (by trivial) (!pe_op op_mod (!pe_op op_mul (pv 3) (!pe_int)) (!pe_int)) (by rfl) (by trivial)) (!pss_one (!ps_expr (!pe_bm PySem.F.plainAttrs_list PySem.F.slot_list_append PySem.F.type_list_append mt_append (pv 2) (!pa_cons (!pe_op op_mod (!pe_op op_fdiv (!pe_op op_mod (!pe_op op_add (!pe_op op_add (!pe_op op_mul (pv 3) (pv 3)) (!pe_op op_mul (!pe_int) (pv 3))) (pv 4)) (!pe_int)) (!pe_int)) (!pe_op op_pow (!pe_int) (!pe_int))) (!pa_nil)))))) (!pss_cons (!ps_expr (!pe_bm PySem.F.plainAttrs_list PySem.F.slot_list_append PySem.F.type_list_append mt_append (pv 2) (!pa_cons (!pe_op op_mod (pv 3) (!pe_op op_pow (!pe_int) (!pe_int))) (!pa_nil)))) (!pss_one (@ps_set _ _ (3) _ _ _ _ sc__law_row.nd rfl (by trivial) (!pe_op op_fdiv (pv 3) (!pe_op op_pow (!pe_int) (!pe_int))) (by rfl) (by trivial)))))) (by intro _;rfl)) (!pss_one (!ps_ret (pv 2))))))),?_⟩;refine⟨sm_0,fun g hg=>?_⟩;refine⟨_,rfl,?_⟩;have z1:∀(N:St->Hp->Prop),(∀z:Int,N [some (.int c),some (.int m),some (.ref g),some (.int z),none] (upd H g (.lst [])))->tIfS (tTest (tOp (rI0 fun i j=>V.bl (decide (i<j))) (tCB (fun xs H Q=>∃i,xs=[V.int i]/\Q (V.int (if i<0 then -i else i)) H) (tCons (tVar 0) tNil)) (tOp (rI CPow fun i j=>V.int (i^j.toNat)) (tC (V.int 10)) (tC (V.int 18))))) (tAsg (tOp (rI0 fun i j=>V.int (i+j)) (tOp (rI (fun x j=>0<j) fun i j=>V.int (i%j)) (tVar 0) (tC (V.int 2147483647))) (tC (V.int 1))) (gName 3)) tNext { nx:=N,rt:=Q } [some (.int c),some (.int m),some (.ref g),some (.int c),none] (upd H g (.lst [])):=fun N hN=>by
  refine⟨_,rfl,_,rfl,_,_,rfl,rfl,⟨by decide,by decide,by decide⟩,_,_,rfl,rfl,_,rfl,ite2 (fun _=>?_) (fun _=>?_)⟩
  ·exact⟨_,rfl,_,_,rfl,rfl,(by show(0:Int)<2147483647;decide),_,_,rfl,rfl,hN _⟩
  ·exact hN _
 refine z1 _ fun z0=>?_
 refine⟨_,rfl,m,rfl,by omega,by omega,for_range (lo:=0) (n:=m.toNat) (fun i σ H2=>∃(ns:List Int) (z:Int) (v:Option V),σ=[some (.int c),some (.int m),some (.ref g),some (.int z),v]/\Same H H2/\H2 g=some (.lst (ns.map V.int))/\ns.length=i/\∀x∈ns,0<=x/\x<1000000)
  ⟨[],_,none,rfl,same_new hg _,upd_same,rfl,fun _ h=>nomatch h⟩ ?_ ?_⟩
 ·rintro i σ H2 hi ⟨ns,z,v,rfl,s2,hg2,hl,hb⟩
  refine⟨_,rfl,_,rfl,_,_,rfl,rfl,⟨by decide,by decide,by decide⟩,_,_,rfl,rfl,_,rfl,ite2 (fun _=>?_) (fun _=>?_)⟩
  ·refine⟨_,rfl,_,_,rfl,rfl,.inr ⟨by decide,by decide⟩,_,_,rfl,rfl,(by show(0:Int)<2147483647;decide),?_⟩;have b0:=Int.emod_nonneg (z*48271) (show(2147483647:Int)≠0 by decide);have b1:=Int.emod_lt_of_pos (z*48271) (show(0:Int)<2147483647 by decide);dsimp only;generalize z*48271%2147483647=y at b0 b1;refine⟨_,rfl,.inl ⟨rfl,_,SqL.of hg2⟩,_,rfl,_,rfl,_,_,rfl,rfl,.inl ⟨by omega,by omega⟩,_,rfl,_,_,rfl,rfl,.inl ⟨by decide,by decide⟩,_,_,rfl,rfl,_,rfl,_,_,rfl,rfl,_,_,rfl,rfl,(by show(0:Int)<2147483629;decide),_,_,rfl,rfl,⟨by decide,by decide⟩,_,_,rfl,rfl,⟨by decide,by decide,by decide⟩,_,_,rfl,rfl,(by show(0:Int)<10^(6:Int).toNat;decide),?_⟩;refine⟨g,_,_,rfl,rfl,hg2,smallLt (by rw[List.length_map];omega),?_⟩;refine⟨ns++[_],_,_,rfl,same_upd s2 hg _,by rw[upd_same,List.map_append];rfl,by rw[List.length_append,hl];rfl,fun x hx=>?_⟩;rcases List.mem_append.mp hx with hx|hx
   ·exact hb x hx
   ·rw[List.mem_singleton.mp hx];exact⟨Int.emod_nonneg _ (by decide),Int.emod_lt_of_pos _ (by decide)⟩
  ·refine⟨_,rfl,.inl ⟨rfl,_,SqL.of hg2⟩,_,rfl,_,_,rfl,rfl,⟨by decide,by decide,by decide⟩,_,_,rfl,rfl,(by show(0:Int)<10^(6:Int).toNat;decide),g,_,_,rfl,rfl,hg2,smallLt (by rw[List.length_map];omega),?_⟩;refine⟨_,rfl,_,_,rfl,rfl,⟨by decide,by decide,by decide⟩,_,_,rfl,rfl,⟨by decide,by decide⟩,?_⟩;refine⟨ns++[_],_,_,rfl,same_upd s2 hg _,by rw[upd_same,List.map_append];rfl,by rw[List.length_append,hl];rfl,fun x hx=>?_⟩;rcases List.mem_append.mp hx with hx|hx
   ·exact hb x hx
   ·rw[List.mem_singleton.mp hx];exact⟨Int.emod_nonneg _ (by decide),Int.emod_lt_of_pos _ (by decide)⟩
 ·rintro σ H2 ⟨ns,z,v,rfl,s2,hg2,hl,hb⟩
  exact⟨_,rfl,q g _ ns s2 hg hg2 hl hb⟩
def sp__law_cell_at (K:W.Frag):Sp:=fun vs H Q _=>∃(a:Addr) (ns:List Int) (k:Int),vs=[.ref a,.int k]/\0<=k/\SqL K H a (ns.map V.int)/\∀z:Int,Q (.int z) H
theorem ok__law_cell_at (T:Txt K mg C_WordReader C_Boards XC)(F:Fun K "_law_cell_at" "_law_cell_at" s__law_cell_at f fd):FnOk P w K mg base CX0 1 f fd ["_law_script","_law_k"] (sp__law_cell_at K):=by
 exists sc__law_cell_at
 ·obtain⟨a,ns,k,rfl,_⟩:=h;rfl
 obtain⟨a,ns,k,rfl,hk,hS,q⟩:=h;refine⟨_,(!pss_cons (!ps_if (!pt_cmpR op_lt (pv 1) (!pe_callB call_len_seq (by rfl) T.b_len bt_len (!pa_cons (pv 0) (!pa_nil))) (nomark _)) (!pss_one (!ps_ret (!pe_ix ix_list (pv 0) (pv 1) (fun _ _=>rfl)))) (!pss_nil)) (!pss_one (!ps_ret (!pe_int)))),?_⟩;refine⟨_,rfl,_,rfl,a,_,rfl,.inl hS,_,_,rfl,rfl,_,rfl,ite2 (fun c=>?_) (fun c=>q 0)⟩;have c':=dec_true c;rw[List.length_map] at c';exact⟨_,rfl,_,rfl,a,_,_,_,rfl,rfl,hS,at_int hk c',q _⟩
def sp_number_of (K:W.Frag):Sp:=fun vs H Q _=>∃u:Str,vs=[.str u]/\0<=PySem.Txt.find SG u/\Q (.int (PySem.Txt.find SG u)) H
theorem ok_number_of (T:Txt K mg C_WordReader C_Boards XC)(F:Fun K "number_of" "number_of" s_number_of f fd):FnOk P w K mg base CX0 1 f fd ["sign"] (sp_number_of K):=by
 exists sc_number_of
 ·obtain⟨u,rfl,_⟩:=h;rfl
 obtain⟨u,rfl,h0,q⟩:=h;refine⟨_,(!pss_one (!ps_ret (!pe_bm PySem.F.plainAttrs_str PySem.F.slot_str_index PySem.F.type_str_index (mt_index rfl) (!pe_globS rfl T.c_SIGNS) (!pa_cons (pv 0) (!pa_nil))))),?_⟩;exact⟨rfl,_,rfl,_,_,rfl,rfl,h0,q⟩
def sp_sign_of (K:W.Frag):Sp:=fun vs H Q _=>∃i:Int,vs=[.int i]/\0<=i/\i<94/\Q (.str ⟨#[SG.cps.toList.getD i.toNat 0]⟩) H
theorem ok_sign_of (T:Txt K mg C_WordReader C_Boards XC)(F:Fun K "sign_of" "sign_of" s_sign_of f fd):FnOk P w K mg base CX0 1 f fd ["number"] (sp_sign_of K):=by
 exists sc_sign_of
 ·obtain⟨u,rfl,_⟩:=h;rfl
 obtain⟨i,rfl,h0,h1,q⟩:=h;refine⟨_,(!pss_one (!ps_ret (!pe_ix ix_str (!pe_globS rfl T.c_SIGNS) (pv 0) (fun _ _=>rfl)))),?_⟩;exact⟨_,rfl,_,_,_,rfl,rfl,sg_len2,sg_at h0 h1,q⟩
def isT:Nat->Tr->Bool
 |0,_=>false
 |_+1,.int i=>decide (0<=i)&&decide (i<=999999999)
 |_+1,.str z=>decide ((z.length:Int)<=400)&&allIn SG z
 |n+1,.tup ts=>decide (ts.length<=100)&&ts.all (isT n)
 |_+1,_=>false
def All:Addr->Prop:=fun _=>True
def NL:Addr->Prop:=fun _=>False
mutual
theorem rep_tup {H H':Hp}(k:∀c xs,H c=some (.tup xs)->H' c=some (.tup xs)):∀(t:Tr) (v:V),Rep NL H t v->Rep NL H' t v
 | .non,_,h=>h
 | .bl _,_,h=>h
 | .int _,_,h=>h
 | .str _,_,h=>h
 | .tup ts,_,⟨a,vs,e,ha,hr⟩=>⟨a,vs,e,k a _ ha,reps_tup k ts vs hr⟩
 | .lst _,_,⟨_,_,_,fa,_⟩=>fa.elim
theorem reps_tup {H H':Hp}(k:∀c xs,H c=some (.tup xs)->H' c=some (.tup xs)):∀(ts:List Tr) (vs:List V),Reps NL H ts vs->Reps NL H' ts vs
 |[],_,h=>h
 |t::ts,_,⟨v,us,e,h1,h2⟩=>⟨v,us,e,rep_tup k t v h1,reps_tup k ts us h2⟩
end
theorem rep_all {H:Hp}{t:Tr}{v:V}(h:Rep NL H t v):Rep All H t v:=Rep.mono (fun _ z=>z.elim) t v h
mutual
theorem isT_ok:∀(n:Nat) (t:Tr),isT n t=true->t.ok
 |0,_,h=>nomatch h
 |n+1,.non,h=>nomatch h
 |n+1,.bl _,h=>nomatch h
 |n+1,.int _,_=>trivial
 |n+1,.str z,h=>by
  have h':(decide ((z.length:Int)<=400)&&allIn SG z)=true:=h;rw[Bool.and_eq_true,decide_eq_true_eq] at h';show z.length<=1000;omega
 |n+1,.tup ts,h=>by
  have h':(decide (ts.length<=100)&&ts.all (isT n))=true:=h;rw[Bool.and_eq_true,decide_eq_true_eq] at h';exact⟨by omega,isTs_ok n ts h'.2⟩
 |n+1,.lst _,h=>nomatch h
theorem isTs_ok:∀(n:Nat) (ts:List Tr),ts.all (isT n)=true->Tr.oks ts
 |_,[],_=>trivial
 |n,t::ts,h=>by
  rw[List.all_cons,Bool.and_eq_true] at h;exact⟨isT_ok n t h.1,isTs_ok n ts h.2⟩
end
def idx (c:Nat):Int:=PySem.Txt.find SG ⟨#[c]⟩
theorem idx_sg {c:Nat}(h:c∈cod SG):0<=idx c/\idx c<94/\SG.cps.toList.getD (idx c).toNat 0=c:=by
 obtain⟨k,hk,e⟩:=List.getElem_of_mem (show c∈SG.cps.toList from h);have hk':k<94:=by rw[sg_len] at hk;exact hk
 have eg:SG.cps.toList.getD k 0=c:=by simp only[List.getD,List.getElem?_eq_getElem hk,Option.getD_some];exact e
 have:=sg_find k hk';rw[eg] at this;have ei:idx c=(k:Int):=this;rw[ei];exact⟨by omega,by omega,eg⟩
mutual
def wT:Tr->List Int
 | .int i=>[0,i]
 | .str z=>1::(z.length:Int)::(cod z).map idx
 | .tup ts=>2::(ts.length:Int)::wTs ts
 |_=>[]
def wTs:List Tr->List Int
 |[]=>[]
 |t::ts=>wT t++wTs ts
end
theorem wTs_app:∀(a b:List Tr),wTs (a++b)=wTs a++wTs b
 |[],_=>rfl
 |t::a,b=>by
  show wT t++wTs (a++b)=(wT t++wTs a)++wTs b;rw[wTs_app a b,List.append_assoc]
theorem wTs_take {ts:List Tr}{i:Nat}{t:Tr}(h:ts[i]?=some t):wTs (ts.take (i+1))=wTs (ts.take i)++wT t:=by
 rw[List.take_add_one,h,wTs_app];show wTs (ts.take i)++(wT t++[])=_;rw[List.append_nil]
theorem wTs_le {ts:List Tr}(i:Nat):(wTs (ts.take i)).length<=(wTs ts).length:=by
 have:=congrArg List.length (wTs_app (ts.take i) (ts.drop i));rw[List.take_append_drop,List.length_append] at this;omega
theorem wTs_one {ts:List Tr}{i:Nat}{t:Tr}(h:ts[i]?=some t):(wTs (ts.take i)).length+(wT t).length<=(wTs ts).length:=by
 have:=wTs_le (ts:=ts) (i+1);rw[wTs_take h,List.length_append] at this;exact this
theorem isT_str {n:Nat}{z:Str}(h:isT n (.str z)=true):z.length<=400/\∀c∈cod z,c∈cod SG:=by
 cases n with
 |zero=>cases h
 |succ n=>
  have h':(decide ((z.length:Int)<=400)&&allIn SG z)=true:=h;rw[Bool.and_eq_true,decide_eq_true_eq] at h';refine⟨by omega,fun c hc=>?_⟩;have:=List.all_eq_true.mp h'.2 c hc;simpa using this
theorem isT_tup {n:Nat}{ts:List Tr}(h:isT (n+1) (.tup ts)=true):ts.length<=100/\∀(i:Nat) t,ts[i]?=some t->isT n t=true:=by
 have h':(decide (ts.length<=100)&&ts.all (isT n))=true:=h;rw[Bool.and_eq_true,decide_eq_true_eq] at h';exact⟨h'.1,fun i t ht=>List.all_eq_true.mp h'.2 t (List.mem_of_getElem? ht)⟩
theorem wT_tup (ts:List Tr):wT (.tup ts)=2::(ts.length:Int)::wTs ts:=rfl
theorem wT_str (z:Str):wT (.str z)=1::(z.length:Int)::(cod z).map idx:=rfl
def sp_wo (n:Nat)(K:W.Frag):Sp:=fun vs H Q _=>∃(v:V) (t:Tr),vs=[v]/\Rep NL H t v/\isT n t=true/\(wT t).length<=900000/\∀l H',Same H H'->H l=none->H' l=some (.lst ((wT t).map V.int))->Q (.ref l) H'
def sp_words_of (K:W.Frag):Sp:=sp_wo 8 K
theorem wo_step (T:Txt K mg C_WordReader C_Boards XC)(F:Fun K "words_of" "words_of" s_words_of f fd)(D_is_whole:Def P w K mg base 1 "is_whole" ["thing"] (sp_is_whole K))(D_number_of:Def P w K mg base 1 "number_of" ["sign"] (sp_number_of K))(n:Nat)(D_words_of:Def P w K mg base (1+n) "words_of" ["thing"] (sp_wo n K)):FnOk P w K mg base CX0 (1+n+1) f fd ["thing"] (sp_wo (n+1) K):=by
 exists sc_words_of
 ·obtain⟨v,t,rfl,_⟩:=h;rfl
 obtain⟨v,t,rfl,hv,ht,hw,q⟩:=h;have ok:=isT_ok _ _ ht;have okv:=(rep_all hv).ok ok;have ety:=(rep_all hv).tyN;refine⟨_,(!pss_cons (!ps_if (!pt_val (!pe_fn D_is_whole (hr.mono (by omega)) rfl (!pa_cons (pv 0) (!pa_nil))) (by intro _;rfl)) (!pss_one (!ps_ret (!pe_lst (!pa_cons (!pe_globI rfl T.c_NUMBER_WORD) (!pa_cons (pv 0) (!pa_nil)))))) (!pss_nil)) (!pss_cons (!ps_if (!pt_val (!pe_callB call_isinst (by rfl) T.b_isinstance bt_isinstance (!pa_cons (pv 0) (!pa_cons (!pe_ty rfl T.b_str bt_str) (!pa_nil)))) (by intro _;rfl)) (!pss_one (!ps_ret (!pe_op op_catS (!pe_lst (!pa_cons (!pe_globI rfl T.c_TEXT_WORD) (!pa_cons (!pe_callB call_len_str (by rfl) T.b_len bt_len (!pa_cons (pv 0) (!pa_nil))) (!pa_nil)))) (@pe_comp0 _ ["sign"] _ _ _ _ _ _ _ _ _ _ rfl (!pi_str (pv 0)) (by decide +kernel) (fun C s H fp=>⟨(@pg_name _ _ (0) _ (show(["sign"]:List Str).Nodup by decide +kernel) rfl (by trivial) (by trivial)),(!pifs_nil),(!pe_fn D_number_of (hr.mono (by omega)) rfl (!pa_cons (pv 0) (!pa_nil)))⟩) (by intro _;rfl))))) (!pss_nil)) (!pss_cons (@ps_set _ _ (1) _ _ _ _ sc_words_of.nd rfl (by trivial) (!pe_lst (!pa_cons (!pe_globI rfl T.c_TUPLE_WORD) (!pa_cons (!pe_callB call_len_seq (by rfl) T.b_len bt_len (!pa_cons (pv 0) (!pa_nil))) (!pa_nil)))) (by rfl) (by trivial)) (!pss_cons (!ps_for PassesOwn.never rfl (!pi_tup (pv 0)) (@pg_name _ _ (2) _ sc_words_of.nd rfl (by trivial) (by trivial)) (!pss_one (!ps_expr (!pe_bm PySem.F.plainAttrs_list PySem.F.slot_list_extend PySem.F.type_list_extend mt_extend (pv 1) (!pa_cons (!pe_fn D_words_of (hr.mono (by omega)) rfl (!pa_cons (pv 2) (!pa_nil))) (!pa_nil))))) (by intro _;rfl)) (!pss_one (!ps_ret (pv 1))))))),?_⟩;refine⟨_,rfl,v,rfl,okv,_,rfl,?_⟩;cases t with
 |int i=>
  cases(show v=V.int i from hv);refine iteTc rfl ?_;exact⟨_,rfl,sm_2,fun l hl=>q l _ (same_new hl _) hl upd_same⟩
 |str z=>
  cases(show v=V.str z from hv);obtain⟨zl,zs⟩:=isT_str ht;have zc:=cod_len z;refine iteFc rfl ?_;refine⟨_,rfl,_,_,_,_,rfl,okv.ty K,okv.kit K,_,rfl,iteTc (by rw[ety];show isA "str" "str"=true;decide) ?_⟩;refine⟨_,rfl,_,rfl,small (by omega),sm_2,fun p1 hp1=>?_⟩;refine⟨_,rfl,z,rfl,?_⟩;refine comp_map (fun v=>match v with | .str y=>.int (PySem.Txt.find SG y)|_=>.non) itIs_str (by rw[List.length_map];exact Nat.le_trans (Nat.le_of_eq zc) (by omega)) (fun x H' R hx s' hR=>?_) fun l H7 n7 s7 h7=>?_
  ·obtain⟨u,hu,rfl⟩:=List.mem_map.mp hx;exact⟨_,rfl,_,rfl,(idx_sg (zs u hu)).1,hR H' (Same.refl _)⟩
  have e7:((z.cps.toList.map fun c=>V.str ⟨#[c]⟩).map fun v=>match v with|V.str y=>V.int (PySem.Txt.find SG y)|_=>V.non)=((cod z).map idx).map V.int:=by
   rw[List.map_map,List.map_map];rfl
  rw[e7] at h7;have s1:=same_new hp1 (.lst [V.int 1,V.int (z.length:Int)]);refine⟨p1,l,_,_,rfl,rfl,SqL.of (s7.get upd_same),SqL.of h7,small (by rw[List.length_map,List.length_map];show 2+_<=_;omega),fun p hp=>?_⟩;exact q p _ ((s1.trans s7).trans (same_new hp _)) ((s1.trans s7).free hp) upd_same
 |tup ts=>
  obtain⟨a,vs,rfl,ha,hr'⟩:=hv;have lv:=Reps.len ts vs hr';obtain⟨tl,tt⟩:=isT_tup ht;rw[wT_tup] at hw q;have hw2:(wTs ts).length<=899998:=by simp only[List.length_cons] at hw;omega
  refine iteFc (by unfold wholeB;rw[ety];rfl) ?_;refine⟨_,rfl,_,_,_,_,rfl,okv.ty K,okv.kit K,_,rfl,iteFc (by rw[ety];show isA "tuple" "str"=false;decide) ?_⟩;refine⟨_,rfl,a,_,rfl,.inr (SqT.of ha),sm_2,fun g hg=>?_⟩;rw[lv];refine⟨_,rfl,a,rfl,⟨_,SqT.of ((same_new hg _).get ha)⟩,for_tup (K:=K) (a:=a) (xs:=vs) (fun i σ H2=>∃(v2:Option V),σ=[some (.ref a),some (.ref g),v2]/\Same H H2/\H2 g=some (.lst ((2::(ts.length:Int)::wTs (ts.take i)).map V.int)))
   ⟨none,rfl,same_new hg _,upd_same⟩ (fun i σ H2 _ ⟨_,_,s2,_⟩=>SqT.of (s2.get ha)) ?_ ?_⟩
  ·rintro i y σ H2 hi ⟨v2,rfl,s2,hg2⟩
   obtain⟨ty,et,ry⟩:=Reps.get hr' hi;have b1:=wTs_one et;refine⟨_,rfl,.inl ⟨rfl,_,SqL.of hg2⟩,_,rfl,y,ty,rfl,Rep.same s2 _ _ ry,tt i ty et,by omega,fun l3 H3 s3 n3 h3=>?_⟩;refine⟨g,l3,_,_,rfl,rfl,s3.get hg2,h3,small (by simp only[List.length_map,List.length_cons];omega),?_⟩;refine⟨_,rfl,same_upd (s2.trans s3) hg _,?_⟩;rw[upd_same,<-List.map_append,wTs_take et];rfl
  ·rintro σ H2 ⟨v2,rfl,s2,hg2⟩
   rw[lv,List.take_of_length_le (Nat.le_refl _)] at hg2;exact⟨_,rfl,q g H2 s2 hg hg2⟩
 |non=>cases n<;>cases ht
 |bl b=>cases n<;>cases ht
 |lst ts=>cases n<;>cases ht
theorem wo_all (T:Txt K mg C_WordReader C_Boards XC)(F:Fun K "words_of" "words_of" s_words_of f fd)(D_is_whole:Def P w K mg base 1 "is_whole" ["thing"] (sp_is_whole K))(D_number_of:Def P w K mg base 1 "number_of" ["sign"] (sp_number_of K))(hm:mg "words_of"=some (.ref f))(hk:W.keepIn K (.ref f)=true)(hb:Binds K fd ["thing"] []):∀n,FnOk P w K mg base CX0 (1+n) f fd ["thing"] (sp_wo n K)
 |0=>by
  exists sc_words_of
  ·obtain⟨v,t,rfl,_,ht,_⟩:=h;cases ht
  ·obtain⟨v,t,rfl,_,ht,_⟩:=h;cases ht
 |n+1=>wo_step T F D_is_whole D_number_of n ⟨f,fd,wo_all T F D_is_whole D_number_of hm hk hb n,hm,hk,hb⟩
theorem ok_words_of (T:Txt K mg C_WordReader C_Boards XC)(F:Fun K "words_of" "words_of" s_words_of f fd)(D_is_whole:Def P w K mg base 1 "is_whole" ["thing"] (sp_is_whole K))(D_number_of:Def P w K mg base 1 "number_of" ["sign"] (sp_number_of K))(hm:mg "words_of"=some (.ref f))(hk:W.keepIn K (.ref f)=true)(hb:Binds K fd ["thing"] []):FnOk P w K mg base CX0 9 f fd ["thing"] (sp_words_of K):=
 wo_all T F D_is_whole D_number_of hm hk hb 8
def sp_mark_of (K:W.Frag):Sp:=fun vs H Q _=>∃(a:Addr) (ns:List Int),vs=[.ref a]/\H a=some (.lst (ns.map V.int))/\ns.length<=1000/\∀H',Same H H'->Q (.int (mk ns)) H'
def fI (i:Nat):V->V
 | .int x=>.int (x*((i:Int)+1))
 |v=>v
theorem fI_map (ns:List Int):(List.range (ns.map V.int).length).map (fun i=>fI i ((ns.map V.int).getD i .non))=((List.range ns.length).map fun i=>ns.getD i 0*((i:Int)+1)).map V.int:=by
 rw[List.length_map,List.map_map];refine List.map_congr_left fun i hi=>?_
 have hl:i<ns.length:=List.mem_range.mp hi;simp[List.getD,List.getElem?_eq_getElem hl,fI]
theorem ok_mark_of (T:Txt K mg C_WordReader C_Boards XC)(F:Fun K "mark_of" "mark_of" s_mark_of f fd):FnOk P w K mg base CX0 1 f fd ["words"] (sp_mark_of K):=by
 exists sc_mark_of
 ·obtain⟨a,ns,rfl,_⟩:=h;rfl
 obtain⟨a,ns,rfl,hS,hlen,q⟩:=h;refine⟨_,(!pss_one (!ps_ret (!pe_op op_mod (!pe_callB (call_sum rfl) (by rfl) T.b_sum bt_sum (!pa_cons (@pe_comp0 _ ["place","word"] _ _ _ _ _ _ _ _ _ _ rfl (!pi_enum rfl T.b_enumerate (!pa_cons (pv 0) (!pa_nil))) (by decide +kernel) (fun C s H fp=>⟨(@pg_tupK _ (K) _ _ _ _ (2) (by rfl) rfl (!pgs_cons (@pg_name _ _ (0) _ (show(["place","word"]:List Str).Nodup by decide +kernel) rfl (by trivial) (by trivial)) (!pgs_cons (@pg_name _ _ (1) _ (show(["place","word"]:List Str).Nodup by decide +kernel) rfl (by trivial) (by trivial)) (!pgs_nil))) (by rfl) (by rfl)),(!pifs_nil),(!pe_op op_mul (pv 1) (pv 0))⟩) (by intro _;rfl)) (!pa_nil))) (!pe_globI rfl T.c_MARK_RESTS)))),?_⟩;refine⟨_,rfl,a,_,rfl,SqL.of hS,?_⟩;refine comp_enum fI hS (by rw[List.length_map];omega) rfl (fun i x H' R hx s' hR=>?_) (by decide) fun l H' nl s' hl=>?_
 ·obtain⟨z,rfl,hz⟩:=map_get hx;have hil:i<ns.length:=(List.getElem?_eq_some_iff.mp hz).1;exact⟨_,rfl,_,rfl,_,_,rfl,rfl,.inr ⟨by omega,by omega⟩,hR H' (Same.refl _)⟩
 ·rw[fI_map] at hl;refine⟨l,_,rfl,SqL.of hl,?_⟩;refine⟨_,_,rfl,rfl,(by show(0:Int)<2147483647;decide),?_⟩;rw[range_sum];exact q _ s'
def sp_sealed (K:W.Frag):Sp:=fun vs H Q _=>∃(a:Addr) (ns:List Int),vs=[.ref a]/\H a=some (.lst (ns.map V.int))/\ns.length<=1000/\
 ∀(r:Addr) (H':Hp),Same H H'->H r=none->H' r=some (.lst ((ns++[mk ns]).map V.int))->Q (.ref r) H'
theorem ok_sealed (T:Txt K mg C_WordReader C_Boards XC)(F:Fun K "sealed" "sealed" s_sealed f fd)(D_mark_of:Def P w K mg base 1 "mark_of" ["words"] (sp_mark_of K)):FnOk P w K mg base CX0 2 f fd ["words"] (sp_sealed K):=by
 exists sc_sealed
 ·obtain⟨a,ns,rfl,_⟩:=h;rfl
 obtain⟨a,ns,rfl,hS,hlen,q⟩:=h;refine⟨_,(!pss_one (!ps_ret (!pe_op op_catS (pv 0) (!pe_lst (!pa_cons (!pe_fn D_mark_of (by trivial) rfl (!pa_cons (pv 0) (!pa_nil))) (!pa_nil)))))),?_⟩;refine⟨_,rfl,_,rfl,a,ns,rfl,hS,hlen,fun H1 s1=>?_⟩;refine⟨sm_1,fun g hg=>?_⟩;refine⟨a,g,_,_,rfl,rfl,SqL.of ((same_new hg _).get (s1.get hS)),SqL.of upd_same,small (by rw[List.length_map];show ns.length+1<=1000000;omega),fun p hp=>?_⟩;refine q p _ ((s1.trans (same_new hg _)).trans (same_new hp _)) (s1.free ((same_new hg _).free hp)) ?_;rw[upd_same,List.map_append];rfl
def sp_unsealed (K:W.Frag):Sp:=fun vs H Q _=>∃(a:Addr) (ns:List Int),vs=[.ref a]/\H a=some (.lst (ns.map V.int))/\ns.length<=1000/\
 (sound ns=false->∀H',Same H H'->Q .non H')/\(sound ns=true->∀(r:Addr) (H':Hp),Same H H'->H r=none->H' r=some (.lst (ns.dropLast.map V.int))->Q (.ref r) H')
def fB:V->V
 | .int x=>.bl (inB x)
 |v=>v
theorem ok_unsealed (T:Txt K mg C_WordReader C_Boards XC)(F:Fun K "unsealed" "unsealed" s_unsealed f fd)(D_mark_of:Def P w K mg base 1 "mark_of" ["words"] (sp_mark_of K))(D_is_between:Def P w K mg base 2 "is_between" ["thing","least","most"] (sp_is_between K)):FnOk P w K mg base CX0 3 f fd ["row"] (sp_unsealed K):=by
 exists sc_unsealed
 ·obtain⟨a,ns,rfl,_⟩:=h;rfl
 obtain⟨a,ns,rfl,hS,hlen,q0,q1⟩:=h;refine⟨_,(!pss_cons (!ps_if (@PW.pt _ _ _ (!pw_or (!pt_cmpR op_eq (!pe_callB call_len_seq (by rfl) T.b_len bt_len (!pa_cons (pv 0) (!pa_nil))) (!pe_int) (nomark _)) (!pw_or1 (!pt_not (!pt_val (!pe_callB (call_all rfl) (by rfl) T.b_all bt_all (!pa_cons (@pe_comp0 _ ["word"] _ _ _ _ _ _ _ _ _ _ rfl (!pi_list (pv 0)) (by decide +kernel) (fun C s H fp=>⟨(@pg_name _ _ (0) _ (show(["word"]:List Str).Nodup by decide +kernel) rfl (by trivial) (by trivial)),(!pifs_nil),(!pe_fn D_is_between (by trivial) rfl (!pa_cons (pv 0) (!pa_cons (!pe_int) (!pa_cons (!pe_op op_sub (!pe_globI rfl T.c_MARK_RESTS) (!pe_int)) (!pa_nil)))))⟩) (by intro _;rfl)) (!pa_nil))) (by intro _;rfl)))))) (!pss_one (!ps_ret (!pe_non))) (!pss_nil)) (!pss_cons (@ps_set _ _ (1) _ _ _ _ sc_unsealed.nd rfl (by trivial) (!pe_slice sl_list (pv 0) (!po_none) (!po_some (!pe_un un_neg (!pe_int)))) (by rfl) (by trivial)) (!pss_cons (!ps_if (!pt_cmpR op_ne (!pe_ix ix_list (pv 0) (!pe_un un_neg (!pe_int)) (fun _ _=>rfl)) (!pe_fn D_mark_of (by trivial) rfl (!pa_cons (pv 1) (!pa_nil))) (nomark _)) (!pss_one (!ps_ret (!pe_non))) (!pss_nil)) (!pss_one (!ps_ret (pv 1)))))),?_⟩;dsimp only[cxOf,Cx.nox,Cx.wish];refine⟨_,rfl,a,_,rfl,.inl (SqL.of hS),rfl,_,rfl,?_⟩;refine ite2 (fun c=>?_) (fun c=>?_)
 ·have hn:ns=[]:=by simpa using c
  subst hn;exact iteT (q0 (by decide) _ (Same.refl _))
 have hne:ns≠[]:=by simpa using c
 refine⟨_,rfl,a,rfl,⟨_,SqL.of hS⟩,?_⟩;refine comp_map fB (itIs_list (SqL.of hS)) (by rw[List.length_map];omega) (fun x H' R hx s' hR=>?_) fun l H1 nl s1 hl=>?_
 ·obtain⟨u,_,rfl⟩:=List.mem_map.mp hx;exact⟨_,rfl,_,_,rfl,rfl,.int u,0,_,rfl,trivial,hR H' (Same.refl _)⟩
 have el:(ns.map V.int).map fB=(ns.map inB).map V.bl:=by rw[List.map_map,List.map_map];rfl
 rw[el] at hl;refine⟨l,ns.map inB,rfl,SqL.of hl,_,rfl,?_⟩;have ea:(ns.map inB).all id=ns.all inB:=by rw[List.all_map];rfl
 rw[ea];refine ite2 (fun c2=>?_) (fun c2=>?_)
 ·have hf:sound ns=false:=by
   unfold sound;have:ns.all inB=false:=by simpa using c2
   rw[this];simp
  exact q0 hf _ s1
 have hal:ns.all inB=true:=by
  cases e:ns.all inB with
  |true=>rfl
  |false=>rw[e] at c2;exact absurd rfl c2
 refine⟨_,rfl,_,rfl,_,rfl,a,_,rfl,SqL.of (s1.get hS),fun p hp=>?_⟩;have ec:cutV (ns.map V.int) none (some (-1))=ns.dropLast.map V.int:=by rw[cut_last,List.map_dropLast]
 have s2:=s1.trans (same_new hp (.lst (ns.dropLast.map V.int)));have eH:upd H1 p (.lst (cutV (ns.map V.int) none (some (-1))))=upd H1 p (.lst (ns.dropLast.map V.int)):=by rw[ec]
 rw[show(-(1:Int)) = -1 from rfl,eH];have at1:atI (ns.map V.int) (-1)=some (.int (ns.getLastD 0)):=by
  have e1:ns=ns.dropLast++[ns.getLast hne]:=(List.dropLast_concat_getLast hne).symm;have e2:ns.getLastD 0=ns.getLast hne:=by rw[List.getLastD_eq_getLast?,List.getLast?_eq_some_getLast hne];rfl
  rw[e2]
  conv=>lhs;rw[e1]
  rw[List.map_append];exact atI_last _ _
 refine⟨_,rfl,_,rfl,a,_,_,_,rfl,rfl,SqL.of (s2.get hS),at1,_,rfl,p,_,rfl,upd_same,by rw[List.length_dropLast];omega,fun H3 s3=>?_⟩;refine⟨rfl,_,rfl,?_⟩;refine ite2 (fun c3=>?_) (fun c3=>?_)
 ·have hf:sound ns=false:=by
   unfold sound;have:¬ns.getLastD 0=mk ns.dropLast:=by simpa using c3
   rw[decide_eq_false this];simp
  exact q0 hf _ (s2.trans s3)
 ·have he:ns.getLastD 0=mk ns.dropLast:=by simpa using c3
  have ht:sound ns=true:=by
   unfold sound;rw[hal,decide_eq_true he,decide_eq_false hne];rfl
  exact⟨_,rfl,q1 ht p _ (s2.trans s3) (s1.free hp) (s3.get upd_same)⟩
theorem foldl_glue {g:Array Nat}(hg:g.toList=[]):∀(xs:List Str) (acc:Array Nat),(xs.foldl (fun acc p=>acc++g++p.cps) acc).toList=acc.toList++(xs.map cod).flatten
 |[],acc=>by simp
 |x::xs,acc=>by
  rw[List.foldl_cons,foldl_glue hg xs,Array.toList_append,Array.toList_append,hg,List.append_nil,List.map_cons,List.flatten_cons,List.append_assoc]
theorem join_cod {g:Str}(hg:cod g=[])(ys:List Str):cod (PySem.Txt.join g ys)=(ys.map cod).flatten:=by
 unfold PySem.Txt.join PySem.Builtin.Str.glued
 change Array.toList (List.foldl _ _ _)=_
 rw[foldl_glue (g:=g.cps) hg];cases ys with
 |nil=>rfl
 |cons y ys=>simp
abbrev nilS:Str:=PySem.Str.ofString ""
def rdK (g:List Int->Option (Tr×List Int)):Nat->List Int->Option (List Tr×List Int)
 |0,ws=>some ([],ws)
 |i+1,ws=>match rdK g i ws with
  |none=>none
  |some (ts,r)=>match g r with
   |none=>none
   |some (t,r')=>some (ts++[t],r')
def letter (x:Int):Nat:=SG.cps.toList.getD x.toNat 0
def rdS:Nat->List Int->Option (List Nat×List Int)
 |0,ws=>some ([],ws)
 |i+1,ws=>match rdS i ws with
  |some (cs,x::r)=>if 0<=x/\x<=93 then some (cs++[letter x],r) else none
  |_=>none
def rd:Nat->List Int->Option (Tr×List Int)
 |0,_=>none
 |n+1,ws=>match ws with
  |[]=>none
  |x::ws1=>if 0<=x/\x<=2 then match ws1 with
    |[]=>none
    |m::r=>if x=0 then(if 0<=m/\m<=999999999 then some (.int m,r) else none)
     else if x=1 then(if 0<=m/\m<=400 then(match rdS m.toNat r with|some (cs,r')=>some (.str ⟨cs.toArray⟩,r')|none=>none) else none)
     else(if 0<=m/\m<=100 then(match rdK (rd n) m.toNat r with|some (ts,r')=>some (.tup ts,r')|none=>none) else none)
   else none
theorem letter_idx {c:Nat}(h:c∈cod SG):letter (idx c)=c:=(idx_sg h).2.2
theorem idx_letter {x:Int}(h0:0<=x)(h1:x<=93):idx (letter x)=x/\letter x∈cod SG:=by
 have hk:x.toNat<SG.cps.toList.length:=by rw[sg_len];omega
 have:=sg_find x.toNat (by omega);have e:(x.toNat:Int)=x:=by omega
 constructor
 ·rw[e] at this;exact this
 ·unfold letter;simp only[List.getD,List.getElem?_eq_getElem hk,Option.getD_some];exact List.getElem_mem hk
theorem rdS_sound:∀(i:Nat) (ws:List Int) {cs:List Nat} {r:List Int},rdS i ws=some (cs,r)->cs.length=i/\(∀c∈cs,c∈cod SG)/\cs.map idx++r=ws
 |0,ws,cs,r,h=>by
  cases(Option.some.inj h);exact⟨rfl,(fun _ z=>nomatch z),rfl⟩
 |i+1,ws,cs,r,h=>by
  unfold rdS at h
  split at h
  ·rename_i cs1 x r1 e1
   split at h
   ·rename_i hx
    cases(Option.some.inj h);obtain⟨a1,a2,a3⟩:=rdS_sound i ws e1;obtain⟨b1,b2⟩:=idx_letter hx.1 hx.2;refine⟨by rw[List.length_append,a1];rfl,fun c hc=>?_,?_⟩
    ·rcases List.mem_append.mp hc with hc|hc
     ·exact a2 c hc
     ·rw[List.mem_singleton.mp hc];exact b2
    ·rw[List.map_append,List.append_assoc];show cs1.map idx++(idx (letter x)::r)=ws;rw[b1];exact a3
   ·cases h
  ·cases h
theorem rdS_full:∀(cs:List Nat) (r:List Int),(∀c∈cs,c∈cod SG)->∀i,i<=cs.length->rdS i (cs.map idx++r)=some (cs.take i,(cs.drop i).map idx++r)
 |cs,r,h,0,_=>rfl
 |cs,r,h,i+1,hi=>by
  have ih:=rdS_full cs r h i (by omega);obtain⟨c,hc⟩:∃c,cs[i]?=some c:=⟨cs[i],List.getElem?_eq_getElem _⟩
  have hd:cs.drop i=c::cs.drop (i+1):=by rw[List.drop_eq_getElem_cons (by omega)];congr 1;rw[List.getElem?_eq_getElem (by omega)] at hc;exact Option.some.inj hc
  obtain⟨b1,b2,b3⟩:=idx_sg (h c (List.mem_of_getElem? hc));unfold rdS;rw[ih,hd];show(if 0<=idx c/\idx c<=93 then _ else _)=_;rw[if_pos ⟨b1,by omega⟩,List.take_add_one,hc,letter_idx (h c (List.mem_of_getElem? hc))];rfl
theorem rdK_sound {n:Nat}{g:List Int->Option (Tr×List Int)}(hg:∀ws t r,g ws=some (t,r)->isT n t=true/\wT t++r=ws):∀(i:Nat) (ws:List Int) {ts:List Tr} {r:List Int},rdK g i ws=some (ts,r)->ts.length=i/\(∀t∈ts,isT n t=true)/\wTs ts++r=ws
 |0,ws,ts,r,h=>by
  cases(Option.some.inj h);exact⟨rfl,(fun _ z=>nomatch z),rfl⟩
 |i+1,ws,ts,r,h=>by
  unfold rdK at h
  split at h
  ·cases h
  ·rename_i ts1 r1 e1
   split at h
   ·cases h
   ·rename_i t r' e2
    cases(Option.some.inj h);obtain⟨a1,a2,a3⟩:=rdK_sound hg i ws e1;obtain⟨b1,b2⟩:=hg _ _ _ e2;refine⟨by rw[List.length_append,a1];rfl,fun t' ht'=>?_,?_⟩
    ·rcases List.mem_append.mp ht' with ht'|ht'
     ·exact a2 t' ht'
     ·rw[List.mem_singleton.mp ht'];exact b1
    ·rw[wTs_app,List.append_assoc];show wTs ts1++((wT t++[])++r)=ws;rw[List.append_nil,b2];exact a3
theorem rd_sound:∀(n:Nat) (ws:List Int) (t:Tr) (r:List Int),rd n ws=some (t,r)->isT n t=true/\wT t++r=ws
 |0,_,_,_,h=>nomatch h
 |n+1,ws,t,r,h=>by
  unfold rd at h
  split at h
  ·cases h
  ·rename_i x ws1
   split at h
   ·rename_i hx
    split at h
    ·cases h
    ·rename_i m r1
     split at h
     ·rename_i x0
      split at h
      ·rename_i hm
       cases(Option.some.inj h);subst x0;exact⟨by show(decide (0<=m)&&decide (m<=999999999))=true;rw[decide_eq_true hm.1,decide_eq_true hm.2];rfl,rfl⟩
      ·cases h
     ·split at h
      ·rename_i x1
       split at h
       ·rename_i hm
        split at h
        ·rename_i cs r' e
         cases(Option.some.inj h);obtain⟨a1,a2,a3⟩:=rdS_sound _ _ e;subst x1;have lz:(⟨cs.toArray⟩:Str).length=m.toNat:=by rw[<-a1];rfl
         refine⟨?_,?_⟩
         ·show(decide (((⟨cs.toArray⟩:Str).length:Int)<=400)&&allIn SG ⟨cs.toArray⟩)=true;rw[decide_eq_true (by rw[lz];omega),Bool.true_and];unfold allIn;rw[List.all_eq_true];intro c hc;exact decide_eq_true (a2 c hc)
         ·show 1::((⟨cs.toArray⟩:Str).length:Int)::(cs.map idx++r)=_;rw[lz,a3]
          congr 2
          omega
        ·cases h
       ·cases h
      ·rename_i x0 x1
       split at h
       ·rename_i hm
        split at h
        ·rename_i ts r' e
         cases(Option.some.inj h);obtain⟨a1,a2,a3⟩:=rdK_sound (rd_sound n) _ _ e;have x2:x=2:=by omega
         subst x2;refine⟨?_,?_⟩
         ·show(decide (ts.length<=100)&&ts.all (isT n))=true;rw[decide_eq_true (by omega),Bool.true_and,List.all_eq_true];exact a2
         ·show 2::(ts.length:Int)::(wTs ts++r)=_;rw[a3,a1]
          congr 2
          omega
        ·cases h
       ·cases h
   ·cases h
theorem rdK_full {g:List Int->Option (Tr×List Int)}(ts:List Tr)(r:List Int)(hg:∀t∈ts,∀r,g (wT t++r)=some (t,r)):∀i,i<=ts.length->rdK g i (wTs ts++r)=some (ts.take i,wTs (ts.drop i)++r)
 |0,_=>rfl
 |i+1,hi=>by
  have ih:=rdK_full ts r hg i (by omega);obtain⟨t,ht⟩:∃t,ts[i]?=some t:=⟨ts[i],List.getElem?_eq_getElem _⟩
  have hd:ts.drop i=t::ts.drop (i+1):=by rw[List.drop_eq_getElem_cons (by omega)];congr 1;rw[List.getElem?_eq_getElem (by omega)] at ht;exact Option.some.inj ht
  unfold rdK;rw[ih,hd];show(match g ((wT t++wTs (ts.drop (i+1)))++r) with|none=>none|some (t,r')=>some (ts.take i++[t],r'))=_;rw[List.append_assoc,hg t (List.mem_of_getElem? ht),List.take_add_one,ht];rfl
theorem rd_full:∀(n:Nat) (t:Tr) (r:List Int),isT n t=true->rd n (wT t++r)=some (t,r)
 |0,_,_,h=>nomatch h
 |n+1,.non,_,h=>nomatch h
 |n+1,.bl _,_,h=>nomatch h
 |n+1,.lst _,_,h=>nomatch h
 |n+1,.int i,r,h=>by
  have h':(decide (0<=i)&&decide (i<=999999999))=true:=h;rw[Bool.and_eq_true,decide_eq_true_eq,decide_eq_true_eq] at h';show rd (n+1) (0::i::r)=_;unfold rd;dsimp only;rw[if_pos ⟨by decide,by decide⟩,if_pos rfl,if_pos h']
 |n+1,.str z,r,h=>by
  obtain⟨zl,zs⟩:=isT_str h;have zc:=cod_len z;show rd (n+1) (1::(z.length:Int)::((cod z).map idx++r))=_;unfold rd;dsimp only;rw[if_pos ⟨by decide,by decide⟩];rw[if_neg (by decide),if_pos rfl,if_pos ⟨by omega,by omega⟩,rdS_full (cod z) r zs _ (by omega),List.take_of_length_le (by omega),List.drop_eq_nil_of_le (by omega)];have:(⟨(cod z).toArray⟩:Str)=z:=str_ext rfl;show some (Tr.str ⟨(cod z).toArray⟩,r)=_;rw[this]
 |n+1,.tup ts,r,h=>by
  obtain⟨tl,tt⟩:=isT_tup h;have hg:∀t∈ts,∀r,rd n (wT t++r)=some (t,r):=fun t ht r=>by
   obtain⟨i,hi⟩:=List.getElem?_of_mem ht;exact rd_full n t r (tt i t hi)
  show rd (n+1) (2::(ts.length:Int)::(wTs ts++r))=_;unfold rd;dsimp only;rw[if_pos ⟨by decide,by decide⟩];rw[if_neg (by decide),if_neg (by decide),if_pos ⟨by omega,by omega⟩,rdK_full ts r hg _ (by omega),List.take_of_length_le (by omega),List.drop_eq_nil_of_le (by omega)];rfl
def rdT (ws:List Int):Option (List Nat×List Int):=match ws with
 |[]=>none
 |m::r=>if 0<=m/\m<=400 then rdS m.toNat r else none
theorem rdS_none {i:Nat}{ws:List Int}(h:rdS i ws=none):∀j,i<=j->rdS j ws=none
 |0,hj=>by
  have:i=0:=by omega
  rw[<-this];exact h
 |j+1,hj=>by
  by_cases e:i=j+1
  ·rw[<-e];exact h
  ·have:=rdS_none h j (by omega);unfold rdS;rw[this]
theorem rdK_none {g:List Int->Option (Tr×List Int)}{i:Nat}{ws:List Int}(h:rdK g i ws=none):∀j,i<=j->rdK g j ws=none
 |0,hj=>by
  have:i=0:=by omega
  rw[<-this];exact h
 |j+1,hj=>by
  by_cases e:i=j+1
  ·rw[<-e];exact h
  ·have:=rdK_none h j (by omega);unfold rdK;rw[this]
theorem rdS_more {i:Nat}{ws:List Int}{cs:List Nat}{x:Int}{r:List Int}(h:rdS i ws=some (cs,x::r))(hx:0<=x/\x<=93):rdS (i+1) ws=some (cs++[letter x],r):=by
 unfold rdS;rw[h];exact if_pos hx
theorem rdS_end {i:Nat}{ws:List Int}{cs:List Nat}{r:List Int}(h:rdS i ws=some (cs,r))(hn:∀x r',r=x::r'->¬(0<=x/\x<=93)):rdS (i+1) ws=none:=by
 unfold rdS;rw[h];cases r with
 |nil=>rfl
 |cons x r'=>exact if_neg (hn x r' rfl)
theorem rdK_more {g:List Int->Option (Tr×List Int)}{i:Nat}{ws:List Int}{ts:List Tr}{r r':List Int}{t:Tr}(h:rdK g i ws=some (ts,r))(hg:g r=some (t,r')):rdK g (i+1) ws=some (ts++[t],r'):=by
 unfold rdK;rw[h];show(match g r with|none=>_|some (t,r')=>_)=_;rw[hg]
theorem rdK_end {g:List Int->Option (Tr×List Int)}{i:Nat}{ws:List Int}{ts:List Tr}{r:List Int}(h:rdK g i ws=some (ts,r))(hg:g r=none):rdK g (i+1) ws=none:=by
 unfold rdK;rw[h];show(match g r with|none=>_|some (t,r')=>_)=_;rw[hg]
def Kp (H H':Hp)(p:Addr):Prop:=∀b o,H b=some o->b≠p->H' b=some o
theorem Kp.refl (H:Hp)(p:Addr):Kp H H p:=fun _ _ e _=>e
theorem Kp.trans {H H1 H2:Hp}{p:Addr}(a:Kp H H1 p)(b:Kp H1 H2 p):Kp H H2 p:=fun c o e n=>b c o (a c o e n) n
theorem Kp.put {H:Hp}{p:Addr}(o:HO):Kp H (upd H p o) p:=fun c u e n=>by rw[upd_ne n];exact e
theorem Same.kp {H H':Hp}(s:Same H H')(p:Addr):Kp H H' p:=fun c o e _=>s c o e
theorem Kp.new {H H':Hp}{p l:Addr}(a:Kp H H' p)(h:H l=none)(o:HO):Kp H (upd H' l o) p:=fun c u e n=>by rw[upd_ne (ne_of_none e h)];exact a c u e n
def flR (wl:Addr)(k:Int):List (Str×V):=[("words",.ref wl),("place",.int k)]
def sp_WordReader_init (K:W.Frag)(C_WordReader:Addr):Sp:=fun vs H Q _=>∃(p dx wl:Addr),vs=[.ref p,.ref wl]/\H p=some (.ins C_WordReader dx [])/\Q .non (upd H p (.ins C_WordReader dx (flR wl 0)))
def sp_WordReader_is_through (K:W.Frag)(C_WordReader:Addr):Sp:=fun vs H Q _=>∃(p dx wl:Addr) (ws:List Int) (k:Nat),vs=[.ref p]/\H p=some (.ins C_WordReader dx (flR wl k))/\H wl=some (.lst (ws.map V.int))/\Q (.bl (decide (k=ws.length))) H
theorem ok_WordReader_init (T:Txt K mg C_WordReader C_Boards XC)(F:Fun K "__init__" "WordReader.__init__" s_WordReader_init f fd):FnOk P w K mg base CX0 1 f fd ["self","words"] (sp_WordReader_init K C_WordReader):=by
 exists sc_WordReader_init
 ·obtain⟨p,dx,wl,rfl,_⟩:=h;rfl
 obtain⟨p,dx,wl,rfl,h1,q⟩:=h;refine⟨_,(!pss_cons (!ps_fld (pv 0) (pv 1)) (!pss_one (!ps_fld (pv 0) (!pe_int)))),?_⟩;refine⟨_,rfl,_,rfl,p,C_WordReader,dx,[],rfl,h1,T.cl_WordReader,T.n_WordReader_words,(by show 0<1000;decide),?_⟩;refine⟨_,rfl,p,C_WordReader,dx,_,rfl,upd_same,T.cl_WordReader,T.n_WordReader_place,(by show 1<1000;decide),?_⟩;rw[upd_upd];exact q
theorem ok_WordReader_is_through (T:Txt K mg C_WordReader C_Boards XC)(F:Fun K "is_through" "WordReader.is_through" s_WordReader_is_through f fd):FnOk P w K mg base CX0 1 f fd ["self"] (sp_WordReader_is_through K C_WordReader):=by
 exists sc_WordReader_is_through
 ·obtain⟨p,dx,wl,ws,k,rfl,_⟩:=h;rfl
 obtain⟨p,dx,wl,ws,k,rfl,h1,h2,q⟩:=h;refine⟨_,(!pss_one (!ps_ret (!pe_cmpR op_eq (!pe_fld (pv 0)) (!pe_callB call_len_seq (by rfl) T.b_len bt_len (!pa_cons (!pe_fld (pv 0)) (!pa_nil))) (nomark _)))),?_⟩;refine⟨_,rfl,p,C_WordReader,dx,_,_,rfl,h1,T.cl_WordReader,T.n_WordReader_place,rfl,_,rfl,p,C_WordReader,dx,_,_,rfl,h1,T.cl_WordReader,T.n_WordReader_words,rfl,wl,_,rfl,.inl (SqL.of h2),rfl,?_⟩;have e:decide (V.int (k:Int)=V.int ((ws.map V.int).length:Int))=decide (k=ws.length):=by
  rw[dec_int,List.length_map];rw[Bool.eq_iff_iff];simp;omega
 rw[e];exact q
theorem drop_get {ws:List Int}{k:Nat}{x:Int}{r:List Int}(h:ws.drop k=x::r):ws[k]?=some x/\ws.drop (k+1)=r:=by
 constructor
 ·have:(ws.drop k)[0]?=some x:=by rw[h];rfl
  rw[List.getElem?_drop] at this;simpa using this
 ·have:(ws.drop k).drop 1=r:=by rw[h];rfl
  rw[List.drop_drop] at this;exact this
theorem flat1:∀cs:List Nat,(cs.map fun c=>[c]).flatten=cs
 |[]=>rfl
 |c::cs=>by rw[List.map_cons,List.flatten_cons,flat1 cs];rfl
def sp_WordReader_word_to (K:W.Frag)(C_WordReader:Addr)(XC:Nat->Addr):Sp:=fun vs H Q E=>∃(p dx wl:Addr) (ws:List Int) (k:Nat) (m:Int),vs=[.ref p,.int m]/\H p=some (.ins C_WordReader dx (flR wl k))/\H wl=some (.lst (ws.map V.int))/\k<=ws.length/\
 (∀x r,ws.drop k=x::r->0<=x->x<=m->Q (.int x) (upd H p (.ins C_WordReader dx (flR wl ((k+1:Nat):Int)))))/\((∀x r,ws.drop k=x::r->¬(0<=x/\x<=m))->E (.ref (XC 0)) none H)
theorem ok_WordReader_word_to (T:Txt K mg C_WordReader C_Boards XC)(F:Fun K "word_to" "WordReader.word_to" s_WordReader_word_to f fd)(D_WordReader_is_through:MDef P w K mg base 1 C_WordReader "is_through" ["self"] (sp_WordReader_is_through K C_WordReader))(D_is_between:Def P w K mg base 2 "is_between" ["thing","least","most"] (sp_is_between K)):FnOk P w K mg base (CXd P w) 3 f fd ["self","most"] (sp_WordReader_word_to K C_WordReader XC):=by
 refine F.okX sc_WordReader_word_to (fun vs H Q E h=>?_) (fun cdv A outer s H vs Q E hr h=>?_)
 ·obtain⟨p,dx,wl,ws,k,m,rfl,_⟩:=h;rfl
 obtain⟨p,dx,wl,ws,k,m,rfl,h1,h2,hk,q,qE⟩:=h;have nwp:wl≠p:=ne_of h2 h1 (by intro z;cases z);refine⟨_,(!pss_cons (!ps_if (@PW.pt _ _ _ (!pw_or (!pt_val (!pe_mth0 (pv 0) T.cl_WordReader D_WordReader_is_through) (by intro _;rfl)) (!pw_or1 (!pt_not (!pt_val (!pe_fn D_is_between (by trivial) rfl (!pa_cons (!pe_ix ix_list (!pe_fld (pv 0)) (!pe_fld (pv 0)) (fun _ _=>rfl)) (!pa_cons (!pe_int) (!pa_cons (pv 1) (!pa_nil))))) (by intro _;rfl)))))) (!pss_one (!ps_raise0 raise_up rfl T.x_NoThing T.q_NoThing)) (!pss_nil)) (!pss_cons (!ps_fldaug (pv 0) (!pe_int) iop_add) (!pss_one (!ps_ret (!pe_ix ix_list (!pe_fld (pv 0)) (!pe_op op_sub (!pe_fld (pv 0)) (!pe_int)) (fun _ _=>rfl)))))),?_⟩
 try dsimp only[cxOf]
 cases hd:ws.drop k with
 |nil=>
  have ek:k=ws.length:=by
   have:=congrArg List.length hd;rw[List.length_drop] at this;simp at this;omega
  refine tOr_p true true (fun R q=>⟨_,rfl,p,dx,_,rfl,h1,rfl,p,dx,wl,ws,k,rfl,h1,h2,_,rfl,?_⟩) (fun z=>nomatch z) ?_
  ·rw[decide_eq_true ek];exact q
  refine iteTc rfl ?_;exact qE fun x r z=>by rw[hd] at z;cases z
 |cons x r=>
  obtain⟨hx,_⟩:=drop_get hd;have hkl:k<ws.length:=(List.getElem?_eq_some_iff.mp hx).1;have ax:atI (ws.map V.int) (k:Int)=some (V.int x):=atI_nat (by rw[List.getElem?_map,hx];rfl);have eb:betw 0 m (V.int x)=(decide (0<=x)&&decide (x<=m)):=rfl;refine tOr_p false (!(decide (0<=x)&&decide (x<=m))) (fun R q=>⟨_,rfl,p,dx,_,rfl,h1,rfl,p,dx,wl,ws,k,rfl,h1,h2,_,rfl,?_⟩) (fun _ R q=>?_) ?_
  ·rw[decide_eq_false (by omega)];exact q
  ·exact⟨_,rfl,p,C_WordReader,dx,_,_,rfl,h1,T.cl_WordReader,T.n_WordReader_words,rfl,_,rfl,p,C_WordReader,dx,_,_,rfl,h1,T.cl_WordReader,T.n_WordReader_place,rfl,wl,_,_,_,rfl,rfl,SqL.of h2,ax,_,rfl,V.int x,0,m,rfl,trivial,_,rfl,q⟩
  by_cases hb:0<=x/\x<=m
  ·refine iteFc (by rw[decide_eq_true hb.1,decide_eq_true hb.2];rfl) ?_;refine⟨_,rfl,p,C_WordReader,dx,_,_,rfl,h1,T.cl_WordReader,T.n_WordReader_place,rfl,_,_,rfl,rfl,dx,_,h1,(by show 2<1000;decide),?_⟩;have q':Q (.int x) (upd H p (.ins C_WordReader dx (putF "place" (V.int ((k:Int)+1)) (flR wl k)))):=q x r hd hb.1 hb.2;refine⟨_,rfl,p,C_WordReader,dx,_,_,rfl,upd_same,T.cl_WordReader,T.n_WordReader_words,rfl,_,rfl,p,C_WordReader,dx,_,_,rfl,upd_same,T.cl_WordReader,T.n_WordReader_place,rfl,_,_,rfl,rfl,wl,_,_,_,rfl,rfl,SqL.of (by rw[upd_ne nwp];exact h2),?_,q'⟩;have:(k:Int)+1-1=(k:Int):=by omega
   show atI (ws.map V.int) ((k:Int)+1-1)=_;rw[this];exact ax
  ·refine iteTc ?_ ?_
   ·rw[Bool.false_or,Bool.not_eq_true',Bool.and_eq_false_iff]
    by_cases h0:0<=x
    ·exact .inr (decide_eq_false fun z=>hb ⟨h0,z⟩)
    ·exact .inl (decide_eq_false h0)
   ·exact qE fun x' r' z=>by
     rw[hd] at z;cases z;exact hb
def sp_read_text (K:W.Frag)(C_WordReader:Addr)(XC:Nat->Addr):Sp:=fun vs H Q E=>∃(p dx wl:Addr) (ws:List Int) (k:Nat),vs=[.ref p]/\H p=some (.ins C_WordReader dx (flR wl k))/\H wl=some (.lst (ws.map V.int))/\k<=ws.length/\
 (∀cs r' (k':Nat) H',rdT (ws.drop k)=some (cs,r')->ws.drop k'=r'->k'<=ws.length->Kp H H' p->H' p=some (.ins C_WordReader dx (flR wl (k':Int)))->Q (.str ⟨cs.toArray⟩) H')/\(rdT (ws.drop k)=none->∀H',Kp H H' p->E (.ref (XC 0)) none H')
theorem sg_most:(SG.length:Int)-1=93:=by decide +kernel
theorem ok_read_text (T:Txt K mg C_WordReader C_Boards XC)(F:Fun K "read_text" "read_text" s_read_text f fd)(D_WordReader_word_to:MDefX P w K mg base 3 C_WordReader "word_to" ["self","most"] (sp_WordReader_word_to K C_WordReader XC))(D_sign_of:Def P w K mg base 1 "sign_of" ["number"] (sp_sign_of K)):FnOk P w K mg base (CXd P w) 4 f fd ["reader"] (sp_read_text K C_WordReader XC):=by
 refine F.okX sc_read_text (fun vs H Q E h=>?_) (fun cdv A outer s H vs Q E hr h=>?_)
 ·obtain⟨p,dx,wl,ws,k,rfl,_⟩:=h;rfl
 obtain⟨p,dx,wl,ws,k,rfl,h1,h2,hk,q,qE⟩:=h;have nwp:wl≠p:=ne_of h2 h1 (by intro z;cases z);refine⟨_,(!pss_cons (@ps_set _ _ (1) _ _ _ _ sc_read_text.nd rfl (by trivial) (!pe_mthX (pv 0) T.cl_WordReader D_WordReader_word_to (by trivial) pass_up (!pa_cons (!pe_globI rfl T.c_MOST_SIGNS) (!pa_nil))) (by rfl) (by trivial)) (!pss_one (!ps_ret (!pe_bm PySem.F.plainAttrs_str PySem.F.slot_str_join PySem.F.type_str_join (mt_join rfl) (!pe_str) (!pa_cons (@pe_compX _ _ _ _ _ _ _ _ _ _ _ _ _ _ _ _ rfl ["sign","reader"] [none,some 0] _ _ _ _ _ _ _ _ _ _ _ rfl (!pi_range1 rfl T.b_range (!pa_cons (pv 1) (!pa_nil))) (by rfl) rfl (by repeat (first|exact trivial|refine⟨rfl,?_⟩)) (by repeat (first|exact trivial|refine⟨fun h=>(by first|exact⟨_,rfl⟩|cases h),?_⟩)) (fun C s H fp=>⟨(@pg_name _ _ (0) _ (show(["sign","reader"]:List Str).Nodup by decide +kernel) rfl (by trivial) (by trivial)),(!pifs_nil),(!pe_fn D_sign_of (by trivial) rfl (!pa_cons (!pe_mthX (pv 1) T.cl_WordReader D_WordReader_word_to (by trivial) pass_blk (!pa_cons (!pe_op op_sub (!pe_callB call_len_str (by rfl) T.b_len bt_len (!pa_cons (!pe_globS rfl T.c_SIGNS) (!pa_nil))) (!pe_int)) (!pa_nil))) (!pa_nil)))⟩) (by intro _;rfl)) (!pa_nil)))))),?_⟩
 try dsimp only[cxOf]
 refine⟨_,rfl,p,dx,_,rfl,h1,rfl,p,dx,wl,ws,k,400,rfl,h1,h2,hk,fun m r hd m0 m1=>?_,fun no=>?_⟩
 ·obtain⟨g1,g2⟩:=drop_get hd;have hkl:k<ws.length:=(List.getElem?_eq_some_iff.mp g1).1;have eT:rdT (ws.drop k)=rdS m.toNat r:=by rw[hd];show(if 0<=m/\m<=400 then rdS m.toNat r else none)=_;rw[if_pos ⟨m0,m1⟩]
  rw[eT] at q qE;refine⟨rfl,_,rfl,m,rfl,by omega,by omega,?_⟩;refine comp_st (xs:=(List.range m.toNat).map fun(i:Nat)=>V.int (0+(i:Int))) (fun i ys l H'=>Kp (upd H p (.ins C_WordReader dx (flR wl ((k+1:Nat):Int)))) H' p/\∃(cs:List Nat) (r1:List Int) (k1:Nat),rdS i r=some (cs,r1)/\ws.drop k1=r1/\k1<=ws.length/\H' p=some (.ins C_WordReader dx (flR wl (k1:Int)))/\ys=cs.map fun c=>V.str ⟨#[c]⟩) (by rw[List.length_map,List.length_range];omega) (fun i ys l H' _=>itr_go) (fun l hl=>⟨(Kp.refl _ p).new hl _,[],r,k+1,rfl,g2,by omega,by rw[upd_ne (ne_of_none upd_same hl)];exact upd_same,rfl⟩) (fun i x ys l H' R hx hl hl' hlen hI hR=>?_) fun l H1 ys n1 hl1 ly hI=>?_
  ·obtain⟨kp,cs,r1,k1,e1,d1,kl1,hp,hy⟩:=hI;have hi:i<m.toNat:=by
    have:=(List.getElem?_eq_some_iff.mp hx).1;rw[List.length_map,List.length_range] at this;exact this
   have hw':H' wl=some (.lst (ws.map V.int)):=kp wl _ (by rw[upd_ne nwp];exact h2) nwp;have npl:l≠p:=ne_of hl' hp (by intro z;cases z);refine⟨_,rfl,p,dx,_,rfl,hp,rfl,SG,rfl,sg_len2,_,_,rfl,rfl,p,dx,wl,ws,k1,_,rfl,hp,hw',kl1,fun y r2 hd2 y0 y1=>?_,fun no=>?_⟩
   ·have y1':y<=93:=by rw[sg_most] at y1;exact y1
    have er:r1=y::r2:=d1.symm.trans hd2;obtain⟨gy,d2⟩:=drop_get hd2;have kl2:k1<ws.length:=(List.getElem?_eq_some_iff.mp gy).1;have st':rdS (i+1) r=some (cs++[letter y],r2):=rdS_more (er▸e1) ⟨y0,y1'⟩;refine⟨y,rfl,y0,by omega,hR _ _ (by rw[upd_ne npl];exact hl') ⟨(kp.trans (Kp.put _)).new hl _,cs++[letter y],r2,k1+1,st',d2,by omega,by rw[upd_ne npl.symm,upd_same],?_⟩⟩;rw[hy,List.map_append];rfl
   ·have st':rdS (i+1) r=none:=rdS_end e1 fun y r2 er=>by
     have:=no y r2 (d1.trans er);rw[sg_most] at this;exact this
    exact qE (rdS_none st' _ (by omega)) H' ((Kp.put _).trans kp)
  ·obtain⟨kp,cs,r1,k1,e1,d1,kl1,hp,hy⟩:=hI;have ez:m.toNat=((List.range m.toNat).map fun(i:Nat)=>V.int (0+(i:Int))).length:=by rw[List.length_map,List.length_range]
   rw[<-ez] at e1;obtain⟨lc,_,_⟩:=rdS_sound _ _ e1;have hy':ys=(cs.map fun c=>(⟨#[c]⟩:Str)).map V.str:=by rw[hy,List.map_map];rfl
   rw[hy'] at hl1;refine⟨l,nilS,_,rfl,rfl,SqL.of hl1,?_,?_⟩
   ·have es:∀cs:List Nat,((cs.map fun c=>(⟨#[c]⟩:Str)).map (·.length)).sum=cs.length:=by
     intro cs
     induction cs with
     |nil=>rfl
     |cons c cs ih=>rw[List.map_cons,List.map_cons,List.sum_cons,ih];show 1+_=_;rw[List.length_cons];omega
    rw[es];have e0:nilS.length=0:=rfl;rw[e0];omega
   ·have ej:PySem.Txt.join nilS (cs.map fun c=>(⟨#[c]⟩:Str))=⟨cs.toArray⟩:=by
     refine str_ext ?_;rw[join_cod rfl,List.map_map];exact flat1 cs
    rw[ej];exact q cs r1 k1 H1 e1 d1 kl1 ((Kp.put _).trans kp) hp
 ·refine qE ?_ H (Kp.refl _ _);cases hd:ws.drop k with
  |nil=>rfl
  |cons m r=>
   exact if_neg (no m r hd)
theorem rd_no {n:Nat}{ws:List Int}(h:∀x r,ws=x::r->¬(0<=x/\x<=2)):rd (n+1) ws=none:=by
 cases ws with
 |nil=>rfl
 |cons x r=>exact if_neg (h x r rfl)
theorem rd_0 {n:Nat}{m:Int}{r:List Int}:rd (n+1) (0::m::r)=if 0<=m/\m<=999999999 then some (.int m,r) else none:=by
 unfold rd;dsimp only;rw[if_pos ⟨by decide,by decide⟩,if_pos rfl]
theorem rd_1 {n:Nat}{ws:List Int}:rd (n+1) (1::ws)=match rdT ws with|some (cs,r')=>some (.str ⟨cs.toArray⟩,r')|none=>none:=by
 cases ws with
 |nil=>rfl
 |cons m r=>
  unfold rd rdT;dsimp only;rw[if_pos ⟨by decide,by decide⟩,if_neg (by decide),if_pos rfl]
  by_cases h:0<=m/\m<=400
  ·rw[if_pos h,if_pos h]
  ·rw[if_neg h,if_neg h]
theorem rd_2 {n:Nat}{m:Int}{r:List Int}(h:0<=m/\m<=100):rd (n+1) (2::m::r)=match rdK (rd n) m.toNat r with|some (ts,r')=>some (.tup ts,r')|none=>none:=by
 unfold rd;dsimp only;rw[if_pos ⟨by decide,by decide⟩,if_neg (by decide),if_neg (by decide),if_pos h]
theorem rd_2n {n:Nat}{ws:List Int}(h:∀m r,ws=m::r->¬(0<=m/\m<=100)):rd (n+1) (2::ws)=none:=by
 cases ws with
 |nil=>rfl
 |cons m r=>
  unfold rd;dsimp only;rw[if_pos ⟨by decide,by decide⟩,if_neg (by decide),if_neg (by decide),if_neg (h m r rfl)]
theorem rd_0n {n:Nat}{ws:List Int}(h:∀m r,ws=m::r->¬(0<=m/\m<=999999999)):rd (n+1) (0::ws)=none:=by
 cases ws with
 |nil=>rfl
 |cons m r=>rw[rd_0,if_neg (h m r rfl)]
def sp_rt (n:Nat)(K:W.Frag)(C_WordReader:Addr)(XC:Nat->Addr):Sp:=fun vs H Q E=>∃(d:Nat) (p dx wl:Addr) (ws:List Int) (k:Nat),n=d+1/\vs=[.ref p,.int (d:Int)]/\H p=some (.ins C_WordReader dx (flR wl k))/\H wl=some (.lst (ws.map V.int))/\k<=ws.length/\
 (∀t r' (k':Nat) v H',rd d (ws.drop k)=some (t,r')->ws.drop k'=r'->k'<=ws.length->Kp H H' p->H' p=some (.ins C_WordReader dx (flR wl (k':Int)))->Rep NL H' t v->Q v H')/\(rd d (ws.drop k)=none->∀H',Kp H H' p->E (.ref (XC 0)) none H')
def sp_read_thing (K:W.Frag)(C_WordReader:Addr)(XC:Nat->Addr):Sp:=sp_rt 9 K C_WordReader XC
theorem rt_step (T:Txt K mg C_WordReader C_Boards XC)(F:Fun K "read_thing" "read_thing" s_read_thing f fd)(D_WordReader_word_to:MDefX P w K mg base 3 C_WordReader "word_to" ["self","most"] (sp_WordReader_word_to K C_WordReader XC))(D_read_text:DefX P w K mg base 4 "read_text" ["reader"] (sp_read_text K C_WordReader XC))(n:Nat)(D_read_thing:DefX P w K mg base (4+n) "read_thing" ["reader","deep"] (sp_rt n K C_WordReader XC)):FnOk P w K mg base (CXd P w) (4+n+1) f fd ["reader","deep"] (sp_rt (n+1) K C_WordReader XC):=by
 refine F.okX sc_read_thing (fun vs H Q E h=>?_) (fun cdv A outer s H vs Q E hr h=>?_)
 ·obtain⟨d,p,dx,wl,ws,k,_,rfl,_⟩:=h;rfl
 obtain⟨d,p,dx,wl,ws,k,hn,rfl,h1,h2,hk,q,qE⟩:=h;have ed0:n=d:=by omega
 subst ed0;have nwp:wl≠p:=ne_of h2 h1 (by intro z;cases z);have hw1:∀o,upd H p o wl=some (.lst (ws.map V.int)):=fun o=>by rw[upd_ne nwp];exact h2
 refine⟨_,(!pss_cons (!ps_if (!pt_cmpR op_eq (pv 1) (!pe_int) (nomark _)) (!pss_one (!ps_raise0 raise_up rfl T.x_NoThing T.q_NoThing)) (!pss_nil)) (!pss_cons (@ps_set _ _ (2) _ _ _ _ sc_read_thing.nd rfl (by trivial) (!pe_mthX (pv 0) T.cl_WordReader D_WordReader_word_to (hr.mono (by omega)) pass_up (!pa_cons (!pe_globI rfl T.c_TUPLE_WORD) (!pa_nil))) (by rfl) (by trivial)) (!pss_cons (!ps_if (!pt_cmpR op_eq (pv 2) (!pe_globI rfl T.c_NUMBER_WORD) (nomark _)) (!pss_one (!ps_ret (!pe_mthX (pv 0) T.cl_WordReader D_WordReader_word_to (hr.mono (by omega)) pass_up (!pa_cons (!pe_globI rfl T.c_MOST_NUMBER) (!pa_nil))))) (!pss_nil)) (!pss_cons (!ps_if (!pt_cmpR op_eq (pv 2) (!pe_globI rfl T.c_TEXT_WORD) (nomark _)) (!pss_one (!ps_ret (!pe_fnX D_read_text (hr.mono (by omega)) rfl pass_up (!pa_cons (pv 0) (!pa_nil))))) (!pss_nil)) (!pss_cons (@ps_set _ _ (3) _ _ _ _ sc_read_thing.nd rfl (by trivial) (!pe_mthX (pv 0) T.cl_WordReader D_WordReader_word_to (hr.mono (by omega)) pass_up (!pa_cons (!pe_globI rfl T.c_MOST_PARTS) (!pa_nil))) (by rfl) (by trivial)) (!pss_one (!ps_ret (!pe_callTy call_tuple_of (by rfl) T.b_tuple bt_tuple (!pa_cons (@pe_compX _ _ _ _ _ _ _ _ _ _ _ _ _ _ _ _ rfl ["part","reader","deep"] [none,some 0,some 1] _ _ _ _ _ _ _ _ _ _ _ rfl (!pi_range1 rfl T.b_range (!pa_cons (pv 3) (!pa_nil))) (by rfl) rfl (by repeat (first|exact trivial|refine⟨rfl,?_⟩)) (by repeat (first|exact trivial|refine⟨fun h=>(by first|exact⟨_,rfl⟩|cases h),?_⟩)) (fun C s H fp=>⟨(@pg_name _ _ (0) _ (show(["part","reader","deep"]:List Str).Nodup by decide +kernel) rfl (by trivial) (by trivial)),(!pifs_nil),(!pe_fnX D_read_thing (hr.mono (by omega)) rfl pass_blk (!pa_cons (pv 1) (!pa_cons (!pe_op op_sub (pv 2) (!pe_int)) (!pa_nil))))⟩) (by intro _;rfl)) (!pa_nil)))))))))),?_⟩
 try dsimp only[cxOf]
 cases n with
 |zero=>exact⟨_,rfl,rfl,_,rfl,iteTc rfl (qE rfl H (Kp.refl _ _))⟩
 |succ e=>
  refine⟨_,rfl,rfl,_,rfl,iteFc ?_ ?_⟩
  ·rw[dec_int];simp;omega
  refine⟨_,rfl,p,dx,_,rfl,h1,rfl,p,dx,wl,ws,k,2,rfl,h1,h2,hk,fun x r hd x0 x1=>?_,fun no=>qE (rd_no fun x r z=>no x r z) H (Kp.refl _ _)⟩;obtain⟨gx,g2⟩:=drop_get hd;have hkl:k<ws.length:=(List.getElem?_eq_some_iff.mp gx).1;rw[hd] at q qE;refine⟨_,rfl,rfl,_,rfl,ite2 (fun c=>?_) (fun c=>?_)⟩
  ·have c0:x=0:=by simpa using c
   subst c0;refine⟨_,rfl,p,dx,_,rfl,upd_same,rfl,p,dx,wl,ws,k+1,999999999,rfl,upd_same,hw1 _,by omega,fun m r2 hd2 m0 m1=>?_,fun no=>qE (rd_0n fun m r2 z=>no m r2 (g2.trans z)) _ (Kp.put _)⟩;obtain⟨gm,g3⟩:=drop_get hd2;have hkl2:k+1<ws.length:=(List.getElem?_eq_some_iff.mp gm).1;have er:r=m::r2:=g2.symm.trans hd2;exact q (.int m) r2 (k+1+1) _ _ (by rw[er,rd_0,if_pos ⟨m0,m1⟩]) g3 (by omega) ((Kp.put _).trans (Kp.put _)) upd_same rfl
  ·have c0:¬x=0:=by simpa using c
   refine⟨_,rfl,rfl,_,rfl,ite2 (fun c=>?_) (fun c=>?_)⟩
   ·have c1:x=1:=by simpa using c
    subst c1;refine⟨_,rfl,p,dx,wl,ws,k+1,rfl,upd_same,hw1 _,by omega,fun cs r' k' H' e1 d1 l1 kp hp=>?_,fun e1 H' kp=>?_⟩
    ·rw[g2] at e1;exact q (.str ⟨cs.toArray⟩) r' k' _ _ (by rw[rd_1,e1]) d1 l1 ((Kp.put _).trans kp) hp rfl
    ·rw[g2] at e1;exact qE (by rw[rd_1,e1]) H' ((Kp.put _).trans kp)
   ·have c1:¬x=1:=by simpa using c
    have c2:x=2:=by omega
    subst c2;refine⟨_,rfl,p,dx,_,rfl,upd_same,rfl,p,dx,wl,ws,k+1,100,rfl,upd_same,hw1 _,by omega,fun m r2 hd2 m0 m1=>?_,fun no=>qE (rd_2n fun m r2 z=>no m r2 (g2.trans z)) _ (Kp.put _)⟩;obtain⟨gm,g3⟩:=drop_get hd2;have hkl2:k+1<ws.length:=(List.getElem?_eq_some_iff.mp gm).1;have er:r=m::r2:=g2.symm.trans hd2;rw[er,rd_2 ⟨m0,m1⟩] at q qE;rw[upd_upd];refine⟨_,rfl,m,rfl,by omega,by omega,?_⟩;refine comp_st (xs:=(List.range m.toNat).map fun(i:Nat)=>V.int (0+(i:Int))) (fun i ys l H'=>Kp (upd H p (.ins C_WordReader dx (flR wl ((k+1+1:Nat):Int)))) H' p/\∃(ts:List Tr) (r1:List Int) (k1:Nat),rdK (rd e) i r2=some (ts,r1)/\ws.drop k1=r1/\k1<=ws.length/\H' p=some (.ins C_WordReader dx (flR wl (k1:Int)))/\Reps NL H' ts ys) (by rw[List.length_map,List.length_range];omega) (fun i ys l H' _=>itr_go) (fun l hl=>⟨(Kp.refl _ p).new hl _,[],r2,k+1+1,rfl,g3,by omega,by rw[upd_ne (ne_of_none upd_same hl)];exact upd_same,rfl⟩) (fun i x ys l H' R hx hl hl' hlen hI hR=>?_) fun l H1 ys n1 hl1 ly hI=>?_
    ·obtain⟨kp,ts,r1,k1,e1,d1,kl1,hp,hrs⟩:=hI;have hi:i<m.toNat:=by
      have:=(List.getElem?_eq_some_iff.mp hx).1;rw[List.length_map,List.length_range] at this;exact this
     have hw':H' wl=some (.lst (ws.map V.int)):=kp wl _ (hw1 _) nwp;have npl:l≠p:=ne_of hl' hp (by intro z;cases z);have ed:((e+1:Nat):Int)-1=(e:Int):=by omega
     refine⟨_,rfl,_,rfl,_,_,rfl,rfl,e,p,dx,wl,ws,k1,rfl,?_,hp,hw',kl1,fun t r3 k3 v H'' e3 d3 kl3 kp2 hp2 rv=>?_,fun e3 H'' kp2=>?_⟩
     ·show[V.ref p,V.int (((e+1:Nat):Int)-1)]=_;rw[ed]
     ·rw[d1] at e3;have hl2:H'' l=some (.lst ys):=kp2 l _ hl' npl;have keepT:∀c xs,H'' c=some (.tup xs)->upd H'' l (.lst (ys++[v])) c=some (.tup xs):=fun c xs e=>by rw[upd_ne (ne_of e hl2 (by intro z;cases z))];exact e
      refine hR v H'' hl2 ⟨(kp.trans kp2).new hl _,ts++[t],r3,k3,rdK_more e1 e3,d3,kl3,by rw[upd_ne npl.symm];exact hp2,?_⟩;exact Reps.append (reps_tup keepT _ _ (reps_tup (fun c xs e=>kp2 c _ e (ne_of e hp (by intro z;cases z))) _ _ hrs)) (Reps.one (rep_tup keepT _ _ rv))
     ·rw[d1] at e3;refine qE ?_ H'' (((Kp.put _).trans kp).trans kp2);rw[rdK_none (rdK_end e1 e3) _ (by omega)]
    ·obtain⟨kp,ts,r1,k1,e1,d1,kl1,hp,hrs⟩:=hI;have ez:m.toNat=((List.range m.toNat).map fun(i:Nat)=>V.int (0+(i:Int))).length:=by rw[List.length_map,List.length_range]
     rw[<-ez] at e1;refine⟨l,ys,rfl,.inl ⟨SqL.of hl1,fun u hu=>?_⟩⟩;have su:=same_new hu (.tup ys);exact q (.tup ts) r1 k1 _ _ (by rw[e1]) d1 kl1 (((Kp.put _).trans kp).trans (Same.kp su p)) (su _ _ hp) ⟨u,ys,rfl,upd_same,Reps.same su _ _ hrs⟩
theorem rt_all (T:Txt K mg C_WordReader C_Boards XC)(F:Fun K "read_thing" "read_thing" s_read_thing f fd)(D_WordReader_word_to:MDefX P w K mg base 3 C_WordReader "word_to" ["self","most"] (sp_WordReader_word_to K C_WordReader XC))(D_read_text:DefX P w K mg base 4 "read_text" ["reader"] (sp_read_text K C_WordReader XC))(hm:mg "read_thing"=some (.ref f))(hk:W.keepIn K (.ref f)=true)(hb:Binds K fd ["reader","deep"] []):∀n,FnOk P w K mg base (CXd P w) (4+n) f fd ["reader","deep"] (sp_rt n K C_WordReader XC)
 |0=>by
  refine F.okX sc_read_thing (fun vs H Q E h=>?_) (fun cdv A outer s H vs Q E hr h=>?_)
  ·obtain⟨d,p,dx,wl,ws,k,hn,_⟩:=h;cases hn
  ·obtain⟨d,p,dx,wl,ws,k,hn,_⟩:=h;cases hn
 |n+1=>rt_step T F D_WordReader_word_to D_read_text n ⟨f,fd,rt_all T F D_WordReader_word_to D_read_text hm hk hb n,hm,hk,hb⟩
theorem ok_read_thing (T:Txt K mg C_WordReader C_Boards XC)(F:Fun K "read_thing" "read_thing" s_read_thing f fd)(D_WordReader_word_to:MDefX P w K mg base 3 C_WordReader "word_to" ["self","most"] (sp_WordReader_word_to K C_WordReader XC))(D_read_text:DefX P w K mg base 4 "read_text" ["reader"] (sp_read_text K C_WordReader XC))(hm:mg "read_thing"=some (.ref f))(hk:W.keepIn K (.ref f)=true)(hb:Binds K fd ["reader","deep"] []):FnOk P w K mg base (CXd P w) 13 f fd ["reader","deep"] (sp_read_thing K C_WordReader XC):=
 rt_all T F D_WordReader_word_to D_read_text hm hk hb 9
def sp_thing_of (K:W.Frag)(XC:Nat->Addr):Sp:=fun vs H Q E=>∃(wl:Addr) (ws:List Int),vs=[.ref wl]/\H wl=some (.lst (ws.map V.int))/\(∀t v H',rd 8 ws=some (t,[])->Same H H'->Rep NL H' t v->Q v H')/\((∀t,rd 8 ws≠some (t,[]))->∀H',Same H H'->E (.ref (XC 0)) none H')
theorem ok_thing_of (T:Txt K mg C_WordReader C_Boards XC)(F:Fun K "thing_of" "thing_of" s_thing_of f fd)(D_WordReader_init:CDef P w K mg base 1 C_WordReader "WordReader" ["self","words"] (sp_WordReader_init K C_WordReader))(D_read_thing:DefX P w K mg base 13 "read_thing" ["reader","deep"] (sp_read_thing K C_WordReader XC))(D_WordReader_is_through:MDef P w K mg base 1 C_WordReader "is_through" ["self"] (sp_WordReader_is_through K C_WordReader)):FnOk P w K mg base (CXd P w) 14 f fd ["words"] (sp_thing_of K XC):=by
 refine F.okX sc_thing_of (fun vs H Q E h=>?_) (fun cdv A outer s H vs Q E hr h=>?_)
 ·obtain⟨wl,ws,rfl,_⟩:=h;rfl
 obtain⟨wl,ws,rfl,hw,q,qE⟩:=h;refine⟨_,(!pss_cons (@ps_set _ _ (1) _ _ _ _ sc_thing_of.nd rfl (by trivial) (!pe_cls D_WordReader_init (by trivial) rfl (!pa_cons (pv 0) (!pa_nil))) (by rfl) (by trivial)) (!pss_cons (@ps_set _ _ (2) _ _ _ _ sc_thing_of.nd rfl (by trivial) (!pe_fnX D_read_thing (by trivial) rfl pass_up (!pa_cons (pv 1) (!pa_cons (!pe_globI rfl T.c_MOST_DEEP) (!pa_nil)))) (by rfl) (by trivial)) (!pss_cons (!ps_if (!pt_not (!pt_val (!pe_mth0 (pv 1) T.cl_WordReader D_WordReader_is_through) (by intro _;rfl))) (!pss_one (!ps_raise0 raise_up rfl T.x_NoThing T.q_NoThing)) (!pss_nil)) (!pss_one (!ps_ret (pv 2)))))),?_⟩
 try dsimp only[cxOf]
 refine⟨_,rfl,?_⟩;intro x dx nx ndx _;have nwx:wl≠x:=ne_of_none hw nx;have nwd:wl≠dx:=ne_of_none hw ndx;refine⟨x,dx,wl,rfl,upd_same,rfl,?_⟩;rw[upd_upd];have hw1:∀o,upd (upd H dx (.own x)) x o wl=some (.lst (ws.map V.int)):=fun o=>by rw[upd_ne nwx,upd_ne nwd];exact hw
 have sm:∀{o:HO} {H':Hp},Kp (upd (upd H dx (.own x)) x o) H' x->Same H H':=fun{o H'} kp b u e=>by
  have n1:=ne_of_none e nx;exact kp b u (by rw[upd_ne n1,upd_ne (ne_of_none e ndx)];exact e) n1
 refine⟨_,rfl,8,x,dx,wl,ws,0,rfl,rfl,upd_same,hw1 _,Nat.zero_le _,fun t r' k' v H' e1 d1 l1 kp hp rv=>?_,fun e1 H' kp=>?_⟩
 ·have hw':H' wl=some (.lst (ws.map V.int)):=kp wl _ (hw1 _) nwx;rw[List.drop_zero] at e1;refine⟨_,rfl,x,dx,_,rfl,hp,rfl,x,dx,wl,ws,k',rfl,hp,hw',_,rfl,?_⟩
  by_cases hk:k'=ws.length
  ·refine iteFc (by rw[decide_eq_true hk];rfl) ?_;have er:r'=[]:=by rw[<-d1,hk,List.drop_length]
   subst er;exact⟨_,rfl,q t v H' e1 (sm kp) rv⟩
  ·refine iteTc (by rw[decide_eq_false hk];rfl) ?_;refine qE (fun t' z=>?_) H' (sm kp);rw[e1] at z;cases z;have:=congrArg List.length d1;rw[List.length_drop] at this;simp at this;omega
 ·rw[List.drop_zero] at e1;exact qE (fun t z=>by rw[e1] at z;cases z) H' (sm kp)
end
open M38
section
variable {P:Program}{w:World}{K:W.Frag}{mg:Str->Option Value}{base:Heap}{f C_WordReader C_Boards:Addr}{XC:Nat->Addr}{fd:FuncData}
abbrev Cel:=List (Int×List Int)
def putC (b:Cel)(k:Int)(row:List Int):Cel:=if(b.any fun x=>decide (x.1=k))=true then b.map (fun x=>if x.1=k then(x.1,row) else x) else b++[(k,row)]
def getC (b:Cel)(k:Int):Option (List Int):=(b.find? fun x=>decide (x.1=k)).map (·.2)
def CelR (H:Hp):Key×V->Int×List Int->Prop:=fun kv x=>kv.1=Sum.inl x.1/\∃r,kv.2=.ref r/\H r=some (.lst (x.2.map V.int))
def CellsR (H:Hp)(kvs:List (Key×V))(b:Cel):Prop:=Paired (CelR H) kvs b
theorem CellsR.same {H H':Hp}{kvs:List (Key×V)}{b:Cel}(r:CellsR H kvs b)(s:∀a xs,H a=some (.lst xs)->H' a=some (.lst xs)):CellsR H' kvs b:=Paired.mapP r fun _ _ ⟨h1,a,h2,h3⟩=>⟨h1,a,h2,s _ _ h3⟩
theorem inl_dec (a k:Int):decide ((Sum.inl a:Key)=Sum.inl k)=decide (a=k):=by
 by_cases e:a=k
 ·rw[e];simp
 ·rw[decide_eq_false e,decide_eq_false fun z=>e (Sum.inl.inj z)]
theorem CellsR.any {H:Hp}{kvs:List (Key×V)}{b:Cel}(r:CellsR H kvs b)(k:Int):(kvs.any fun kv=>decide (kv.1=Sum.inl k))=(b.any fun x=>decide (x.1=k)):=by
 unfold CellsR at r
 induction r with
 |nil=>rfl
 |cons h t ih=>rw[List.any_cons,List.any_cons,ih,h.1,inl_dec]
theorem CellsR.put {H:Hp}{kvs:List (Key×V)}{b:Cel}(r:CellsR H kvs b)(k:Int){l:Addr}{row:List Int}(hl:H l=some (.lst (row.map V.int))):CellsR H (putK kvs (Sum.inl k) (.ref l)) (putC b k row):=by
 unfold putK putC;rw[r.any k]
 by_cases hc:(b.any fun x=>decide (x.1=k))=true
 ·rw[if_pos hc,if_pos hc]
  clear hc
  unfold CellsR at r ⊢
  induction r with
  |nil=>exact .nil
  |@cons kv x ps qs h t ih=>
   rw[List.map_cons,List.map_cons];refine .cons ?_ ih
   by_cases e:x.1=k
   ·rw[if_pos (by rw[h.1,e]),if_pos e];exact⟨h.1,l,rfl,hl⟩
   ·rw[if_neg (by rw[h.1];exact fun z=>e (Sum.inl.inj z)),if_neg e];exact h
 ·rw[if_neg hc,if_neg hc];exact Paired.snoc r ⟨rfl,l,rfl,hl⟩
theorem CellsR.get {H:Hp}{kvs:List (Key×V)}{b:Cel}(r:CellsR H kvs b)(k:Int):(valV kvs (Sum.inl k)=none/\getC b k=none)\/∃a row,valV kvs (Sum.inl k)=some (.ref a)/\getC b k=some row/\H a=some (.lst (row.map V.int)):=by
 unfold CellsR at r
 induction r with
 |nil=>exact .inl ⟨rfl,rfl⟩
 |@cons kv x ps qs h t ih=>
  obtain⟨h1,a,h2,h3⟩:=h
  by_cases e:x.1=k
  ·refine .inr ⟨a,x.2,?_,?_,h3⟩
   ·rw[valV_pos (by rw[h1,e]),h2]
   ·unfold getC;rw[List.find?_cons,decide_eq_true e];rfl
  ·have g1:getC (x::qs) k=getC qs k:=by unfold getC;rw[List.find?_cons,decide_eq_false e]
   have g2:valV (kv::ps) (Sum.inl k)=valV ps (Sum.inl k):=valV_neg (by rw[h1];exact fun z=>e (Sum.inl.inj z));rw[g1,g2];exact ih
theorem CellsR.len {H:Hp}{kvs:List (Key×V)}{b:Cel}(r:CellsR H kvs b):kvs.length=b.length:=Paired.length r
theorem putC_len (b:Cel)(k:Int)(row:List Int):(putC b k row).length<=b.length+1:=by
 unfold putC
 split
 ·rw[List.length_map];omega
 ·rw[List.length_append];show b.length+1<=_;omega
theorem pair_mem {α β:Type}{F G:α->β->Prop}:∀{l₁:List α} {l₂:List β},Paired F l₁ l₂->(∀a∈l₁,∀b,F a b->G a b)->Paired G l₁ l₂
 |_,_,.nil,_=>.nil
 |_,_,.cons r t,f=>.cons (f _ List.mem_cons_self _ r) (pair_mem t fun a ha=>f a (List.mem_cons_of_mem _ ha))
theorem pair_get1 {α β:Type}{F:α->β->Prop}:∀{l₁:List α} {l₂:List β} {i:Nat} {a:α},Paired F l₁ l₂->l₁[i]?=some a->∃b,l₂[i]?=some b/\F a b
 |_,_,_,_,.nil,e=>by simp at e
 |_,_,0,_,.cons r _,e=>by simp at e;subst e;exact⟨_,rfl,r⟩
 |_,_,i+1,a,.cons _ t,e=>by
  obtain⟨b,h1,h2⟩:=pair_get1 (i:=i) (a:=a) t (by simpa using e);exact⟨b,by simpa using h1,h2⟩
theorem putC_keys {b:Cel}{k:Int}{row:List Int}(h:(b.any fun x=>decide (x.1=k))=true):(putC b k row).map (·.1)=b.map (·.1):=by
 unfold putC;rw[if_pos h,List.map_map];refine List.map_congr_left fun x _=>?_
 show(if x.1=k then(x.1,row) else x).1=x.1
 split<;>rfl
theorem putC_new {b:Cel}{k:Int}{row:List Int}(h:k∉b.map (·.1)):putC b k row=b++[(k,row)]:=by
 unfold putC;rw[if_neg];intro z;obtain⟨x,hx,e⟩:=List.any_eq_true.mp z;exact h (List.mem_map.mpr ⟨x,hx,of_decide_eq_true e⟩)
theorem putC_nodup {b:Cel}{k:Int}{row:List Int}(h:(b.map (·.1)).Nodup):((putC b k row).map (·.1)).Nodup:=by
 by_cases c:k∈b.map (·.1)
 ·rw[putC_keys]
  ·exact h
  ·obtain⟨x,hx,e⟩:=List.mem_map.mp c;exact List.any_eq_true.mpr ⟨x,hx,decide_eq_true e⟩
 ·rw[putC_new c,List.map_append,List.nodup_append];refine⟨h,by simp,fun e he g hg=>?_⟩;rw[show g=k by simpa using hg];intro z;exact c (z▸he)
def BsR (H:Hp)(ds:List Addr)(bs:List Cel):Prop:=Paired (fun d b=>∃kvs,H d=some (.dK kvs)/\CellsR H kvs b/\(b.map (·.1)).Nodup) ds bs
theorem BsR.same {H H':Hp}{ds:List Addr}{bs:List Cel}(r:BsR H ds bs)(s:∀a xs,H a=some (.lst xs)->H' a=some (.lst xs))(k:∀d∈ds,∀kvs,H d=some (.dK kvs)->H' d=some (.dK kvs)):BsR H' ds bs:=
 pair_mem r fun d hd _ ⟨kvs,h1,h2,h3⟩=>⟨kvs,k d hd kvs h1,h2.same s,h3⟩
theorem BsR.set {H H':Hp}{d:Addr}{b':Cel}(s:∀a xs,H a=some (.lst xs)->H' a=some (.lst xs))(hd:∃kvs,H' d=some (.dK kvs)/\CellsR H' kvs b'/\(b'.map (·.1)).Nodup):∀{ds:List Addr} {bs:List Cel},BsR H ds bs->ds.Nodup->(∀e∈ds,e≠d->∀kvs,H e=some (.dK kvs)->H' e=some (.dK kvs))->∀{i:Nat},ds[i]?=some d->BsR H' ds (bs.set i b')
 |_,_,.nil,_,_,i,hi=>by simp at hi
 |_,_,.cons h t,nd,k,0,hi=>by
  simp at hi;subst hi;refine .cons hd (pair_mem t fun e he _ ⟨kvs,h1,h2,h3⟩=>⟨kvs,k e (List.mem_cons_of_mem _ he) (fun z=>(List.nodup_cons.mp nd).1 (z▸he)) kvs h1,h2.same s,h3⟩)
 |e::es,_,.cons h t,nd,k,i+1,hi=>by
  have hi':es[i]?=some d:=by simpa using hi
  obtain⟨kvs,h1,h2,h3⟩:=h;refine .cons ⟨kvs,k e List.mem_cons_self (fun z=>(List.nodup_cons.mp nd).1 (by rw[z];exact List.mem_of_getElem? hi')) kvs h1,h2.same s,h3⟩ ?_;exact BsR.set s hd t (List.nodup_cons.mp nd).2 (fun e' he'=>k e' (List.mem_cons_of_mem _ he')) hi'
def fldsB (s:Addr)(n:Int)(lf:V):List (Str×V):=[("shelves",.ref s),("writes",.int n),("writes_left",lf)]
theorem flds_w (s:Addr)(n y:Int)(lf:V):putF "writes" (.int y) (fldsB s n lf)=fldsB s y lf:=by
 unfold fldsB;simp only[putF];rfl
theorem flds_l (s:Addr)(n:Int)(lf v:V):putF "writes_left" v (fldsB s n lf)=fldsB s n v:=by
 unfold fldsB;simp only[putF];rfl
def BAt (C_Boards:Addr)(H:Hp)(p:Addr)(ds:List Addr)(bs:List Cel)(n:Int)(lf:V):Prop:=∃dx s,H p=some (.ins C_Boards dx (fldsB s n lf))/\H s=some (.lst (ds.map V.ref))/\ds.Nodup/\BsR H ds bs
theorem BAt.len {C_Boards:Addr}{H:Hp}{p:Addr}{ds:List Addr}{bs:List Cel}{n:Int}{lf:V}(h:BAt C_Boards H p ds bs n lf):ds.length=bs.length:=by
 obtain⟨_,_,_,_,_,r⟩:=h;exact Paired.length r
def Kb (H H':Hp)(p:Addr)(ds:List Addr):Prop:=∀b o,H b=some o->b≠p->b∉ds->H' b=some o
theorem BAt.kept {C_Boards:Addr}{H H':Hp}{p q:Addr}{ds es:List Addr}{bs:List Cel}{n:Int}{lf:V}{m:Int}{lf2:V}{cs:List Cel}(h:BAt C_Boards H q es bs n lf)(g:BAt C_Boards H p ds cs m lf2)(k:Kb H H' p ds)(hq:q≠p)(ha:∀e∈es,e∉ds):BAt C_Boards H' q es bs n lf:=by
 obtain⟨dx,s,h1,h2,h3,h4⟩:=h;obtain⟨dx2,s2,g1,g2,g3,g4⟩:=g;have nd:∀{b:Addr} {o:HO},H b=some o->(∀kvs,o≠.dK kvs)->b∉ds:=fun{b o} e z hb=>by
  obtain⟨i,hi,ei⟩:=List.getElem_of_mem hb;obtain⟨c,_,kvs,q1,_⟩:=pair_get1 (i:=i) g4 (by rw[List.getElem?_eq_getElem hi,ei]);rw[e] at q1;exact z kvs (Option.some.inj q1)
 refine⟨dx,s,k q _ h1 hq (nd h1 (by intro kvs z;cases z)),k s _ h2 (ne_of h2 g1 (by intro z;cases z)) (nd h2 (by intro kvs z;cases z)),h3,h4.same (fun a xs e=>k a _ e (ne_of e g1 (by intro z;cases z)) (nd e (by intro kvs z;cases z))) fun d hd kvs e=>k d _ e (ne_of e g1 (by intro z;cases z)) (ha d hd)⟩
theorem BAt.same {C_Boards:Addr}{H H':Hp}{p:Addr}{ds:List Addr}{bs:List Cel}{n:Int}{lf:V}(h:BAt C_Boards H p ds bs n lf)(s:Same H H'):BAt C_Boards H' p ds bs n lf:=by
 obtain⟨dx,s0,h1,h2,h3,h4⟩:=h;exact⟨dx,s0,s.get h1,s.get h2,h3,h4.same (fun a xs e=>s.get e) fun d _ kvs e=>s.get e⟩
theorem Same.kb {H H':Hp}(s:Same H H')(p:Addr)(ds:List Addr):Kb H H' p ds:=fun b o e _ _=>s b o e
theorem Kb.trans {H H1 H2:Hp}{p:Addr}{ds:List Addr}(a:Kb H H1 p ds)(b:Kb H1 H2 p ds):Kb H H2 p ds:=fun c o e h1 h2=>b c o (a c o e h1 h2) h1 h2
theorem BAt.notin {C_Boards:Addr}{H:Hp}{p:Addr}{ds:List Addr}{bs:List Cel}{n:Int}{lf:V}(g:BAt C_Boards H p ds bs n lf){b:Addr}{o:HO}(e:H b=some o)(z:∀kvs,o≠.dK kvs):b∉ds:=fun hb=>by
 obtain⟨_,_,_,_,_,g4⟩:=g;obtain⟨i,hi,ei⟩:=List.getElem_of_mem hb;obtain⟨c,_,kvs,q1,_⟩:=pair_get1 (i:=i) g4 (by rw[List.getElem?_eq_getElem hi,ei]);rw[e] at q1;exact z kvs (Option.some.inj q1)
theorem BAt.there {C_Boards:Addr}{H:Hp}{p:Addr}{ds:List Addr}{bs:List Cel}{n:Int}{lf:V}(g:BAt C_Boards H p ds bs n lf):∀d∈ds,∃kvs,H d=some (.dK kvs):=fun d hb=>by
 obtain⟨_,_,_,_,_,g4⟩:=g;obtain⟨i,hi,ei⟩:=List.getElem_of_mem hb;obtain⟨c,_,kvs,q1,_⟩:=pair_get1 (i:=i) g4 (by rw[List.getElem?_eq_getElem hi,ei]);exact⟨kvs,q1⟩
def sp_Boards_init (K:W.Frag)(C_Boards:Addr):Sp:=fun vs H Q _=>∃(p dx:Addr) (m:Nat),vs=[.ref p,.int m]/\2<=m/\m<=4/\H p=some (.ins C_Boards dx [])/\∀H' ds,BAt C_Boards H' p ds (List.replicate m []) 0 .non->(∀d∈ds,H d=none)->(∀b o,H b=some o->b≠p->H' b=some o)->Q .non H'
def sp_Boards_many (K:W.Frag)(C_Boards:Addr):Sp:=fun vs H Q _=>∃p ds bs n lf,vs=[.ref p]/\BAt C_Boards H p ds bs n lf/\Q (.int (bs.length:Int)) H
def sp_Boards_shelf (K:W.Frag)(C_Boards:Addr):Sp:=fun vs H Q _=>∃p ds bs n lf,∃(b:Nat),vs=[.ref p,.int (b:Int)]/\BAt C_Boards H p ds bs n lf/\b<bs.length/\∀d,ds[b]?=some d->Q (.ref d) H
def lfDec:V->V
 | .int k=>.int (k-1)
 |v=>v
def LfOk (lf:V):Prop:=lf=.non\/∃k:Nat,lf=.int (k:Int)
def sp_Boards_write (K:W.Frag)(C_Boards:Addr)(XC:Nat->Addr):Sp:=fun vs H Q E=>∃p ds bs n lf,∃(b:Nat) (z:Int) (a:Addr) (row:List Int),vs=[.ref p,.int (b:Int),.int z,.ref a]/\BAt C_Boards H p ds bs n lf/\LfOk lf/\b<bs.length/\(∀c∈bs,c.length<1000)/\H a=some (.lst (row.map V.int))/\
 (lf=.int 0->E (.ref (XC 1)) none H)/\(lf≠.int 0->∀H',BAt C_Boards H' p ds (bs.set b (putC (bs.getD b []) z row)) (n+1) (lfDec lf)->Kb H H' p ds->Q .non H')
def sp_Boards_cell (K:W.Frag)(C_Boards:Addr):Sp:=fun vs H Q _=>∃p ds bs n lf,∃(b:Nat) (z:Int),vs=[.ref p,.int (b:Int),.int z]/\BAt C_Boards H p ds bs n lf/\b<bs.length/\(getC (bs.getD b []) z=none->Q .non H)/\
 ∀row,getC (bs.getD b []) z=some row->∀l,H l=none->Q (.ref l) (upd H l (.lst (row.map V.int)))
def sp_Boards_lose (K:W.Frag)(C_Boards:Addr):Sp:=fun vs H Q _=>∃p ds bs n lf,∃(b:Nat),vs=[.ref p,.int (b:Int)]/\BAt C_Boards H p ds bs n lf/\b<bs.length/\∀H',BAt C_Boards H' p ds (bs.set b []) n lf->Kb H H' p ds->Q .non H'
def sp_Boards_stop (K:W.Frag)(C_Boards:Addr):Sp:=fun vs H Q _=>∃p ds bs n lf v,vs=[.ref p,v]/\BAt C_Boards H p ds bs n lf/\∀H',BAt C_Boards H' p ds bs n v->Kb H H' p ds->Q .non H'
theorem ok_Boards_many (T:Txt K mg C_WordReader C_Boards XC)(F:Fun K "many" "Boards.many" s_Boards_many f fd):FnOk P w K mg base CX0 1 f fd ["self"] (sp_Boards_many K C_Boards):=by
 exists sc_Boards_many
 ·obtain⟨p,ds,bs,n,lf,rfl,_⟩:=h;rfl
 obtain⟨p,ds,bs,n,lf,rfl,hB,q⟩:=h;have hl:=hB.len;obtain⟨dx,s0,h1,h2,h3,h4⟩:=hB;refine⟨_,(!pss_one (!ps_ret (!pe_callB call_len_seq (by rfl) T.b_len bt_len (!pa_cons (!pe_fld (pv 0)) (!pa_nil))))),?_⟩;refine⟨_,rfl,p,C_Boards,dx,_,_,rfl,h1,T.cl_Boards,T.n_Boards_shelves,rfl,s0,_,rfl,.inl (SqL.of h2),?_⟩;rw[List.length_map,hl];exact q
theorem ok_Boards_shelf (T:Txt K mg C_WordReader C_Boards XC)(F:Fun K "shelf" "Boards.shelf" s_Boards_shelf f fd)(D_is_between:Def P w K mg base 2 "is_between" ["thing","least","most"] (sp_is_between K))(D_Boards_many:MDef P w K mg base 1 C_Boards "many" ["self"] (sp_Boards_many K C_Boards)):FnOk P w K mg base CX0 3 f fd ["self","board"] (sp_Boards_shelf K C_Boards):=by
 exists sc_Boards_shelf
 ·obtain⟨p,ds,bs,n,lf,b,rfl,_⟩:=h;rfl
 obtain⟨p,ds,bs,n,lf,b,rfl,hB,b1,q⟩:=h;have hl:=hB.len;obtain⟨dx,s0,h1,h2,h3,h4⟩:=id hB;refine⟨_,(!pss_cons (!ps_if (!pt_not (!pt_val (!pe_fn D_is_between (by trivial) rfl (!pa_cons (pv 1) (!pa_cons (!pe_int) (!pa_cons (!pe_op op_sub (!pe_mth0 (pv 0) T.cl_Boards D_Boards_many) (!pe_int)) (!pa_nil))))) (by intro _;rfl))) (!pss_one (!ps_never)) (!pss_nil)) (!pss_one (!ps_ret (!pe_ix ix_list (!pe_fld (pv 0)) (pv 1) (fun _ _=>rfl))))),?_⟩;refine⟨_,rfl,_,rfl,p,dx,_,rfl,h1,rfl,p,ds,bs,n,lf,rfl,hB,_,_,rfl,rfl,.int (b:Int),0,_,rfl,trivial,_,rfl,iteFc ?_ ?_⟩
 ·show(!(decide ((0:Int)<=(b:Int))&&decide ((b:Int)<=(bs.length:Int)-1)))=false;rw[decide_eq_true (show(0:Int)<=(b:Int) by omega),decide_eq_true (show(b:Int)<=(bs.length:Int)-1 by omega)];rfl
 have hk:b<ds.length:=by omega
 exact⟨_,rfl,p,C_Boards,dx,_,_,rfl,h1,T.cl_Boards,T.n_Boards_shelves,rfl,_,rfl,s0,_,_,_,rfl,rfl,SqL.of h2,atI_nat (j:=b) (by rw[List.getElem?_map,List.getElem?_eq_getElem hk];rfl),q _ (List.getElem?_eq_getElem hk)⟩
theorem bat_put {H H':Hp} {p dx s0 l:Addr} {ds:List Addr} {bs:List Cel} {n y:Int} {lf lf2:V} {b:Nat} {d:Addr} {z:Int} {row:List Int} {kvs:List (Key×V)} (h1:H p=some (.ins C_Boards dx (fldsB s0 n lf))) (h2:H s0=some (.lst (ds.map V.ref))) (h3:ds.Nodup) (h4:BsR H ds bs) (hb:ds[b]?=some d) (hd:H d=some (.dK kvs))
  (hl:H l=none) (e:H'=upd (upd (upd H p (.ins C_Boards dx (fldsB s0 y lf2))) l (.lst (row.map V.int))) d (.dK (putK kvs (Sum.inl z) (.ref l)))):BAt C_Boards H' p ds (bs.set b (putC (bs.getD b []) z row)) y lf2/\Kb H H' p ds:=by
 have npd:p≠d:=ne_of h1 hd (by intro z;cases z);have nld:l≠d:=fun z=>by rw[z,hd] at hl;cases hl
 have nlp:l≠p:=fun z=>by rw[z,h1] at hl;cases hl
 have lists:∀a xs,H a=some (.lst xs)->H' a=some (.lst xs):=fun a xs q=>by
  rw[e,upd_ne (ne_of q hd (by intro z;cases z)),upd_ne (ne_of_none q hl),upd_ne (ne_of q h1 (by intro z;cases z))];exact q
 have hl':H' l=some (.lst (row.map V.int)):=by rw[e,upd_ne nld,upd_same]
 obtain⟨b0,g1,kvs0,g2,g3,g5⟩:=pair_get1 h4 hb;rw[hd] at g2;cases g2;have eb:bs.getD b []=b0:=by simp[List.getD,g1]
 refine⟨⟨dx,s0,?_,lists _ _ h2,h3,?_⟩,fun c o q hc hcd=>?_⟩
 ·rw[e,upd_ne npd,upd_ne nlp.symm,upd_same]
 ·rw[eb];refine BsR.set lists ⟨_,by rw[e,upd_same],(g3.same lists).put z hl',putC_nodup g5⟩ h4 h3 (fun e' he' ne' kvs' q=>?_) hb;rw[e,upd_ne ne',upd_ne (ne_of_none q hl),upd_ne (ne_of q h1 (by intro z;cases z))];exact q
 ·rw[e,upd_ne (fun z=>hcd (by rw[z];exact List.mem_of_getElem? hb)),upd_ne (ne_of_none q hl),upd_ne hc];exact q
theorem ok_Boards_write (T:Txt K mg C_WordReader C_Boards XC)(F:Fun K "write" "Boards.write" s_Boards_write f fd)(D_Boards_shelf:MDef P w K mg base 3 C_Boards "shelf" ["self","board"] (sp_Boards_shelf K C_Boards)):FnOk P w K mg base (CXd P w) 4 f fd ["self","board","number","row"] (sp_Boards_write K C_Boards XC):=by
 refine F.okX sc_Boards_write (fun vs H Q E h=>?_) (fun cdv A outer s H vs Q E hr h=>?_)
 ·obtain⟨p,ds,bs,n,lf,b,z,a,row,rfl,_⟩:=h;rfl
 obtain⟨p,ds,bs,n,lf,b,z,a,row,rfl,hB,lok,b1,b2,ha,qE,q⟩:=h;have hl:=hB.len;obtain⟨dx,s0,h1,h2,h3,h4⟩:=id hB;have hu:=hu_of hr;refine⟨_,(!pss_cons (@ps_set _ _ (4) _ _ _ _ sc_Boards_write.nd rfl (by trivial) (!pe_mth (pv 0) T.cl_Boards D_Boards_shelf (by trivial) (!pa_cons (pv 1) (!pa_nil))) (by rfl) (by trivial)) (!pss_cons (!ps_if (!pt_cmpR op_eq (!pe_fld (pv 0)) (!pe_int) (nomark _)) (!pss_one (!ps_raise0 raise_up rfl T.x_Stopped T.q_Stopped)) (!pss_nil)) (!pss_cons (!ps_if (!pt_cmp (!pc_notN (!pe_fld (pv 0))) (by first|exact nobehind _ (by decide) (by decide)|rfl)) (!pss_one (!ps_fldaug (pv 0) (!pe_int) iop_sub)) (!pss_nil)) (!pss_cons (!ps_fldaug (pv 0) (!pe_int) iop_add) (!pss_one (!ps_dput hu (pv 4) (pv 2) (!pe_callTy call_list_of (by rfl) T.b_list bt_list (!pa_cons (pv 3) (!pa_nil))))))))),?_⟩;dsimp only[cxOf];refine⟨_,rfl,p,dx,_,rfl,h1,rfl,_,rfl,p,ds,bs,n,lf,b,rfl,hB,b1,fun d hd=>?_⟩;obtain⟨c0,g1,kvs,e1,g3,g5⟩:=pair_get1 h4 hd;have npd:p≠d:=ne_of h1 e1 (by intro z;cases z);have npa:a≠p:=ne_of ha h1 (by intro z;cases z);have kl:kvs.length<1000:=by rw[g3.len];exact b2 _ (List.mem_of_getElem? g1)
 dsimp only;refine seq_mid (fun σ' H'=>σ'=[some (.ref p),some (.int (b:Int)),some (.int z),some (.ref a),some (.ref d)]/\H'=H/\lf≠.int 0) (fun N hN=>?_) ?_
 ·refine⟨_,rfl,p,C_Boards,dx,_,_,rfl,h1,T.cl_Boards,T.n_Boards_writes_left,rfl,?_⟩;rcases lok with rfl|⟨k,rfl⟩
  ·exact⟨rfl,_,rfl,iteFc rfl (hN _ _ ⟨rfl,rfl,by intro z;cases z⟩)⟩
  ·refine⟨rfl,_,rfl,ite2 (fun c=>?_) (fun c=>?_)⟩
   ·have c':V.int (k:Int)=V.int 0:=dec_true c;exact qE c'
   ·exact hN _ _ ⟨rfl,rfl,dec_false c⟩
 rintro σ' H' ⟨rfl,rfl,lne⟩
 refine seq_mid (fun σ' H2=>σ'=[some (.ref p),some (.int (b:Int)),some (.int z),some (.ref a),some (.ref d)]/\H2=upd H' p (.ins C_Boards dx (fldsB s0 n (lfDec lf)))) (fun N hN=>?_) ?_
 ·refine⟨_,rfl,p,C_Boards,dx,_,_,rfl,h1,T.cl_Boards,T.n_Boards_writes_left,rfl,?_⟩;rcases lok with rfl|⟨k,rfl⟩
  ·refine⟨_,rfl,iteFc rfl (hN _ _ ⟨rfl,?_⟩)⟩
   funext c
   by_cases e:c=p
   ·rw[e,upd_same];exact h1
   ·rw[upd_ne e]
  ·refine⟨_,rfl,iteTc rfl ?_⟩;refine⟨_,rfl,p,C_Boards,dx,_,_,rfl,h1,T.cl_Boards,T.n_Boards_writes_left,rfl,_,_,rfl,rfl,dx,_,h1,(by show 3<1000;decide),hN _ _ ⟨rfl,?_⟩⟩;rw[flds_l];rfl
 rintro σ' H2 ⟨rfl,rfl⟩
 have ap:upd H' p (.ins C_Boards dx (fldsB s0 n (lfDec lf))) p=some (.ins C_Boards dx (fldsB s0 n (lfDec lf))):=upd_same;refine⟨_,rfl,p,C_Boards,dx,_,_,rfl,ap,T.cl_Boards,T.n_Boards_writes,rfl,_,_,rfl,rfl,dx,_,ap,(by show 3<1000;decide),?_⟩;rw[upd_upd,flds_w];refine⟨_,rfl,a,_,rfl,.inl (SqL.of (by rw[upd_ne npa];exact ha)),fun l hl0=>?_⟩;have nlp:l≠p:=fun z=>by rw[z,upd_same] at hl0;cases hl0
 have hlH:H' l=none:=by rw[upd_ne nlp] at hl0;exact hl0
 have ndl:d≠l:=ne_of_none e1 hlH;refine⟨_,rfl,_,rfl,d,_,rfl,DPut.k (k:=Sum.inl z) (by rw[upd_ne ndl,upd_ne npd.symm];exact e1) (small1000 (by omega)),?_⟩;obtain⟨x1,x2⟩:=bat_put (C_Boards:=C_Boards) (y:=n+1) (lf2:=lfDec lf) (row:=row) (z:=z) h1 h2 h3 h4 hd e1 hlH rfl;exact q lne _ x1 x2
theorem ok_Boards_cell (T:Txt K mg C_WordReader C_Boards XC)(F:Fun K "cell" "Boards.cell" s_Boards_cell f fd)(D_Boards_shelf:MDef P w K mg base 3 C_Boards "shelf" ["self","board"] (sp_Boards_shelf K C_Boards)):FnOk P w K mg base CX0 4 f fd ["self","board","number"] (sp_Boards_cell K C_Boards):=by
 exists sc_Boards_cell
 ·obtain⟨p,ds,bs,n,lf,b,z,rfl,_⟩:=h;rfl
 obtain⟨p,ds,bs,n,lf,b,z,rfl,hB,b1,q0,q1⟩:=h;obtain⟨dx,s0,h1,h2,h3,h4⟩:=id hB;have hu:=hu_of hr;refine⟨_,(!pss_cons (@ps_set _ _ (3) _ _ _ _ sc_Boards_cell.nd rfl (by trivial) (!pe_dget1 hu (!pe_mth (pv 0) T.cl_Boards D_Boards_shelf (by trivial) (!pa_cons (pv 1) (!pa_nil))) (pv 2) ⟨rfl,rfl,rfl,rfl⟩) (by rfl) (by trivial)) (!pss_cons (!ps_if (!pt_cmp (!pc_isN (pv 3)) (by first|exact nobehind _ (by decide) (by decide)|rfl)) (!pss_one (!ps_ret (!pe_non))) (!pss_nil)) (!pss_one (!ps_ret (!pe_callTy call_list_of (by rfl) T.b_list bt_list (!pa_cons (pv 3) (!pa_nil))))))),?_⟩
 try dsimp only[cxOf,Cx.nox,Cx.wish]
 refine⟨_,rfl,p,dx,_,rfl,h1,rfl,_,rfl,p,ds,bs,n,lf,b,rfl,hB,b1,fun d hd=>?_⟩;obtain⟨c0,g1,kvs,e1,g3,g5⟩:=pair_get1 h4 hd;have eb:bs.getD b []=c0:=by simp[List.getD,g1]
 rw[eb] at q0 q1;refine⟨d,rfl,.inl ⟨kvs,.inl e1⟩,_,rfl,_,DGet.k (k:=Sum.inl z) e1,?_⟩;rcases g3.get z with⟨v1,v2⟩|⟨a,row,v1,v2,v3⟩
 ·rw[v1];exact⟨_,rfl,_,rfl,iteTc rfl (q0 v2)⟩
 ·rw[v1];refine⟨_,rfl,_,rfl,iteFc rfl ?_⟩;exact⟨_,rfl,a,_,rfl,.inl (SqL.of v3),fun l hl=>q1 row v2 l hl⟩
theorem ok_Boards_stop (T:Txt K mg C_WordReader C_Boards XC)(F:Fun K "stop" "Boards.stop" s_Boards_stop f fd):FnOk P w K mg base CX0 1 f fd ["self","many"] (sp_Boards_stop K C_Boards):=by
 exists sc_Boards_stop
 ·obtain⟨p,ds,bs,n,lf,v,rfl,_⟩:=h;rfl
 obtain⟨p,ds,bs,n,lf,v,rfl,hB,q⟩:=h;obtain⟨dx,s0,h1,h2,h3,h4⟩:=id hB;refine⟨_,(!pss_one (!ps_fld (pv 0) (pv 1))),?_⟩;refine⟨_,rfl,_,rfl,p,C_Boards,dx,_,rfl,h1,T.cl_Boards,T.n_Boards_writes_left,(by show 3<1000;decide),?_⟩;rw[flds_l];refine q _ ⟨dx,s0,upd_same,by rw[upd_ne (ne_of h2 h1 (by intro z;cases z))];exact h2,h3,h4.same (fun a xs e=>by rw[upd_ne (ne_of e h1 (by intro z;cases z))];exact e) fun d _ kvs e=>by rw[upd_ne (ne_of e h1 (by intro z;cases z))];exact e⟩ fun c o e hc _=>by rw[upd_ne hc];exact e
theorem ok_Boards_init (T:Txt K mg C_WordReader C_Boards XC)(F:Fun K "__init__" "Boards.__init__" s_Boards_init f fd)(D_is_between:Def P w K mg base 2 "is_between" ["thing","least","most"] (sp_is_between K)):FnOk P w K mg base CX0 3 f fd ["self","many"] (sp_Boards_init K C_Boards):=by
 exists sc_Boards_init
 ·obtain⟨p,dx,m,rfl,_⟩:=h;rfl
 obtain⟨p,dx,m,rfl,m1,m2,h1,q⟩:=h;refine⟨_,(!pss_cons (!ps_if (!pt_not (!pt_val (!pe_fn D_is_between (by trivial) rfl (!pa_cons (pv 1) (!pa_cons (!pe_globI rfl T.c_LEAST_BOARDS) (!pa_cons (!pe_globI rfl T.c_MOST_BOARDS) (!pa_nil))))) (by intro _;rfl))) (!pss_one (!ps_never)) (!pss_nil)) (!pss_cons (!ps_fld (pv 0) (@pe_comp0 _ ["board"] _ _ _ _ _ _ _ _ _ _ rfl (!pi_range1 rfl T.b_range (!pa_cons (pv 1) (!pa_nil))) (by decide +kernel) (fun C s H fp=>⟨(@pg_name _ _ (0) _ (show(["board"]:List Str).Nodup by decide +kernel) rfl (by trivial) (by trivial)),(!pifs_nil),(!pe_dnewK)⟩) (by intro _;rfl))) (!pss_cons (!ps_fld (pv 0) (!pe_int)) (!pss_one (!ps_fld (pv 0) (!pe_non)))))),?_⟩
 try dsimp only[cxOf,Cx.nox,Cx.wish]
 refine⟨_,rfl,.int m,2,4,rfl,trivial,_,rfl,iteFc ?_ ?_⟩
 ·show(!(decide ((2:Int)<=(m:Int))&&decide ((m:Int)<=4)))=false;rw[decide_eq_true (show(2:Int)<=(m:Int) by omega),decide_eq_true (show(m:Int)<=4 by omega)];rfl
 refine⟨_,rfl,m,rfl,by omega,by omega,?_⟩;refine comp_st (xs:=(List.range (m:Int).toNat).map fun(i:Nat)=>V.int (0+(i:Int))) (fun i ys l H'=>Same H H'/\∃ds:List Addr,ys=ds.map V.ref/\ds.Nodup/\∀d∈ds,H' d=some (.dK [])/\H d=none) (by rw[List.length_map,List.length_range];omega) (fun i ys l H' _=>itr_go) (fun l hl=>⟨same_new hl _,[],rfl,List.nodup_nil,fun _ h=>nomatch h⟩) (fun i x ys l H' R hx hl hl' hlen hI hR d hd=>?_) fun l H1 ys hl hl1 ly hI=>?_
 ·obtain⟨s',ds,rfl,nd,hds⟩:=hI;have nld:l≠d:=ne_of_none hl' hd;refine hR _ _ (by rw[upd_ne nld];exact hl') ⟨same_upd (same_upd s' (s'.free hd) _) hl _,ds++[d],by rw[List.map_append];rfl,?_,fun e he=>?_⟩
  ·rw[List.nodup_append];refine⟨nd,by simp,fun e he g hg=>?_⟩;rw[List.mem_singleton.mp hg];intro z;have:=(hds e he).1;rw[z,hd] at this;cases this
  ·have nel:∀{o},H' e=some (.dK o)->e≠l:=fun q=>ne_of q hl' (by intro z;cases z)
   rcases List.mem_append.mp he with he|he
   ·obtain⟨g1,g2⟩:=hds e he;exact⟨by rw[upd_ne (nel g1),upd_ne (ne_of_none g1 hd)];exact g1,g2⟩
   ·rw[List.mem_singleton.mp he];exact⟨by rw[upd_ne nld.symm,upd_same],s'.free hd⟩
 obtain⟨s1,ds,rfl,nd,hds⟩:=hI;have lds:ds.length=m:=by rw[List.length_map,List.length_map,List.length_range] at ly;omega
 have p1:=s1.get h1;have npl:l≠p:=ne_of hl1 p1 (by intro z;cases z);refine⟨_,rfl,p,C_Boards,dx,[],rfl,p1,T.cl_Boards,T.n_Boards_shelves,(by show 0<1000;decide),?_⟩;refine⟨_,rfl,p,C_Boards,dx,_,rfl,upd_same,T.cl_Boards,T.n_Boards_writes,(by show 1<1000;decide),?_⟩;refine⟨_,rfl,p,C_Boards,dx,_,rfl,upd_same,T.cl_Boards,T.n_Boards_writes_left,(by show 2<1000;decide),?_⟩;rw[upd_upd,upd_upd];refine q _ ds ⟨dx,l,upd_same,by rw[upd_ne npl];exact hl1,nd,?_⟩ (fun d hd=>(hds d hd).2) fun b o e hb=>?_
 ·have all:∀(es:List Addr),(∀d∈es,d∈ds)->BsR (upd H1 p (.ins C_Boards dx (putF "writes_left" V.non (putF "writes" (V.int 0) (putF "shelves" (V.ref l) []))))) es (List.replicate es.length []):=by
   intro es
   induction es with
   |nil=>intro _;exact .nil
   |cons d es ih=>
    intro hm;refine .cons ⟨[],?_,.nil,List.nodup_nil⟩ (ih fun e he=>hm e (List.mem_cons_of_mem _ he));have:=(hds d (hm d List.mem_cons_self)).1;rw[upd_ne (ne_of this p1 (by intro z;cases z))];exact this
  have:=all ds fun _ h=>h
  rw[lds] at this;exact this
 ·rw[upd_ne hb];exact s1.get e
theorem upd_comm {H:Hp}{x y:Addr}{u v:HO}(h:x≠y):upd (upd H x u) y v=upd (upd H y v) x u:=by
 funext c
 by_cases h1:c=y
 ·subst h1;rw[upd_same,upd_ne (Ne.symm h),upd_same]
 ·rw[upd_ne h1]
  by_cases h2:c=x
  ·subst h2;rw[upd_same,upd_same]
  ·rw[upd_ne h2,upd_ne h2,upd_ne h1]
def dropC (b:Cel)(k:Int):Cel:=b.filter fun x=>!decide (x.1=k)
theorem CellsR.drop {H:Hp}:∀{kvs:List (Key×V)} {b:Cel} (_:CellsR H kvs b) (k:Int),CellsR H (dropK kvs (Sum.inl k)) (dropC b k)
 |_,_,.nil,_=>.nil
 |_,_,.cons (a:=kv) (b:=x) h t,k=>by
  have ih:=CellsR.drop t k;have e:decide (kv.1≠Sum.inl k) = !decide (x.1=k):=by
   rw[h.1,Bool.eq_iff_iff];simp
  show CellsR H (List.filter _ _) (List.filter _ _);rw[List.filter_cons,List.filter_cons,e]
  by_cases hx:x.1=k
  ·rw[decide_eq_true hx];exact ih
  ·rw[decide_eq_false hx];exact .cons h ih
theorem dropC_nodup {b:Cel}{k:Int}(h:(b.map (·.1)).Nodup):((dropC b k).map (·.1)).Nodup:=h.sublist (List.filter_sublist.map _)
theorem dropC_none {H:Hp}{kvs:List (Key×V)}{b:Cel}(r:CellsR H kvs b){k:Int}(h:valV kvs (Sum.inl k)=none):dropC b k=b:=by
 rcases r.get k with⟨_,g⟩|⟨a,row,g,_⟩
 ·unfold dropC;rw[List.filter_eq_self];intro x hx;cases e:decide (x.1=k) with
  |false=>rfl
  |true=>
   unfold getC at g;rw[Option.map_eq_none_iff,List.find?_eq_none] at g;exact absurd e (g x hx)
 ·rw[h] at g;cases g
theorem bat_put2 {H H':Hp} {p dx s0 l a:Addr} {ds:List Addr} {bs:List Cel} {n y:Int} {lf lf2:V} {b:Nat} {d:Addr} {z:Int} {row:List Int} {xs:List V} {kvs:List (Key×V)} (hB:BAt C_Boards H p ds bs n lf) (ha:H a=some (.lst xs)) (hN:∀ys,BAt C_Boards (upd H a (.lst ys)) p ds bs n lf)
  (h1:H p=some (.ins C_Boards dx (fldsB s0 n lf))) (h2:H s0=some (.lst (ds.map V.ref))) (h3:ds.Nodup) (hb:ds[b]?=some d) (hd:H d=some (.dK kvs)) (hl:H l=none)
  (e:H'=upd (upd (upd H p (.ins C_Boards dx (fldsB s0 y lf2))) l (.lst (row.map V.int))) d (.dK (putK kvs (Sum.inl z) (.ref l)))) (ys:List V):BAt C_Boards (upd H' a (.lst ys)) p ds (bs.set b (putC (bs.getD b []) z row)) y lf2:=by
 have nap:a≠p:=ne_of ha h1 (by intro z;cases z);have nad:a≠d:=ne_of ha hd (by intro z;cases z);have nal:a≠l:=ne_of_none ha hl;obtain⟨dx',s0',g1,g2,g3,g4⟩:=hN ys;have g1':=g1;rw[upd_ne nap.symm,h1] at g1';obtain⟨rfl,e0⟩:dx=dx'/\fldsB s0 n lf=fldsB s0' n lf:=by cases g1';exact⟨rfl,rfl⟩
 obtain rfl:s0=s0':=by
  unfold fldsB at e0;cases e0;rfl
 refine(bat_put (C_Boards:=C_Boards) (H:=upd H a (.lst ys)) (y:=y) (lf2:=lf2) (row:=row) (z:=z) (l:=l) g1 g2 g3 g4 hb (by rw[upd_ne nad.symm];exact hd) (by rw[upd_ne nal.symm];exact hl) ?_).1;rw[e,upd_comm nad.symm,upd_comm nal.symm,upd_comm nap.symm]
def cellC (c:Cel)(z:Int):Option (List Int)->Cel
 |none=>dropC c z
 |some row=>putC c z row
def CellIs (H:Hp):Option (List Int)->V->Prop
 |none,v=>v=.non
 |some row,v=>∃a,v=.ref a/\H a=some (.lst (row.map V.int))
def sp_Boards_spoil (K:W.Frag)(C_Boards:Addr):Sp:=fun vs H Q _=>∃p ds bs n lf,∃(b:Nat) (z:Int) (v:V) (o:Option (List Int)),vs=[.ref p,.int (b:Int),.int z,v]/\BAt C_Boards H p ds bs n lf/\b<bs.length/\(∀c∈bs,c.length<1000)/\CellIs H o v/\
 ∀H',BAt C_Boards H' p ds (bs.set b (cellC (bs.getD b []) z o)) n lf->Kb H H' p ds->(∀a xs,H a=some (.lst xs)->(∀ys,BAt C_Boards (upd H a (.lst ys)) p ds bs n lf)->∀ys,BAt C_Boards (upd H' a (.lst ys)) p ds (bs.set b (cellC (bs.getD b []) z o)) n lf)->Q .non H'
theorem bat_drop {H:Hp}{p dx s0:Addr}{ds:List Addr}{bs:List Cel}{n:Int}{lf:V}{b:Nat}{d:Addr}{z:Int}{kvs:List (Key×V)}(h1:H p=some (.ins C_Boards dx (fldsB s0 n lf)))(h2:H s0=some (.lst (ds.map V.ref)))(h3:ds.Nodup)(h4:BsR H ds bs)(hd:ds[b]?=some d)(e1:H d=some (.dK kvs)) :
  BAt C_Boards (upd H d (.dK (dropK kvs (Sum.inl z)))) p ds (bs.set b (dropC (bs.getD b []) z)) n lf:=by
 obtain⟨c0,g1,kvs',e1',g3,g5⟩:=pair_get1 h4 hd;rw[e1] at e1';cases e1';have eb:bs.getD b []=c0:=by simp[List.getD,g1]
 have lists:∀a xs,H a=some (.lst xs)->upd H d (.dK (dropK kvs (Sum.inl z))) a=some (.lst xs):=fun a xs q=>by
  rw[upd_ne (ne_of q e1 (by intro z;cases z))];exact q
 refine⟨dx,s0,by rw[upd_ne (ne_of h1 e1 (by intro z;cases z))];exact h1,lists _ _ h2,h3,?_⟩;rw[eb];exact BsR.set lists ⟨_,upd_same,(g3.same lists).drop z,dropC_nodup g5⟩ h4 h3 (fun e' _ ne' kvs' q=>by rw[upd_ne ne'];exact q) hd
theorem ok_Boards_spoil (T:Txt K mg C_WordReader C_Boards XC)(F:Fun K "spoil" "Boards.spoil" s_Boards_spoil f fd)(D_Boards_shelf:MDef P w K mg base 3 C_Boards "shelf" ["self","board"] (sp_Boards_shelf K C_Boards)):FnOk P w K mg base CX0 4 f fd ["self","board","number","row"] (sp_Boards_spoil K C_Boards):=by
 exists sc_Boards_spoil
 ·obtain⟨p,ds,bs,n,lf,b,z,v,o,rfl,_⟩:=h;rfl
 obtain⟨p,ds,bs,n,lf,b,z,v,o,rfl,hB,b1,b2,hv,q⟩:=h;have hl:=hB.len;obtain⟨dx,s0,h1,h2,h3,h4⟩:=id hB;have hu:=hu_of hr;refine⟨_,(!pss_cons (@ps_set _ _ (4) _ _ _ _ sc_Boards_spoil.nd rfl (by trivial) (!pe_mth (pv 0) T.cl_Boards D_Boards_shelf (by trivial) (!pa_cons (pv 1) (!pa_nil))) (by rfl) (by trivial)) (!pss_one (!ps_if (!pt_cmp (!pc_isN (pv 3)) (by first|exact nobehind _ (by decide) (by decide)|rfl)) (!pss_one (!ps_expr (!pe_dpop2 (pv 4) (pv 2) (!pe_non) ⟨rfl,rfl,rfl,rfl⟩))) (!pss_one (!ps_dput hu (pv 4) (pv 2) (!pe_callTy call_list_of (by rfl) T.b_list bt_list (!pa_cons (pv 3) (!pa_nil)))))))),?_⟩
 try dsimp only[cxOf,Cx.nox,Cx.wish]
 refine⟨_,rfl,p,dx,_,rfl,h1,rfl,_,rfl,p,ds,bs,n,lf,b,rfl,hB,b1,fun d hd=>?_⟩;obtain⟨c0,g1,kvs,e1,g3,g5⟩:=pair_get1 h4 hd;have eb:bs.getD b []=c0:=by simp[List.getD,g1]
 have kl:kvs.length<1000:=by rw[g3.len];exact b2 _ (List.mem_of_getElem? g1)
 have eH:upd H p (.ins C_Boards dx (fldsB s0 n lf))=H:=by
  funext c
  by_cases e:c=p
  ·rw[e,upd_same];exact h1.symm
  ·rw[upd_ne e]
 match o,hv,q with
 |some row,⟨a,ev,ha⟩,q=>
  subst ev;refine⟨_,rfl,_,rfl,iteFc rfl ?_⟩;refine⟨_,rfl,a,_,rfl,.inl (SqL.of ha),fun l hl0=>?_⟩;have ndl:d≠l:=ne_of_none e1 hl0;refine⟨_,rfl,_,rfl,d,_,rfl,DPut.k (k:=Sum.inl z) (by rw[upd_ne ndl];exact e1) (small1000 (by omega)),?_⟩;obtain⟨x1,x2⟩:=bat_put (C_Boards:=C_Boards) (y:=n) (lf2:=lf) (row:=row) (z:=z) h1 h2 h3 h4 hd e1 hl0 rfl;have x3:∀a xs,H a=some (.lst xs)->(∀ys,BAt C_Boards (upd H a (.lst ys)) p ds bs n lf)->∀ys,BAt C_Boards (upd (upd (upd (upd H p (.ins C_Boards dx (fldsB s0 n lf))) l (.lst (row.map V.int))) d (.dK (putK kvs (Sum.inl z) (.ref l)))) a (.lst ys)) p ds (bs.set b (putC (bs.getD b []) z row)) n lf:=fun a xs ha hN ys=>bat_put2 (C_Boards:=C_Boards) (y:=n) (lf2:=lf) (row:=row) (z:=z) hB ha hN h1 h2 h3 hd e1 hl0 rfl ys
  rw[eH] at x1 x2 x3;exact q _ x1 x2 x3
 |none,hv,q=>
  have ev:v=.non:=hv;subst ev;refine⟨_,rfl,_,rfl,iteTc rfl ?_⟩;refine⟨_,rfl,d,rfl,.inl ⟨kvs,.inl e1⟩,_,rfl,kvs,Sum.inl z,e1,rfl,fun v' hv'=>?_,fun hv'=>?_⟩
  ·refine q _ (bat_drop h1 h2 h3 h4 hd e1) (fun c o q hc hcd=>?_) (fun a xs ha hN ys=>?_)
   ·rw[upd_ne (fun z=>hcd (by rw[z];exact List.mem_of_getElem? hd))];exact q
   ·have nap:a≠p:=ne_of ha h1 (by intro z;cases z);have nad:a≠d:=ne_of ha e1 (by intro z;cases z);obtain⟨dx',s0',g1,g2,g3,g4⟩:=hN ys;rw[upd_comm nad.symm];exact bat_drop g1 g2 g3 g4 hd (by rw[upd_ne nad.symm];exact e1)
  ·have:bs.set b (dropC (bs.getD b []) z)=bs:=by
    rw[eb,dropC_none g3 hv'];refine List.ext_getElem? fun i=>?_
    rw[List.getElem?_set]
    by_cases hi:b=i
    ·subst hi;rw[if_pos rfl,if_pos b1,g1]
    ·rw[if_neg hi]
   have e2:bs.set b (cellC (bs.getD b []) z none)=bs:=this;refine q H (by rw[e2];exact hB) (fun c o q _ _=>q) (fun a xs ha hN ys=>by rw[e2];exact hN ys)
def sp_Boards_written (K:W.Frag)(C_Boards:Addr):Sp:=fun vs H Q _=>∃p ds bs n lf,vs=[.ref p]/\BAt C_Boards H p ds bs n lf/\Q (.int n) H
theorem ok_Boards_written (T:Txt K mg C_WordReader C_Boards XC)(F:Fun K "written" "Boards.written" s_Boards_written f fd):FnOk P w K mg base CX0 1 f fd ["self"] (sp_Boards_written K C_Boards):=by
 exists sc_Boards_written
 ·obtain⟨p,ds,bs,n,lf,rfl,_⟩:=h;rfl
 obtain⟨p,ds,bs,n,lf,rfl,hB,q⟩:=h;obtain⟨dx,s0,h1,h2,h3,h4⟩:=hB;refine⟨_,(!pss_one (!ps_ret (!pe_fld (pv 0)))),?_⟩;exact⟨_,rfl,p,C_Boards,dx,_,_,rfl,h1,T.cl_Boards,T.n_Boards_writes,rfl,q⟩
theorem ok_Boards_lose (T:Txt K mg C_WordReader C_Boards XC)(F:Fun K "lose" "Boards.lose" s_Boards_lose f fd)(D_Boards_shelf:MDef P w K mg base 3 C_Boards "shelf" ["self","board"] (sp_Boards_shelf K C_Boards)):FnOk P w K mg base CX0 4 f fd ["self","board"] (sp_Boards_lose K C_Boards):=by
 exists sc_Boards_lose
 ·obtain⟨p,ds,bs,n,lf,b,rfl,_⟩:=h;rfl
 obtain⟨p,ds,bs,n,lf,b,rfl,hB,b1,q⟩:=h;obtain⟨dx,s0,h1,h2,h3,h4⟩:=id hB;refine⟨_,(!pss_one (!ps_expr (!pe_dclear (!pe_mth (pv 0) T.cl_Boards D_Boards_shelf (by trivial) (!pa_cons (pv 1) (!pa_nil))) ⟨rfl,rfl,rfl,rfl⟩))),?_⟩
 try dsimp only[cxOf,Cx.nox,Cx.wish]
 refine⟨_,rfl,p,dx,_,rfl,h1,rfl,_,rfl,p,ds,bs,n,lf,b,rfl,hB,b1,fun d hd=>?_⟩;obtain⟨c0,g1,kvs,e1,g3,g5⟩:=pair_get1 h4 hd;refine⟨d,kvs,rfl,e1,?_⟩;have lists:∀a xs,H a=some (.lst xs)->upd H d (.dK []) a=some (.lst xs):=fun a xs q=>by
  rw[upd_ne (ne_of q e1 (by intro z;cases z))];exact q
 refine q _ ⟨dx,s0,by rw[upd_ne (ne_of h1 e1 (by intro z;cases z))];exact h1,lists _ _ h2,h3,BsR.set lists ⟨[],upd_same,.nil,List.nodup_nil⟩ h4 h3 (fun e' _ ne' kvs' q=>by rw[upd_ne ne'];exact q) hd⟩ fun c o q hc hcd=>?_
 rw[upd_ne (fun z=>hcd (by rw[z];exact List.mem_of_getElem? hd))];exact q
end
open M38
mutual
theorem wT_in:∀(n:Nat) (t:Tr),isT n t=true->∀x∈wT t,0<=x/\x<=2147483646
 |0,_,h=>nomatch h
 |n+1,.non,h=>nomatch h
 |n+1,.bl _,h=>nomatch h
 |n+1,.int i,h=>fun x hx=>by
  have h':(decide (0<=i)&&decide (i<=999999999))=true:=h;simp only[Bool.and_eq_true,decide_eq_true_eq] at h';rcases List.mem_cons.mp hx with rfl|hx
  ·omega
  ·rw[List.mem_singleton.mp hx];omega
 |n+1,.str z,h=>fun x hx=>by
  obtain⟨zl,zs⟩:=isT_str h;rcases List.mem_cons.mp hx with rfl|hx
  ·omega
  rcases List.mem_cons.mp hx with rfl|hx
  ·omega
  obtain⟨c,hc,rfl⟩:=List.mem_map.mp hx;have:=idx_sg (zs c hc);omega
 |n+1,.tup ts,h=>fun x hx=>by
  have h':(decide (ts.length<=100)&&ts.all (isT n))=true:=h;rw[Bool.and_eq_true,decide_eq_true_eq] at h';rcases List.mem_cons.mp hx with rfl|hx
  ·omega
  rcases List.mem_cons.mp hx with rfl|hx
  ·omega
  exact wTs_in n ts h'.2 x hx
 |n+1,.lst _,h=>nomatch h
theorem wTs_in:∀(n:Nat) (ts:List Tr),ts.all (isT n)=true->∀x∈wTs ts,0<=x/\x<=2147483646
 |_,[],_=>fun x hx=>nomatch hx
 |n,t::ts,h=>fun x hx=>by
  rw[List.all_cons,Bool.and_eq_true] at h;rcases List.mem_append.mp hx with hx|hx
  ·exact wT_in n t h.1 x hx
  ·exact wTs_in n ts h.2 x hx
end
def sealW (t:Tr):List Int:=wT t++[mk (wT t)]
theorem sealW_sound {t:Tr}{n:Nat}(h:isT n t=true):sound (sealW t)=true:=sound_sealed (wT_in n t h)
theorem sealW_drop (t:Tr):(sealW t).dropLast=wT t:=by unfold sealW;rw[List.dropLast_concat]
theorem sealW_len (t:Tr):(sealW t).length=(wT t).length+1:=by unfold sealW;rw[List.length_append];rfl
theorem row_split {row:List Int}(h:sound row=true):row=row.dropLast++[mk row.dropLast]:=by
 obtain⟨ne,_,el⟩:=sound_iff.mp h;have e2:row.getLastD 0=row.getLast ne:=by rw[List.getLastD_eq_getLast?,List.getLast?_eq_some_getLast ne];rfl
 rw[e2] at el;rw[<-el];exact(List.dropLast_concat_getLast ne).symm
section
variable {P:Program}{w:World}{K:W.Frag}{mg:Str->Option Value}{base:Heap}{f C_WordReader C_Boards:Addr}{XC:Nat->Addr}{fd:FuncData}
def sp_thing_on (K:W.Frag)(C:Addr):Sp:=fun vs H Q _=>∃p ds bs n lf,∃(b:Nat) (z:Int),vs=[.ref p,.int (b:Int),.int z]/\BAt C H p ds bs n lf/\b<bs.length/\(∀row,getC (bs.getD b []) z=some row->row.length<=1000)/\
 (∀t,getC (bs.getD b []) z=some (sealW t)->isT 8 t=true->∀v H',Same H H'->Rep NL H' t v->Q v H')/\((∀t,isT 8 t=true->getC (bs.getD b []) z≠some (sealW t))->∀H',Same H H'->Q .non H')
theorem ok_thing_on (T:Txt K mg C_WordReader C_Boards XC)(F:Fun K "thing_on" "thing_on" s_thing_on f fd)(D_Boards_cell:MDef P w K mg base 4 C_Boards "cell" ["self","board","number"] (sp_Boards_cell K C_Boards))(D_unsealed:Def P w K mg base 3 "unsealed" ["row"] (sp_unsealed K))(D_thing_of:DefX P w K mg base 14 "thing_of" ["words"] (sp_thing_of K XC)):FnOk P w K mg base CX0 15 f fd ["boards","board","number"] (sp_thing_on K C_Boards):=by
 exists sc_thing_on
 ·obtain⟨p,ds,bs,n,lf,b,z,rfl,_⟩:=h;rfl
 obtain⟨p,ds,bs,n,lf,b,z,rfl,hB,b1,rl,q,q0⟩:=h;obtain⟨dx,s0,h1,h2,h3,h4⟩:=id hB;refine⟨_,(!pss_cons (@ps_set _ _ (3) _ _ _ _ sc_thing_on.nd rfl (by trivial) (!pe_mth (pv 0) T.cl_Boards D_Boards_cell (by trivial) (!pa_cons (pv 1) (!pa_cons (pv 2) (!pa_nil)))) (by rfl) (by trivial)) (!pss_cons (!ps_if (!pt_cmp (!pc_isN (pv 3)) (by first|exact nobehind _ (by decide) (by decide)|rfl)) (!pss_one (!ps_ret (!pe_non))) (!pss_nil)) (!pss_cons (@ps_set _ _ (4) _ _ _ _ sc_thing_on.nd rfl (by trivial) (!pe_fn D_unsealed (by trivial) rfl (!pa_cons (pv 3) (!pa_nil))) (by rfl) (by trivial)) (!pss_cons (!ps_if (!pt_cmp (!pc_isN (pv 4)) (by first|exact nobehind _ (by decide) (by decide)|rfl)) (!pss_one (!ps_ret (!pe_non))) (!pss_nil)) (!pss_one (!ps_try ⟨rfl,rfl⟩ T.x_NoThing rfl (!pxs_one (!px_ret (!pex_fn D_thing_of (by trivial) rfl (!pa_cons (pv 4) (!pa_nil))))) (!pss_nil) (fun e=>(!pss_one (!ps_ret (!pe_non)))))))))),?_⟩;refine⟨_,rfl,p,dx,_,rfl,h1,rfl,_,rfl,_,rfl,p,ds,bs,n,lf,b,z,rfl,hB,b1,fun e=>?_,fun row e l hl=>?_⟩
 ·exact⟨_,rfl,_,rfl,iteTc rfl (q0 (fun t _=>by rw[e];intro z;cases z) H (Same.refl _))⟩
 have s1:=same_new hl (.lst (row.map V.int));refine⟨_,rfl,_,rfl,iteFc rfl ?_⟩;refine⟨_,rfl,l,row,rfl,upd_same,rl row e,fun hs H2 s2=>?_,fun hs r H2 s2 nr hr2=>?_⟩
 ·refine⟨_,rfl,_,rfl,iteTc rfl (q0 (fun t it ee=>?_) H2 (s1.trans s2))⟩;rw[e] at ee;have:row=sealW t:=by injection ee
  rw[this,sealW_sound it] at hs;cases hs
 ·refine⟨_,rfl,_,rfl,iteFc rfl ?_⟩;refine⟨_,rfl,r,row.dropLast,rfl,hr2,fun t v H3 er s3 rv=>?_,fun er H3 s3=>?_⟩
  ·obtain⟨it,ew⟩:=rd_sound 8 _ t [] er;rw[List.append_nil] at ew;have es:row=sealW t:=by
    unfold sealW;rw[ew];exact row_split hs
   exact q t (by rw[e,es]) it v H3 ((s1.trans s2).trans s3) rv
  ·refine⟨T.m_NoThing_NoThing,?_⟩;refine q0 (fun t it ee=>?_) H3 ((s1.trans s2).trans s3);rw[e] at ee;have:row=sealW t:=by injection ee
   have:=rd_full 8 t [] it;rw[List.append_nil] at this;rw[‹row=sealW t›,sealW_drop] at er;exact er t this
def sp_head_row (K:W.Frag):Sp:=fun vs H Q _=>∃v t,vs=[v]/\Rep NL H t v/\isT 8 t=true/\(wT t).length<=900/\∀r H',Same H H'->H r=none->H' r=some (.lst ((sealW t).map V.int))->Q (.ref r) H'
theorem ok_head_row (T:Txt K mg C_WordReader C_Boards XC)(F:Fun K "head_row" "head_row" s_head_row f fd)(D_sealed:Def P w K mg base 2 "sealed" ["words"] (sp_sealed K))(D_words_of:Def P w K mg base 9 "words_of" ["thing"] (sp_words_of K)):FnOk P w K mg base CX0 10 f fd ["head"] (sp_head_row K):=by
 exists sc_head_row
 ·obtain⟨v,t,rfl,_⟩:=h;rfl
 obtain⟨v,t,rfl,hv,it,lw,q⟩:=h;refine⟨_,(!pss_one (!ps_ret (!pe_fn D_sealed (by trivial) rfl (!pa_cons (!pe_fn D_words_of (by trivial) rfl (!pa_cons (pv 0) (!pa_nil))) (!pa_nil))))),?_⟩
 try dsimp only[cxOf]
 refine⟨_,rfl,v,t,rfl,hv,it,by omega,fun wl H2 s2 nw hw=>?_⟩;exact⟨wl,_,rfl,hw,by omega,fun r H3 s3 nr hr3=>q r H3 (s2.trans s3) (s2.free nr) hr3⟩
def wrt (bs:List Cel)(row:List Int)(j:Nat):List Cel:=(bs.take j).map (fun c=>putC c 0 row)++bs.drop j
theorem wrt_len (bs:List Cel)(row:List Int)(j:Nat):(wrt bs row j).length=bs.length:=by
 unfold wrt;rw[List.length_append,List.length_map,List.length_take,List.length_drop];omega
theorem wrt_get {bs:List Cel}{row:List Int}{j i:Nat}(h:i<bs.length):(wrt bs row j)[i]?=some (if i<j then putC (bs.getD i []) 0 row else bs.getD i []):=by
 have e:bs[i]?=some (bs.getD i []):=by rw[List.getD,List.getElem?_eq_getElem h];rfl
 unfold wrt;rw[List.getElem?_append,List.length_map,List.length_take]
 by_cases c:i<j
 ·rw[if_pos (by omega),if_pos c,List.getElem?_map,List.getElem?_take,if_pos c,e];rfl
 ·rw[if_neg (by omega),if_neg c,List.getElem?_drop,show j+(i-min j bs.length)=i by omega,e]
theorem wrt_succ {bs:List Cel}{row:List Int}{j:Nat}(h:j<bs.length):(wrt bs row j).set j (putC ((wrt bs row j).getD j []) 0 row)=wrt bs row (j+1):=by
 have g:(wrt bs row j).getD j []=bs.getD j []:=by rw[List.getD,wrt_get h,if_neg (Nat.lt_irrefl _)];rfl
 refine List.ext_getElem? fun i=>?_
 by_cases hi:i<bs.length
 ·rw[List.getElem?_set,wrt_get hi,wrt_get hi,g,wrt_len]
  by_cases e:j=i
  ·subst e;rw[if_pos rfl,if_pos h,if_pos (by omega)]
  ·rw[if_neg e]
   by_cases c:i<j
   ·rw[if_pos c,if_pos (by omega)]
   ·rw[if_neg c,if_neg (by omega)]
 ·rw[List.getElem?_eq_none (by rw[List.length_set,wrt_len];omega),List.getElem?_eq_none (by rw[wrt_len];omega)]
theorem kb_tup {C:Addr}{H H':Hp}{p:Addr}{ds:List Addr}{bs:List Cel}{n:Int}{lf:V}(g:BAt C H p ds bs n lf)(k:Kb H H' p ds){c:Addr}{xs:List V}(e:H c=some (.tup xs)):H' c=some (.tup xs):=by
 obtain⟨dx,s0,h1,_⟩:=id g;exact k c _ e (ne_of e h1 (by intro z;cases z)) (g.notin e (by intro kvs z;cases z))
theorem kb_lst {C:Addr}{H H':Hp}{p:Addr}{ds:List Addr}{bs:List Cel}{n:Int}{lf:V}(g:BAt C H p ds bs n lf)(k:Kb H H' p ds){c:Addr}{xs:List V}(e:H c=some (.lst xs)):H' c=some (.lst xs):=by
 obtain⟨dx,s0,h1,_⟩:=id g;exact k c _ e (ne_of e h1 (by intro z;cases z)) (g.notin e (by intro kvs z;cases z))
def sp_lay_head (K:W.Frag)(C:Addr)(XC:Nat->Addr):Sp:=fun vs H Q E=>∃p ds bs n,∃(k:Nat) (v:V) (t:Tr),vs=[.ref p,v]/\BAt C H p ds bs n (.int (k:Int))/\bs.length<=4/\(∀c∈bs,c.length<900)/\Rep NL H t v/\isT 8 t=true/\(wT t).length<=900/\
 (k<bs.length->∀H',BAt C H' p ds (wrt bs (sealW t) k) (n+(k:Int)) (.int 0)->Kb H H' p ds->E (.ref (XC 1)) none H')/\
 (bs.length<=k->∀H',BAt C H' p ds (wrt bs (sealW t) bs.length) (n+(bs.length:Int)) (.int ((k-bs.length:Nat):Int))->Kb H H' p ds->Q .non H')
theorem ok_lay_head (T:Txt K mg C_WordReader C_Boards XC)(F:Fun K "lay_head" "lay_head" s_lay_head f fd)(D_head_row:Def P w K mg base 10 "head_row" ["head"] (sp_head_row K))(D_Boards_many:MDef P w K mg base 1 C_Boards "many" ["self"] (sp_Boards_many K C_Boards))(D_Boards_write:MDefX P w K mg base 4 C_Boards "write" ["self","board","number","row"] (sp_Boards_write K C_Boards XC)):FnOk P w K mg base (CXd P w) 11 f fd ["boards","head"] (sp_lay_head K C_Boards XC):=by
 refine F.okX sc_lay_head (fun vs H Q E h=>?_) (fun cdv A outer s H vs Q E hr h=>?_)
 ·obtain⟨p,ds,bs,n,k,v,t,rfl,_⟩:=h;rfl
 obtain⟨p,ds,bs,n,k,v,t,rfl,hB,b4,bb,hv,it,lw,qE,q⟩:=h;refine⟨_,(!pss_cons (@ps_set _ _ (2) _ _ _ _ sc_lay_head.nd rfl (by trivial) (!pe_fn D_head_row (by trivial) rfl (!pa_cons (pv 1) (!pa_nil))) (by rfl) (by trivial)) (!pss_one (!ps_for PassesOwn.leaving rfl (!pi_range1 rfl T.b_range (!pa_cons (!pe_mth0 (pv 0) T.cl_Boards D_Boards_many) (!pa_nil))) (@pg_name _ _ (3) _ sc_lay_head.nd rfl (by trivial) (by trivial)) (!pss_one (!ps_expr (!pe_mthX (pv 0) T.cl_Boards D_Boards_write (by trivial) pass_up (!pa_cons (pv 3) (!pa_cons (!pe_globI rfl T.c_HEAD_CELL) (!pa_cons (pv 2) (!pa_nil))))))) (by intro _;rfl)))),?_⟩
 try dsimp only[cxOf]
 refine⟨_,rfl,v,t,rfl,hv,it,lw,fun rw_ H1 s1 nr hr1=>?_⟩;have hB1:=hB.same s1;obtain⟨dx,sh0,h1,h2,h3,h4⟩:=id hB1;refine⟨_,rfl,p,dx,_,rfl,h1,rfl,p,ds,bs,n,_,rfl,hB1,_,rfl,?_⟩;refine⟨by omega,by omega,?_⟩;rw[Int.toNat_natCast];refine for_range (lo:=0) (n:=bs.length) (fun j σ H9=>∃v3,σ=[some (.ref p),some v,some (.ref rw_),v3]/\j<=k/\BAt C_Boards H9 p ds (wrt bs (sealW t) j) (n+(j:Int)) (.int ((k-j:Nat):Int))/\Kb H1 H9 p ds) ⟨none,rfl,Nat.zero_le _,?_,fun b o e _ _=>e⟩ ?_ ?_
 ·have:wrt bs (sealW t) 0=bs:=by unfold wrt;rfl
  rw[this];simpa using hB1
 ·rintro j σ H9 jl ⟨v3,rfl,jk,hB9,kb9⟩
  obtain⟨dx9,sh9,g1,g2,g3,g4⟩:=id hB9;have hr9:=kb_lst hB1 kb9 hr1;refine⟨_,rfl,p,dx9,_,rfl,g1,rfl,_,rfl,_,rfl,p,ds,_,_,_,j,0,rw_,sealW t,by rw[Int.zero_add];rfl,hB9,.inr ⟨_,rfl⟩,by rw[wrt_len];exact jl,fun c hc=>?_,hr9,fun z=>?_,fun z H' hB' kb'=>?_⟩
  ·obtain⟨i,hi⟩:=List.getElem?_of_mem hc;have il:i<bs.length:=by
    have:=(List.getElem?_eq_some_iff.mp hi).1;rw[wrt_len] at this;exact this
   rw[wrt_get il] at hi;have bl:(bs.getD i []).length<900:=by
    refine bb _ ?_;rw[List.getD,List.getElem?_eq_getElem il];exact List.getElem_mem il
   have:=putC_len (bs.getD i []) 0 (sealW t);cases hi
   split<;>omega
  ·have z:=V.int.inj z;have e:j=k:=by omega
   subst e;rw[Nat.sub_self] at hB9;exact qE jl H9 hB9 (fun b o e n1 n2=>kb9 b o (s1.get e) n1 n2)
  ·have z:k-j≠0:=fun y=>z (by rw[y];rfl)
   refine⟨_,rfl,by omega,?_,kb9.trans kb'⟩;rw[wrt_succ jl] at hB';rw[show n+((j+1:Nat):Int)=n+(j:Int)+1 by omega,show V.int ((k-(j+1):Nat):Int)=lfDec (.int ((k-j:Nat):Int)) from congrArg V.int (by omega)];exact hB'
 ·rintro σ H9 ⟨v3,rfl,jk,hB9,kb9⟩
  exact q (by omega) H9 hB9 (fun b o e n1 n2=>kb9 b o (s1.get e) n1 n2)
end
open M38
theorem sealW_inj {t u:Tr}(ht:isT 8 t=true)(hu:isT 8 u=true)(e:sealW t=sealW u):t=u:=by
 have:=congrArg List.dropLast e;rw[sealW_drop,sealW_drop] at this;have h1:=rd_full 8 t [] ht;have h2:=rd_full 8 u [] hu;rw[this,h2] at h1;cases h1;rfl
def Dead (o:Option (List Int)):Prop:=∀row,o=some row->row.length<=1000/\((∀t,isT 8 t=true->row≠sealW t)\/∃t,isT 8 t=true/\row=sealW t/\sh 4 t=true/\thirds t/\¬HeadP t)
structure HdT (t:Tr):Prop where
 isT:isT 8 t=true
 len:(wT t).length<=800
 sh4:sh 4 t=true
 thd:thirds t
 hd:HeadP t
def age:Tr->Int
 | .tup (.int a::_)=>a
 |_=>0
theorem HdT.age {t:Tr}(h:HdT t):∃r,t=.tup (.int (age t)::r):=by
 have:=h.hd;unfold HeadP at this
 split at this
 ·rename_i a ks ns
  cases a with
  |int i=>exact⟨_,rfl⟩
  |_=>exact absurd this.1 (by intro z;cases z)
 ·exact this.elim
def Kep (ks:List (Option Tr))(bs:List Cel):Prop:=ks.length=bs.length/\∀(i:Nat) c k,bs[i]?=some c->ks[i]?=some k->match k with
 |some t=>HdT t/\getC c 0=some (sealW t)
 |none=>Dead (getC c 0)
def stp:Option Tr->Option Tr->Option Tr
 |f,none=>f
 |none,some t=>some t
 |some u,some t=>if age u<age t then some t else some u
def best (ks:List (Option Tr)):Option Tr:=ks.foldl stp none
theorem best_snoc (ks:List (Option Tr))(k:Option Tr):best (ks++[k])=stp (best ks) k:=by unfold best;rw[List.foldl_append];rfl
section
variable {P:Program}{w:World}{K:W.Frag}{mg:Str->Option Value}{base:Heap}{f C_WordReader C_Boards:Addr}{XC:Nat->Addr}{fd:FuncData}
def FoundAt (H:Hp):Option Tr->V->Prop
 |none,v=>v=.non
 |some t,v=>HdT t/\Rep NL H t v
theorem FoundAt.same {H H':Hp}{o:Option Tr}{v:V}(h:FoundAt H o v)(s:Same H H'):FoundAt H' o v:=by
 cases o with
 |none=>exact h
 |some t=>exact⟨h.1,Rep.same s _ _ h.2⟩
def sp_head_of (K:W.Frag)(C:Addr)(XC:Nat->Addr):Sp:=fun vs H Q E=>∃p ds bs n lf ks,vs=[.ref p]/\BAt C H p ds bs n lf/\bs.length<=4/\Kep ks bs/\
 (best ks=none->∀H',Same H H'->E (.ref (XC 2)) none H')/\(∀t v H',best ks=some t->Same H H'->Rep NL H' t v->Q v H')
theorem ok_head_of (T:Txt K mg C_WordReader C_Boards XC)(F:Fun K "head_of" "head_of" s_head_of f fd)(D_Boards_many:MDef P w K mg base 1 C_Boards "many" ["self"] (sp_Boards_many K C_Boards))(D_thing_on:Def P w K mg base 15 "thing_on" ["boards","board","number"] (sp_thing_on K C_Boards))(D_is_head:Def P w K mg base 6 "is_head" ["thing"] (sp_is_head K)):FnOk P w K mg base (CXd P w) 16 f fd ["boards"] (sp_head_of K C_Boards XC):=by
 refine F.okX sc_head_of (fun vs H Q E h=>?_) (fun cdv A outer s H vs Q E hr h=>?_)
 ·obtain⟨p,ds,bs,n,lf,ks,rfl,_⟩:=h;rfl
 obtain⟨p,ds,bs,n,lf,ks,rfl,hB,b4,⟨lk,kep⟩,qE,q⟩:=h;refine⟨_,(!pss_cons (@ps_set _ _ (1) _ _ _ _ sc_head_of.nd rfl (by trivial) (!pe_non) (by rfl) (by trivial)) (!pss_cons (!ps_for PassesOwn.leaving rfl (!pi_range1 rfl T.b_range (!pa_cons (!pe_mth0 (pv 0) T.cl_Boards D_Boards_many) (!pa_nil))) (@pg_name _ _ (2) _ sc_head_of.nd rfl (by trivial) (by trivial)) (!pss_cons (@ps_set _ _ (3) _ _ _ _ sc_head_of.nd rfl (by trivial) (!pe_fn D_thing_on (by trivial) rfl (!pa_cons (pv 0) (!pa_cons (pv 2) (!pa_cons (!pe_globI rfl T.c_HEAD_CELL) (!pa_nil))))) (by rfl) (by trivial)) (!pss_one (!ps_if (@PW.pt _ _ _ (!pw_and (!pt_val (!pe_fn D_is_head (by trivial) rfl (!pa_cons (pv 3) (!pa_nil))) (by intro _;rfl)) (!pw_and1 (@PW.pt _ _ _ (!pw_or (!pt_cmp (!pc_isN (pv 1)) (by first|exact nobehind _ (by decide) (by decide)|rfl)) (!pw_or1 (!pt_cmpR op_gt (!pe_ix ix_tup (pv 3) (!pe_int) (fun _ _=>rfl)) (!pe_ix ix_tup (pv 1) (!pe_int) (fun _ _=>rfl)) (nomark _)))))))) (!pss_one (@ps_set _ _ (1) _ _ _ _ sc_head_of.nd rfl (by trivial) (pv 3) (by rfl) (by trivial))) (!pss_nil)))) (by intro _;rfl)) (!pss_cons (!ps_if (!pt_cmp (!pc_isN (pv 1)) (by first|exact nobehind _ (by decide) (by decide)|rfl)) (!pss_one (!ps_raise0 raise_up rfl T.x_NoHouse T.q_NoHouse)) (!pss_nil)) (!pss_one (!ps_ret (pv 1)))))),?_⟩
 try dsimp only[cxOf]
 obtain⟨dx,sh0,h1,h2,h3,h4⟩:=id hB;refine⟨_,rfl,p,dx,_,rfl,h1,rfl,p,ds,bs,n,_,rfl,hB,_,rfl,by omega,by omega,?_⟩;rw[Int.toNat_natCast];refine for_range (lo:=0) (n:=bs.length) (fun j σ H9=>∃fv v2 v3,σ=[some (.ref p),some fv,v2,v3]/\Same H H9/\FoundAt H9 (best (ks.take j)) fv) ⟨.non,none,none,rfl,.refl _,rfl⟩ ?_ ?_
 ·rintro j σ H9 jl ⟨fv,v2,v3,rfl,s9,fo⟩
  have gc:bs[j]?=some (bs.getD j []):=by rw[List.getD,List.getElem?_eq_getElem jl];rfl
  obtain⟨k,gk⟩:∃k,ks[j]?=some k:=⟨_,List.getElem?_eq_getElem (by omega)⟩
  have kj:=kep j _ k gc gk;have tk:best (ks.take (j+1))=stp (best (ks.take j)) k:=by rw[List.take_add_one,gk];exact best_snoc _ _
  have hB9:=hB.same s9;have len:∀row,getC (bs.getD j []) 0=some row->row.length<=1000:=fun row e=>by
   cases k with
   |none=>exact(kj row e).1
   |some t=>
    rw[kj.2] at e;cases e;have:=kj.1.len;rw[sealW_len];omega
  have old:∀(v:V) (t:Tr) (H10:Hp),Same H9 H10->Rep AllF H10 t v->sh 4 t=true->thirds t->¬HeadP t->stp (best (ks.take j)) k=best (ks.take j)->∀{D:Ends},(∀σ' H',(∃fv v2 v3,σ'=[some (.ref p),some fv,v2,v3]/\Same H H'/\FoundAt H' (best (ks.take (j+1))) fv)->D.nx σ' H')->
    tIfS (tAnd (tB (tCall (sp_is_head K) [] E0 (tCons (tVar 3) tNil))) (tOr (tB (tIsN (tVar 1))) (tTest (tOp (rI0 fun i j=>V.bl (decide (j<i))) (tOp (rIxT K) (tVar 3) (tC (V.int 0))) (tOp (rIxT K) (tVar 1) (tC (V.int 0))))))) (tAsg (tVar 3) (gName 1)) tNext D [some (.ref p),some fv,some (.int (j:Int)),some v] H10:=fun v t H10 s10 rv s4 th no es D hD=>by
   refine⟨_,rfl,v,t,rfl,rv,s4,th,fun b H11 hb s11=>?_⟩;obtain rfl:b=false:=by
    cases b with
    |false=>rfl
    |true=>exact absurd (hb.mp rfl) no
   exact⟨_,rfl,iteFc rfl (iteFc rfl (hD _ _ ⟨fv,_,_,rfl,(s9.trans s10).trans s11,by rw[tk,es];exact fo.same (s10.trans s11)⟩))⟩
  have alls:∀{H':Hp} {t:Tr} {v:V},Rep NL H' t v->Rep AllF H' t v:=fun{H' t v} h=>Rep.mono (fun _ _=>trivial) t v h
  rw[Int.zero_add];refine⟨_,rfl,_,rfl,p,ds,bs,n,lf,j,0,rfl,hB9,jl,len,fun t et it v H10 s10 rv=>?_,fun nt H10 s10=>?_⟩
  ·cases k with
   |none=>
    obtain⟨_,z⟩:=kj _ et;rcases z with z|⟨u,iu,eu,s4,th,no⟩
    ·exact absurd rfl (z t it)
    ·have:=sealW_inj it iu eu;subst this;exact old v t H10 s10 (alls rv) s4 th no rfl fun _ _ z=>z
   |some u=>
    have eu:sealW t=sealW u:=by rw[kj.2] at et;exact(Option.some.inj et).symm
    have:=sealW_inj it kj.1.isT eu;subst this;have hd:=kj.1;refine⟨_,rfl,v,t,rfl,alls rv,hd.sh4,hd.thd,fun b H11 hb s11=>?_⟩;obtain rfl:b=true:=hb.mpr hd.hd;have s911:=(s9.trans s10).trans s11;have rv':=Rep.same s11 _ _ rv;refine⟨_,rfl,iteTc rfl ?_⟩;obtain⟨rt,ert⟩:=hd.age;have rv2:=rv';rw[ert] at rv2;obtain⟨ta,tvs,rfl,hta,w0,ws,rfl,r0,_⟩:=rv2;cases(show w0=V.int (age t) from r0);cases hbst:best (ks.take j) with
    |none=>
     rw[hbst] at fo tk;cases(show fv=V.non from fo);exact⟨_,rfl,_,rfl,iteTc rfl (iteTc rfl ⟨_,rfl,_,_,_,rfl,s911,by rw[tk];exact⟨hd,rv'⟩⟩)⟩
    |some u=>
     rw[hbst] at fo tk;obtain⟨hu,ru⟩:=fo;obtain⟨ru',eru⟩:=hu.age;have ru2:=Rep.same (s10.trans s11) _ _ ru;have ru3:=ru2;rw[eru] at ru3;obtain⟨ua,uvs,rfl,hua,x0,xs,rfl,q0,_⟩:=ru3;cases(show x0=V.int (age u) from q0);refine⟨_,rfl,_,rfl,iteFc rfl ?_⟩;refine⟨_,rfl,ta,_,_,_,rfl,rfl,SqT.of hta,atI_nat (j:=0) rfl,_,rfl,ua,_,_,_,rfl,rfl,SqT.of hua,atI_nat (j:=0) rfl,_,_,rfl,rfl,_,rfl,ite2 (fun c=>?_) (fun c=>?_)⟩
     ·have c:=of_decide_eq_true c;refine⟨_,rfl,_,_,_,rfl,s911,?_⟩;rw[tk,show stp (some u) (some t)=some t from if_pos c];exact⟨hd,rv'⟩
     ·have c:¬age u<age t:=fun z=>c (decide_eq_true z)
      refine⟨_,_,_,rfl,s911,?_⟩;rw[tk,show stp (some u) (some t)=some u from if_neg c];exact⟨hu,ru2⟩
  ·cases k with
   |none=>exact old .non .non H10 s10 rfl rfl trivial (fun z=>z) rfl fun _ _ z=>z
   |some u=>exact absurd kj.2 (nt u kj.1.isT)
 ·rintro σ H9 ⟨fv,v2,v3,rfl,s9,fo⟩
  rw[List.take_of_length_le (by omega)] at fo;cases hbst:best ks with
  |none=>
   rw[hbst] at fo;cases(show fv=V.non from fo);exact⟨_,rfl,_,rfl,iteTc rfl (qE hbst H9 s9)⟩
  |some t=>
   rw[hbst] at fo;obtain⟨ht,rv⟩:=fo;have ne:fv≠.non:=fun z=>by
    obtain⟨r,e⟩:=ht.age;rw[e] at rv;obtain⟨a,_,e2,_⟩:=rv;rw[z] at e2;cases e2
   exact⟨_,rfl,_,rfl,iteFc (decide_eq_false ne) ⟨_,rfl,q t fv H9 hbst s9 rv⟩⟩
end
open M38
def tgT (t:Int×Int×Int):Tr:=.tup [.int t.1,.int t.2.1,.int t.2.2]
def enT:En->Tr
 | .st nm kp og t=>.tup [.str nm,.int 1,.str kp,.str og,tgT t]
 | .sl nm sm tn t=>.tup [.str nm,.int 2,.str sm,.int tn,tgT t]
theorem de_en (e:En):deT (enT e)=e:=by cases e<;>rfl
theorem nm_en (e:En):nm0 (enT e)=e.nm:=by cases e<;>rfl
def kpT (p:Str×Int):Tr:=.tup [.str p.1,.int p.2]
theorem tg_rep {F:Addr->Prop}{H:Hp}{a:Addr}{t:Int×Int×Int}(h:H a=some (.tup (tgV t))):Rep F H (tgT t) (.ref a):=⟨a,_,rfl,h,_,_,rfl,rfl,_,_,rfl,rfl,_,_,rfl,rfl,rfl⟩
theorem EnAt.rep {F:Addr->Prop}{H:Hp}{p:Addr×En}(h:EnAt H p):Rep F H (enT p.2) (.ref p.1):=by
 obtain⟨ta,h1,h2⟩:=h;obtain⟨a,e⟩:=p;cases e<;>exact⟨a,_,rfl,h2,_,_,rfl,rfl,_,_,rfl,rfl,_,_,rfl,rfl,_,_,rfl,rfl,_,_,rfl,tg_rep h1,rfl⟩
theorem reps_en {F:Addr->Prop}{H:Hp}{ps:List (Addr×En)}(h:∀p∈ps,EnAt H p):Reps F H ((ps.map (·.2)).map enT) (ps.map fun p=>V.ref p.1):=by
 refine reps_of (by rw[List.length_map,List.length_map,List.length_map]) fun i t v h1 h2=>?_
 rw[List.map_map,List.getElem?_map] at h1;rw[List.getElem?_map] at h2;cases hi:ps[i]? with
 |none=>rw[hi] at h1;cases h1
 |some p=>
  rw[hi] at h1 h2;cases h1;cases h2;exact(h p (List.mem_of_getElem? hi)).rep
def nmR (z:Str):Prop:=∃c k,cod z=List.replicate (k+1) c/\k<8/\c∈cod LN
theorem ln_sg:∀c∈cod LN,c∈cod SG:=by decide +kernel
theorem nmR.len {z:Str}(h:nmR z):z.length<=8:=by
 obtain⟨c,k,e,hk,_⟩:=h;have l:=cod_len z;rw[e,List.length_replicate] at l;omega
theorem nmR.name {z:Str}(h:nmR z):nameB (.str z)=true:=by
 obtain⟨c,k,e,hk,hc⟩:=h;have l:=cod_len z;rw[e,List.length_replicate] at l;show(decide ((1:Int)<=z.length)&&decide ((z.length:Int)<=8)&&allIn LN z)=true;rw[decide_eq_true (by omega),decide_eq_true (by omega)];unfold allIn;rw[Bool.true_and,Bool.true_and,List.all_eq_true,e];exact fun x hx=>decide_eq_true (by rw[List.eq_of_mem_replicate hx];exact hc)
def tgOk (t:Int×Int×Int):Prop:=(1<=t.1/\t.1<=999999)/\(0<=t.2.1/\t.2.1<=999999999)/\0<=t.2.2/\t.2.2<=996
theorem tag_ok {t:Int×Int×Int}(h:tgOk t):tagT (tgT t)=true:=by
 obtain⟨⟨a,b⟩,⟨c,d⟩,e,f⟩:=h;show((decide (1<=t.1)&&decide (t.1<=999999))&&(decide (0<=t.2.1)&&decide (t.2.1<=999999999))&&(decide (0<=t.2.2)&&decide (t.2.2<=996)))=true;rw[decide_eq_true a,decide_eq_true b,decide_eq_true c,decide_eq_true d,decide_eq_true e,decide_eq_true f];rfl
theorem isT_i {n:Nat}{i:Int}(h0:0<=i)(h1:i<=999999999):isT (n+1) (.int i)=true:=by
 show(decide (0<=i)&&decide (i<=999999999))=true;rw[decide_eq_true h0,decide_eq_true h1];rfl
theorem isT_l {n:Nat}{ts:List Tr}(l:ts.length<=100)(h:∀t∈ts,isT n t=true):isT (n+1) (.tup ts)=true:=by
 show(decide (ts.length<=100)&&ts.all (isT n))=true;rw[decide_eq_true l,List.all_eq_true.mpr h];rfl
structure Hd0 (ag:Int) (kz:List (Str×Int)) (es:List En):Prop where
 ag0:0<=ag/\ag<=999999999
 k3:kz.length<=3
 kn:∀p∈kz,nmR p.1/\0<=p.2/\p.2<=999999999
 kr:(kz.map (·.1)).Pairwise Slt
 e3:es.length<=3
 en:∀e∈es,∃nm kp t,e=.st nm kp EM t/\nmR nm/\kp∈kz.map (·.1)/\tgOk t
 er:(es.map En.nm).Pairwise Slt
def hdT (ag:Int)(kz:List (Str×Int))(es:List En):Tr:=.tup [.int ag,.tup (kz.map kpT),.tup (es.map enT)]
theorem nmR.isT {z:Str}(h:nmR z)(n:Nat):isT (n+1) (.str z)=true:=by
 have l:=h.len;obtain⟨c,k,e,hk,hc⟩:=h;show(decide ((z.length:Int)<=400)&&allIn SG z)=true;rw[decide_eq_true (by omega),Bool.true_and];unfold allIn;rw[List.all_eq_true,e];exact fun x hx=>decide_eq_true (by rw[List.eq_of_mem_replicate hx];exact ln_sg c hc)
theorem nmR.wl {z:Str}(h:nmR z):(wT (.str z)).length<=10:=by
 have l:=h.len;rw[wT_str];simp only[List.length_cons,List.length_map];have:=cod_len z;omega
theorem nmR.sh {z:Str}(h:nmR z)(n:Nat):sh n (.str z)=true:=by
 have l:=h.len;cases n<;>exact decide_eq_true (by omega)
theorem wTs_few {B:Nat}:∀{ts:List Tr},(∀t∈ts,(wT t).length<=B)->(wTs ts).length<=B*ts.length
 |[],_=>Nat.zero_le _
 |t::ts,h=>by
  have h1:=h t List.mem_cons_self;have h2:=wTs_few (ts:=ts) fun x hx=>h x (List.mem_cons_of_mem _ hx)
  show(wT t++wTs ts).length<=_;rw[List.length_append,List.length_cons,Nat.mul_add];omega
theorem isT_em (n:Nat):isT (n+1) (.str EM)=true:=by
 show(decide ((EM.length:Int)<=400)&&allIn SG EM)=true
 decide +kernel
theorem mem2 {α:Type}{P:α->Prop}{a b:α}(ha:P a)(hb:P b):∀x∈[a,b],P x:=fun x hx=>by
 simp only[List.mem_cons,List.not_mem_nil,or_false] at hx;rcases hx with rfl|rfl
 ·exact ha
 ·exact hb
theorem mem3 {α:Type}{P:α->Prop}{a b c:α}(ha:P a)(hb:P b)(hc:P c):∀x∈[a,b,c],P x:=fun x hx=>by
 simp only[List.mem_cons,List.not_mem_nil,or_false] at hx;rcases hx with rfl|rfl|rfl
 ·exact ha
 ·exact hb
 ·exact hc
theorem mem5 {α:Type}{P:α->Prop}{a b c d e:α}(ha:P a)(hb:P b)(hc:P c)(hd:P d)(he:P e):∀x∈[a,b,c,d,e],P x:=fun x hx=>by
 simp only[List.mem_cons,List.not_mem_nil,or_false] at hx;rcases hx with rfl|rfl|rfl|rfl|rfl
 ·exact ha
 ·exact hb
 ·exact hc
 ·exact hd
 ·exact he
theorem sh_i (n:Nat)(i:Int):sh n (.int i)=true:=by cases n<;>rfl
theorem tg_isT {t:Int×Int×Int}(h:tgOk t)(n:Nat):isT (n+2) (tgT t)=true:=by
 obtain⟨⟨a,b⟩,⟨c,d⟩,e,f⟩:=h;exact isT_l (by show 3<=100;decide) (mem3 (isT_i (by omega) (by omega)) (isT_i c d) (isT_i e (by omega)))
theorem kp_isT {p:Str×Int}(h:nmR p.1/\0<=p.2/\p.2<=999999999)(n:Nat):isT (n+2) (kpT p)=true:=isT_l (by show 2<=100;decide) (mem2 (h.1.isT n) (isT_i h.2.1 h.2.2))
theorem kp_wl {p:Str×Int}(h:nmR p.1):(wT (kpT p)).length<=14:=by
 have:=h.wl;show(2::(2:Int)::(wT (.str p.1)++(wT (.int p.2)++[]))).length<=14;rw[List.append_nil,List.length_cons,List.length_cons,List.length_append];show _+2+1+1<=14;omega
theorem st_isT {nm kp:Str}{t:Int×Int×Int}(h1:nmR nm)(h2:nmR kp)(h3:tgOk t)(n:Nat):isT (n+3) (enT (.st nm kp EM t))=true:=
 isT_l (by show 5<=100;decide) (mem5 (h1.isT _) (isT_i (by decide) (by decide)) (h2.isT _) (isT_em _) (tg_isT h3 _))
theorem st_wl {nm kp:Str}{t:Int×Int×Int}(h1:nmR nm)(h2:nmR kp):(wT (enT (.st nm kp EM t))).length<=40:=by
 have a:=h1.wl;have b:=h2.wl;have e:wT (enT (.st nm kp EM t))=2::(5:Int)::(wT (.str nm)++([0,1]++(wT (.str kp)++(wT (.str EM)++([2,3,0,t.1,0,t.2.1,0,t.2.2]++[]))))):=rfl;have c:(wT (.str EM)).length=2:=by decide +kernel
 rw[e];simp only[List.length_cons,List.length_append,List.length_nil,c];omega
theorem Hd0.ok {ag:Int}{kz:List (Str×Int)}{es:List En}(h:Hd0 ag kz es):HdT (hdT ag kz es):=by
 have kin:∀{z:Str},z∈kz.map (·.1)->nmR z:=fun hz=>by
  obtain⟨p,hp,rfl⟩:=List.mem_map.mp hz;exact(h.kn p hp).1
 have eT:∀x∈es.map enT,∃nm kp t,x=enT (.st nm kp EM t)/\nmR nm/\nmR kp/\kp∈kz.map (·.1)/\tgOk t:=fun x hx=>by
  obtain⟨e,he,rfl⟩:=List.mem_map.mp hx;obtain⟨nm,kp,t,rfl,a,b,c⟩:=h.en e he;exact⟨nm,kp,t,rfl,a,kin b,b,c⟩
 have kT:∀x∈kz.map kpT,∃p∈kz,x=kpT p:=fun x hx=>by
  obtain⟨p,hp,rfl⟩:=List.mem_map.mp hx;exact⟨p,hp,rfl⟩
 refine⟨?_,?_,?_,?_,?_⟩
 ·refine isT_l (by show 3<=100;decide) (mem3 (isT_i h.ag0.1 h.ag0.2) (isT_l (by rw[List.length_map];have:=h.k3;omega) fun x hx=>?_) (isT_l (by rw[List.length_map];have:=h.e3;omega) fun x hx=>?_))
  ·obtain⟨p,hp,rfl⟩:=kT x hx;exact kp_isT (h.kn p hp) 4
  ·obtain⟨nm,kp,t,rfl,a,b,_,d⟩:=eT x hx;exact st_isT a b d 3
 ·have l1:=wTs_few (B:=14) (ts:=kz.map kpT) fun x hx=>by
   obtain⟨p,hp,rfl⟩:=kT x hx;exact kp_wl (h.kn p hp).1
  have l2:=wTs_few (B:=40) (ts:=es.map enT) fun x hx=>by
   obtain⟨nm,kp,t,rfl,a,b,_⟩:=eT x hx;exact st_wl a b
  have e:wT (hdT ag kz es)=2::(3:Int)::([0,ag]++((2::((kz.map kpT).length:Int)::wTs (kz.map kpT))++((2::((es.map enT).length:Int)::wTs (es.map enT))++[]))):=rfl;rw[List.length_map] at l1 l2;have k3:=h.k3;have e3:=h.e3;rw[e];simp only[List.length_cons,List.length_append,List.length_nil];omega
 ·refine List.all_eq_true.mpr (mem3 (sh_i _ _) (List.all_eq_true.mpr fun x hx=>?_) (List.all_eq_true.mpr fun x hx=>?_))
  ·obtain⟨p,hp,rfl⟩:=kT x hx;exact List.all_eq_true.mpr (mem2 ((h.kn p hp).1.sh _) (sh_i _ _))
  ·obtain⟨nm,kp,t,rfl,a,b,_,d⟩:=eT x hx;exact List.all_eq_true.mpr (mem5 (a.sh _) (sh_i _ _) (b.sh _) (by decide +kernel) (List.all_eq_true.mpr (mem3 (sh_i _ _) (sh_i _ _) (sh_i _ _))))
 ·intro x hx;obtain⟨nm,kp,t,rfl,_⟩:=eT x hx;rfl
 ·refine⟨?_,?_,?_,?_⟩
  ·show(decide (0<=ag)&&decide (ag<=999999999))=true;rw[decide_eq_true h.ag0.1,decide_eq_true h.ag0.2];rfl
  ·show(decide ((kz.map kpT).length<=8)&&((kz.map kpT).all keeperT&&riseB ((kz.map kpT).map nm0)))=true;rw[List.length_map,decide_eq_true (by have:=h.k3;omega),Bool.true_and,Bool.and_eq_true];refine⟨List.all_eq_true.mpr fun x hx=>?_,?_⟩
   ·obtain⟨p,hp,rfl⟩:=kT x hx;obtain⟨a,b,c⟩:=h.kn p hp;show(nameB (.str p.1)&&(decide (0<=p.2)&&decide (p.2<=999999999)))=true;rw[a.name,decide_eq_true b,decide_eq_true c];rfl
   ·rw[rise_iff,List.map_map];exact h.kr
  ·show(decide ((es.map enT).length<=24)&&((es.map enT).all (fun t=>stemT t||sealT t)&&riseB ((es.map enT).map nm0)))=true;rw[List.length_map,decide_eq_true (by have:=h.e3;omega),Bool.true_and,Bool.and_eq_true];refine⟨List.all_eq_true.mpr fun x hx=>?_,?_⟩
   ·obtain⟨nm,kp,t,rfl,a,b,_,d⟩:=eT x hx;have:stemT (enT (.st nm kp EM t))=true:=by
     show(sB 1 1 (.int 1)&&(nameB (.str nm)&&(nameB (.str kp)&&((decide (EM=EM)||nameB (.str EM))&&tagT (tgT t)))))=true;rw[a.name,b.name,tag_ok d];rfl
    rw[this];rfl
   ·rw[rise_iff,List.map_map,show es.map (nm0∘enT)=es.map En.nm from List.map_congr_left fun e _=>nm_en e];exact h.er
  ·have ek:(kz.map kpT).map nm0=kz.map (·.1):=by rw[List.map_map];rfl
   rw[ek,List.map_map,show(deT∘enT)=id from funext de_en,List.map_id];have stm:∀e∈es,∃nm kp t,e=.st nm kp EM t/\kp∈kz.map (·.1):=fun e he=>by
    obtain⟨nm,kp,t,rfl,_,b,_⟩:=h.en e he;exact⟨nm,kp,t,rfl,b⟩
   refine⟨fun nm kp og t he=>?_,?_,fun nm kp og t he=>?_,fun nm sm tn t he=>?_,fun _ _ _ _ _ _ _ _ _ _ _ he=>?_⟩
   ·obtain⟨_,_,_,e,b⟩:=stm _ he;cases e;exact b
   ·rw[List.filter_eq_nil_iff.mpr fun e he=>by obtain⟨_,_,_,rfl,_⟩:=stm _ he;simp[En.isS]];exact List.nodup_nil
   ·obtain⟨_,_,_,e,b⟩:=stm _ he;cases e;exact .inl rfl
   ·obtain⟨_,_,_,e,b⟩:=stm _ he;cases e
   ·obtain⟨_,_,_,e,b⟩:=stm _ he;cases e
open M38
section
variable {P:Program}{w:World}{K:W.Frag}{mg:Str->Option Value}{base:Heap}{f C_WordReader C_Boards:Addr}{XC:Nat->Addr}{fd:FuncData}
theorem mul_cod (c:Nat){n:Int}(h:0<=n):cod (PySem.Txt.mul ⟨#[c]⟩ n)=List.replicate n.toNat c:=by
 show(PySem.Txt.mul ⟨#[c]⟩ n).cps.toList=_;rw[PyProof.Rows.mul_one_list]
abbrev KK:Str:=PySem.Str.ofString "k"
theorem kk_one:KK=⟨#[107]⟩:=by decide +kernel
theorem rep_lt {x:Nat}:∀{a b:Nat},a<b->List.replicate a x<List.replicate b x
 |0,b+1,_=>by rw[List.replicate_succ];exact List.nil_lt_cons _ _
 |a+1,b+1,h=>by
  rw[List.replicate_succ,List.replicate_succ];exact List.cons_lt_cons_iff.mpr (.inr ⟨rfl,rep_lt (by omega)⟩)
theorem en_updL {H:Hp}{p:Addr×En}{l:Addr}{us us':List V}(h:EnAt H p)(hl:H l=some (.lst us)):EnAt (upd H l (.lst us')) p:=by
 obtain⟨ta,h1,h2⟩:=h;exact⟨ta,by rw[upd_ne fun z=>by rw[z,hl] at h1;cases h1];exact h1,by rw[upd_ne fun z=>by rw[z,hl] at h2;cases h2];exact h2⟩
def sp__law_head (K:W.Frag):Sp:=fun vs H Q _=>∃(r:Addr) (rs:List Int),vs=[.ref r]/\SqL K H r (rs.map V.int)/\rs.length=12/\(∀x∈rs,0<=x/\x<1000000)/\∀v t H',Same H H'->HdT t->Rep NL H' t v->Q v H'
theorem ok__law_head (T:Txt K mg C_WordReader C_Boards XC)(F:Fun K "_law_head" "_law_head" s__law_head f fd):FnOk P w K mg base CX0 1 f fd ["_law_row_here"] (sp__law_head K):=by
 exists sc__law_head
 ·obtain⟨r,rs,rfl,_⟩:=h;rfl
 obtain⟨r,rs,rfl,hrs,lr,br,q⟩:=h;have hu:=hu_of hr;refine⟨_,(!pss_cons (@ps_setC _ ["_law_k","_law_row_here"] [none,some 0] (1) _ _ _ _ _ _ _ _ _ _ _ _ _ _ sc__law_head.nd rfl (by trivial) rfl (!pi_range1 rfl T.b_range (!pa_cons (!pe_op op_add (!pe_int) (!pe_op op_mod (!pe_ix ix_list (pv 0) (!pe_int) (fun _ _=>rfl)) (!pe_int))) (!pa_nil))) (by rfl) rfl (by repeat (first|exact trivial|refine⟨rfl,?_⟩)) (by repeat (first|exact trivial|refine⟨fun h=>(by first|exact⟨_,rfl⟩|cases h),?_⟩)) (fun C s H fp=>⟨(@pg_name _ _ (0) _ (show(["_law_k","_law_row_here"]:List Str).Nodup by decide +kernel) rfl (by trivial) (by trivial)),(!pifs_nil),(!pe_tup (!pa_cons (!pe_op op_mul_str (!pe_str) (!pe_op op_add (!pe_op op_add (!pe_int) (pv 0)) (!pe_op op_mod (!pe_ix (ix_listK (K:=K) (by rfl)) (pv 1) (!pe_int) (fun _ _=>rfl)) (!pe_int)))) (!pa_cons (!pe_op op_mod (!pe_op op_mul (!pe_ix (ix_listK (K:=K) (by rfl)) (pv 1) (pv 0) (fun _ _=>rfl)) (!pe_int)) (!pe_op op_pow (!pe_int) (!pe_int))) (!pa_nil))))⟩) (by intro _;rfl) (by rfl) (by trivial)) (!pss_cons (@ps_set _ _ (2) _ _ _ _ sc__law_head.nd rfl (by trivial) (!pe_lst (!pa_nil)) (by rfl) (by trivial)) (!pss_cons (!ps_for PassesOwn.never rfl (!pi_range1 rfl T.b_range (!pa_cons (!pe_op op_mod (!pe_ix ix_list (pv 0) (!pe_int) (fun _ _=>rfl)) (!pe_int)) (!pa_nil))) (@pg_name _ _ (3) _ sc__law_head.nd rfl (by trivial) (by trivial)) (!pss_cons (@ps_set _ _ (4) _ _ _ _ sc__law_head.nd rfl (by trivial) (!pe_tup (!pa_cons (!pe_op op_add (!pe_int) (!pe_op op_mod (!pe_ix ix_list (pv 0) (!pe_int) (fun _ _=>rfl)) (!pe_int))) (!pa_cons (!pe_ix ix_list (pv 0) (!pe_op op_add (!pe_int) (pv 3)) (fun _ _=>rfl)) (!pa_cons (!pe_op op_mod (!pe_ix ix_list (pv 0) (!pe_int) (fun _ _=>rfl)) (!pe_int)) (!pa_nil))))) (by rfl) (by trivial)) (!pss_one (!ps_expr (!pe_bm PySem.F.plainAttrs_list PySem.F.slot_list_append PySem.F.type_list_append mt_append (pv 2) (!pa_cons (!pe_tup (!pa_cons (!pe_op op_mul_str (!pe_ix ix_str (!pe_str) (!pe_op op_mod (pv 3) (!pe_int)) (fun _ _=>rfl)) (!pe_op op_add (!pe_int) (!pe_op op_mod (!pe_ix ix_list (pv 0) (!pe_int) (fun _ _=>rfl)) (!pe_int)))) (!pa_cons (!pe_int) (!pa_cons (!pe_ix ix_tup (!pe_ix ix_list (pv 1) (!pe_op op_mod (pv 3) (!pe_callB call_len_seq (by rfl) T.b_len bt_len (!pa_cons (pv 1) (!pa_nil)))) (fun _ _=>rfl)) (!pe_int) (fun _ _=>rfl)) (!pa_cons (!pe_str) (!pa_cons (pv 4) (!pa_nil))))))) (!pa_nil)))))) (by intro _;rfl)) (!pss_one (!ps_ret (!pe_tup (!pa_cons (!pe_ix ix_list (!pe_lst (!pa_cons (!pe_op op_mod (!pe_ix ix_list (pv 0) (!pe_int) (fun _ _=>rfl)) (!pe_int)) (!pa_cons (!pe_op op_mod (!pe_op op_mul (!pe_ix ix_list (pv 0) (!pe_int) (fun _ _=>rfl)) (!pe_int)) (!pe_op op_pow (!pe_int) (!pe_int))) (!pa_nil)))) (!pe_op op_mod (!pe_ix ix_list (pv 0) (!pe_int) (fun _ _=>rfl)) (!pe_int)) (fun _ _=>rfl)) (!pa_cons (!pe_callTy call_tuple_of (by rfl) T.b_tuple bt_tuple (!pa_cons (pv 1) (!pa_nil))) (!pa_cons (!pe_callTy call_tuple_of (by rfl) T.b_tuple bt_tuple (!pa_cons (!pe_callB (call_sortTT (K:=K) (by rfl)) (by rfl) T.b_sorted bt_sorted (!pa_cons (pv 2) (!pa_nil))) (!pa_nil))) (!pa_nil)))))))))),?_⟩
 try dsimp only[cxOf,Cx.nox,Cx.wish]
 have xx:∀j:Nat,j<12->atI (rs.map V.int) (j:Int)=some (.int (rs.getD j 0)):=fun j hj=>by
  have:=at_int (ns:=rs) (i:=(j:Int)) (by omega) (by omega);rw[Int.toNat_natCast] at this;exact this
 have bnd:∀j:Nat,j<12->0<=rs.getD j 0/\rs.getD j 0<1000000:=fun j hj=>by
  refine br _ ?_;rw[List.getD,List.getElem?_eq_getElem (by omega)];exact List.getElem_mem _
 have m0:=Int.emod_nonneg (rs.getD 1 0) (show(3:Int)≠0 by decide);have m1:=Int.emod_lt_of_pos (rs.getD 1 0) (show(0:Int)<3 by decide);have c0:=Int.emod_nonneg (rs.getD 0 0) (show(5:Int)≠0 by decide);have c1:=Int.emod_lt_of_pos (rs.getD 0 0) (show(0:Int)<5 by decide);refine⟨_,rfl,r,_,_,_,rfl,rfl,hrs,xx 1 (by decide),_,_,rfl,rfl,(by show(0:Int)<3;decide),_,_,rfl,rfl,_,rfl,by omega,by omega,?_⟩;obtain⟨m,hm⟩:∃m:Nat,(1+rs.getD 1 0%3).toNat=m:=⟨_,rfl⟩
 have hm1:1<=m/\m<=3:=by omega
 rw[hm];obtain⟨ks,eks⟩:∃ks:Nat->Str×Int,ks=fun(i:Nat)=>(PySem.Txt.mul KK (1+(i:Int)+rs.getD 0 0%5),rs.getD i 0*1000%(10^(9:Int).toNat)):=⟨_,rfl⟩
 refine comp_new (fun i _ y H2=>∃b,y=.ref b/\H2 b=some (.tup [.str (ks i).1,.int (ks i).2])) (fun i H1 y H2 H3 h s=>let⟨b,e1,e2⟩:=h;⟨b,e1,s.get e2⟩) (fun i H1 y H2 l us us' ws h _ hl=>?_) itIs_range (by rw[List.length_map,List.length_range];omega) (fun i x H' R hx s' hR=>?_) fun l H1 ys n1 s1 h1 l1 hy=>?_
 ·obtain⟨b,e1,e2⟩:=h;exact⟨b,e1,by rw[upd_ne fun z=>by rw[z,hl] at e2;cases e2];exact e2⟩
 ·rw[List.getElem?_map] at hx;obtain⟨i',hi',rfl⟩:=Option.map_eq_some_iff.mp hx;obtain⟨il,ei⟩:=List.getElem?_eq_some_iff.mp hi';rw[List.length_range] at il;rw[List.getElem_range] at ei;subst ei;rw[Int.zero_add];have bi:=bnd i (by omega);refine⟨_,rfl,_,_,rfl,rfl,_,rfl,r,_,_,_,rfl,rfl,s'.seq hrs,xx 0 (by decide),_,_,rfl,rfl,(by show(0:Int)<5;decide),_,_,rfl,rfl,_,_,rfl,rfl,by omega,by omega,(by decide +kernel),?_⟩;refine⟨_,rfl,_,rfl,r,_,_,_,rfl,rfl,s'.seq hrs,xx i (by omega),_,_,rfl,rfl,.inl ⟨by omega,by omega⟩,_,_,rfl,rfl,⟨by decide,by decide,by decide⟩,_,_,rfl,rfl,(by show(0:Int)<10^Int.toNat 9;decide),sm_2,fun b nb=>hR _ _ (same_new nb _) ⟨b,rfl,?_⟩⟩;rw[eks];exact upd_same
 rw[List.length_map,List.length_range] at l1;have kh:∀j,j<m->∃b,ys[j]?=some (.ref b)/\H1 b=some (.tup [.str (ks j).1,.int (ks j).2]):=fun j hj=>by
  have e:=List.getElem?_eq_getElem (l:=ys) (i:=j) (by omega);obtain⟨_,_,b,e1,e2⟩:=hy j _ e;exact⟨b,by rw[e,e1],e2⟩
 have kname:∀j,j<m->nmR (ks j).1:=fun j hj=>by
  rw[eks];refine⟨107,(1+(j:Int)+rs.getD 0 0%5).toNat-1,?_,by omega,by decide +kernel⟩;show cod (PySem.Txt.mul KK _)=_;rw[kk_one,mul_cod _ (by omega)]
  congr 1
  omega
 have kri:((List.range m).map fun j=>(ks j).1).Pairwise Slt:=by
  refine List.pairwise_iff_getElem.mpr fun i j hi hj hij=>?_
  rw[List.length_map,List.length_range] at hi hj;rw[List.getElem_map,List.getElem_map,List.getElem_range,List.getElem_range,eks];show cod (PySem.Txt.mul KK _)<cod (PySem.Txt.mul KK _);rw[kk_one,mul_cod _ (by omega),mul_cod _ (by omega)];exact rep_lt (by omega)
 have kbd:∀j,j<m->0<=(ks j).2/\(ks j).2<=999999999:=fun j hj=>by
  rw[eks];have a:=Int.emod_nonneg (rs.getD j 0*1000) (show(10^(9:Int).toNat:Int)≠0 by decide);have b:=Int.emod_lt_of_pos (rs.getD j 0*1000) (show(0:Int)<10^(9:Int).toNat by decide);have:(10^(9:Int).toNat:Int)=1000000000:=by decide
  exact⟨a,by show rs.getD j 0*1000%(10^(9:Int).toNat)<=_;omega⟩
 refine⟨sm_0,fun g ng=>?_⟩;have s2:=same_new ng (.lst []);have s02:=s1.trans s2;have n0:=Int.emod_nonneg (rs.getD 2 0) (show(4:Int)≠0 by decide);have n4:=Int.emod_lt_of_pos (rs.getD 2 0) (show(0:Int)<4 by decide);refine⟨_,rfl,r,_,_,_,rfl,rfl,s02.seq hrs,xx 2 (by decide),_,_,rfl,rfl,(by show(0:Int)<4;decide),_,rfl,by omega,by omega,?_⟩;obtain⟨nn,hnn⟩:∃nn:Nat,(rs.getD 2 0%4).toNat=nn:=⟨_,rfl⟩
 rw[hnn];have nn3:nn<=3:=by omega
 refine for_range (lo:=0) (n:=nn) (fun j σ H5=>∃(ps:List (Addr×En)) (v3 v4:Option V),σ=[some (.ref r),some (.ref l),some (.ref g),v3,v4]/\Same H1 H5/\H5 g=some (.lst (ps.map fun p=>V.ref p.1))/\(∀p∈ps,EnAt H5 p)/\(ps.map fun p=>p.2.nm)=(List.range j).map (fun k=>PySem.Txt.mul ⟨#[([97,98,48]:List Nat).getD k 0]⟩ (1+rs.getD 6 0%8))/\∀p∈ps,∃nm kp t,p.2=.st nm kp EM t/\nmR nm/\kp∈(List.range m).map (fun j=>(ks j).1)/\tgOk t)
  ⟨[],none,none,rfl,s2,upd_same,(fun _ h=>nomatch h),rfl,(fun _ h=>nomatch h)⟩ ?_ ?_
 ·rintro j σ H5 jl ⟨ps,v3,v4,rfl,s5,hg5,en5,nm5,ok5⟩
  rw[Int.zero_add];have s05:=s1.trans s5;have b3:=bnd 3 (by decide);have b5:=bnd 5 (by decide);have b4:=bnd (4+j) (by omega);have t0:=Int.emod_nonneg (rs.getD 3 0) (show(99999:Int)≠0 by decide);have t1:=Int.emod_lt_of_pos (rs.getD 3 0) (show(0:Int)<99999 by decide);have u0:=Int.emod_nonneg (rs.getD 5 0) (show(997:Int)≠0 by decide);have u1:=Int.emod_lt_of_pos (rs.getD 5 0) (show(0:Int)<997 by decide);have w0:=Int.emod_nonneg (rs.getD 6 0) (show(8:Int)≠0 by decide);have w1:=Int.emod_lt_of_pos (rs.getD 6 0) (show(0:Int)<8 by decide);refine⟨_,rfl,r,_,_,_,rfl,rfl,s05.seq hrs,xx 3 (by decide),_,_,rfl,rfl,(by show(0:Int)<99999;decide),_,_,rfl,rfl,_,rfl,_,rfl,_,_,rfl,rfl,r,_,_,_,rfl,rfl,s05.seq hrs,(by rw[show(4:Int)+(j:Int)=((4+j:Nat):Int) by omega];exact xx (4+j) (by omega)),_,rfl,r,_,_,_,rfl,rfl,s05.seq hrs,xx 5 (by decide),_,_,rfl,rfl,(by show(0:Int)<997;decide),sm_3,fun ta nta=>?_⟩;have s6:=same_new nta (.tup [V.int (1+rs.getD 3 0%99999),V.int (rs.getD (4+j) 0),V.int (rs.getD 5 0%997)]);have s06:=s05.trans s6;have hg6:=s6.get hg5;have hl6:=(s5.trans s6).get h1;have jm:(j:Int)%(ys.length:Int)=((j%m:Nat):Int):=by rw[l1];rfl
  obtain⟨b,eb,hb⟩:=kh (j%m) (Nat.mod_lt _ (by omega));have hb6:=(s5.trans s6).get hb;have j3:(j:Int)%3=(j:Int):=by omega
  have hc:atI (PySem.Str.ofString "ab0").cps.toList (j:Int)=some (([97,98,48]:List Nat).getD j 0):=by
   have:j=0\/j=1\/j=2:=by omega
   rcases this with rfl|rfl|rfl<;>decide +kernel
  refine⟨_,rfl,.inl ⟨rfl,_,SqL.of hg6⟩,_,rfl,_,_,rfl,rfl,(by show(0:Int)<3;decide),PySem.Str.ofString "ab0",_,_,rfl,rfl,small (by decide +kernel),(by rw[j3];exact hc),?_⟩;refine⟨_,rfl,r,_,_,_,rfl,rfl,s06.seq hrs,xx 6 (by decide),_,_,rfl,rfl,(by show(0:Int)<8;decide),_,_,rfl,rfl,_,_,rfl,rfl,by omega,by omega,(by show 1<=1000;decide),?_⟩;refine⟨_,rfl,_,rfl,_,rfl,l,_,rfl,.inl (SqL.of hl6),_,_,rfl,rfl,(by show(0:Int)<(ys.length:Int);omega),l,_,_,_,rfl,rfl,SqL.of hl6,(by rw[jm];exact atI_nat eb),b,_,_,_,rfl,rfl,SqT.of hb6,atI_nat (j:=0) rfl,_,rfl,sm_5,fun pn np=>?_⟩;have s7:=same_new np (.tup ((En.st (PySem.Txt.mul ⟨#[([97,98,48]:List Nat).getD j 0]⟩ (1+rs.getD 6 0%8)) (ks (j%m)).1 EM (1+rs.getD 3 0%99999,rs.getD (4+j) 0,rs.getD 5 0%997)).items ta));have hg7:=s7.get hg6;have pl:ps.length=j:=by
   have:=congrArg List.length nm5;rw[List.length_map,List.length_map,List.length_range] at this;exact this
  refine⟨g,_,_,rfl,rfl,hg7,smallLt (by rw[List.length_map];omega),?_⟩;refine⟨ps++[(pn,.st (PySem.Txt.mul ⟨#[([97,98,48]:List Nat).getD j 0]⟩ (1+rs.getD 6 0%8)) (ks (j%m)).1 EM (1+rs.getD 3 0%99999,rs.getD (4+j) 0,rs.getD 5 0%997))],_,_,rfl,same_upd ((s5.trans s6).trans s7) ng _,by rw[upd_same,List.map_append];rfl,fun p hp=>?_,?_,fun p hp=>?_⟩
  ·rcases List.mem_append.mp hp with hp|hp
   ·exact en_updL ((en5 p hp).same (s6.trans s7)) hg7
   ·rw[List.mem_singleton.mp hp];exact en_updL ⟨ta,s7.get upd_same,upd_same⟩ hg7
  ·rw[List.map_append,nm5,List.range_succ,List.map_append];rfl
  ·rcases List.mem_append.mp hp with hp|hp
   ·exact ok5 p hp
   ·rw[List.mem_singleton.mp hp];refine⟨_,_,_,rfl,⟨([97,98,48]:List Nat).getD j 0,(rs.getD 6 0%8).toNat,?_,by omega,?_⟩,List.mem_map.mpr ⟨j%m,List.mem_range.mpr (Nat.mod_lt _ (by omega)),rfl⟩,⟨by show 1<=1+rs.getD 3 0%99999;omega,by show 1+rs.getD 3 0%99999<=999999;omega⟩,⟨b4.1,by show rs.getD (4+j) 0<=999999999;omega⟩,u0,by show rs.getD 5 0%997<=996;omega⟩
    ·rw[mul_cod _ (by omega),show(1+rs.getD 6 0%8).toNat=(rs.getD 6 0%8).toNat+1 by omega]
    ·have:j=0\/j=1\/j=2:=by omega
     rcases this with rfl|rfl|rfl<;>decide +kernel
 ·rintro σ H5 ⟨ps,v3,v4,rfl,s5,hg5,en5,nm5,ok5⟩
  have s05:=s1.trans s5;have b7:=bnd 7 (by decide);refine⟨_,rfl,r,_,_,_,rfl,rfl,s05.seq hrs,xx 7 (by decide),_,_,rfl,rfl,(by show(0:Int)<4;decide),_,rfl,r,_,_,_,rfl,rfl,s05.seq hrs,xx 7 (by decide),_,_,rfl,rfl,.inl ⟨by omega,by omega⟩,_,_,rfl,rfl,⟨by decide,by decide,by decide⟩,_,_,rfl,rfl,(by show(0:Int)<10^Int.toNat 9;decide),sm_2,fun L nL=>?_⟩;have s6:=same_new nL (.lst [V.int (rs.getD 7 0%4),V.int (rs.getD 7 0*1000%10^Int.toNat 9)]);have s06:=s05.trans s6;obtain⟨ag,AT,ag0⟩:∃ag:Int,atI [V.int (rs.getD 7 0%4),V.int (rs.getD 7 0*1000%10^Int.toNat 9)] (rs.getD 8 0%2)=some (.int ag)/\0<=ag/\ag<=999999999:=by
   have:rs.getD 8 0%2=0\/rs.getD 8 0%2=1:=by omega
   have a:=Int.emod_nonneg (rs.getD 7 0*1000) (show(10^(9:Int).toNat:Int)≠0 by decide);have b:=Int.emod_lt_of_pos (rs.getD 7 0*1000) (show(0:Int)<10^(9:Int).toNat by decide);have e9:(10^(9:Int).toNat:Int)=1000000000:=by decide
   rcases this with e|e<;>rw[e]
   ·exact⟨_,rfl,by omega,by omega⟩
   ·exact⟨_,rfl,a,by show rs.getD 7 0*1000%(10^(9:Int).toNat)<=_;omega⟩
  refine⟨_,rfl,r,_,_,_,rfl,rfl,s06.seq hrs,xx 8 (by decide),_,_,rfl,rfl,(by show(0:Int)<2;decide),L,_,_,_,rfl,rfl,SqL.of upd_same,AT,?_⟩;have hl6:=(s5.trans s6).get h1;have hg6:=s6.get hg5;refine⟨_,rfl,l,_,rfl,.inl ⟨SqL.of hl6,fun kt nkt=>?_⟩⟩;have s7:=same_new nkt (.tup ys);have hg7:=s7.get hg6;have s57:=s6.trans s7;have pl:ps.length=nn:=by
   have:=congrArg List.length nm5;rw[List.length_map,List.length_map,List.length_range] at this;exact this
  have pnd:(ps.map fun p=>p.2.nm).Nodup:=by
   rw[nm5];have w0:=Int.emod_nonneg (rs.getD 6 0) (show(8:Int)≠0 by decide);refine List.pairwise_iff_getElem.mpr fun i j hi hj hij e=>?_
   rw[List.length_map,List.length_range] at hi hj;rw[List.getElem_map,List.getElem_map,List.getElem_range,List.getElem_range] at e;have e:=congrArg cod e;rw[mul_cod _ (by omega),mul_cod _ (by omega),show(1+rs.getD 6 0%8).toNat=(rs.getD 6 0%8).toNat+1 by omega,List.replicate_succ,List.replicate_succ] at e;have e:=(List.cons.inj e).1;have hi':i=0\/i=1\/i=2:=by omega
   have hj':j=0\/j=1\/j=2:=by omega
   rcases hi' with rfl|rfl|rfl<;>rcases hj' with rfl|rfl|rfl<;>first|omega|exact absurd e (by decide)
  refine⟨_,rfl,g,ps.map fun p=>(p.1,p.2.nm),rfl,SqL.of (by rw[List.map_map];exact hg7),by rw[List.length_map];omega,fun t ht=>?_,?_,fun us p9 up us2 n9=>?_⟩
  ·obtain⟨p,hp,rfl⟩:=List.mem_map.mp ht;obtain⟨rr,hrr⟩:=(en5 p hp).fst;exact⟨rr,SqT.of (s57.get hrr)⟩
  ·rw[List.map_map];exact pnd
  obtain⟨us',q1,rfl⟩:=perm_lift up rfl;rw[List.map_map];have s8:=same_new n9 (.lst (us'.map ((fun t:Addr×Str=>V.ref t.1)∘fun p:Addr×En=>(p.1,p.2.nm))));refine⟨p9,_,rfl,.inl ⟨SqL.of upd_same,fun nt nnt=>?_⟩⟩;have s9:=same_new nnt (.tup (us'.map ((fun t:Addr×Str=>V.ref t.1)∘fun p:Addr×En=>(p.1,p.2.nm))));refine⟨sm_3,fun hh nhh=>?_⟩;have s10:=same_new nhh (.tup [V.int ag,V.ref kt,V.ref nt]);have s510:=((s57.trans s8).trans s9).trans s10;have hkt:=((s8.trans s9).trans s10).get (show(upd _ kt (.tup ys)) kt=some (.tup ys) from upd_same (H:=upd H5 L (.lst [V.int (rs.getD 7 0%4),V.int (rs.getD 7 0*1000%10^Int.toNat 9)])));have hnt:(upd (upd (upd (upd (upd H5 L (.lst [V.int (rs.getD 7 0%4),V.int (rs.getD 7 0*1000%10^Int.toNat 9)])) kt (.tup ys)) p9 (.lst (us'.map ((fun t:Addr×Str=>V.ref t.1)∘fun p:Addr×En=>(p.1,p.2.nm))))) nt (.tup (us'.map ((fun t:Addr×Str=>V.ref t.1)∘fun p:Addr×En=>(p.1,p.2.nm))))) hh (.tup [V.int ag,V.ref kt,V.ref nt])) nt=some (.tup (us'.map fun p=>V.ref p.1)):=s10.get upd_same;have ndu:(us'.map fun p=>p.2.nm).Nodup:=(q1.map fun p=>p.2.nm).nodup_iff.mpr pnd;have inps:∀p∈us',p∈ps:=fun p hp=>q1.mem_iff.mp hp
  refine q _ (hdT ag ((List.range m).map ks) (us'.map (·.2))) _ (s05.trans s510) (Hd0.ok ⟨ag0,by rw[List.length_map,List.length_range];omega,fun p hp=>?_,by rw[List.map_map];exact kri,by rw[List.length_map,q1.length_eq];omega,fun e he=>?_,?_⟩) ⟨hh,_,rfl,upd_same,_,_,rfl,rfl,_,_,rfl,⟨kt,_,rfl,hkt,?_⟩,_,_,rfl,⟨nt,_,rfl,hnt,reps_en fun p hp=>(en5 p (inps p hp)).same s510⟩,rfl⟩
  ·obtain⟨j,hj,rfl⟩:=List.mem_map.mp hp;have hj:=List.mem_range.mp hj;exact⟨kname j hj,kbd j hj⟩
  ·obtain⟨p,hp,rfl⟩:=List.mem_map.mp he;obtain⟨nm,kp,t,e1,e2,e3,e4⟩:=ok5 p (inps p hp);exact⟨nm,kp,t,e1,e2,by rw[List.map_map];exact e3,e4⟩
  ·rw[List.map_map];exact rise_of (by rw[List.map_map] at us2;exact us2) ndu
  ·refine reps_of (by rw[List.length_map,List.length_map,List.length_range,l1]) fun i t v h1' h2'=>?_
   rw[List.map_map,List.getElem?_map] at h1';obtain⟨i',hi',rfl⟩:=Option.map_eq_some_iff.mp h1';obtain⟨il,ei⟩:=List.getElem?_eq_some_iff.mp hi';rw[List.length_range] at il;rw[List.getElem_range] at ei;subst ei;obtain⟨b,eb,hb⟩:=kh i il;rw[eb] at h2';cases h2';exact⟨b,_,rfl,(s5.trans s510).get hb,_,_,rfl,rfl,_,_,rfl,rfl,rfl⟩
end
open M38
section
variable {P:Program}{w:World}{K:W.Frag}{mg:Str->Option Value}{base:Heap}{f C_WordReader C_Boards:Addr}{XC:Nat->Addr}{fd:FuncData}
theorem vals3 {x y z:Addr}:∀us,Vals [V.ref x,V.ref y,V.ref z] us->us=[Value.ref x,Value.ref y,Value.ref z]:=fun us h=>by
 cases h with
 |cons h1 t=>
  cases t with
  |cons h2 t=>
   cases t with
   |cons h3 t=>
    cases t;rw[show _=Value.ref x from h1,show _=Value.ref y from h2,show _=Value.ref z from h3]
def sp__law_is_stopped (K:W.Frag)(C:Addr):Sp:=fun vs H Q _=>∃p ds bs n,∃(k:Nat) (v:V) (t:Tr),vs=[.ref p,v]/\BAt C H p ds bs n (.int (k:Int))/\bs.length<=4/\(∀c∈bs,c.length<900)/\Rep NL H t v/\isT 8 t=true/\(wT t).length<=900/\
 ∀H' lf,BAt C H' p ds (wrt bs (sealW t) (min k bs.length)) (n+((min k bs.length:Nat):Int)) lf->Kb H H' p ds->Q (.bl (decide (k<bs.length))) H'
theorem ok__law_is_stopped (T:Txt K mg C_WordReader C_Boards XC)(F:Fun K "_law_is_stopped" "_law_is_stopped" s__law_is_stopped f fd)(D_lay_head:DefX P w K mg base 11 "lay_head" ["boards","head"] (sp_lay_head K C_Boards XC)):FnOk P w K mg base CX0 12 f fd ["_law_boards","_law_head_here"] (sp__law_is_stopped K C_Boards):=by
 exists sc__law_is_stopped
 ·obtain⟨p,ds,bs,n,k,v,t,rfl,_⟩:=h;rfl
 obtain⟨p,ds,bs,n,k,v,t,rfl,hB,b4,bb,hv,it,lw,q⟩:=h;refine⟨_,(!pss_cons (!ps_try ⟨rfl,rfl⟩ T.x_Stopped rfl (!pxs_one (!px_expr (!pex_fn D_lay_head (by trivial) rfl (!pa_cons (pv 0) (!pa_cons (pv 1) (!pa_nil)))))) (!pss_nil) (fun e=>(!pss_one (!ps_ret (!pe_bl))))) (!pss_one (!ps_ret (!pe_bl)))),?_⟩
 try dsimp only[cxOf]
 refine⟨_,rfl,_,rfl,p,ds,bs,n,k,v,t,rfl,hB,b4,bb,hv,it,lw,fun kl H' hB' kb=>?_,fun kl H' hB' kb=>?_⟩
 ·refine⟨T.m_Stopped_Stopped,?_⟩;have:=q H' (.int 0) (by rw[Nat.min_eq_left (Nat.le_of_lt kl)];exact hB') kb;rw[decide_eq_true kl] at this;exact this
 ·have:=q H' _ (by rw[Nat.min_eq_right kl];exact hB') kb;rw[decide_eq_false (by omega)] at this;exact this
def sp__law_told (K:W.Frag)(C:Addr):Sp:=fun vs H Q _=>∃p ds bs n lf ks,vs=[.ref p]/\BAt C H p ds bs n lf/\bs.length<=4/\Kep ks bs/\(best ks=none->∀H',Same H H'->Q .non H')/\(∀t v H',best ks=some t->Same H H'->Rep NL H' t v->Q v H')
theorem ok__law_told (T:Txt K mg C_WordReader C_Boards XC)(F:Fun K "_law_told" "_law_told" s__law_told f fd)(D_head_of:DefX P w K mg base 16 "head_of" ["boards"] (sp_head_of K C_Boards XC)):FnOk P w K mg base CX0 17 f fd ["_law_boards"] (sp__law_told K C_Boards):=by
 exists sc__law_told
 ·obtain⟨p,ds,bs,n,lf,ks,rfl,_⟩:=h;rfl
 obtain⟨p,ds,bs,n,lf,ks,rfl,hB,b4,kep,q0,q⟩:=h;refine⟨_,(!pss_cons (@ps_tryAs _ _ _ _ _ _ _ _ _ _ _ (2) _ _ _ ⟨rfl,rfl⟩ T.x_StemError rfl sc__law_told.nd rfl rfl (!pxs_one (@px_set _ _ _ (1) _ _ _ sc__law_told.nd rfl (by trivial) (!pex_fn D_head_of (by trivial) rfl (!pa_cons (pv 0) (!pa_nil))) (by rfl) (by trivial))) (!pss_nil) (fun e=>(!pss_cons (!ps_if (@PW.pt _ _ _ (!pw_or (!pt_val (!pe_callB (call_isXT (K:=K) (by rfl)) (by rfl) T.b_isinstance bt_isinstance (!pa_cons (pv 2) (!pa_cons (!pe_tup (!pa_cons (!pe_xcl rfl T.x_Lost) (!pa_cons (!pe_xcl rfl T.x_NoThing) (!pa_cons (!pe_xcl rfl T.x_Stopped) (!pa_nil))))) (!pa_nil)))) (by intro _;rfl)) (!pw_or1 (!pt_not (!pt_val (!pe_callB (call_isXK (K:=K) (by rfl)) (by rfl) T.b_isinstance bt_isinstance (!pa_cons (pv 2) (!pa_cons (!pe_ty rfl T.b_ValueError bt_ValueError) (!pa_nil)))) (by intro _;rfl)))))) (!pss_one (!ps_ret (!pe_str))) (!pss_nil)) (!pss_one (!ps_ret (!pe_ix (ix_listK (K:=K) (by rfl)) (!pe_lst (!pa_cons (!pe_non) (!pa_cons (!pe_str) (!pa_nil)))) (!pe_callTy call_int1 (by rfl) T.b_int bt_int (!pa_cons (!pe_not (!pe_callB (call_isXK (K:=K) (by rfl)) (by rfl) T.b_isinstance bt_isinstance (!pa_cons (pv 2) (!pa_cons (!pe_xcl rfl T.x_NoHouse) (!pa_nil))))) (!pa_nil))) (fun _ _=>rfl)))))) (by decide)) (!pss_one (!ps_ret (pv 1)))),?_⟩
 try dsimp only[cxOf]
 refine⟨_,rfl,p,ds,bs,n,lf,ks,rfl,hB,b4,kep,fun e0 H1 s1=>⟨T.m_NoHouse_StemError,XC 2,rfl,fun ea hea=>?_⟩,fun t v H1 et s1 rv=>?_⟩
 ·have se:=same_new hea (excO ea (XC 2));refine⟨_,rfl,sm_3,fun tp htp=>?_⟩;have st:=same_new htp (.tup [V.ref (XC 4),V.ref (XC 0),V.ref (XC 1)]);refine⟨ea,XC 2,tp,_,_,false,rfl,st.get upd_same,T.e_NoHouse,upd_same,vals3,by simp[W.kitAny,T.k_NoHouse_Lost,T.k_NoHouse_NoThing,T.k_NoHouse_Stopped],_,rfl,iteFc rfl ?_⟩;refine⟨_,rfl,ea,XC 2,_,_,_,rfl,st.get upd_same,T.e_NoHouse,(fun u h=>h),T.k_NoHouse_ValueError,_,rfl,iteFc rfl ?_⟩;refine⟨sm_2,fun L nL=>?_⟩;have sL:=same_new nL (.lst [V.non,V.str (PySem.Str.ofString "wrong")]);refine⟨_,rfl,ea,XC 2,_,_,_,rfl,(st.trans sL).get upd_same,T.e_NoHouse,(fun u h=>h),T.k_NoHouse_NoHouse,_,rfl,.inr ⟨_,rfl,L,_,_,_,rfl,rfl,SqL.of upd_same,atI_nat (j:=0) rfl,?_⟩⟩;exact q0 e0 _ ((s1.trans se).trans (st.trans sL))
 ·exact⟨_,rfl,q t v H1 et s1 rv⟩
end
open M38
section
variable {P:Program}{w:World}{K:W.Frag}{mg:Str->Option Value}{base:Heap}{f C_WordReader C_Boards:Addr}{XC:Nat->Addr}{fd:FuncData}
theorem dead_unsound {row:List Int}(l:row.length<=1000)(h:sound row=false):Dead (some row):=fun r e=>by
 cases e;refine⟨l,.inl fun t it z=>?_⟩;rw[z,sealW_sound it] at h;cases h
theorem dead_words {ws:List Int}(l:ws.length<1000)(h:∀t,rd 8 ws≠some (t,[])):Dead (some (ws++[mk ws])):=fun r e=>by
 cases e;refine⟨by rw[List.length_append];exact l,.inl fun t it z=>?_⟩;have z:=congrArg List.dropLast z;rw[List.dropLast_concat,sealW_drop] at z;have:=rd_full 8 t [] it;rw[List.append_nil,<-z] at this;exact h t this
theorem dead_thing {t:Tr}(it:isT 8 t=true)(l:(wT t).length<1000)(s4:sh 4 t=true)(th:thirds t)(no:¬HeadP t):Dead (some (sealW t)):=fun r e=>by
 cases e;exact⟨by rw[sealW_len];exact l,.inr ⟨t,it,rfl,s4,th,no⟩⟩
abbrev T0:Tr:=.tup [.int 5,.tup [],.tup [.tup [.str (PySem.Str.ofString "a"),.int 1,.str (PySem.Str.ofString "b"),.str EM,.tup [.int 1,.int 1,.int 1]]]]
theorem t0_no:¬HeadP T0:=fun z=>by
 have:=z.2.2.2.kp (PySem.Str.ofString "a") (PySem.Str.ofString "b") EM (1,1,1) List.mem_cons_self;cases this
theorem ixN_in {n:Nat}{k:Int}(h0:0<=k)(h1:k<n):ixN n k=some k.toNat:=by
 unfold ixN;rw[if_pos h0,if_pos (by omega)]
theorem ix_in {n:Nat}{k:Nat}(h:k<n):ixN n (k:Int)=some k:=by
 rw[ixN_in (by omega) (by omega),Int.toNat_natCast]
def DeadV (H:Hp)(v:V):Prop:=v=.non\/∃a row,v=.ref a/\H a=some (.lst (row.map V.int))/\Dead (some row)
def sp__law_spoilt (K:W.Frag):Sp:=fun vs H Q _=>∃(r a:Addr) (rs:List Int) (t:Tr) (way:Int),vs=[.ref r,.ref a,.int way]/\SqL K H r (rs.map V.int)/\rs.length=12/\(∀x∈rs,0<=x/\x<1000000)/\HdT t/\H a=some (.lst ((sealW t).map V.int))/\0<=way/\way<5/\
 ∀v H',Same H H'->DeadV H' v->Q v H'
theorem ok__law_spoilt (T:Txt K mg C_WordReader C_Boards XC)(F:Fun K "_law_spoilt" "_law_spoilt" s__law_spoilt f fd)(D_sealed:Def P w K mg base 2 "sealed" ["words"] (sp_sealed K))(D_words_of:Def P w K mg base 9 "words_of" ["thing"] (sp_words_of K)):FnOk P w K mg base CX0 10 f fd ["_law_row_here","_law_words","_law_way"] (sp__law_spoilt K):=by
 exists sc__law_spoilt
 ·obtain⟨r,a,rs,t,way,rfl,_⟩:=h;rfl
 obtain⟨r,a,rs,t,way,rfl,hrs,lr,br,ht,ha,w0,w5,q⟩:=h;have hu:=hu_of hr;refine⟨_,(!pss_cons (@ps_set _ _ (3) _ _ _ _ sc__law_spoilt.nd rfl (by trivial) (!pe_callTy call_list_of (by rfl) T.b_list bt_list (!pa_cons (pv 1) (!pa_nil))) (by rfl) (by trivial)) (!pss_cons (@ps_set _ _ (4) _ _ _ _ sc__law_spoilt.nd rfl (by trivial) (!pe_op op_mod (!pe_ix ix_list (pv 0) (!pe_int) (fun _ _=>rfl)) (!pe_callB call_len_seq (by rfl) T.b_len bt_len (!pa_cons (pv 1) (!pa_nil)))) (by rfl) (by trivial)) (!pss_cons (@ps_set _ _ (5) _ _ _ _ sc__law_spoilt.nd rfl (by trivial) (!pe_op op_mod (!pe_ix ix_list (pv 0) (!pe_int) (fun _ _=>rfl)) (!pe_callB call_len_seq (by rfl) T.b_len bt_len (!pa_cons (pv 1) (!pa_nil)))) (by rfl) (by trivial)) (!pss_cons (!ps_if (!pt_cmpR op_eq (pv 2) (!pe_int) (nomark _)) (!pss_one (!ps_ret (!pe_non))) (!pss_nil)) (!pss_cons (!ps_if (!pt_cmpR op_eq (pv 2) (!pe_int) (nomark _)) (!pss_one (!ps_asg (!pe_op op_mod (!pe_op op_add (!pe_op op_add (!pe_ix ix_list (pv 3) (pv 4) (fun _ _=>rfl)) (!pe_int)) (!pe_ix ix_list (pv 0) (!pe_int) (fun _ _=>rfl))) (!pe_int)) (!pg_sub (pv 3) (pv 4) set_list (by intro _;rfl)))) (!pss_nil)) (!pss_cons (!ps_if (!pt_cmpR op_eq (pv 2) (!pe_int) (nomark _)) (!pss_cons (!ps_asg (!pe_ix ix_list (pv 1) (pv 5) (fun _ _=>rfl)) (!pg_sub (pv 3) (pv 4) set_list (by intro _;rfl))) (!pss_cons (!ps_asg (!pe_ix ix_list (pv 1) (pv 4) (fun _ _=>rfl)) (!pg_sub (pv 3) (pv 5) set_list (by intro _;rfl))) (!pss_one (!ps_if (!pt_cmpR op_eq (!pe_ix ix_list (pv 1) (pv 4) (fun _ _=>rfl)) (!pe_ix ix_list (pv 1) (pv 5) (fun _ _=>rfl)) (nomark _)) (!pss_one (!ps_ret (!pe_non))) (!pss_nil))))) (!pss_nil)) (!pss_cons (!ps_if (!pt_cmpR op_eq (pv 2) (!pe_int) (nomark _)) (!pss_one (@ps_set _ _ (3) _ _ _ _ sc__law_spoilt.nd rfl (by trivial) (!pe_fn D_sealed (by trivial) rfl (!pa_cons (!pe_fn D_words_of (by trivial) rfl (!pa_cons (!pe_ix ix_list (!pe_lst (!pa_cons (!pe_tup (!pa_cons (!pe_int) (!pa_cons (!pe_tup (!pa_nil)) (!pa_cons (!pe_tup (!pa_cons (!pe_tup (!pa_cons (!pe_str) (!pa_cons (!pe_int) (!pa_cons (!pe_str) (!pa_cons (!pe_str) (!pa_cons (!pe_tup (!pa_cons (!pe_int) (!pa_cons (!pe_int) (!pa_cons (!pe_int) (!pa_nil))))) (!pa_nil))))))) (!pa_nil))) (!pa_nil))))) (!pa_cons (!pe_str) (!pa_cons (!pe_tup (!pa_cons (!pe_int) (!pa_cons (!pe_int) (!pa_nil)))) (!pa_cons (!pe_int) (!pa_nil)))))) (!pe_op op_mod (!pe_ix ix_list (pv 0) (!pe_int) (fun _ _=>rfl)) (!pe_int)) (fun _ _=>rfl)) (!pa_nil))) (!pa_nil))) (by rfl) (by trivial))) (!pss_nil)) (!pss_cons (!ps_if (!pt_cmpR op_eq (pv 2) (!pe_int) (nomark _)) (!pss_one (@ps_set _ _ (3) _ _ _ _ sc__law_spoilt.nd rfl (by trivial) (!pe_ix ix_list (!pe_lst (!pa_cons (!pe_lst (!pa_nil)) (!pa_cons (!pe_lst (!pa_cons (!pe_int) (!pa_nil))) (!pa_cons (!pe_fn D_sealed (by trivial) rfl (!pa_cons (!pe_lst (!pa_cons (!pe_int) (!pa_cons (!pe_int) (!pa_cons (!pe_int) (!pa_nil))))) (!pa_nil))) (!pa_cons (!pe_fn D_sealed (by trivial) rfl (!pa_cons (!pe_op op_catS (!pe_slice sl_list (pv 1) (!po_none) (!po_some (!pe_un un_neg (!pe_int)))) (!pe_lst (!pa_cons (!pe_int) (!pa_cons (!pe_int) (!pa_nil))))) (!pa_nil))) (!pa_nil)))))) (!pe_op op_mod (!pe_ix ix_list (pv 0) (!pe_int) (fun _ _=>rfl)) (!pe_int)) (fun _ _=>rfl)) (by rfl) (by trivial))) (!pss_nil)) (!pss_one (!ps_ret (pv 3))))))))))),?_⟩
 try dsimp only[cxOf,Cx.nox,Cx.wish]
 have xx:∀j:Nat,j<12->atI (rs.map V.int) (j:Int)=some (.int (rs.getD j 0)):=fun j hj=>by
  have:=at_int (ns:=rs) (i:=(j:Int)) (by omega) (by omega);rw[Int.toNat_natCast] at this;exact this
 have bnd:∀j:Nat,j<12->0<=rs.getD j 0/\rs.getD j 0<1000000:=fun j hj=>by
  refine br _ ?_;rw[List.getD,List.getElem?_eq_getElem (by omega)];exact List.getElem_mem _
 have wl:=ht.len;have sl:=sealW_len t;obtain⟨W,eW⟩:∃W,W=sealW t:=⟨_,rfl⟩
 have sW:sound W=true:=by rw[eW];exact sealW_sound ht.isT
 have lW:0<W.length/\W.length<=801:=by rw[eW];omega
 rw[<-eW] at ha;have lm:(W.map V.int).length=W.length:=List.length_map _;refine⟨_,rfl,a,_,rfl,.inl (SqL.of ha),fun o no=>?_⟩;have s1:=same_new no (.lst (W.map V.int));have ho:(upd H o (.lst (W.map V.int))) o=some (.lst (W.map V.int)):=upd_same;have ha1:=s1.get ha;have s1u:∀ys,Same H (upd (upd H o (.lst (W.map V.int))) o (.lst ys)):=fun ys=>by rw[upd_upd];exact same_new no _
 dsimp only;generalize upd H o (.lst (W.map V.int))=H1 at s1 ho ha1 s1u;refine⟨_,rfl,r,_,_,_,rfl,rfl,s1.seq hrs,xx 0 (by decide),_,rfl,a,_,rfl,.inl (SqL.of ha1),_,_,rfl,rfl,(by show(0:Int)<((W.map V.int).length:Int);rw[lm];omega),?_⟩;refine⟨_,rfl,r,_,_,_,rfl,rfl,s1.seq hrs,xx 1 (by decide),_,rfl,a,_,rfl,.inl (SqL.of ha1),_,_,rfl,rfl,(by show(0:Int)<((W.map V.int).length:Int);rw[lm];omega),?_⟩;dsimp only[gName];rw[lm];have a0:=Int.emod_nonneg (rs.getD 0 0) (show(W.length:Int)≠0 by omega);have a1:=Int.emod_lt_of_pos (rs.getD 0 0) (show(0:Int)<(W.length:Int) by omega);have b0:=Int.emod_nonneg (rs.getD 1 0) (show(W.length:Int)≠0 by omega);have b1:=Int.emod_lt_of_pos (rs.getD 1 0) (show(0:Int)<(W.length:Int) by omega);obtain⟨i,hi⟩:∃i:Nat,rs.getD 0 0%(W.length:Int)=(i:Int):=⟨_,(Int.toNat_of_nonneg a0).symm⟩
 obtain⟨j,hj⟩:∃j:Nat,rs.getD 1 0%(W.length:Int)=(j:Int):=⟨_,(Int.toNat_of_nonneg b0).symm⟩
 rw[hi] at a1 ⊢;rw[hj] at b1 ⊢;have il:i<W.length:=by omega
 have jl:j<W.length:=by omega
 have ati:atI (W.map V.int) (i:Int)=some (.int W[i]):=atI_nat (by rw[List.getElem?_map,List.getElem?_eq_getElem il];rfl);have atj:atI (W.map V.int) (j:Int)=some (.int W[j]):=atI_nat (by rw[List.getElem?_map,List.getElem?_eq_getElem jl];rfl);have b2:=bnd 2 (by decide);have inW:=(sound_iff.mp sW).2.1;have hw:way=0\/way=1\/way=2\/way=3\/way=4:=by omega
 rcases hw with rfl|rfl|rfl|rfl|rfl
 ·exact⟨_,rfl,rfl,_,rfl,iteTc (by decide) (q _ _ s1 (.inl rfl))⟩
 ·
  refine⟨_,rfl,rfl,_,rfl,iteFc (by decide) ?_⟩;refine⟨_,rfl,rfl,_,rfl,iteTc (by decide) ?_⟩;refine⟨_,rfl,_,rfl,o,_,_,_,rfl,rfl,SqL.of ho,ati,_,_,rfl,rfl,_,rfl,r,_,_,_,rfl,rfl,s1.seq hrs,xx 2 (by decide),_,_,rfl,rfl,_,_,rfl,rfl,(by show(0:Int)<2147483647;decide),_,rfl,_,rfl,o,_,_,i,rfl,rfl,ho,by rw[lm];exact ix_in il,?_⟩;refine⟨_,rfl,rfl,_,rfl,iteFc (by decide) ?_⟩;refine⟨_,rfl,rfl,_,rfl,iteFc (by decide) ?_⟩;refine⟨_,rfl,rfl,_,rfl,iteFc (by decide) ?_⟩;refine⟨_,rfl,q _ _ (s1u _) (.inr ⟨o,W.set i ((W[i]+1+rs.getD 2 0)%2147483647),rfl,?_,dead_unsound (by rw[List.length_set];omega) (one_change (by omega) il sW fun z=>?_)⟩)⟩
  ·rw[upd_same,List.map_set]
  ·have:=inW W[i] (List.getElem_mem il);omega
 ·
  refine⟨_,rfl,rfl,_,rfl,iteFc (by decide) ?_⟩;refine⟨_,rfl,rfl,_,rfl,iteFc (by decide) ?_⟩;refine⟨_,rfl,rfl,_,rfl,iteTc (by decide) ?_⟩;have nao:a≠o:=fun z=>by rw[z,no] at ha;cases ha
  refine⟨_,rfl,_,rfl,a,_,_,_,rfl,rfl,SqL.of ha1,atj,_,rfl,_,rfl,o,_,_,i,rfl,rfl,ho,by rw[lm];exact ix_in il,?_⟩;have ha2:(upd H1 o (.lst ((W.map V.int).set i (.int W[j])))) a=some (.lst (W.map V.int)):=by rw[upd_ne nao];exact ha1
  refine⟨_,rfl,_,rfl,a,_,_,_,rfl,rfl,SqL.of ha2,ati,_,rfl,_,rfl,o,_,_,j,rfl,rfl,upd_same,by rw[List.length_set,lm];exact ix_in jl,?_⟩;rw[upd_upd];have ha3:(upd H1 o (.lst (((W.map V.int).set i (.int W[j])).set j (.int W[i])))) a=some (.lst (W.map V.int)):=by rw[upd_ne nao];exact ha1
  refine⟨_,rfl,_,rfl,a,_,_,_,rfl,rfl,SqL.of ha3,ati,_,rfl,_,rfl,a,_,_,_,rfl,rfl,SqL.of ha3,atj,rfl,_,rfl,ite2 (fun d=>?_) (fun d=>?_)⟩
  ·exact q _ _ (s1u _) (.inl rfl)
  have ne:W[i]≠W[j]:=fun z=>d (decide_eq_true (by rw[z]))
  refine⟨_,rfl,rfl,_,rfl,iteFc (by decide) ?_⟩;refine⟨_,rfl,rfl,_,rfl,iteFc (by decide) ?_⟩;refine⟨_,rfl,q _ _ (s1u _) (.inr ⟨o,(W.set i W[j]).set j W[i],rfl,?_,dead_unsound (by rw[List.length_set,List.length_set];omega) ?_⟩)⟩
  ·rw[upd_same,List.map_set,List.map_set]
  ·rw[two_changed (by omega) il jl sW];refine decide_eq_false fun z=>?_
   have e:=congrArg (fun l:List Int=>l[j]?) z;rw[List.getElem?_set_self (by rw[List.length_set];exact jl),List.getElem?_eq_getElem jl] at e;exact ne (Option.some.inj e)
 ·
  refine⟨_,rfl,rfl,_,rfl,iteFc (by decide) ?_⟩;refine⟨_,rfl,rfl,_,rfl,iteFc (by decide) ?_⟩;refine⟨_,rfl,rfl,_,rfl,iteFc (by decide) ?_⟩;refine⟨_,rfl,rfl,_,rfl,iteTc (by decide) ?_⟩;refine⟨sm_0,fun p1 n1=>?_⟩;have t1:=same_new n1 (.tup []);refine⟨sm_3,fun p2 n2=>?_⟩;have t2:=same_new n2 (.tup [V.int 1,V.int 1,V.int 1]);refine⟨sm_5,fun p3 n3=>?_⟩;have t3:=same_new n3 (.tup [V.str (PySem.Str.ofString "a"),V.int 1,V.str (PySem.Str.ofString "b"),V.str EM,V.ref p2]);refine⟨sm_1,fun p4 n4=>?_⟩;have t4:=same_new n4 (.tup [V.ref p3]);refine⟨sm_3,fun p5 n5=>?_⟩;have t5:=same_new n5 (.tup [V.int 5,V.ref p1,V.ref p4]);refine⟨sm_2,fun p6 n6=>?_⟩;have t6:=same_new n6 (.tup [V.int 1,V.int 2]);refine⟨sm_4,fun L nL=>?_⟩;have tL:=same_new nL (.lst [V.ref p5,V.str (PySem.Str.ofString "head"),V.ref p6,V.int 7]);have f6:=t6.trans tL;have f5:=t5.trans f6;have f4:=t4.trans f5;have f3:=t3.trans f4;have f2:=t2.trans f3;have f1:=t1.trans f2;have x1:=f2.get upd_same;have x2:=f3.get upd_same;have x3:=f4.get upd_same;have x4:=f5.get upd_same;have x5:=f6.get upd_same;have x6:=tL.get upd_same;have hL:=show(upd _ L (.lst [V.ref p5,V.str (PySem.Str.ofString "head"),V.ref p6,V.int 7])) L=some (.lst [V.ref p5,V.str (PySem.Str.ofString "head"),V.ref p6,V.int 7]) from upd_same (H:=upd (upd (upd (upd (upd (upd H1 p1 (.tup [])) p2 (.tup [V.int 1,V.int 1,V.int 1])) p3 (.tup [V.str (PySem.Str.ofString "a"),V.int 1,V.str (PySem.Str.ofString "b"),V.str EM,V.ref p2])) p4 (.tup [V.ref p3])) p5 (.tup [V.int 5,V.ref p1,V.ref p4])) p6 (.tup [V.int 1,V.int 2]));generalize (upd (upd (upd (upd (upd (upd (upd H1 p1 (.tup [])) p2 (.tup [V.int 1,V.int 1,V.int 1])) p3 (.tup [V.str (PySem.Str.ofString "a"),V.int 1,V.str (PySem.Str.ofString "b"),V.str EM,V.ref p2])) p4 (.tup [V.ref p3])) p5 (.tup [V.int 5,V.ref p1,V.ref p4])) p6 (.tup [V.int 1,V.int 2])) L (.lst [V.ref p5,V.str (PySem.Str.ofString "head"),V.ref p6,V.int 7]))=HL at f1 x1 x2 x3 x4 x5 x6 hL;have s1L:=s1.trans f1;obtain⟨v,u,AT,rv,iu,lu,su,tu,nu⟩:∃v u,atI [V.ref p5,V.str (PySem.Str.ofString "head"),V.ref p6,V.int 7] (rs.getD 2 0%4)=some v/\Rep NL HL u v/\isT 8 u=true/\(wT u).length<=900/\sh 4 u=true/\thirds u/\¬HeadP u:=by
   have:rs.getD 2 0%4=0\/rs.getD 2 0%4=1\/rs.getD 2 0%4=2\/rs.getD 2 0%4=3:=by omega
   rcases this with e|e|e|e<;>rw[e]
   ·have r2:Rep NL HL (.tup [.int 1,.int 1,.int 1]) (.ref p2):=⟨p2,_,rfl,x2,_,_,rfl,rfl,_,_,rfl,rfl,_,_,rfl,rfl,rfl⟩
    have r3:Rep NL HL (.tup [.str (PySem.Str.ofString "a"),.int 1,.str (PySem.Str.ofString "b"),.str EM,.tup [.int 1,.int 1,.int 1]]) (.ref p3):=⟨p3,_,rfl,x3,_,_,rfl,rfl,_,_,rfl,rfl,_,_,rfl,rfl,_,_,rfl,rfl,_,_,rfl,r2,rfl⟩
    exact⟨_,T0,rfl,⟨p5,_,rfl,x5,_,_,rfl,rfl,_,_,rfl,⟨p1,[],rfl,x1,rfl⟩,_,_,rfl,⟨p4,_,rfl,x4,_,_,rfl,r3,rfl⟩,rfl⟩,by decide +kernel,by decide +kernel,by decide +kernel,(fun x hx=>by rw[List.mem_singleton.mp hx];rfl),t0_no⟩
   ·exact⟨_,.str (PySem.Str.ofString "head"),rfl,rfl,by decide +kernel,by decide +kernel,by decide +kernel,trivial,fun z=>z⟩
   ·exact⟨_,.tup [.int 1,.int 2],rfl,⟨p6,_,rfl,x6,_,_,rfl,rfl,_,_,rfl,rfl,rfl⟩,by decide +kernel,by decide +kernel,by decide +kernel,trivial,fun z=>z⟩
   ·exact⟨_,.int 7,rfl,rfl,by decide +kernel,by decide +kernel,by decide +kernel,trivial,fun z=>z⟩
  refine⟨_,rfl,r,_,_,_,rfl,rfl,s1L.seq hrs,xx 2 (by decide),_,_,rfl,rfl,(by show(0:Int)<4;decide),L,_,_,_,rfl,rfl,SqL.of hL,AT,?_⟩;refine⟨v,u,rfl,rv,iu,by omega,fun wa H3 s3 nw hw=>⟨wa,_,rfl,hw,by omega,fun ra H4 s4 nr hr4=>?_⟩⟩;refine⟨_,rfl,rfl,_,rfl,iteFc (by decide) ?_⟩;exact⟨_,rfl,q _ _ ((s1L.trans s3).trans s4) (.inr ⟨ra,sealW u,rfl,hr4,dead_thing iu (by omega) su tu nu⟩)⟩
 ·
  refine⟨_,rfl,rfl,_,rfl,iteFc (by decide) ?_⟩;refine⟨_,rfl,rfl,_,rfl,iteFc (by decide) ?_⟩;refine⟨_,rfl,rfl,_,rfl,iteFc (by decide) ?_⟩;refine⟨_,rfl,rfl,_,rfl,iteFc (by decide) ?_⟩;refine⟨_,rfl,rfl,_,rfl,iteTc (by decide) ?_⟩;refine⟨sm_0,fun p1 n1=>?_⟩;have t1:=same_new n1 (.lst []);refine⟨sm_1,fun p2 n2=>?_⟩;have t2:=same_new n2 (.lst [V.int 5]);refine⟨sm_3,fun p3 n3=>?_⟩;have t3:=same_new n3 (.lst [V.int 9,V.int 9,V.int 9]);refine⟨p3,[9,9,9],rfl,upd_same,by decide,fun p4 H3 t4 n4 h4=>?_⟩;have s03:=s1.trans (((t1.trans t2).trans t3).trans t4);have ha3:=(((t1.trans t2).trans t3).trans t4).get ha1;refine⟨_,rfl,_,rfl,_,rfl,a,_,rfl,SqL.of ha3,fun p5 n5=>?_⟩;have t5:=same_new n5 (.lst (cutV (W.map V.int) none (some (-1))));refine⟨sm_2,fun p6 n6=>?_⟩;have t6:=same_new n6 (.lst [V.int 0,V.int 5]);have ec:cutV (W.map V.int) none (some (-1))=(wT t).map V.int:=by rw[cut_last,<-List.map_dropLast,eW,sealW_drop]
  have h5:(upd (upd H3 p5 (.lst (cutV (W.map V.int) none (some (-1))))) p6 (.lst [V.int 0,V.int 5])) p5=some (.lst ((wT t).map V.int)):=by rw[<-ec];exact t6.get upd_same
  refine⟨p5,p6,_,_,rfl,rfl,SqL.of h5,SqL.of upd_same,small (by rw[List.length_map];show _+2<=1000000;omega),fun p7 n7=>?_⟩;have t7:=same_new n7 (.lst ((wT t).map V.int++[V.int 0,V.int 5]));have h7:(upd (upd (upd H3 p5 (.lst (cutV (W.map V.int) none (some (-1))))) p6 (.lst [V.int 0,V.int 5])) p7 (.lst ((wT t).map V.int++[V.int 0,V.int 5]))) p7=some (.lst ((wT t++[0,5]).map V.int)):=by rw[upd_same,List.map_append];rfl
  have t57:=(t5.trans t6).trans t7;generalize (upd (upd (upd H3 p5 (.lst (cutV (W.map V.int) none (some (-1))))) p6 (.lst [V.int 0,V.int 5])) p7 (.lst ((wT t).map V.int++[V.int 0,V.int 5])))=H7 at t7 h7 t57;refine⟨p7,wT t++[0,5],rfl,h7,by rw[List.length_append];show _+2<=1000;omega,fun p8 H8 t8 n8 h8=>?_⟩;refine⟨sm_4,fun L nL=>?_⟩;have tL:=same_new nL (.lst [V.ref p1,V.ref p2,V.ref p4,V.ref p8]);have g8:=t8.trans tL;have g4:=t57.trans g8;have x1:=(((t2.trans t3).trans t4).trans g4).get (show(upd H1 p1 (.lst [])) p1=some (.lst []) from upd_same);have x2:=((t3.trans t4).trans g4).get (show(upd (upd H1 p1 (.lst [])) p2 (.lst [V.int 5])) p2=some (.lst [V.int 5]) from upd_same);have x4:=g4.get h4;have x8:=tL.get h8;have s0L:=s03.trans g4;obtain⟨v,ra,row,AT,rfl,hra,dd⟩:∃v ra row,atI [V.ref p1,V.ref p2,V.ref p4,V.ref p8] (rs.getD 2 0%4)=some v/\v=.ref ra/\(upd H8 L (.lst [V.ref p1,V.ref p2,V.ref p4,V.ref p8])) ra=some (.lst (row.map V.int))/\Dead (some row):=by
   have:rs.getD 2 0%4=0\/rs.getD 2 0%4=1\/rs.getD 2 0%4=2\/rs.getD 2 0%4=3:=by omega
   rcases this with e|e|e|e<;>rw[e]
   ·exact⟨_,p1,[],rfl,rfl,x1,dead_unsound (by decide) (by decide +kernel)⟩
   ·exact⟨_,p2,[5],rfl,rfl,x2,dead_unsound (by decide) (by decide +kernel)⟩
   ·exact⟨_,p4,[9,9,9]++[mk [9,9,9]],rfl,rfl,x4,dead_words (by decide) fun u z=>by
     rw[show rd 8 [9,9,9]=none from by decide +kernel] at z;cases z⟩
   ·refine⟨_,p8,(wT t++[0,5])++[mk (wT t++[0,5])],rfl,rfl,x8,dead_words (by rw[List.length_append];show _+2<1000;omega) fun u z=>?_⟩;rw[rd_full 8 t [0,5] ht.isT] at z;cases z
  refine⟨_,rfl,r,_,_,_,rfl,rfl,s0L.seq hrs,xx 2 (by decide),_,_,rfl,rfl,(by show(0:Int)<4;decide),L,_,_,_,rfl,rfl,SqL.of upd_same,AT,?_⟩;exact⟨_,rfl,q _ _ s0L (.inr ⟨ra,row,rfl,hra,dd⟩)⟩
end
open M38
section
variable {P:Program}{w:World}{K:W.Frag}{mg:Str->Option Value}{base:Heap}{f C_WordReader C_Boards:Addr}{XC:Nat->Addr}{fd:FuncData}
theorem getC_put (c:Cel)(k:Int)(row:List Int)(z:Int):getC (putC c k row) z=if z=k then some row else getC c z:=by
 unfold putC
 by_cases h:(c.any fun x=>decide (x.1=k))=true
 ·rw[if_pos h];unfold getC
  induction c with
  |nil=>cases h
  |cons x c ih=>
   rw[List.map_cons,List.find?_cons,List.find?_cons]
   by_cases e:x.1=k
   ·rw[if_pos e]
    by_cases ez:z=k
    ·rw[if_pos ez,decide_eq_true (show(x.1,row).1=z by rw[ez];exact e)];rfl
    ·rw[if_neg ez,decide_eq_false (show ¬(x.1,row).1=z from fun y=>ez (y.symm.trans e))]
     by_cases h':(c.any fun x=>decide (x.1=k))=true
     ·have:=ih h';rw[if_neg ez] at this;exact this
     ·have same:c.map (fun x=>if x.1=k then(x.1,row) else x)=c:=by
       have:∀x∈c,(if x.1=k then(x.1,row) else x)=x:=fun x hx=>if_neg fun y=>h' (List.any_eq_true.mpr ⟨x,hx,decide_eq_true y⟩)
       calc c.map (fun x=>if x.1=k then(x.1,row) else x)=c.map (fun x=>x):=List.map_congr_left this
        _=c:=List.map_id' c
      rw[same]
   ·rw[if_neg e];have h':(c.any fun x=>decide (x.1=k))=true:=by
     rw[List.any_cons,decide_eq_false e,Bool.false_or] at h;exact h
    by_cases ex:x.1=z
    ·rw[decide_eq_true ex,if_neg (fun y=>e (ex.trans y))]
    ·rw[decide_eq_false ex];exact ih h'
 ·rw[if_neg h];unfold getC;rw[List.find?_append]
  by_cases ez:z=k
  ·have:c.find? (fun x=>decide (x.1=z))=none:=List.find?_eq_none.mpr fun x hx y=>h (List.any_eq_true.mpr ⟨x,hx,by rw[<-ez];exact y⟩)
   rw[this,if_pos ez,List.find?_cons,decide_eq_true ez.symm];rfl
  ·rw[if_neg ez,List.find?_cons,decide_eq_false (show ¬(k,row).1=z from fun y=>ez y.symm),List.find?_nil];cases c.find? (fun x=>decide (x.1=z))<;>rfl
theorem isT_dep2:∀(n:Nat) (t:Tr),isT n t=true->t.dep<=n
 |0,_,h=>nomatch h
 |n+1,.non,h=>nomatch h
 |n+1,.bl _,h=>nomatch h
 |n+1,.int _,_=>Nat.le_add_left 1 n
 |n+1,.str z,h=>Nat.le_add_left 1 n
 |n+1,.tup ts,h=>by
  have h':(decide (ts.length<=100)&&ts.all (isT n))=true:=h;rw[Bool.and_eq_true] at h';have all:∀l:List Tr,(∀t∈l,t.dep<=n)->Tr.deps l<=n:=fun l=>by
   induction l with
   |nil=>intro _;exact Nat.zero_le _
   |cons t l ih=>intro hl;exact Nat.max_le.mpr ⟨hl t List.mem_cons_self,ih fun u hu=>hl u (List.mem_cons_of_mem _ hu)⟩
  have:=all ts fun t ht=>isT_dep2 n t (List.all_eq_true.mp h'.2 t ht)
  show 1+Tr.deps ts<=n+1;omega
 |n+1,.lst _,h=>nomatch h
theorem made {H1 H2:Hp}{x dx:Addr}(nx:H1 x=none)(ndx:H1 dx=none)(k:∀b o,(upd (upd H1 dx (.own x)) x (.ins C_Boards dx [])) b=some o->b≠x->H2 b=some o):Same H1 H2:=fun b o e=>by
 have n1:b≠x:=ne_of_none e nx;have n2:b≠dx:=ne_of_none e ndx;exact k b o (by rw[upd_ne n1,upd_ne n2];exact e) n1
theorem kb_rep {C:Addr}{H H':Hp}{p:Addr}{ds:List Addr}{bs:List Cel}{n:Int}{lf:V}(g:BAt C H p ds bs n lf)(k:Kb H H' p ds){t:Tr}{v:V}(e:Rep NL H t v):Rep NL H' t v:=rep_tup (fun c xs h=>kb_tup g k h) t v e
theorem getC_drop (c:Cel)(k:Int):getC (dropC c k) k=none:=by
 unfold getC dropC;rw[Option.map_eq_none_iff,List.find?_eq_none];intro x hx;have:=(List.mem_filter.mp hx).2;cases e:decide (x.1=k) with
 |false=>exact Bool.false_ne_true
 |true=>rw[e] at this;cases this
theorem dropC_len (c:Cel)(k:Int):(dropC c k).length<=c.length:=List.length_filter_le _ _
def KvR (H:Hp)(ks:List (Option Tr))(kv:List V):Prop:=kv.length=ks.length/\∀(i:Nat) k v,ks[i]?=some k->kv[i]?=some v->FoundAt H k v
theorem FoundAt.kind {H:Hp}{k:Option Tr}{v:V}(h:FoundAt H k v):v=.non\/∃a xs,v=.ref a/\H a=some (.tup xs):=by
 cases k with
 |none=>exact .inl h
 |some t=>
  obtain⟨ht,r⟩:=h;obtain⟨r',e⟩:=ht.age;rw[e] at r;obtain⟨a,vs,e,ha,_⟩:=r;exact .inr ⟨a,vs,e,ha⟩
theorem FoundAt.tup {H H':Hp}(k:∀c xs,H c=some (.tup xs)->H' c=some (.tup xs)){o:Option Tr}{v:V}(h:FoundAt H o v):FoundAt H' o v:=by
 cases o with
 |none=>exact h
 |some t=>exact⟨h.1,rep_tup k _ _ h.2⟩
theorem KvR.tup {H H':Hp}(k:∀c xs,H c=some (.tup xs)->H' c=some (.tup xs)){ks:List (Option Tr)}{kv:List V}(h:KvR H ks kv):KvR H' ks kv:=⟨h.1,fun i o v h1 h2=>(h.2 i o v h1 h2).tup k⟩
theorem KvR.mem {H:Hp}{ks:List (Option Tr)}{kv:List V}(h:KvR H ks kv){v:V}(hv:v∈kv):v=.non\/∃a xs,v=.ref a/\H a=some (.tup xs):=by
 obtain⟨i,hi,e⟩:=List.getElem_of_mem hv;have hl:=h.1;exact(h.2 i _ v (List.getElem?_eq_getElem (by omega)) (by rw[List.getElem?_eq_getElem hi,e])).kind
theorem KvR.set {H:Hp}{ks:List (Option Tr)}{kv:List V}(h:KvR H ks kv){b:Nat}{k:Option Tr}{v:V}(f:FoundAt H k v):KvR H (ks.set b k) (kv.set b v):=by
 refine⟨by rw[List.length_set,List.length_set,h.1],fun i o u h1 h2=>?_⟩;rw[List.getElem?_set] at h1 h2
 by_cases e:b=i
 ·rw[if_pos e] at h1 h2
  split at h1
  ·split at h2
   ·cases h1;cases h2;exact f
   ·cases h2
  ·cases h1
 ·rw[if_neg e] at h1 h2;exact h.2 i o u h1 h2
theorem bat_kept {C:Addr}{H:Hp}{p kl:Addr}{ds:List Addr}{bs:List Cel}{n:Int}{lf:V}{ks:List (Option Tr)}{kv:List V}(g:BAt C H p ds bs n lf)(hk:H kl=some (.lst kv))(r:KvR H ks kv)(ne:kv≠[])(ys:List V):BAt C (upd H kl (.lst ys)) p ds bs n lf:=by
 obtain⟨x0,kv',e0⟩:∃x kv',kv=x::kv':=List.exists_cons_of_ne_nil ne;have x0k:=r.mem (v:=x0) (by rw[e0];exact List.mem_cons_self);obtain⟨dx,s0,h1,h2,h3,h4⟩:=g;have nk:∀{b:Addr} {o:HO},H b=some o->(∀xs,o≠.lst xs)->b≠kl:=fun e z q=>by
  rw[q,hk] at e;exact z _ (Option.some.inj e).symm
 have ns:s0≠kl:=fun q=>by
  rw[q,hk,e0] at h2;have z:=Option.some.inj h2;cases ds with
  |nil=>cases z
  |cons d ds=>
   have z1:x0=.ref d:=by injection z with z;injection z
   rcases x0k with y|⟨a,xs,y,ha⟩
   ·rw[z1] at y;cases y
   ·rw[z1] at y;cases y;obtain⟨c,_,kvs,q1,_⟩:=pair_get1 (i:=0) h4 rfl;rw[ha] at q1;cases q1
 refine⟨dx,s0,by rw[upd_ne (nk h1 (by intro _ z;cases z))];exact h1,by rw[upd_ne ns];exact h2,h3,?_⟩;refine pair_mem h4 fun d hd b ⟨kvs,q1,q2,q3⟩=>⟨kvs,by rw[upd_ne (nk q1 (by intro _ z;cases z))];exact q1,?_,q3⟩
 refine pair_mem q2 fun kv1 _ x hx=>?_
 obtain⟨y1,rr,y2,y3⟩:=hx;refine⟨y1,rr,y2,?_⟩;rw[upd_ne fun q=>?_]
 ·exact y3
 ·rw[q,hk,e0] at y3;have z:=Option.some.inj y3;cases hx2:x.2 with
  |nil=>rw[hx2] at z;cases z
  |cons w ws=>
   rw[hx2] at z;have z1:x0=.int w:=by injection z with z;injection z
   rcases x0k with y|⟨a,xs,y,_⟩<;>rw[z1] at y<;>cases y
theorem ints_apart {H:Hp}{kl l:Addr}{ks:List (Option Tr)}{kv:List V}{cs:List Int}(hk:H kl=some (.lst kv))(r:KvR H ks kv)(ne:kv≠[])(hl:H l=some (.lst (cs.map V.int))):l≠kl:=fun q=>by
 obtain⟨x0,kv',e0⟩:∃x kv',kv=x::kv':=List.exists_cons_of_ne_nil ne;have x0k:=r.mem (v:=x0) (by rw[e0];exact List.mem_cons_self);rw[q,hk,e0] at hl;have z:=Option.some.inj hl;cases cs with
 |nil=>cases z
 |cons w ws=>
  have z1:x0=.int w:=by injection z with z;injection z
  rcases x0k with y|⟨a,xs,y,_⟩<;>rw[z1] at y<;>cases y
theorem Kep.set {ks:List (Option Tr)} {bs:List Cel} (h:Kep ks bs) {b:Nat} {k:Option Tr} {c:Cel} (f:match k with
  |some t=>HdT t/\getC c 0=some (sealW t)
  |none=>Dead (getC c 0)):Kep (ks.set b k) (bs.set b c):=by
 refine⟨by rw[List.length_set,List.length_set,h.1],fun i c' k' h1 h2=>?_⟩;rw[List.getElem?_set] at h1 h2
 by_cases e:b=i
 ·rw[if_pos e] at h1 h2
  split at h1
  ·split at h2
   ·cases h1;cases h2;exact f
   ·cases h2
  ·cases h1
 ·rw[if_neg e] at h1 h2;exact h.2 i c' k' h1 h2
theorem Kep.wrt {ks:List (Option Tr)}{bs:List Cel}(h:Kep ks bs){t:Tr}(ht:HdT t){j:Nat}(jl:j<=bs.length):Kep (List.replicate j (some t)++ks.drop j) (wrt bs (sealW t) j):=by
 have hl:=h.1;refine⟨by rw[wrt_len,List.length_append,List.length_replicate,List.length_drop];omega,fun i c k h1 h2=>?_⟩;have il:i<bs.length:=by
  have:=(List.getElem?_eq_some_iff.mp h1).1;rw[wrt_len] at this;exact this
 rw[wrt_get il] at h1;rw[List.getElem?_append,List.length_replicate] at h2;cases h1
 by_cases e:i<j
 ·rw[if_pos e,List.getElem?_replicate,if_pos e] at h2;cases h2;rw[if_pos e];exact⟨ht,by rw[getC_put,if_pos rfl]⟩
 ·rw[if_neg e,List.getElem?_drop,show j+(i-j)=i by omega] at h2;rw[if_neg e];exact h.2 i _ k (by rw[List.getD,List.getElem?_eq_getElem il];rfl) h2
theorem KvR.wrt {H:Hp}{ks:List (Option Tr)}{kv:List V}(h:KvR H ks kv){t:Tr}{v:V}(f:FoundAt H (some t) v){j:Nat}(jl:j<=ks.length):KvR H (List.replicate j (some t)++ks.drop j) (List.replicate j v++kv.drop j):=by
 have hl:=h.1;refine⟨by rw[List.length_append,List.length_append,List.length_replicate,List.length_replicate,List.length_drop,List.length_drop,hl],fun i k u h1 h2=>?_⟩;rw[List.getElem?_append,List.length_replicate] at h1 h2
 by_cases e:i<j
 ·rw[if_pos e,List.getElem?_replicate,if_pos e] at h1 h2;cases h1;cases h2;exact f
 ·rw[if_neg e,List.getElem?_drop,show j+(i-j)=i by omega] at h1 h2;exact h.2 i k u h1 h2
def ageO (q:Option Tr×V):Int:=match q.1 with
 |some t=>age t
 |none=>0
theorem fold_ge:∀(l:List Int) (a:Int),a<=l.foldl (fun a b=>if a<b then b else a) a/\∀x∈l,x<=l.foldl (fun a b=>if a<b then b else a) a
 |[],a=>⟨Int.le_refl _,fun _ h=>nomatch h⟩
 |y::l,a=>by
  obtain⟨h1,h2⟩:=fold_ge l (if a<y then y else a);have e:(if a<y then y else a)=y/\a<y\/(if a<y then y else a)=a/\¬a<y:=by
   by_cases c:a<y
   ·exact .inl ⟨if_pos c,c⟩
   ·exact .inr ⟨if_neg c,c⟩
  refine⟨?_,fun x hx=>?_⟩
  ·show a<=l.foldl _ (if a<y then y else a);rcases e with⟨e,_⟩|⟨e,_⟩<;>omega
  ·show x<=l.foldl _ (if a<y then y else a);rcases List.mem_cons.mp hx with rfl|hx
   ·rcases e with⟨e,_⟩|⟨e,_⟩<;>omega
   ·exact h2 x hx
theorem maxZ_ge {l:List Int}{x:Int}(h:x∈l):x<=maxZ l:=by
 cases l with
 |nil=>cases h
 |cons y l=>
  obtain⟨h1,h2⟩:=fold_ge l y;rcases List.mem_cons.mp h with rfl|h
  ·exact h1
  ·exact h2 x h
def Due (hz:List (Option Tr×V)):Prop:=∃u v,best (hz.map (·.1))=some u/\age u=maxZ (hz.map ageO)/\(hz.filter fun q=>decide (ageO q=maxZ (hz.map ageO)))[0]?=some (some u,v)
theorem due_step {pre:List (Option Tr×V)}{q:Option Tr×V}(hq:q.1.isSome=true)(ne:pre≠[])(h:Due pre):Due (pre++[q]):=by
 obtain⟨u,v,b,a,f⟩:=h;obtain⟨k,w⟩:=q;cases k with
 |none=>cases hq
 |some t=>
  have em:(pre++[(some t,w)]).map ageO=pre.map ageO++[age t]:=by rw[List.map_append];rfl
  have mx:=maxZ_snoc (l:=pre.map ageO) (fun z=>ne (List.map_eq_nil_iff.mp z)) (age t);have bs:best ((pre++[(some t,w)]).map (·.1))=stp (some u) (some t):=by
   rw[List.map_append,<-b];exact best_snoc _ _
  by_cases c:age u<age t
  ·rw[if_pos (by rw[<-a];exact c)] at mx;refine⟨t,w,by rw[bs];exact if_pos c,by rw[em,mx],?_⟩;rw[em,mx,List.filter_append];have:pre.filter (fun q=>decide (ageO q=age t))=[]:=List.filter_eq_nil_iff.mpr fun q hq z=>by
    have:=maxZ_ge (List.mem_map.mpr ⟨q,hq,rfl⟩:ageO q∈pre.map ageO);have z:=of_decide_eq_true z;omega
   rw[this,List.nil_append,List.filter_cons,if_pos (show decide (ageO (some t,w)=age t)=true from decide_eq_true rfl)];rfl
  ·rw[if_neg (by rw[<-a];exact c)] at mx;refine⟨u,v,by rw[bs];exact if_neg c,by rw[em,mx];exact a,?_⟩;rw[em,mx,List.filter_append];have hl:=(List.getElem?_eq_some_iff.mp f).1;rw[List.getElem?_append_left hl];exact f
theorem due_all:∀(l pre:List (Option Tr×V)),(∀q∈l,q.1.isSome=true)->pre≠[]->Due pre->Due (pre++l)
 |[],pre,_,_,h=>by rw[List.append_nil];exact h
 |q::l,pre,hs,ne,h=>by
  have:=due_all l (pre++[q]) (fun x hx=>hs x (List.mem_cons_of_mem _ hx)) (by simp) (due_step (hs q List.mem_cons_self) ne h);rw[List.append_assoc] at this;exact this
theorem best_due {hz:List (Option Tr×V)}(hs:∀q∈hz,q.1.isSome=true)(ne:hz≠[]):Due hz:=by
 obtain⟨q,l,rfl⟩:∃q l,hz=q::l:=List.exists_cons_of_ne_nil ne;obtain⟨k,w⟩:=q;have h0:=hs _ List.mem_cons_self;cases k with
 |none=>cases h0
 |some t=>
  refine due_all l [(some t,w)] (fun x hx=>hs x (List.mem_cons_of_mem _ hx)) (by simp) ⟨t,w,rfl,rfl,?_⟩;rw[List.filter_cons,if_pos (show decide (ageO (some t,w)=maxZ (List.map ageO [(some t,w)]))=true from decide_eq_true rfl)];rfl
theorem best_filter (ks:List (Option Tr)):best (ks.filter (·.isSome))=best ks:=by
 unfold best;have:∀(ks:List (Option Tr)) (f:Option Tr),(ks.filter (·.isSome)).foldl stp f=ks.foldl stp f:=fun ks=>by
  induction ks with
  |nil=>intro f;rfl
  |cons k ks ih=>
   intro f;rw[List.filter_cons];cases k with
   |none=>
    rw[if_neg (by simp),ih];cases f<;>rfl
   |some t=>
    rw[if_pos (show(some t).isSome=true from rfl)];exact ih _
 exact this ks none
theorem zip_fst {α β:Type}:∀{l:List α} {m:List β},m.length=l.length->(l.zip m).map (·.1)=l
 |[],_,_=>by simp
 |x::l,y::m,h=>by
  rw[List.zip_cons_cons,List.map_cons,zip_fst (by simpa using h)]
 |x::l,[],h=>by simp at h
theorem zip_snd {α β:Type}:∀{l:List α} {m:List β},m.length=l.length->(l.zip m).map (·.2)=m
 |[],[],_=>rfl
 |x::l,y::m,h=>by
  rw[List.zip_cons_cons,List.map_cons,zip_snd (by simpa using h)]
 |x::l,[],h=>by simp at h
 |[],y::m,h=>by simp at h
end
open M38
section
variable {P:Program}{w:World}{K:W.Frag}{mg:Str->Option Value}{base:Heap}{f C_WordReader C_Boards:Addr}{XC:Nat->Addr}{fd:FuncData}
structure Ks (C:Addr) (H:Hp) (p:Addr) (ds:List Addr) (bs:List Cel) (n:Int) (lf:V) (L kl:Addr) (cs:List Int) (ks:List (Option Tr)) (kv:List V) (m i:Nat):Prop where
 bat:BAt C H p ds bs n lf
 len:bs.length=m
 few:∀c∈bs,c.length<=i
 kep:Kep ks bs
 hL:H L=some (.lst (cs.map V.int))
 hk:H kl=some (.lst kv)
 kvr:KvR H ks kv
theorem Ks.same {C:Addr}{H H':Hp}{p:Addr}{ds:List Addr}{bs:List Cel}{n:Int}{lf:V}{L kl:Addr}{cs:List Int}{ks:List (Option Tr)}{kv:List V}{m i:Nat}(x:Ks C H p ds bs n lf L kl cs ks kv m i)(s:Same H H'):Ks C H' p ds bs n lf L kl cs ks kv m i:=
 ⟨x.bat.same s,x.len,x.few,x.kep,s.get x.hL,s.get x.hk,x.kvr.tup fun c xs h=>s.get h⟩
theorem Ks.kvl {C:Addr}{H:Hp}{p:Addr}{ds:List Addr}{bs:List Cel}{n:Int}{lf:V}{L kl:Addr}{cs:List Int}{ks:List (Option Tr)}{kv:List V}{m i:Nat}(x:Ks C H p ds bs n lf L kl cs ks kv m i):kv.length=m/\ks.length=m:=⟨x.kvr.1.trans (x.kep.1.trans x.len),x.kep.1.trans x.len⟩
theorem Ks.kb {C:Addr}{H H':Hp}{p:Addr}{ds:List Addr}{bs bs':List Cel}{n n':Int}{lf lf':V}{L kl:Addr}{cs:List Int}{ks ks':List (Option Tr)}{kv:List V}{m i j:Nat}(x:Ks C H p ds bs n lf L kl cs ks kv m i)(g:BAt C H' p ds bs' n' lf')(k:Kb H H' p ds)(l:bs'.length=m)(fw:∀c∈bs',c.length<=j)(ke:Kep ks' bs')(kr:KvR H ks' kv):Ks C H' p ds bs' n' lf' L kl cs ks' kv m j:=
 ⟨g,l,fw,ke,kb_lst x.bat k x.hL,kb_lst x.bat k x.hk,kr.tup fun c xs h=>kb_tup x.bat k h⟩
theorem Ks.put {C:Addr}{H H':Hp}{p:Addr}{ds:List Addr}{bs bs':List Cel}{n n':Int}{lf lf':V}{L kl:Addr}{cs:List Int}{ks:List (Option Tr)}{kv:List V}{m i j b:Nat}{k:Option Tr}{v:V}(x:Ks C H p ds bs n lf L kl cs ks kv m i)(g:BAt C H' p ds bs' n' lf')(kb:Kb H H' p ds)(l:bs'.length=m)(fw:∀c∈bs',c.length<=j)(ke:Kep (ks.set b k) bs')(f:FoundAt H' k v)(ne:kv≠[]):Ks C (upd H' kl (.lst (kv.set b v))) p ds bs' n' lf' L kl cs (ks.set b k) (kv.set b v) m j:=by
 have hk:=kb_lst x.bat kb x.hk;have hL:=kb_lst x.bat kb x.hL;have kr:KvR H' ks kv:=x.kvr.tup fun c xs h=>kb_tup x.bat kb h
 have tk:∀c xs,H' c=some (.tup xs)->(upd H' kl (.lst (kv.set b v))) c=some (.tup xs):=fun c xs h=>by
  rw[upd_ne fun z=>by rw[z,hk] at h;cases h];exact h
 refine⟨bat_kept g hk kr ne _,l,fw,ke,?_,upd_same,(kr.set f).tup tk⟩;rw[upd_ne (ints_apart hk kr ne hL)];exact hL
theorem few_set {bs:List Cel}{i b:Nat}{c:Cel}(h:∀c∈bs,c.length<=i)(hc:c.length<=i+1):∀c'∈bs.set b c,c'.length<=i+1:=fun c' h'=>by
 rcases List.mem_or_eq_of_mem_set h' with z|rfl
 ·have:=h c' z;omega
 ·exact hc
theorem getD_few {bs:List Cel}{i b:Nat}(h:∀c∈bs,c.length<=i):(bs.getD b []).length<=i:=by
 unfold List.getD;cases e:bs[b]? with
 |none=>exact Nat.zero_le _
 |some c=>exact h c (List.mem_of_getElem? e)
theorem KvR.zip {H:Hp}{ks:List (Option Tr)}{kv:List V}(h:KvR H ks kv):∀q∈ks.zip kv,FoundAt H q.1 q.2:=fun q hq=>by
 obtain⟨i,hi⟩:=List.getElem?_of_mem hq;obtain⟨h1,h2⟩:=List.getElem?_zip_eq_some.mp hi;exact h.2 i q.1 q.2 h1 h2
theorem FoundAt.aged {H:Hp}{k:Option Tr}{v:V}(h:FoundAt H k v)(s:k.isSome=true):∃a xs,v=.ref a/\H a=some (.tup (.int (ageO (k,v))::xs)):=by
 cases k with
 |none=>cases s
 |some t=>
  obtain⟨ht,r⟩:=h;obtain⟨r',e⟩:=ht.age;have e2:ageO (some t,v)=age t:=rfl;rw[e2];rw[e] at r;obtain⟨a,vs,e,ha,x0,xs,rfl,r0,_⟩:=r;cases(show x0=V.int (age t) from r0);exact⟨a,xs,e,ha⟩
theorem reps_intsF {F:Addr->Prop}{H:Hp}:∀is:List Int,Reps F H (is.map Tr.int) (is.map V.int)
 |[]=>rfl
 |i::is=>⟨_,_,rfl,rfl,reps_intsF is⟩
theorem deps_le {n:Nat}:∀{l:List Tr},(∀t∈l,t.dep<=n)->Tr.deps l<=n
 |[],_=>Nat.zero_le _
 |t::l,h=>Nat.max_le.mpr ⟨h t List.mem_cons_self,deps_le fun u hu=>h u (List.mem_cons_of_mem _ hu)⟩
def rowsT (W:List Int)(j:Nat):Tr:=.lst (List.replicate j (.lst (W.map Tr.int)))
theorem rows_dep (W:List Int)(j:Nat):(rowsT W j).dep<=100:=by
 have h1:Tr.deps (W.map Tr.int)<=1:=deps_le fun t ht=>by
  obtain⟨i,_,rfl⟩:=List.mem_map.mp ht;exact Nat.le_refl 1
 have h2:Tr.deps (List.replicate j (.lst (W.map Tr.int)))<=2:=deps_le fun t ht=>by
  rw[List.eq_of_mem_replicate ht];show 1+Tr.deps (W.map Tr.int)<=2;omega
 show 1+Tr.deps _<=100;omega
theorem rows_rep {H:Hp}{l:Addr}{ys:List V}{W:List Int}{j:Nat}(h:H l=some (.lst ys))(hl:ys.length=j)(hy:∀y∈ys,∃b,y=.ref b/\H b=some (.lst (W.map V.int))):Rep AllF H (rowsT W j) (.ref l):=by
 refine⟨l,ys,rfl,trivial,h,reps_of (by rw[hl,List.length_replicate]) fun i t v h1 h2=>?_⟩;have e:=List.eq_of_mem_replicate (List.mem_of_getElem? h1);obtain⟨b,rfl,hb⟩:=hy v (List.mem_of_getElem? h2);rw[e];exact⟨b,_,rfl,trivial,hb,reps_intsF W⟩
theorem drop_min {α:Type}{l:List α}{k m:Nat}(h:l.length=m):l.drop k=l.drop (min k m):=by
 rcases Nat.le_total k m with c|c
 ·rw[Nat.min_eq_left c]
 ·rw[Nat.min_eq_right c,List.drop_of_length_le (by omega),List.drop_of_length_le (by omega)]
def sp_law (K:W.Frag):Sp:=fun vs H Q _=>∃(a:Addr) (ns:List Int),vs=[.ref a]/\SqL K H a (ns.map V.int)/\ns.length<=63/\∀H',Q (.bl true) H'
theorem ok_law (T:Txt K mg C_WordReader C_Boards XC)(F:Fun K "law" "law" s_law f fd)(D_Boards_init:CDef P w K mg base 3 C_Boards "Boards" ["self","many"] (sp_Boards_init K C_Boards))(D__law_row:Def P w K mg base 1 "_law_row" ["_law_cell","_law_many"] (sp__law_row K))(D__law_head:Def P w K mg base 1 "_law_head" ["_law_row_here"] (sp__law_head K))(D_sealed:Def P w K mg base 2 "sealed" ["words"] (sp_sealed K))(D_Boards_written:MDef P w K mg base 1 C_Boards "written" ["self"] (sp_Boards_written K C_Boards))(D__law_told:Def P w K mg base 17 "_law_told" ["_law_boards"] (sp__law_told K C_Boards))(D__law_cell_at:Def P w K mg base 1 "_law_cell_at" ["_law_script","_law_k"] (sp__law_cell_at K))(D_words_of:Def P w K mg base 9 "words_of" ["thing"] (sp_words_of K))(D_Boards_stop:MDef P w K mg base 1 C_Boards "stop" ["self","many"] (sp_Boards_stop K C_Boards))(D__law_is_stopped:Def P w K mg base 12 "_law_is_stopped" ["_law_boards","_law_head_here"] (sp__law_is_stopped K C_Boards))(D_Boards_spoil:MDef P w K mg base 4 C_Boards "spoil" ["self","board","number","row"] (sp_Boards_spoil K C_Boards))(D_Boards_cell:MDef P w K mg base 4 C_Boards "cell" ["self","board","number"] (sp_Boards_cell K C_Boards))(D_Boards_lose:MDef P w K mg base 4 C_Boards "lose" ["self","board"] (sp_Boards_lose K C_Boards))(D__law_spoilt:Def P w K mg base 10 "_law_spoilt" ["_law_row_here","_law_words","_law_way"] (sp__law_spoilt K)):FnOk P w K mg base CX0 18 f fd ["_law_script"] (sp_law K):=by
 exists sc_law
 ·obtain⟨a,ns,rfl,_⟩:=h;rfl
 obtain⟨a,ns,rfl,hS,ln,q⟩:=h;have hu:=hu_of hr;have hu9:=hu9_of hr;refine⟨_,(!pss_cons (@ps_set _ _ (1) _ _ _ _ sc_law.nd rfl (by trivial) (!pe_op op_add (!pe_int) (!pe_op op_mod (!pe_fn D__law_cell_at (by trivial) rfl (!pa_cons (pv 0) (!pa_cons (!pe_int) (!pa_nil)))) (!pe_int))) (by rfl) (by trivial)) (!pss_cons (@ps_set _ _ (2) _ _ _ _ sc_law.nd rfl (by trivial) (!pe_cls D_Boards_init (by trivial) rfl (!pa_cons (pv 1) (!pa_nil))) (by rfl) (by trivial)) (!pss_cons (@ps_set _ _ (3) _ _ _ _ sc_law.nd rfl (by trivial) (!pe_op op_rep (!pe_lst (!pa_cons (!pe_non) (!pa_nil))) (pv 1)) (by rfl) (by trivial)) (!pss_cons (!ps_for PassesOwn.never rfl (!pi_list (!pe_slice sl_list (pv 0) (!po_some (!pe_int)) (!po_some (!pe_int)))) (@pg_name _ _ (4) _ sc_law.nd rfl (by trivial) (by trivial)) (!pss_cons (@ps_set _ _ (5) _ _ _ _ sc_law.nd rfl (by trivial) (!pe_fn D__law_row (by trivial) rfl (!pa_cons (pv 4) (!pa_cons (!pe_int) (!pa_nil)))) (by rfl) (by trivial)) (!pss_cons (@ps_set _ _ (6) _ _ _ _ sc_law.nd rfl (by trivial) (!pe_fn D__law_head (by trivial) rfl (!pa_cons (pv 5) (!pa_nil))) (by rfl) (by trivial)) (!pss_cons (@ps_set _ _ (7) _ _ _ _ sc_law.nd rfl (by trivial) (!pe_fn D_sealed (by trivial) rfl (!pa_cons (!pe_fn D_words_of (by trivial) rfl (!pa_cons (pv 6) (!pa_nil))) (!pa_nil))) (by rfl) (by trivial)) (!pss_cons (@ps_set _ _ (8) _ _ _ _ sc_law.nd rfl (by trivial) (!pe_op op_mod (!pe_ix ix_list (pv 5) (!pe_int) (fun _ _=>rfl)) (pv 1)) (by rfl) (by trivial)) (!pss_cons (@ps_set _ _ (9) _ _ _ _ sc_law.nd rfl (by trivial) (!pe_mth0 (pv 2) T.cl_Boards D_Boards_written) (by rfl) (by trivial)) (!pss_cons (!ps_if (!pt_cmpR op_eq (!pe_op op_mod (!pe_ix ix_list (pv 5) (!pe_int) (fun _ _=>rfl)) (!pe_int)) (!pe_int) (nomark _)) (!pss_cons (@ps_set _ _ (10) _ _ _ _ sc_law.nd rfl (by trivial) (!pe_op op_mod (!pe_ix ix_list (pv 5) (!pe_int) (fun _ _=>rfl)) (!pe_op op_add (pv 1) (!pe_int))) (by rfl) (by trivial)) (!pss_cons (!ps_expr (!pe_mth (pv 2) T.cl_Boards D_Boards_stop (by trivial) (!pa_cons (pv 10) (!pa_nil)))) (!pss_cons (!ps_if (!pt_cmpR op_ne (!pe_fn D__law_is_stopped (by trivial) rfl (!pa_cons (pv 2) (!pa_cons (pv 6) (!pa_nil)))) (!pe_cmpR op_lt (pv 10) (pv 1) (nomark _)) (nomark _)) (!pss_one (!ps_ret (!pe_bl))) (!pss_nil)) (!pss_cons (!ps_expr (!pe_mth (pv 2) T.cl_Boards D_Boards_stop (by trivial) (!pa_cons (!pe_non) (!pa_nil)))) (!pss_cons (@ps_set _ _ (3) _ _ _ _ sc_law.nd rfl (by trivial) (!pe_op op_catS (!pe_op op_rep (!pe_lst (!pa_cons (pv 6) (!pa_nil))) (!pe_callB (call_min2 rfl) (by rfl) T.b_min bt_min (!pa_cons (pv 10) (!pa_cons (pv 1) (!pa_nil))))) (!pe_slice sl_list (pv 3) (!po_some (pv 10)) (!po_none))) (by rfl) (by trivial)) (!pss_cons (!ps_if (!pt_cmpR op_ne (!pe_mth0 (pv 2) T.cl_Boards D_Boards_written) (!pe_op op_add (pv 9) (!pe_callB (call_min2 rfl) (by rfl) T.b_min bt_min (!pa_cons (pv 10) (!pa_cons (pv 1) (!pa_nil))))) (nomark _)) (!pss_one (!ps_ret (!pe_bl))) (!pss_nil)) (!pss_one (!ps_if (!pt_cmpR (op_neR hu9) (@pe_comp _ ["_law_one","_law_boards"] [none,some 2] _ _ _ _ _ _ _ _ _ _ _ rfl (!pi_range1 rfl T.b_range (!pa_cons (!pe_callB (call_min2 rfl) (by rfl) T.b_min bt_min (!pa_cons (pv 10) (!pa_cons (pv 1) (!pa_nil)))) (!pa_nil))) (by rfl) rfl (by repeat (first|exact trivial|refine⟨rfl,?_⟩)) (by repeat (first|exact trivial|refine⟨fun h=>(by first|exact⟨_,rfl⟩|cases h),?_⟩)) (fun C s H fp=>⟨(@pg_name _ _ (0) _ (show(["_law_one","_law_boards"]:List Str).Nodup by decide +kernel) rfl (by trivial) (by trivial)),(!pifs_nil),(!pe_mth (pv 1) T.cl_Boards D_Boards_cell (by trivial) (!pa_cons (pv 0) (!pa_cons (!pe_int) (!pa_nil))))⟩) (by intro _;rfl)) (!pe_op op_rep (!pe_lst (!pa_cons (pv 7) (!pa_nil))) (!pe_callB (call_min2 rfl) (by rfl) T.b_min bt_min (!pa_cons (pv 10) (!pa_cons (pv 1) (!pa_nil))))) (nomark _)) (!pss_one (!ps_ret (!pe_bl))) (!pss_nil))))))))) (!pss_one (!ps_if (!pt_cmpR op_eq (!pe_op op_mod (!pe_ix ix_list (pv 5) (!pe_int) (fun _ _=>rfl)) (!pe_int)) (!pe_int) (nomark _)) (!pss_cons (!ps_expr (!pe_mth (pv 2) T.cl_Boards D_Boards_spoil (by trivial) (!pa_cons (pv 8) (!pa_cons (!pe_int) (!pa_cons (pv 7) (!pa_nil)))))) (!pss_one (!ps_asg (pv 6) (!pg_sub (pv 3) (pv 8) set_list (by intro _;rfl))))) (!pss_one (!ps_if (!pt_cmpR op_eq (!pe_op op_mod (!pe_ix ix_list (pv 5) (!pe_int) (fun _ _=>rfl)) (!pe_int)) (!pe_int) (nomark _)) (!pss_cons (!ps_expr (!pe_mth (pv 2) T.cl_Boards D_Boards_lose (by trivial) (!pa_cons (pv 8) (!pa_nil)))) (!pss_one (!ps_asg (!pe_non) (!pg_sub (pv 3) (pv 8) set_list (by intro _;rfl))))) (!pss_cons (!ps_expr (!pe_mth (pv 2) T.cl_Boards D_Boards_spoil (by trivial) (!pa_cons (pv 8) (!pa_cons (!pe_int) (!pa_cons (!pe_fn D__law_spoilt (by trivial) rfl (!pa_cons (pv 5) (!pa_cons (pv 7) (!pa_cons (!pe_op op_mod (!pe_ix ix_list (pv 5) (!pe_int) (fun _ _=>rfl)) (!pe_int)) (!pa_nil))))) (!pa_nil)))))) (!pss_one (!ps_asg (!pe_non) (!pg_sub (pv 3) (pv 8) set_list (by intro _;rfl)))))))))) (!pss_cons (@ps_set _ _ (9) _ _ _ _ sc_law.nd rfl (by trivial) (!pe_mth0 (pv 2) T.cl_Boards D_Boards_written) (by rfl) (by trivial)) (!pss_cons (@ps_set _ _ (11) _ _ _ _ sc_law.nd rfl (by trivial) (@pe_comp0 _ ["_law_one"] _ _ _ _ _ _ _ _ _ _ rfl (!pi_list (pv 3)) (by decide +kernel) (fun C s H fp=>⟨(@pg_name _ _ (0) _ (show(["_law_one"]:List Str).Nodup by decide +kernel) rfl (by trivial) (by trivial)),(!pifs_one (!pt_cmp (!pc_notN (pv 0)) (by first|exact nobehind _ (by decide) (by decide)|rfl))),(pv 0)⟩) (by intro _;rfl)) (by rfl) (by trivial)) (!pss_cons (@ps_set _ _ (12) _ _ _ _ sc_law.nd rfl (by trivial) (!pe_non) (by rfl) (by trivial)) (!pss_cons (!ps_if (!pt_cmpR (op_neE hu) (pv 11) (!pe_lst (!pa_nil)) (nomark _)) (!pss_one (@ps_set _ _ (12) _ _ _ _ sc_law.nd rfl (by trivial) (!pe_ix ix_list (@pe_comp _ ["_law_one","_law_heads"] [none,some 11] _ _ _ _ _ _ _ _ _ _ _ rfl (!pi_list (pv 11)) (by rfl) rfl (by repeat (first|exact trivial|refine⟨rfl,?_⟩)) (by repeat (first|exact trivial|refine⟨fun h=>(by first|exact⟨_,rfl⟩|cases h),?_⟩)) (fun C s H fp=>⟨(@pg_name _ _ (0) _ (show(["_law_one","_law_heads"]:List Str).Nodup by decide +kernel) rfl (by trivial) (by trivial)),(!pifs_one (!pt_cmpR op_eq (!pe_ix (ix_tupK (K:=K) (by rfl)) (pv 0) (!pe_int) (fun _ _=>rfl)) (!pe_callB (call_maxL (K:=K) (by rfl) rfl) (by rfl) T.b_max bt_max (!pa_cons (@pe_comp0 _ ["_law_other"] _ _ _ _ _ _ _ _ _ _ rfl (@pi_listK _ (K) (by rfl) _ _ _ (pv 1)) (by decide +kernel) (fun C s H fp=>⟨(@pg_name _ _ (0) _ (show(["_law_other"]:List Str).Nodup by decide +kernel) rfl (by trivial) (by trivial)),(!pifs_nil),(!pe_ix (ix_tupK (K:=K) (by rfl)) (pv 0) (!pe_int) (fun _ _=>rfl))⟩) (by intro _;rfl)) (!pa_nil))) (nomark _))),(pv 0)⟩) (by intro _;rfl)) (!pe_int) (fun _ _=>rfl)) (by rfl) (by trivial))) (!pss_nil)) (!pss_one (!ps_if (@PW.pt _ _ _ (!pw_or (!pt_cmpR (op_neR hu9) (!pe_fn D__law_told (by trivial) rfl (!pa_cons (pv 2) (!pa_nil))) (pv 12) (nomark _)) (!pw_or1 (!pt_cmpR op_ne (!pe_mth0 (pv 2) T.cl_Boards D_Boards_written) (pv 9) (nomark _))))) (!pss_one (!ps_ret (!pe_bl))) (!pss_nil))))))))))))) (by intro _;rfl)) (!pss_one (!ps_ret (!pe_cmp (!pc_isN (!pe_fn D__law_told (by trivial) rfl (!pa_cons (!pe_cls D_Boards_init (by trivial) rfl (!pa_cons (pv 1) (!pa_nil))) (!pa_nil)))) (by first|exact nobehind _ (by decide) (by decide)|rfl)))))))),?_⟩
 try dsimp only[cxOf,Cx.nox,Cx.wish]
 refine⟨_,rfl,a,ns,0,rfl,by decide,hS,fun z1=>?_⟩;refine⟨_,_,rfl,rfl,(by show(0:Int)<3;decide),_,_,rfl,rfl,?_⟩;obtain⟨m,hm⟩:∃m:Nat,(m:Int)=2+z1%3:=⟨(2+z1%3).toNat,by omega⟩
 have m1:2<=m:=by omega
 have m2:m<=4:=by omega
 dsimp only[gName,tNil];rw[<-hm];refine⟨_,rfl,?_⟩;dsimp only[tNil];intro x dx nx ndx _;refine⟨x,dx,m,rfl,m1,m2,upd_same,fun H1 ds B1 n1 k1=>⟨rfl,?_⟩⟩;have s1:=made nx ndx k1;have hS1:=s1.seq hS;refine⟨sm_1,fun l0 nl0=>?_⟩;have t1:=same_new nl0 (.lst [V.non]);refine⟨_,rfl,l0,_,_,rfl,rfl,upd_same,by omega,by omega,small (by rw[Int.toNat_natCast];show 1*m<=1000000;omega),fun kl nkl=>?_⟩;rw[Int.toNat_natCast,List.flatten_replicate_singleton];have t2:=same_new nkl (.lst (List.replicate m V.non));have t12:=t1.trans t2;have hk2:(upd (upd H1 l0 (.lst [V.non])) kl (.lst (List.replicate m V.non))) kl=some (.lst (List.replicate m V.non)):=upd_same;generalize (upd (upd H1 l0 (.lst [V.non])) kl (.lst (List.replicate m V.non)))=H2 at t2 t12 hk2;refine⟨_,rfl,_,rfl,_,rfl,a,_,rfl,t12.seq hS1,fun L nL=>?_⟩;have t3:=same_new nL (.lst (cutV (ns.map V.int) (some 1) (some 21)));have ec:cutV (ns.map V.int) (some 1) (some 21)=((ns.drop 1).take 20).map V.int:=by
  rw[cut_lohi (by decide) (by decide),<-List.map_drop,<-List.map_take];rfl
 have hL3:(upd H2 L (.lst (cutV (ns.map V.int) (some 1) (some 21)))) L=some (.lst (((ns.drop 1).take 20).map V.int)):=by rw[upd_same,ec]
 have hk3:=t3.get hk2;have B3:=B1.same (t12.trans t3);obtain⟨cs,ecs⟩:∃cs,cs=(ns.drop 1).take 20:=⟨_,rfl⟩
 have lcs:cs.length<=20:=by rw[ecs,List.length_take];omega
 rw[<-ecs] at hL3;generalize upd H2 L (.lst (cutV (ns.map V.int) (some 1) (some 21)))=H3 at t3 hL3 hk3 B3;have dead0:Dead (getC [] 0):=fun row e=>by cases e
 have K0:Ks C_Boards H3 x ds (List.replicate m []) 0 .non L kl cs (List.replicate m none) (List.replicate m .non) m 0:=by
  refine⟨B3,List.length_replicate,fun c hc=>by rw[List.eq_of_mem_replicate hc];exact Nat.zero_le _,⟨by rw[List.length_replicate,List.length_replicate],fun i c k h1 h2=>?_⟩,hL3,hk3,⟨by rw[List.length_replicate,List.length_replicate],fun i k v h1 h2=>?_⟩⟩
  ·rw[List.getElem?_replicate] at h1 h2
   by_cases il:i<m
   ·rw[if_pos il] at h1 h2;cases h1;cases h2;exact dead0
   ·rw[if_neg il] at h1;cases h1
  ·rw[List.getElem?_replicate] at h1 h2
   by_cases il:i<m
   ·rw[if_pos il] at h1 h2;cases h1;cases h2;rfl
   ·rw[if_neg il] at h1;cases h1
 refine⟨L,rfl,⟨_,SqL.of hL3⟩,for_list (K:=K) (a:=L) (xs:=cs.map V.int) (fun i σ H5=>∃bs n kl ks kv v4 v5 v6 v7 v8 v9 v10 v11 v12,σ=[some (.ref a),some (.int (m:Int)),some (.ref x),some (.ref kl),v4,v5,v6,v7,v8,v9,v10,v11,v12]/\Ks C_Boards H5 x ds bs n .non L kl cs ks kv m i)
  ⟨_,_,kl,_,_,none,none,none,none,none,none,none,none,none,rfl,K0⟩ (fun i σ H5 _ ⟨_,_,_,_,_,_,_,_,_,_,_,_,_,_,_,k5⟩=>SqL.of k5.hL) ?_ ?_⟩
 ·rintro i cv σ H5 hi ⟨bs,n,kl,ks,kv,v4,v5,v6,v7,v8,v9,v10,v11,v12,rfl,k5⟩
  rw[List.getElem?_map] at hi;obtain⟨c,hc,rfl⟩:=Option.map_eq_some_iff.mp hi;have i20:i<20:=by
   have:=(List.getElem?_eq_some_iff.mp hc).1;omega
  refine⟨_,rfl,c,12,rfl,by decide,by decide,fun r H6 rs s6 nr hr6 lr6 br6=>?_⟩;refine⟨_,rfl,r,rs,rfl,SqL.of hr6,lr6,br6,fun v t H7 s7 ht hv=>?_⟩;have tl:=ht.len;refine⟨_,rfl,v,t,rfl,hv,ht.isT,by omega,fun wa H8 s8 nwa hwa=>⟨wa,_,rfl,hwa,by omega,fun wl H9 s9 nwl hwl=>?_⟩⟩;have s59:=((s6.trans s7).trans s8).trans s9;have k9:=k5.same s59;have hr9:=((s7.trans s8).trans s9).get hr6;have hv9:=Rep.same (s8.trans s9) _ _ hv
  change H9 wl=some (.lst ((sealW t).map V.int)) at hwl
  have xx:∀j:Nat,j<12->atI (rs.map V.int) (j:Int)=some (.int (rs.getD j 0)):=fun j hj=>by
   have l12:rs.length=12:=lr6;have:=at_int (ns:=rs) (i:=(j:Int)) (by omega) (by omega);rw[Int.toNat_natCast] at this;exact this
  refine⟨_,rfl,r,_,_,_,rfl,rfl,SqL.of hr9,xx 9 (by decide),_,rfl,_,_,rfl,rfl,(by show(0:Int)<(m:Int);omega),?_⟩;have b0:=Int.emod_nonneg (rs.getD 9 0) (show(m:Int)≠0 by omega);have b1:=Int.emod_lt_of_pos (rs.getD 9 0) (show(0:Int)<(m:Int) by omega);dsimp only[gName];obtain⟨b,hb⟩:∃b:Nat,rs.getD 9 0%(m:Int)=(b:Int):=⟨_,(Int.toNat_of_nonneg b0).symm⟩
  rw[hb] at b1 ⊢;have bl:b<m:=by omega
  obtain⟨dx9,sh9,g1,g2,g3,g4⟩:=id k9.bat;refine⟨_,rfl,x,dx9,_,rfl,g1,rfl,x,ds,bs,n,_,rfl,k9.bat,?_⟩;dsimp only[gName];have kvl:=k9.kvl;have kne:kv≠[]:=fun z=>by rw[z] at kvl;have:=kvl.1;simp at this;omega
  have few9:∀c∈bs,c.length<900:=fun c hc=>by have:=k9.few c hc;omega
  have few1:∀c∈bs,c.length<1000:=fun c hc=>by have:=k9.few c hc;omega
  have bl':b<bs.length:=by rw[k9.len];exact bl
  refine seq_mid (t:=tIfS _ _ _) (fun σ' H'=>∃bs n' kl ks kv v9 v10 v11 v12,σ'=[some (.ref a),some (.int (m:Int)),some (.ref x),some (.ref kl),some (.int c),some (.ref r),some v,some (.ref wl),some (.int (b:Int)),v9,v10,v11,v12]/\Ks C_Boards H' x ds bs n' .non L kl cs ks kv m (i+1)) (fun N hN=>?_) ?_
  ·refine⟨_,rfl,r,_,_,_,rfl,rfl,SqL.of hr9,xx 10 (by decide),_,_,rfl,rfl,(by show(0:Int)<4;decide),rfl,_,rfl,ite2 (fun d=>?_) (fun d=>?_)⟩
   ·
    refine⟨_,rfl,r,_,_,_,rfl,rfl,SqL.of hr9,xx 11 (by decide),_,rfl,_,_,rfl,rfl,_,_,rfl,rfl,(by show(0:Int)<(m:Int)+2;omega),?_⟩;have w0:=Int.emod_nonneg (rs.getD 11 0) (show(m:Int)+2≠0 by omega);have w1:=Int.emod_lt_of_pos (rs.getD 11 0) (show(0:Int)<(m:Int)+2 by omega);dsimp only[gName];obtain⟨k,hk⟩:∃k:Nat,rs.getD 11 0%((m:Int)+2)=(k:Int):=⟨_,(Int.toNat_of_nonneg w0).symm⟩
    rw[hk] at w1 ⊢;have mn:(if(m:Int)<(k:Int) then(m:Int) else(k:Int))=((min k m:Nat):Int):=by
     split<;>omega
    have mnm:min k m<=m:=Nat.min_le_right _ _;refine⟨_,rfl,x,dx9,_,rfl,g1,rfl,_,rfl,x,ds,bs,n,_,.int (k:Int),rfl,k9.bat,fun H10 B10 kb10=>?_⟩;have hv10:=kb_rep k9.bat kb10 hv9;have hw10:=kb_lst k9.bat kb10 hwl;refine⟨_,rfl,_,rfl,x,ds,bs,n,k,v,t,rfl,B10,by rw[k9.len];omega,few9,hv10,ht.isT,by omega,fun H11 lf B11 kb11=>?_⟩;rw[k9.len] at B11;have hv11:=kb_rep B10 kb11 hv10;have hw11:=kb_lst B10 kb11 hw10;have kb911:=kb10.trans kb11;refine⟨_,rfl,_,rfl,_,_,rfl,rfl,rfl,_,rfl,iteFc ?_ ?_⟩
    ·have e:V.bl (decide (k<bs.length))=V.bl (decide ((k:Int)<(m:Int))):=by
      rw[k9.len]
      by_cases z:k<m
      ·rw[decide_eq_true z,decide_eq_true (show(k:Int)<(m:Int) by omega)]
      ·rw[decide_eq_false z,decide_eq_false (show ¬(k:Int)<(m:Int) by omega)]
     show(!decide (V.bl (decide (k<bs.length))=V.bl (decide ((k:Int)<(m:Int)))))=false;rw[decide_eq_true e];rfl
    obtain⟨dx11,sh11,g11,_⟩:=id B11;refine⟨_,rfl,x,dx11,_,rfl,g11,rfl,x,ds,_,_,_,.non,rfl,B11,fun H12 B12 kb12=>?_⟩;have kb912:=kb911.trans kb12;have hv12:=kb_rep B11 kb12 hv11;have hw12:=kb_lst B11 kb12 hw11;have hk12:=kb_lst k9.bat kb912 k9.hk;refine⟨_,rfl,sm_1,fun l1 nl1=>?_⟩;have t1:=same_new nl1 (.lst [v]);refine⟨_,rfl,_,rfl,_,_,rfl,?_⟩;rw[mn];refine⟨l1,_,_,rfl,rfl,upd_same,by omega,by omega,small (by rw[Int.toNat_natCast];show 1*min k m<=1000000;omega),fun l2 nl2=>?_⟩;rw[Int.toNat_natCast,List.flatten_replicate_singleton];have t2:=same_new nl2 (.lst (List.replicate (min k m) v));have t12:=t1.trans t2;have h2:(upd (upd H12 l1 (.lst [v])) l2 (.lst (List.replicate (min k m) v))) l2=some (.lst (List.replicate (min k m) v)):=upd_same;generalize (upd (upd H12 l1 (.lst [v])) l2 (.lst (List.replicate (min k m) v)))=H13 at t2 t12 h2;refine⟨_,rfl,_,rfl,_,rfl,kl,_,rfl,SqL.of (t12.get hk12),fun l3 nl3=>?_⟩;have t3:=same_new nl3 (.lst (cutV kv (some (k:Int)) none));have e3:cutV kv (some (k:Int)) none=kv.drop (min k m):=by rw[cut_lo (by omega),Int.toNat_natCast];exact drop_min kvl.1
    have h3:(upd H13 l3 (.lst (cutV kv (some (k:Int)) none))) l3=some (.lst (kv.drop (min k m))):=by rw[upd_same,e3]
    have h23:=t3.get h2;have t13:=t12.trans t3;generalize (upd H13 l3 (.lst (cutV kv (some (k:Int)) none)))=H14 at t3 h3 h23 t13;refine⟨l2,l3,_,_,rfl,rfl,SqL.of h23,SqL.of h3,small (by rw[List.length_replicate,List.length_drop,kvl.1];show min k m+_<=1000000;omega),fun l4 nl4=>?_⟩;have t4:=same_new nl4 (.lst (List.replicate (min k m) v++kv.drop (min k m)));have h4:(upd H14 l4 (.lst (List.replicate (min k m) v++kv.drop (min k m)))) l4=some (.lst (List.replicate (min k m) v++kv.drop (min k m))):=upd_same;have t14:=t13.trans t4;generalize (upd H14 l4 (.lst (List.replicate (min k m) v++kv.drop (min k m))))=H15 at t4 h4 t14;have B15:=B12.same t14;have hL15:=t14.get (kb_lst k9.bat kb912 k9.hL);have hv15:=Rep.same t14 _ _ hv12;have hw15:=t14.get hw12;have kr15:KvR H15 ks kv:=(k9.kvr.tup fun c xs h=>kb_tup k9.bat kb912 h).tup fun c xs h=>t14.get h
    have k15:Ks C_Boards H15 x ds (wrt bs (sealW t) (min k m)) (n+((min k m:Nat):Int)) .non L l4 cs (List.replicate (min k m) (some t)++ks.drop (min k m)) (List.replicate (min k m) v++kv.drop (min k m)) m (i+1):=by
     refine⟨B15,by rw[wrt_len];exact k9.len,fun c hc=>?_,k9.kep.wrt ht (by rw[k9.len];exact mnm),hL15,h4,kr15.wrt ⟨ht,hv15⟩ (by rw[kvl.2];exact mnm)⟩;obtain⟨y,hy⟩:=List.getElem?_of_mem hc;have yl:y<bs.length:=by
      have:=(List.getElem?_eq_some_iff.mp hy).1;rw[wrt_len] at this;exact this
     rw[wrt_get yl] at hy;have:=getD_few (b:=y) k9.few;have:=putC_len (bs.getD y []) 0 (sealW t);cases hy
     split<;>omega
    obtain⟨dx15,sh15,g15,_⟩:=id B15;refine⟨_,rfl,x,dx15,_,rfl,g15,rfl,x,ds,_,_,_,rfl,B15,_,rfl,_,rfl,_,rfl,_,_,rfl,_,_,rfl,rfl,rfl,_,rfl,iteFc ?_ ?_⟩
    ·dsimp only;rw[mn];simp
    refine⟨_,rfl,_,rfl,_,_,rfl,?_⟩;rw[mn];refine⟨_,rfl,by omega,by omega,?_⟩;rw[Int.toNat_natCast];refine comp_new (fun _ H1 y H2=>∃b,y=.ref b/\H1 b=none/\H2 b=some (.lst ((sealW t).map V.int))) (fun _ _ _ _ _ h s=>let⟨b,e1,e2,e3⟩:=h;⟨b,e1,e2,s.get e3⟩) (fun _ H1 y H2 l us us' ws h hl1 hl=>?_) itIs_range (by rw[List.length_map,List.length_range];omega) (fun y xv H' R hx s' hR=>?_) fun cl H16 ys n16 s16 h16 l16 hy=>?_
    ·obtain⟨b',e1,e2,e3⟩:=h;exact⟨b',e1,e2,by rw[upd_ne fun z=>by rw[z,hl1] at e2;cases e2];exact e3⟩
    ·rw[List.getElem?_map] at hx;obtain⟨y',hy',rfl⟩:=Option.map_eq_some_iff.mp hx;obtain⟨yl,ey⟩:=List.getElem?_eq_some_iff.mp hy';rw[List.length_range] at yl;rw[List.getElem_range] at ey;subst ey;rw[Int.zero_add];have B':=B15.same s';have gy:getC ((wrt bs (sealW t) (min k m)).getD y []) 0=some (sealW t):=by
      rw[List.getD,wrt_get (by rw[k9.len];omega),if_pos yl];show getC (putC _ 0 (sealW t)) 0=_;rw[getC_put,if_pos rfl]
     refine⟨_,rfl,x,dx15,_,rfl,s'.get g15,rfl,_,rfl,x,ds,_,_,_,y,0,rfl,B',by rw[wrt_len,k9.len];omega,(fun z=>by rw[gy] at z;cases z),fun row er l nl=>?_⟩;rw[gy] at er;cases er;exact hR _ _ (same_new nl _) ⟨l,rfl,nl,upd_same⟩
    ·rw[List.length_map,List.length_range] at l16;refine⟨_,rfl,sm_1,fun l5 nl5=>?_⟩;have t5:=same_new nl5 (.lst [V.ref wl]);refine⟨_,rfl,_,rfl,_,_,rfl,?_⟩;rw[mn];refine⟨l5,_,_,rfl,rfl,upd_same,by omega,by omega,small (by rw[Int.toNat_natCast];show 1*min k m<=1000000;omega),fun l6 nl6=>?_⟩;rw[Int.toNat_natCast,List.flatten_replicate_singleton];have t6:=same_new nl6 (.lst (List.replicate (min k m) (V.ref wl)));have t56:=t5.trans t6;have s1516:=s16.trans t56;refine⟨rowsT (sealW t) (min k m),AllF,AllF,rows_dep _ _,rows_rep (t56.get h16) l16 (fun y hm=>?_),rows_rep upd_same List.length_replicate (fun y hm=>⟨wl,List.eq_of_mem_replicate hm,s1516.get hw15⟩),_,rfl,iteFc rfl (hN _ _ ⟨_,_,l4,_,_,_,_,_,_,rfl,k15.same s1516⟩)⟩;obtain⟨j,hj,ej⟩:=List.getElem_of_mem hm;obtain⟨_,_,b',e1,_,e3⟩:=hy j y (by rw[List.getElem?_eq_getElem hj,ej]);exact⟨b',e1,t56.get e3⟩
   refine⟨_,rfl,r,_,_,_,rfl,rfl,SqL.of hr9,xx 10 (by decide),_,_,rfl,rfl,(by show(0:Int)<4;decide),rfl,_,rfl,ite2 (fun d=>?_) (fun d=>?_)⟩
   ·
    refine⟨_,rfl,x,dx9,_,rfl,g1,rfl,_,rfl,_,rfl,x,ds,bs,n,_,b,0,.ref wl,some (sealW t),rfl,k9.bat,bl',few1,⟨wl,rfl,hwl⟩,fun H10 B10 kb10 _=>?_⟩;have hv10:=kb_rep k9.bat kb10 hv9;have hk10:=kb_lst k9.bat kb10 k9.hk;refine⟨_,rfl,_,rfl,_,rfl,kl,_,_,b,rfl,rfl,hk10,by rw[kvl.1];exact ix_in bl,hN _ _ ⟨_,_,kl,_,_,_,_,_,_,rfl,k9.put (k:=some t) B10 kb10 (by rw[List.length_set];exact k9.len) (few_set k9.few ?_) (k9.kep.set ⟨ht,by show getC (putC _ 0 (sealW t)) 0=_;rw[getC_put,if_pos rfl]⟩) ⟨ht,hv10⟩ kne⟩⟩;have:=putC_len (bs.getD b []) 0 (sealW t);have:=getD_few (b:=b) k9.few;show(putC (bs.getD b []) 0 (sealW t)).length<=i+1;omega
   refine⟨_,rfl,r,_,_,_,rfl,rfl,SqL.of hr9,xx 10 (by decide),_,_,rfl,rfl,(by show(0:Int)<12;decide),rfl,_,rfl,ite2 (fun d=>?_) (fun d=>?_)⟩
   ·
    refine⟨_,rfl,x,dx9,_,rfl,g1,rfl,_,rfl,x,ds,bs,n,_,b,rfl,k9.bat,bl',fun H10 B10 kb10=>?_⟩;have hk10:=kb_lst k9.bat kb10 k9.hk;exact⟨_,rfl,_,rfl,kl,_,_,b,rfl,rfl,hk10,by rw[kvl.1];exact ix_in bl,hN _ _ ⟨_,_,kl,_,_,_,_,_,_,rfl,k9.put (k:=none) (v:=.non) B10 kb10 (by rw[List.length_set];exact k9.len) (few_set k9.few (Nat.zero_le _)) (k9.kep.set dead0) rfl kne⟩⟩
   ·
    refine⟨_,rfl,x,dx9,_,rfl,g1,rfl,_,rfl,_,rfl,_,rfl,_,rfl,r,_,_,_,rfl,rfl,SqL.of hr9,xx 11 (by decide),_,_,rfl,rfl,(by show(0:Int)<5;decide),?_⟩;refine⟨r,wl,rs,t,rs.getD 11 0%5,rfl,SqL.of hr9,lr6,br6,ht,hwl,Int.emod_nonneg _ (by decide),Int.emod_lt_of_pos _ (by decide),fun sv H10 s10 dv=>?_⟩;have k10:=k9.same s10;have done:∀(o:Option (List Int)),Dead o->CellIs H10 o sv->sp_Boards_spoil K C_Boards [.ref x,.int (b:Int),.int 0,sv] H10 (fun _ H'=>tAsg (tC V.non) (gSub (tVar 3) (tVar 8) rSetL) { nx:=N,rt:=Q } [some (.ref a),some (.int (m:Int)),some (.ref x),some (.ref kl),some (.int c),some (.ref r),some v,some (.ref wl),some (.int (b:Int)),some (.int n),v10,v11,v12] H') E0:=fun o dd ci=>by
     refine⟨x,ds,bs,n,_,b,0,sv,o,rfl,k10.bat,bl',few1,ci,fun H11 B11 kb11 _=>?_⟩;have hk11:=kb_lst k10.bat kb11 k10.hk;refine⟨_,rfl,_,rfl,kl,_,_,b,rfl,rfl,hk11,by rw[kvl.1];exact ix_in bl,hN _ _ ⟨_,_,kl,_,_,_,_,_,_,rfl,k10.put (k:=none) (v:=.non) B11 kb11 (by rw[List.length_set];exact k10.len) (few_set k10.few ?_) (k10.kep.set ?_) rfl kne⟩⟩
     ·have:=getD_few (b:=b) k10.few;cases o with
      |none=>
       have:=dropC_len (bs.getD b []) 0;show(dropC (bs.getD b []) 0).length<=i+1;omega
      |some row=>
       have:=putC_len (bs.getD b []) 0 row;show(putC (bs.getD b []) 0 row).length<=i+1;omega
     ·cases o with
      |none=>
       show Dead (getC (dropC _ 0) 0);rw[getC_drop];exact dd
      |some row=>
       show Dead (getC (putC _ 0 row) 0);rw[getC_put,if_pos rfl];exact dd
    rcases dv with rfl|⟨ra,row,rfl,hra,dd⟩
    ·exact done none (fun _ z=>by cases z) rfl
    ·exact done (some row) dd ⟨ra,rfl,hra⟩
  ·rintro σ H10 ⟨bs,n',kl,ks,kv,v9,v10,v11,v12,rfl,k10⟩
   obtain⟨dx10,sh10,g1,g2,g3,g4⟩:=id k10.bat;refine⟨_,rfl,x,dx10,_,rfl,g1,rfl,x,ds,bs,n',_,rfl,k10.bat,?_⟩;have kl10:=k10.kvl;have zs:=zip_snd k10.kvr.1;have zf:=zip_fst k10.kvr.1;have zfo:=k10.kvr.zip;have zl:(ks.zip kv).length<=4:=by rw[List.length_zip];omega
   refine⟨_,rfl,kl,rfl,⟨_,SqL.of k10.hk⟩,?_⟩;refine comp_selF (ps:=ks.zip kv) (g:=fun q=>q.2) (fun q=>q.1.isSome) (fun q=>q.2) (itIs_list (SqL.of (by rw[zs];exact k10.hk))) (by omega) (fun y hy H' R s' hR=>?_) (fun y hy hs H' R s' hR=>⟨_,rfl,hR H' (Same.refl _)⟩) fun hl H11 n11 s11 h11=>?_
   ·refine⟨_,rfl,_,rfl,?_⟩;have fo:=zfo y hy;have e:(!decide (y.2=.non))=y.1.isSome:=by
     obtain⟨k,u⟩:=y;cases k with
     |none=>
      rw[show u=V.non from fo];rfl
     |some t'=>
      obtain⟨qa,xs,e,_⟩:=fo.aged rfl;rw[show u=V.ref qa from e];rfl
    rw[e];exact hR
   obtain⟨hz,ehz⟩:∃hz,hz=(ks.zip kv).filter fun q=>q.1.isSome:=⟨_,rfl⟩
   rw[<-ehz] at h11;have hzl:hz.length<=4:=by rw[ehz];exact Nat.le_trans (List.length_filter_le _ _) zl
   have hzs:∀y∈hz,y.1.isSome=true/\FoundAt H10 y.1 y.2:=fun y hy=>by
    rw[ehz] at hy;obtain⟨y1,y2⟩:=List.mem_filter.mp hy;exact⟨y2,zfo y y1⟩
   have bz:best (hz.map (·.1))=best ks:=by
    have e:hz.map (·.1)=ks.filter (·.isSome):=by
     conv=>rhs;rw[<-zf]
     rw[List.filter_map,ehz];rfl
    rw[e,best_filter]
   dsimp only[gName];refine seq_mid (t:=tAsg _ _) (fun σ' H'=>σ'=[some (.ref a),some (.int (m:Int)),some (.ref x),some (.ref kl),some (.int c),some (.ref r),some v,some (.ref wl),some (.int (b:Int)),some (.int n'),v10,some (.ref hl),some .non]/\H'=H11) (fun N hN=>hN _ _ ⟨rfl,rfl⟩) ?_
   rintro σ' H' ⟨rfl,hH⟩
   subst H';refine seq_mid (t:=tIfS _ _ _) (fun σ' H'=>∃dv,σ'=[some (.ref a),some (.int (m:Int)),some (.ref x),some (.ref kl),some (.int c),some (.ref r),some v,some (.ref wl),some (.int (b:Int)),some (.int n'),v10,some (.ref hl),some dv]/\Same H10 H'/\FoundAt H' (best ks) dv) (fun N hN=>?_) ?_
   ·refine⟨_,rfl,sm_0,fun pe npe=>?_⟩;have s12:=same_new npe (.lst []);have s102:=s11.trans s12;have h12:=s12.get h11;refine⟨hl,pe,_,rfl,rfl,SqL.of h12,SqL.of upd_same,_,rfl,ite2 (fun d=>?_) (fun d=>?_)⟩
    ·have hne:hz≠[]:=fun z=>by
      rw[z] at d;cases d
     generalize upd H11 pe (.lst [])=H12 at s12 s102 h12;obtain⟨u,uv,bu,au,fu⟩:=best_due (fun y hy=>(hzs y hy).1) hne;have ages:∀y∈hz,∃qa xs,y.2=.ref qa/\H12 qa=some (.tup (.int (ageO y)::xs)):=fun y hy=>by
      obtain⟨y1,y2⟩:=hzs y hy;obtain⟨qa,xs,e1,e2⟩:=(y2.same s102).aged y1;exact⟨qa,xs,e1,e2⟩
     refine⟨_,rfl,hl,rfl,⟨_,SqL.of h12⟩,?_⟩;refine comp_selG (ps:=hz) (g:=fun q=>q.2) (fun q=>decide (ageO q=maxZ (hz.map ageO))) (fun q=>q.2) (itIs_list (SqL.of h12)) (by omega) (fun y hy H' R s' hR=>?_) (fun y hy hs H' R s' hR=>⟨_,rfl,hR H' (Same.refl _)⟩) fun fl H13 n13 s13 h13=>?_
     ·obtain⟨qa,xs,e1,e2⟩:=ages y hy;rw[e1];refine⟨_,rfl,qa,_,_,_,rfl,rfl,SqT.of (s'.get e2),atI_nat (j:=0) rfl,?_⟩;refine⟨_,rfl,hl,rfl,⟨_,SqL.of (s'.get h12)⟩,?_⟩;refine comp_selF (ps:=hz) (g:=fun q=>q.2) (fun _=>true) (fun q=>.int (ageO q)) (itIs_list (SqL.of (s'.get h12))) (by omega) (fun w hw H'' R' s'' hR'=>hR') (fun w hw hs H'' R' s'' hR'=>?_) fun ml H14 n14 s14 h14=>?_
      ·obtain⟨qb,ys,f1,f2⟩:=ages w hw;rw[f1];exact⟨_,rfl,qb,_,_,_,rfl,rfl,SqT.of ((s'.trans s'').get f2),atI_nat (j:=0) rfl,hR' H'' (Same.refl _)⟩
      ·rw[List.filter_eq_self.mpr fun _ _=>rfl] at h14;refine⟨ml,hz.map ageO,rfl,SqL.of (by rw[List.map_map];exact h14),fun z=>hne (List.map_eq_nil_iff.mp z),rfl,_,rfl,?_⟩;have ee:decide (V.int (ageO y)=V.int (maxZ (hz.map ageO)))=decide (ageO y=maxZ (hz.map ageO)):=by
        by_cases z:ageO y=maxZ (hz.map ageO)
        ·rw[decide_eq_true z,decide_eq_true (by rw[z])]
        ·rw[decide_eq_false z,decide_eq_false fun y=>z (V.int.inj y)]
       rw[ee];exact hR H14 s14
     ·refine⟨fl,_,_,_,rfl,rfl,SqL.of h13,atI_nat (j:=0) (by rw[List.getElem?_map,fu];rfl),?_⟩;refine hN _ _ ⟨uv,rfl,s102.trans s13,?_⟩;have:=(hzs _ (List.mem_filter.mp (List.mem_of_getElem? fu)).1).2;rw[<-bz,bu];exact this.same (s102.trans s13)
    ·have hz0:hz=[]:=by
      cases hz with
      |nil=>rfl
      |cons y ys=>exact absurd rfl d
     refine hN _ _ ⟨.non,rfl,s102,?_⟩;rw[<-bz,hz0];rfl
   ·rintro σ H12 ⟨dv,rfl,s12,fo⟩
    have k12:=k10.same s12;obtain⟨dx12,sh12,g1',_⟩:=id k12.bat;cases hb':best ks with
    |none=>
     rw[hb'] at fo;cases(show dv=V.non from fo);refine⟨_,rfl,x,ds,bs,n',_,ks,rfl,k12.bat,by rw[k12.len];omega,k12.kep,fun e0 H13 s13=>?_,fun t' v' H13 et _ _=>by rw[hb'] at et;cases et⟩;have k13:=k12.same s13;obtain⟨dx13,sh13,g13,_⟩:=id k13.bat;refine⟨_,rfl,.non,NL,NL,by decide,rfl,rfl,_,rfl,iteFc rfl ?_⟩;exact⟨_,rfl,x,dx13,_,rfl,g13,rfl,x,ds,bs,n',_,rfl,k13.bat,_,rfl,rfl,_,rfl,iteFc (by simp) ⟨bs,n',kl,ks,kv,_,_,_,_,_,_,_,_,_,rfl,k13⟩⟩
    |some u=>
     rw[hb'] at fo;obtain⟨hu,ru⟩:=fo;refine⟨_,rfl,x,ds,bs,n',_,ks,rfl,k12.bat,by rw[k12.len];omega,k12.kep,(fun e0 H13 s13=>by rw[hb'] at e0;cases e0),fun t' v' H13 et s13 rv=>?_⟩;have k13:=k12.same s13;obtain⟨dx13,sh13,g13,_⟩:=id k13.bat;have et:u=t':=by rw[hb'] at et;exact Option.some.inj et
     subst et;refine⟨_,rfl,u,NL,NL,Nat.le_trans (isT_dep2 8 u hu.isT) (by decide),rv,Rep.same s13 _ _ ru,_,rfl,iteFc rfl ?_⟩;exact⟨_,rfl,x,dx13,_,rfl,g13,rfl,x,ds,bs,n',_,rfl,k13.bat,_,rfl,rfl,_,rfl,iteFc (by simp) ⟨bs,n',kl,ks,kv,_,_,_,_,_,_,_,_,_,rfl,k13⟩⟩
 ·rintro σ H5 ⟨bs,n,kl,ks,kv,v4,v5,v6,v7,v8,v9,v10,v11,v12,rfl,k5⟩
  refine⟨_,rfl,?_⟩;dsimp only[tNil];intro x' dx' nx' ndx' _;refine⟨x',dx',m,rfl,m1,m2,upd_same,fun H6 ds' B6 n6 k6=>⟨rfl,?_⟩⟩;have kep0:Kep (List.replicate m none) (List.replicate m []):=⟨by rw[List.length_replicate,List.length_replicate],fun i c k h1 h2=>by
   rw[List.getElem?_replicate] at h1 h2
   by_cases il:i<m
   ·rw[if_pos il] at h1 h2;cases h1;cases h2;exact dead0
   ·rw[if_neg il] at h1;cases h1⟩
  have bn:best (List.replicate m none)=none:=by
   have:∀m:Nat,(List.replicate m (none:Option Tr)).foldl stp none=none:=fun m=>by
    induction m with
    |zero=>rfl
    |succ m ih=>rw[List.replicate_succ];exact ih
   exact this m
  refine⟨x',ds',_,_,_,List.replicate m none,rfl,B6,by rw[List.length_replicate];omega,kep0,fun _ H7 _=>q H7,fun t' v' H7 et _ _=>?_⟩;rw[bn] at et;cases et
end
theorem all_mk {l:W.OpenLaw} {w:World} {K:W.Frag} {h:Heap} {mg:Str->Option Value} {fa:Addr} (X:K.In h) (G:h.Ns mainGlobals mg) (hfa:mg "law"=some (.ref fa))
  {f0:Addr} {od0 an0:Option Addr} {sl0:Array (Option Value)} {oc0 kV0 dc0 pm0 cd0 ct0:Value}
  {f1:Addr} {od1 an1:Option Addr} {sl1:Array (Option Value)} {oc1 kV1 dc1 pm1 cd1 ct1:Value}
  {f2:Addr} {od2 an2:Option Addr} {sl2:Array (Option Value)} {oc2 kV2 dc2 pm2 cd2 ct2:Value}
  {f3:Addr} {od3 an3:Option Addr} {sl3:Array (Option Value)} {oc3 kV3 dc3 pm3 cd3 ct3:Value}
  {f4:Addr} {od4 an4:Option Addr} {sl4:Array (Option Value)} {oc4 kV4 dc4 pm4 cd4 ct4:Value}
  {f5:Addr} {od5 an5:Option Addr} {sl5:Array (Option Value)} {oc5 kV5 dc5 pm5 cd5 ct5:Value}
  {f6:Addr} {od6 an6:Option Addr} {sl6:Array (Option Value)} {oc6 kV6 dc6 pm6 cd6 ct6:Value}
  {f7:Addr} {od7 an7:Option Addr} {sl7:Array (Option Value)} {oc7 kV7 dc7 pm7 cd7 ct7:Value}
  {f8:Addr} {od8 an8:Option Addr} {sl8:Array (Option Value)} {oc8 kV8 dc8 pm8 cd8 ct8:Value}
  {f9:Addr} {od9 an9:Option Addr} {sl9:Array (Option Value)} {oc9 kV9 dc9 pm9 cd9 ct9:Value}
  {f10:Addr} {od10 an10:Option Addr} {sl10:Array (Option Value)} {oc10 kV10 dc10 pm10 cd10 ct10:Value}
  {f11:Addr} {od11 an11:Option Addr} {sl11:Array (Option Value)} {oc11 kV11 dc11 pm11 cd11 ct11:Value}
  {f12:Addr} {od12 an12:Option Addr} {sl12:Array (Option Value)} {oc12 kV12 dc12 pm12 cd12 ct12:Value}
  {f13:Addr} {od13 an13:Option Addr} {sl13:Array (Option Value)} {oc13 kV13 dc13 pm13 cd13 ct13:Value}
  {f14:Addr} {od14 an14:Option Addr} {sl14:Array (Option Value)} {oc14 kV14 dc14 pm14 cd14 ct14:Value}
  {f15:Addr} {od15 an15:Option Addr} {sl15:Array (Option Value)} {oc15 kV15 dc15 pm15 cd15 ct15:Value}
  {f16:Addr} {od16 an16:Option Addr} {sl16:Array (Option Value)} {oc16 kV16 dc16 pm16 cd16 ct16:Value}
  {f17:Addr} {od17 an17:Option Addr} {sl17:Array (Option Value)} {oc17 kV17 dc17 pm17 cd17 ct17:Value}
  {f18:Addr} {od18 an18:Option Addr} {sl18:Array (Option Value)} {oc18 kV18 dc18 pm18 cd18 ct18:Value}
  {f19:Addr} {od19 an19:Option Addr} {sl19:Array (Option Value)} {oc19 kV19 dc19 pm19 cd19 ct19:Value}
  {f20:Addr} {od20 an20:Option Addr} {sl20:Array (Option Value)} {oc20 kV20 dc20 pm20 cd20 ct20:Value}
  {f21:Addr} {od21 an21:Option Addr} {sl21:Array (Option Value)} {oc21 kV21 dc21 pm21 cd21 ct21:Value}
  {f22:Addr} {od22 an22:Option Addr} {sl22:Array (Option Value)} {oc22 kV22 dc22 pm22 cd22 ct22:Value}
  {f23:Addr} {od23 an23:Option Addr} {sl23:Array (Option Value)} {oc23 kV23 dc23 pm23 cd23 ct23:Value}
  {f24:Addr} {od24 an24:Option Addr} {sl24:Array (Option Value)} {oc24 kV24 dc24 pm24 cd24 ct24:Value}
  {f25:Addr} {od25 an25:Option Addr} {sl25:Array (Option Value)} {oc25 kV25 dc25 pm25 cd25 ct25:Value}
  {f26:Addr} {od26 an26:Option Addr} {sl26:Array (Option Value)} {oc26 kV26 dc26 pm26 cd26 ct26:Value}
  {f27:Addr} {od27 an27:Option Addr} {sl27:Array (Option Value)} {oc27 kV27 dc27 pm27 cd27 ct27:Value}
  {f28:Addr} {od28 an28:Option Addr} {sl28:Array (Option Value)} {oc28 kV28 dc28 pm28 cd28 ct28:Value}
  {f29:Addr} {od29 an29:Option Addr} {sl29:Array (Option Value)} {oc29 kV29 dc29 pm29 cd29 ct29:Value}
  {f30:Addr} {od30 an30:Option Addr} {sl30:Array (Option Value)} {oc30 kV30 dc30 pm30 cd30 ct30:Value}
  {f31:Addr} {od31 an31:Option Addr} {sl31:Array (Option Value)} {oc31 kV31 dc31 pm31 cd31 ct31:Value}
  {f32:Addr} {od32 an32:Option Addr} {sl32:Array (Option Value)} {oc32 kV32 dc32 pm32 cd32 ct32:Value}
  {f33:Addr} {od33 an33:Option Addr} {sl33:Array (Option Value)} {oc33 kV33 dc33 pm33 cd33 ct33:Value}
  {f34:Addr} {od34 an34:Option Addr} {sl34:Array (Option Value)} {oc34 kV34 dc34 pm34 cd34 ct34:Value}
  {f35:Addr} {od35 an35:Option Addr} {sl35:Array (Option Value)} {oc35 kV35 dc35 pm35 cd35 ct35:Value}
  {f36:Addr} {od36 an36:Option Addr} {sl36:Array (Option Value)} {oc36 kV36 dc36 pm36 cd36 ct36:Value}
  {f37:Addr} {od37 an37:Option Addr} {sl37:Array (Option Value)} {oc37 kV37 dc37 pm37 cd37 ct37:Value}
  {f38:Addr} {od38 an38:Option Addr} {sl38:Array (Option Value)} {oc38 kV38 dc38 pm38 cd38 ct38:Value}
  {f39:Addr} {od39 an39:Option Addr} {sl39:Array (Option Value)} {oc39 kV39 dc39 pm39 cd39 ct39:Value}
  {f40:Addr} {od40 an40:Option Addr} {sl40:Array (Option Value)} {oc40 kV40 dc40 pm40 cd40 ct40:Value}
  {f41:Addr} {od41 an41:Option Addr} {sl41:Array (Option Value)} {oc41 kV41 dc41 pm41 cd41 ct41:Value}
  {f42:Addr} {od42 an42:Option Addr} {sl42:Array (Option Value)} {oc42 kV42 dc42 pm42 cd42 ct42:Value}
  {f43:Addr} {od43 an43:Option Addr} {sl43:Array (Option Value)} {oc43 kV43 dc43 pm43 cd43 ct43:Value}
  {f44:Addr} {od44 an44:Option Addr} {sl44:Array (Option Value)} {oc44 kV44 dc44 pm44 cd44 ct44:Value}
  {f45:Addr} {od45 an45:Option Addr} {sl45:Array (Option Value)} {oc45 kV45 dc45 pm45 cd45 ct45:Value}
  {C_WordReader:Addr}
  {C_Boards:Addr}
  {X_NoThing:Addr}
  {X_Stopped:Addr}
  {X_NoHouse:Addr}
  {X_StemError:Addr}
  {X_Lost:Addr}
  {t_SIGNS:Tok}
  {t_MOST_NUMBER:Tok}
  {t_MOST_SIGNS:Tok}
  {t_MOST_PARTS:Tok}
  {t_MOST_DEEP:Tok}
  {t_NUMBER_WORD:Tok}
  {t_TEXT_WORD:Tok}
  {t_TUPLE_WORD:Tok}
  {t_NAME_SIGNS:Tok}
  {t_MOST_NAME_SIGNS:Tok}
  {t_MOST_CELL:Tok}
  {t_MOST_BIRTH:Tok}
  {t_SUM_RESTS:Tok}
  {t_MARK_RESTS:Tok}
  {t_STEM:Tok}
  {t_SEAL:Tok}
  {t_HEAD_CELL:Tok}
  {t_MOST_KEEPERS:Tok}
  {t_MOST_NAMES:Tok}
  {t_LEAST_BOARDS:Tok}
  {t_MOST_BOARDS:Tok}
  (a0:W.nsIn K mainGlobals "is_whole"=some (some (.ref f0))) (l0:K.lookup f0=some ⟨oc0,od0,.func (W.fnOf "is_whole" "is_whole" (defArgs s_is_whole) (defBody s_is_whole) (defScope s_is_whole) .none kV0 dc0 pm0 an0 cd0 ct0),sl0⟩) (c0:W.codeIn K cd0 "is_whole"=true) (k0:W.keepIn K (.ref f0)=true)
  (a1:W.nsIn K mainGlobals "is_between"=some (some (.ref f1))) (l1:K.lookup f1=some ⟨oc1,od1,.func (W.fnOf "is_between" "is_between" (defArgs s_is_between) (defBody s_is_between) (defScope s_is_between) .none kV1 dc1 pm1 an1 cd1 ct1),sl1⟩) (c1:W.codeIn K cd1 "is_between"=true) (k1:W.keepIn K (.ref f1)=true)
  (a2:W.nsIn K mainGlobals "is_tuple_of"=some (some (.ref f2))) (l2:K.lookup f2=some ⟨oc2,od2,.func (W.fnOf "is_tuple_of" "is_tuple_of" (defArgs s_is_tuple_of) (defBody s_is_tuple_of) (defScope s_is_tuple_of) .none kV2 dc2 pm2 an2 cd2 ct2),sl2⟩) (c2:W.codeIn K cd2 "is_tuple_of"=true) (k2:W.keepIn K (.ref f2)=true)
  (a3:W.nsIn K mainGlobals "number_of"=some (some (.ref f3))) (l3:K.lookup f3=some ⟨oc3,od3,.func (W.fnOf "number_of" "number_of" (defArgs s_number_of) (defBody s_number_of) (defScope s_number_of) .none kV3 dc3 pm3 an3 cd3 ct3),sl3⟩) (c3:W.codeIn K cd3 "number_of"=true) (k3:W.keepIn K (.ref f3)=true)
  (a4:W.nsIn K mainGlobals "sign_of"=some (some (.ref f4))) (l4:K.lookup f4=some ⟨oc4,od4,.func (W.fnOf "sign_of" "sign_of" (defArgs s_sign_of) (defBody s_sign_of) (defScope s_sign_of) .none kV4 dc4 pm4 an4 cd4 ct4),sl4⟩) (c4:W.codeIn K cd4 "sign_of"=true) (k4:W.keepIn K (.ref f4)=true)
  (a5:W.nsIn K mainGlobals "is_text"=some (some (.ref f5))) (l5:K.lookup f5=some ⟨oc5,od5,.func (W.fnOf "is_text" "is_text" (defArgs s_is_text) (defBody s_is_text) (defScope s_is_text) .none kV5 dc5 pm5 an5 cd5 ct5),sl5⟩) (c5:W.codeIn K cd5 "is_text"=true) (k5:W.keepIn K (.ref f5)=true)
  (a6:W.nsIn K mainGlobals "words_of"=some (some (.ref f6))) (l6:K.lookup f6=some ⟨oc6,od6,.func (W.fnOf "words_of" "words_of" (defArgs s_words_of) (defBody s_words_of) (defScope s_words_of) .none kV6 dc6 pm6 an6 cd6 ct6),sl6⟩) (c6:W.codeIn K cd6 "words_of"=true) (k6:W.keepIn K (.ref f6)=true)
  (a7:W.nsIn K mainGlobals "thing_of"=some (some (.ref f7))) (l7:K.lookup f7=some ⟨oc7,od7,.func (W.fnOf "thing_of" "thing_of" (defArgs s_thing_of) (defBody s_thing_of) (defScope s_thing_of) .none kV7 dc7 pm7 an7 cd7 ct7),sl7⟩) (c7:W.codeIn K cd7 "thing_of"=true) (k7:W.keepIn K (.ref f7)=true)
  (a8:W.findIn K (.ref C_WordReader) "__init__"=some (some (.ref f8))) (i8:W.isFn K (.ref f8)=true) (l8:K.lookup f8=some ⟨oc8,od8,.func (W.fnOf "__init__" "WordReader.__init__" (defArgs s_WordReader_init) (defBody s_WordReader_init) (defScope s_WordReader_init) .none kV8 dc8 pm8 an8 cd8 ct8),sl8⟩) (c8:W.codeIn K cd8 "WordReader.__init__"=true) (k8:W.keepIn K (.ref f8)=true)
  (a9:W.findIn K (.ref C_WordReader) "is_through"=some (some (.ref f9))) (i9:W.isFn K (.ref f9)=true) (l9:K.lookup f9=some ⟨oc9,od9,.func (W.fnOf "is_through" "WordReader.is_through" (defArgs s_WordReader_is_through) (defBody s_WordReader_is_through) (defScope s_WordReader_is_through) .none kV9 dc9 pm9 an9 cd9 ct9),sl9⟩) (c9:W.codeIn K cd9 "WordReader.is_through"=true) (k9:W.keepIn K (.ref f9)=true)
  (a10:W.findIn K (.ref C_WordReader) "word_to"=some (some (.ref f10))) (i10:W.isFn K (.ref f10)=true) (l10:K.lookup f10=some ⟨oc10,od10,.func (W.fnOf "word_to" "WordReader.word_to" (defArgs s_WordReader_word_to) (defBody s_WordReader_word_to) (defScope s_WordReader_word_to) .none kV10 dc10 pm10 an10 cd10 ct10),sl10⟩) (c10:W.codeIn K cd10 "WordReader.word_to"=true) (k10:W.keepIn K (.ref f10)=true)
  (a11:W.nsIn K mainGlobals "read_thing"=some (some (.ref f11))) (l11:K.lookup f11=some ⟨oc11,od11,.func (W.fnOf "read_thing" "read_thing" (defArgs s_read_thing) (defBody s_read_thing) (defScope s_read_thing) .none kV11 dc11 pm11 an11 cd11 ct11),sl11⟩) (c11:W.codeIn K cd11 "read_thing"=true) (k11:W.keepIn K (.ref f11)=true)
  (a12:W.nsIn K mainGlobals "read_text"=some (some (.ref f12))) (l12:K.lookup f12=some ⟨oc12,od12,.func (W.fnOf "read_text" "read_text" (defArgs s_read_text) (defBody s_read_text) (defScope s_read_text) .none kV12 dc12 pm12 an12 cd12 ct12),sl12⟩) (c12:W.codeIn K cd12 "read_text"=true) (k12:W.keepIn K (.ref f12)=true)
  (a13:W.nsIn K mainGlobals "is_name"=some (some (.ref f13))) (l13:K.lookup f13=some ⟨oc13,od13,.func (W.fnOf "is_name" "is_name" (defArgs s_is_name) (defBody s_is_name) (defScope s_is_name) .none kV13 dc13 pm13 an13 cd13 ct13),sl13⟩) (c13:W.codeIn K cd13 "is_name"=true) (k13:W.keepIn K (.ref f13)=true)
  (a14:W.nsIn K mainGlobals "is_tag"=some (some (.ref f14))) (l14:K.lookup f14=some ⟨oc14,od14,.func (W.fnOf "is_tag" "is_tag" (defArgs s_is_tag) (defBody s_is_tag) (defScope s_is_tag) .none kV14 dc14 pm14 an14 cd14 ct14),sl14⟩) (c14:W.codeIn K cd14 "is_tag"=true) (k14:W.keepIn K (.ref f14)=true)
  (a15:W.nsIn K mainGlobals "mark_of"=some (some (.ref f15))) (l15:K.lookup f15=some ⟨oc15,od15,.func (W.fnOf "mark_of" "mark_of" (defArgs s_mark_of) (defBody s_mark_of) (defScope s_mark_of) .none kV15 dc15 pm15 an15 cd15 ct15),sl15⟩) (c15:W.codeIn K cd15 "mark_of"=true) (k15:W.keepIn K (.ref f15)=true)
  (a16:W.nsIn K mainGlobals "sealed"=some (some (.ref f16))) (l16:K.lookup f16=some ⟨oc16,od16,.func (W.fnOf "sealed" "sealed" (defArgs s_sealed) (defBody s_sealed) (defScope s_sealed) .none kV16 dc16 pm16 an16 cd16 ct16),sl16⟩) (c16:W.codeIn K cd16 "sealed"=true) (k16:W.keepIn K (.ref f16)=true)
  (a17:W.nsIn K mainGlobals "unsealed"=some (some (.ref f17))) (l17:K.lookup f17=some ⟨oc17,od17,.func (W.fnOf "unsealed" "unsealed" (defArgs s_unsealed) (defBody s_unsealed) (defScope s_unsealed) .none kV17 dc17 pm17 an17 cd17 ct17),sl17⟩) (c17:W.codeIn K cd17 "unsealed"=true) (k17:W.keepIn K (.ref f17)=true)
  (a18:W.nsIn K mainGlobals "thing_on"=some (some (.ref f18))) (l18:K.lookup f18=some ⟨oc18,od18,.func (W.fnOf "thing_on" "thing_on" (defArgs s_thing_on) (defBody s_thing_on) (defScope s_thing_on) .none kV18 dc18 pm18 an18 cd18 ct18),sl18⟩) (c18:W.codeIn K cd18 "thing_on"=true) (k18:W.keepIn K (.ref f18)=true)
  (a19:W.nsIn K mainGlobals "is_head"=some (some (.ref f19))) (l19:K.lookup f19=some ⟨oc19,od19,.func (W.fnOf "is_head" "is_head" (defArgs s_is_head) (defBody s_is_head) (defScope s_is_head) .none kV19 dc19 pm19 an19 cd19 ct19),sl19⟩) (c19:W.codeIn K cd19 "is_head"=true) (k19:W.keepIn K (.ref f19)=true)
  (a20:W.nsIn K mainGlobals "are_keepers"=some (some (.ref f20))) (l20:K.lookup f20=some ⟨oc20,od20,.func (W.fnOf "are_keepers" "are_keepers" (defArgs s_are_keepers) (defBody s_are_keepers) (defScope s_are_keepers) .none kV20 dc20 pm20 an20 cd20 ct20),sl20⟩) (c20:W.codeIn K cd20 "are_keepers"=true) (k20:W.keepIn K (.ref f20)=true)
  (a21:W.nsIn K mainGlobals "is_keeper"=some (some (.ref f21))) (l21:K.lookup f21=some ⟨oc21,od21,.func (W.fnOf "is_keeper" "is_keeper" (defArgs s_is_keeper) (defBody s_is_keeper) (defScope s_is_keeper) .none kV21 dc21 pm21 an21 cd21 ct21),sl21⟩) (c21:W.codeIn K cd21 "is_keeper"=true) (k21:W.keepIn K (.ref f21)=true)
  (a22:W.nsIn K mainGlobals "are_rising"=some (some (.ref f22))) (l22:K.lookup f22=some ⟨oc22,od22,.func (W.fnOf "are_rising" "are_rising" (defArgs s_are_rising) (defBody s_are_rising) (defScope s_are_rising) .none kV22 dc22 pm22 an22 cd22 ct22),sl22⟩) (c22:W.codeIn K cd22 "are_rising"=true) (k22:W.keepIn K (.ref f22)=true)
  (a23:W.nsIn K mainGlobals "are_names"=some (some (.ref f23))) (l23:K.lookup f23=some ⟨oc23,od23,.func (W.fnOf "are_names" "are_names" (defArgs s_are_names) (defBody s_are_names) (defScope s_are_names) .none kV23 dc23 pm23 an23 cd23 ct23),sl23⟩) (c23:W.codeIn K cd23 "are_names"=true) (k23:W.keepIn K (.ref f23)=true)
  (a24:W.nsIn K mainGlobals "is_stem"=some (some (.ref f24))) (l24:K.lookup f24=some ⟨oc24,od24,.func (W.fnOf "is_stem" "is_stem" (defArgs s_is_stem) (defBody s_is_stem) (defScope s_is_stem) .none kV24 dc24 pm24 an24 cd24 ct24),sl24⟩) (c24:W.codeIn K cd24 "is_stem"=true) (k24:W.keepIn K (.ref f24)=true)
  (a25:W.nsIn K mainGlobals "is_seal"=some (some (.ref f25))) (l25:K.lookup f25=some ⟨oc25,od25,.func (W.fnOf "is_seal" "is_seal" (defArgs s_is_seal) (defBody s_is_seal) (defScope s_is_seal) .none kV25 dc25 pm25 an25 cd25 ct25),sl25⟩) (c25:W.codeIn K cd25 "is_seal"=true) (k25:W.keepIn K (.ref f25)=true)
  (a26:W.nsIn K mainGlobals "are_at_one"=some (some (.ref f26))) (l26:K.lookup f26=some ⟨oc26,od26,.func (W.fnOf "are_at_one" "are_at_one" (defArgs s_are_at_one) (defBody s_are_at_one) (defScope s_are_at_one) .none kV26 dc26 pm26 an26 cd26 ct26),sl26⟩) (c26:W.codeIn K cd26 "are_at_one"=true) (k26:W.keepIn K (.ref f26)=true)
  (a27:W.nsIn K mainGlobals "head_row"=some (some (.ref f27))) (l27:K.lookup f27=some ⟨oc27,od27,.func (W.fnOf "head_row" "head_row" (defArgs s_head_row) (defBody s_head_row) (defScope s_head_row) .none kV27 dc27 pm27 an27 cd27 ct27),sl27⟩) (c27:W.codeIn K cd27 "head_row"=true) (k27:W.keepIn K (.ref f27)=true)
  (a28:W.nsIn K mainGlobals "lay_head"=some (some (.ref f28))) (l28:K.lookup f28=some ⟨oc28,od28,.func (W.fnOf "lay_head" "lay_head" (defArgs s_lay_head) (defBody s_lay_head) (defScope s_lay_head) .none kV28 dc28 pm28 an28 cd28 ct28),sl28⟩) (c28:W.codeIn K cd28 "lay_head"=true) (k28:W.keepIn K (.ref f28)=true)
  (a29:W.nsIn K mainGlobals "head_of"=some (some (.ref f29))) (l29:K.lookup f29=some ⟨oc29,od29,.func (W.fnOf "head_of" "head_of" (defArgs s_head_of) (defBody s_head_of) (defScope s_head_of) .none kV29 dc29 pm29 an29 cd29 ct29),sl29⟩) (c29:W.codeIn K cd29 "head_of"=true) (k29:W.keepIn K (.ref f29)=true)
  (a30:W.findIn K (.ref C_Boards) "__init__"=some (some (.ref f30))) (i30:W.isFn K (.ref f30)=true) (l30:K.lookup f30=some ⟨oc30,od30,.func (W.fnOf "__init__" "Boards.__init__" (defArgs s_Boards_init) (defBody s_Boards_init) (defScope s_Boards_init) .none kV30 dc30 pm30 an30 cd30 ct30),sl30⟩) (c30:W.codeIn K cd30 "Boards.__init__"=true) (k30:W.keepIn K (.ref f30)=true)
  (a31:W.findIn K (.ref C_Boards) "many"=some (some (.ref f31))) (i31:W.isFn K (.ref f31)=true) (l31:K.lookup f31=some ⟨oc31,od31,.func (W.fnOf "many" "Boards.many" (defArgs s_Boards_many) (defBody s_Boards_many) (defScope s_Boards_many) .none kV31 dc31 pm31 an31 cd31 ct31),sl31⟩) (c31:W.codeIn K cd31 "Boards.many"=true) (k31:W.keepIn K (.ref f31)=true)
  (a32:W.findIn K (.ref C_Boards) "write"=some (some (.ref f32))) (i32:W.isFn K (.ref f32)=true) (l32:K.lookup f32=some ⟨oc32,od32,.func (W.fnOf "write" "Boards.write" (defArgs s_Boards_write) (defBody s_Boards_write) (defScope s_Boards_write) .none kV32 dc32 pm32 an32 cd32 ct32),sl32⟩) (c32:W.codeIn K cd32 "Boards.write"=true) (k32:W.keepIn K (.ref f32)=true)
  (a33:W.findIn K (.ref C_Boards) "cell"=some (some (.ref f33))) (i33:W.isFn K (.ref f33)=true) (l33:K.lookup f33=some ⟨oc33,od33,.func (W.fnOf "cell" "Boards.cell" (defArgs s_Boards_cell) (defBody s_Boards_cell) (defScope s_Boards_cell) .none kV33 dc33 pm33 an33 cd33 ct33),sl33⟩) (c33:W.codeIn K cd33 "Boards.cell"=true) (k33:W.keepIn K (.ref f33)=true)
  (a34:W.findIn K (.ref C_Boards) "spoil"=some (some (.ref f34))) (i34:W.isFn K (.ref f34)=true) (l34:K.lookup f34=some ⟨oc34,od34,.func (W.fnOf "spoil" "Boards.spoil" (defArgs s_Boards_spoil) (defBody s_Boards_spoil) (defScope s_Boards_spoil) .none kV34 dc34 pm34 an34 cd34 ct34),sl34⟩) (c34:W.codeIn K cd34 "Boards.spoil"=true) (k34:W.keepIn K (.ref f34)=true)
  (a35:W.findIn K (.ref C_Boards) "lose"=some (some (.ref f35))) (i35:W.isFn K (.ref f35)=true) (l35:K.lookup f35=some ⟨oc35,od35,.func (W.fnOf "lose" "Boards.lose" (defArgs s_Boards_lose) (defBody s_Boards_lose) (defScope s_Boards_lose) .none kV35 dc35 pm35 an35 cd35 ct35),sl35⟩) (c35:W.codeIn K cd35 "Boards.lose"=true) (k35:W.keepIn K (.ref f35)=true)
  (a36:W.findIn K (.ref C_Boards) "stop"=some (some (.ref f36))) (i36:W.isFn K (.ref f36)=true) (l36:K.lookup f36=some ⟨oc36,od36,.func (W.fnOf "stop" "Boards.stop" (defArgs s_Boards_stop) (defBody s_Boards_stop) (defScope s_Boards_stop) .none kV36 dc36 pm36 an36 cd36 ct36),sl36⟩) (c36:W.codeIn K cd36 "Boards.stop"=true) (k36:W.keepIn K (.ref f36)=true)
  (a37:W.findIn K (.ref C_Boards) "written"=some (some (.ref f37))) (i37:W.isFn K (.ref f37)=true) (l37:K.lookup f37=some ⟨oc37,od37,.func (W.fnOf "written" "Boards.written" (defArgs s_Boards_written) (defBody s_Boards_written) (defScope s_Boards_written) .none kV37 dc37 pm37 an37 cd37 ct37),sl37⟩) (c37:W.codeIn K cd37 "Boards.written"=true) (k37:W.keepIn K (.ref f37)=true)
  (a38:W.findIn K (.ref C_Boards) "shelf"=some (some (.ref f38))) (i38:W.isFn K (.ref f38)=true) (l38:K.lookup f38=some ⟨oc38,od38,.func (W.fnOf "shelf" "Boards.shelf" (defArgs s_Boards_shelf) (defBody s_Boards_shelf) (defScope s_Boards_shelf) .none kV38 dc38 pm38 an38 cd38 ct38),sl38⟩) (c38:W.codeIn K cd38 "Boards.shelf"=true) (k38:W.keepIn K (.ref f38)=true)
  (a39:W.nsIn K mainGlobals "_law_cell_at"=some (some (.ref f39))) (l39:K.lookup f39=some ⟨oc39,od39,.func (W.fnOf "_law_cell_at" "_law_cell_at" (defArgs s__law_cell_at) (defBody s__law_cell_at) (defScope s__law_cell_at) .none kV39 dc39 pm39 an39 cd39 ct39),sl39⟩) (c39:W.codeIn K cd39 "_law_cell_at"=true) (k39:W.keepIn K (.ref f39)=true)
  (a40:W.nsIn K mainGlobals "_law_row"=some (some (.ref f40))) (l40:K.lookup f40=some ⟨oc40,od40,.func (W.fnOf "_law_row" "_law_row" (defArgs s__law_row) (defBody s__law_row) (defScope s__law_row) .none kV40 dc40 pm40 an40 cd40 ct40),sl40⟩) (c40:W.codeIn K cd40 "_law_row"=true) (k40:W.keepIn K (.ref f40)=true)
  (a41:W.nsIn K mainGlobals "_law_head"=some (some (.ref f41))) (l41:K.lookup f41=some ⟨oc41,od41,.func (W.fnOf "_law_head" "_law_head" (defArgs s__law_head) (defBody s__law_head) (defScope s__law_head) .none kV41 dc41 pm41 an41 cd41 ct41),sl41⟩) (c41:W.codeIn K cd41 "_law_head"=true) (k41:W.keepIn K (.ref f41)=true)
  (a42:W.nsIn K mainGlobals "_law_spoilt"=some (some (.ref f42))) (l42:K.lookup f42=some ⟨oc42,od42,.func (W.fnOf "_law_spoilt" "_law_spoilt" (defArgs s__law_spoilt) (defBody s__law_spoilt) (defScope s__law_spoilt) .none kV42 dc42 pm42 an42 cd42 ct42),sl42⟩) (c42:W.codeIn K cd42 "_law_spoilt"=true) (k42:W.keepIn K (.ref f42)=true)
  (a43:W.nsIn K mainGlobals "_law_told"=some (some (.ref f43))) (l43:K.lookup f43=some ⟨oc43,od43,.func (W.fnOf "_law_told" "_law_told" (defArgs s__law_told) (defBody s__law_told) (defScope s__law_told) .none kV43 dc43 pm43 an43 cd43 ct43),sl43⟩) (c43:W.codeIn K cd43 "_law_told"=true) (k43:W.keepIn K (.ref f43)=true)
  (a44:W.nsIn K mainGlobals "_law_is_stopped"=some (some (.ref f44))) (l44:K.lookup f44=some ⟨oc44,od44,.func (W.fnOf "_law_is_stopped" "_law_is_stopped" (defArgs s__law_is_stopped) (defBody s__law_is_stopped) (defScope s__law_is_stopped) .none kV44 dc44 pm44 an44 cd44 ct44),sl44⟩) (c44:W.codeIn K cd44 "_law_is_stopped"=true) (k44:W.keepIn K (.ref f44)=true)
  (a45:W.nsIn K mainGlobals "law"=some (some (.ref f45))) (l45:K.lookup f45=some ⟨oc45,od45,.func (W.fnOf "law" "law" (defArgs s_law) (defBody s_law) (defScope s_law) .none kV45 dc45 pm45 an45 cd45 ct45),sl45⟩) (c45:W.codeIn K cd45 "law"=true) (k45:W.keepIn K (.ref f45)=true)
  (aC_WordReader:W.nsIn K mainGlobals "WordReader"=some (some (.ref C_WordReader))) (pg_WordReader:W.plainGet K C_WordReader Str.empty=true) (hd_WordReader:W.hasDictIn K C_WordReader=true) (po_WordReader:W.plainOver K C_WordReader=true) (sa_WordReader:W.findIn K (.ref C_WordReader) "__setattr__"=some (some (.builtin "object.__setattr__"))) (mk_WordReader:W.makesIn K C_WordReader=true) (kc_WordReader:W.keepIn K (.ref C_WordReader)=true)
  (n_WordReader_words:W.findIn K (.ref C_WordReader) "words"=some none)
  (n_WordReader_place:W.findIn K (.ref C_WordReader) "place"=some none)
  (aC_Boards:W.nsIn K mainGlobals "Boards"=some (some (.ref C_Boards))) (pg_Boards:W.plainGet K C_Boards Str.empty=true) (hd_Boards:W.hasDictIn K C_Boards=true) (po_Boards:W.plainOver K C_Boards=true) (sa_Boards:W.findIn K (.ref C_Boards) "__setattr__"=some (some (.builtin "object.__setattr__"))) (mk_Boards:W.makesIn K C_Boards=true) (kc_Boards:W.keepIn K (.ref C_Boards)=true)
  (n_Boards_shelves:W.findIn K (.ref C_Boards) "shelves"=some none)
  (n_Boards_writes:W.findIn K (.ref C_Boards) "writes"=some none)
  (n_Boards_writes_left:W.findIn K (.ref C_Boards) "writes_left"=some none)
  (x_NoThing:W.nsIn K mainGlobals "NoThing"=some (some (.ref X_NoThing)))
  (x_Stopped:W.nsIn K mainGlobals "Stopped"=some (some (.ref X_Stopped)))
  (x_NoHouse:W.nsIn K mainGlobals "NoHouse"=some (some (.ref X_NoHouse)))
  (x_StemError:W.nsIn K mainGlobals "StemError"=some (some (.ref X_StemError)))
  (x_Lost:W.nsIn K mainGlobals "Lost"=some (some (.ref X_Lost)))
  (q_Stopped:W.excIn K X_Stopped [.type "ValueError",.type "Exception",.type "BaseException",.type "object"] "ValueError.__new__"=true)
  (q_NoThing:W.excIn K X_NoThing [.type "ValueError",.type "Exception",.type "BaseException",.type "object"] "ValueError.__new__"=true)
  (q_NoHouse:W.excIn K X_NoHouse [.type "ValueError",.type "Exception",.type "BaseException",.type "object"] "ValueError.__new__"=true)
  (m_NoThing_NoThing:W.exmOne K (.ref X_NoThing) (.ref X_NoThing)=some true)
  (m_NoHouse_StemError:W.exmOne K (.ref X_NoHouse) (.ref X_StemError)=some true)
  (m_Stopped_Stopped:W.exmOne K (.ref X_Stopped) (.ref X_Stopped)=some true)
  (ga_NoHouse:W.findIn K (.ref X_NoHouse) "__getattribute__"=some (some (.builtin "BaseException.__getattribute__")))
  (gg_NoHouse:W.findIn K (.ref X_NoHouse) "__getattr__"=some none)
  (gc_NoHouse:W.findIn K (.ref X_NoHouse) "__class__"=some (some (.builtin "object.__class__")))
  (gs_NoHouse:W.specialIn K (.builtin "object.__class__") "__get__"=some (some (.builtin "getset_descriptor.__get__")))
  (gt_NoHouse:W.takesIn K (.builtin "object.__class__")=some true)
  (go_NoHouse:W.mroIn K X_NoHouse (.type "object")=some true)
  (gb_NoHouse:W.mroIn K X_NoHouse (.type "BaseException")=some true)
  (k_NoHouse_Lost:W.kitOne K (.ref X_NoHouse) (.ref X_Lost)=some false)
  (k_NoHouse_NoThing:W.kitOne K (.ref X_NoHouse) (.ref X_NoThing)=some false)
  (k_NoHouse_Stopped:W.kitOne K (.ref X_NoHouse) (.ref X_Stopped)=some false)
  (k_NoHouse_ValueError:W.kitOne K (.ref X_NoHouse) (.type "ValueError")=some true)
  (k_NoHouse_NoHouse:W.kitOne K (.ref X_NoHouse) (.ref X_NoHouse)=some true)
  (z_ValueError:W.nsIn K mainGlobals "ValueError"=some none)
  (z_abs:W.nsIn K mainGlobals "abs"=some none)
  (z_all:W.nsIn K mainGlobals "all"=some none)
  (z_bool:W.nsIn K mainGlobals "bool"=some none)
  (z_dict:W.nsIn K mainGlobals "dict"=some none)
  (z_enumerate:W.nsIn K mainGlobals "enumerate"=some none)
  (z_int:W.nsIn K mainGlobals "int"=some none)
  (z_isinstance:W.nsIn K mainGlobals "isinstance"=some none)
  (z_len:W.nsIn K mainGlobals "len"=some none)
  (z_list:W.nsIn K mainGlobals "list"=some none)
  (z_max:W.nsIn K mainGlobals "max"=some none)
  (z_min:W.nsIn K mainGlobals "min"=some none)
  (z_range:W.nsIn K mainGlobals "range"=some none)
  (z_set:W.nsIn K mainGlobals "set"=some none)
  (z_sorted:W.nsIn K mainGlobals "sorted"=some none)
  (z_str:W.nsIn K mainGlobals "str"=some none)
  (z_sum:W.nsIn K mainGlobals "sum"=some none)
  (z_tuple:W.nsIn K mainGlobals "tuple"=some none)
  (w_SIGNS:W.nsIn K mainGlobals "SIGNS"=some (some (.str (PySem.Str.ofString " !\"#$&'()*+,-./0123456789:;<=>?@ABCDEFGHIJKLMNOPQRSTUVWXYZ[\\]^_`abcdefghijklmnopqrstuvwxyz{|}~") t_SIGNS)))
  (w_MOST_NUMBER:W.nsIn K mainGlobals "MOST_NUMBER"=some (some (.int 999999999 t_MOST_NUMBER)))
  (w_MOST_SIGNS:W.nsIn K mainGlobals "MOST_SIGNS"=some (some (.int 400 t_MOST_SIGNS)))
  (w_MOST_PARTS:W.nsIn K mainGlobals "MOST_PARTS"=some (some (.int 100 t_MOST_PARTS)))
  (w_MOST_DEEP:W.nsIn K mainGlobals "MOST_DEEP"=some (some (.int 8 t_MOST_DEEP)))
  (w_NUMBER_WORD:W.nsIn K mainGlobals "NUMBER_WORD"=some (some (.int 0 t_NUMBER_WORD)))
  (w_TEXT_WORD:W.nsIn K mainGlobals "TEXT_WORD"=some (some (.int 1 t_TEXT_WORD)))
  (w_TUPLE_WORD:W.nsIn K mainGlobals "TUPLE_WORD"=some (some (.int 2 t_TUPLE_WORD)))
  (w_NAME_SIGNS:W.nsIn K mainGlobals "NAME_SIGNS"=some (some (.str (PySem.Str.ofString "0123456789abcdefghijklmnopqrstuvwxyz") t_NAME_SIGNS)))
  (w_MOST_NAME_SIGNS:W.nsIn K mainGlobals "MOST_NAME_SIGNS"=some (some (.int 8 t_MOST_NAME_SIGNS)))
  (w_MOST_CELL:W.nsIn K mainGlobals "MOST_CELL"=some (some (.int 999999 t_MOST_CELL)))
  (w_MOST_BIRTH:W.nsIn K mainGlobals "MOST_BIRTH"=some (some (.int 999999999 t_MOST_BIRTH)))
  (w_SUM_RESTS:W.nsIn K mainGlobals "SUM_RESTS"=some (some (.int 997 t_SUM_RESTS)))
  (w_MARK_RESTS:W.nsIn K mainGlobals "MARK_RESTS"=some (some (.int 2147483647 t_MARK_RESTS)))
  (w_STEM:W.nsIn K mainGlobals "STEM"=some (some (.int 1 t_STEM)))
  (w_SEAL:W.nsIn K mainGlobals "SEAL"=some (some (.int 2 t_SEAL)))
  (w_HEAD_CELL:W.nsIn K mainGlobals "HEAD_CELL"=some (some (.int 0 t_HEAD_CELL)))
  (w_MOST_KEEPERS:W.nsIn K mainGlobals "MOST_KEEPERS"=some (some (.int 8 t_MOST_KEEPERS)))
  (w_MOST_NAMES:W.nsIn K mainGlobals "MOST_NAMES"=some (some (.int 24 t_MOST_NAMES)))
  (w_LEAST_BOARDS:W.nsIn K mainGlobals "LEAST_BOARDS"=some (some (.int 2 t_LEAST_BOARDS)))
  (w_MOST_BOARDS:W.nsIn K mainGlobals "MOST_BOARDS"=some (some (.int 4 t_MOST_BOARDS))) :
  ∃fd:FuncData,(∀(s:Shared) (v:Value),BindsTo s fd ⟨[v],[]⟩ [("_law_script",v)])/\∀base:Heap,K.In base->base.Ns mainGlobals mg->FnOk l.prog w K mg base CX0 18 fa fd ["_law_script"] (sp_law K):=by
 have e:=hfa.symm.trans (W.mg_of X G a45);cases e;have T:Txt K mg C_WordReader C_Boards (fun n=>match n with|0=>X_NoThing|1=>X_Stopped|2=>X_NoHouse|3=>X_StemError|4=>X_Lost|_=>0):=⟨⟨pg_WordReader,hd_WordReader,po_WordReader,sa_WordReader⟩,n_WordReader_words,n_WordReader_place,⟨pg_Boards,hd_Boards,po_Boards,sa_Boards⟩,n_Boards_shelves,n_Boards_writes,n_Boards_writes_left,W.mg_of X G x_NoThing,W.mg_of X G x_Stopped,W.mg_of X G x_NoHouse,W.mg_of X G x_StemError,W.mg_of X G x_Lost,q_Stopped,q_NoThing,q_NoHouse,m_NoThing_NoThing,m_NoHouse_StemError,m_Stopped_Stopped,⟨ga_NoHouse,gg_NoHouse,gc_NoHouse,gs_NoHouse,gt_NoHouse,go_NoHouse,gb_NoHouse⟩,k_NoHouse_Lost,k_NoHouse_NoThing,k_NoHouse_Stopped,k_NoHouse_ValueError,k_NoHouse_NoHouse,W.mg_none_of X G z_ValueError,W.mg_none_of X G z_abs,W.mg_none_of X G z_all,W.mg_none_of X G z_bool,W.mg_none_of X G z_dict,W.mg_none_of X G z_enumerate,W.mg_none_of X G z_int,W.mg_none_of X G z_isinstance,W.mg_none_of X G z_len,W.mg_none_of X G z_list,W.mg_none_of X G z_max,W.mg_none_of X G z_min,W.mg_none_of X G z_range,W.mg_none_of X G z_set,W.mg_none_of X G z_sorted,W.mg_none_of X G z_str,W.mg_none_of X G z_sum,W.mg_none_of X G z_tuple,⟨_,W.mg_of X G w_SIGNS⟩,⟨_,W.mg_of X G w_MOST_NUMBER⟩,⟨_,W.mg_of X G w_MOST_SIGNS⟩,⟨_,W.mg_of X G w_MOST_PARTS⟩,⟨_,W.mg_of X G w_MOST_DEEP⟩,⟨_,W.mg_of X G w_NUMBER_WORD⟩,⟨_,W.mg_of X G w_TEXT_WORD⟩,⟨_,W.mg_of X G w_TUPLE_WORD⟩,⟨_,W.mg_of X G w_NAME_SIGNS⟩,⟨_,W.mg_of X G w_MOST_NAME_SIGNS⟩,⟨_,W.mg_of X G w_MOST_CELL⟩,⟨_,W.mg_of X G w_MOST_BIRTH⟩,⟨_,W.mg_of X G w_SUM_RESTS⟩,⟨_,W.mg_of X G w_MARK_RESTS⟩,⟨_,W.mg_of X G w_STEM⟩,⟨_,W.mg_of X G w_SEAL⟩,⟨_,W.mg_of X G w_HEAD_CELL⟩,⟨_,W.mg_of X G w_MOST_KEEPERS⟩,⟨_,W.mg_of X G w_MOST_NAMES⟩,⟨_,W.mg_of X G w_LEAST_BOARDS⟩,⟨_,W.mg_of X G w_MOST_BOARDS⟩⟩
 have F0:=fun_mk (st:=s_is_whole) l0 c0 k0;have b0:=F0.binds (ps:=["thing"]) fun _ _ _ _ _ _ us hl=>match us,hl with|[_],_=>rfl
 have F1:=fun_mk (st:=s_is_between) l1 c1 k1;have b1:=F1.binds (ps:=["thing","least","most"]) fun _ _ _ _ _ _ us hl=>match us,hl with|[_,_,_],_=>rfl
 have F2:=fun_mk (st:=s_is_tuple_of) l2 c2 k2;have b2:=F2.binds (ps:=["thing","many"]) fun _ _ _ _ _ _ us hl=>match us,hl with|[_,_],_=>rfl
 have F3:=fun_mk (st:=s_number_of) l3 c3 k3;have b3:=F3.binds (ps:=["sign"]) fun _ _ _ _ _ _ us hl=>match us,hl with|[_],_=>rfl
 have F4:=fun_mk (st:=s_sign_of) l4 c4 k4;have b4:=F4.binds (ps:=["number"]) fun _ _ _ _ _ _ us hl=>match us,hl with|[_],_=>rfl
 have F5:=fun_mk (st:=s_is_text) l5 c5 k5;have b5:=F5.binds (ps:=["thing","least","most"]) fun _ _ _ _ _ _ us hl=>match us,hl with|[_,_,_],_=>rfl
 have F6:=fun_mk (st:=s_words_of) l6 c6 k6;have b6:=F6.binds (ps:=["thing"]) fun _ _ _ _ _ _ us hl=>match us,hl with|[_],_=>rfl
 have F7:=fun_mk (st:=s_thing_of) l7 c7 k7;have b7:=F7.binds (ps:=["words"]) fun _ _ _ _ _ _ us hl=>match us,hl with|[_],_=>rfl
 have F8:=fun_mk (st:=s_WordReader_init) l8 c8 k8;have b8:=F8.binds (ps:=["self","words"]) fun _ _ _ _ _ _ us hl=>match us,hl with|[_,_],_=>rfl
 have F9:=fun_mk (st:=s_WordReader_is_through) l9 c9 k9;have b9:=F9.binds (ps:=["self"]) fun _ _ _ _ _ _ us hl=>match us,hl with|[_],_=>rfl
 have F10:=fun_mk (st:=s_WordReader_word_to) l10 c10 k10;have b10:=F10.binds (ps:=["self","most"]) fun _ _ _ _ _ _ us hl=>match us,hl with|[_,_],_=>rfl
 have F11:=fun_mk (st:=s_read_thing) l11 c11 k11;have b11:=F11.binds (ps:=["reader","deep"]) fun _ _ _ _ _ _ us hl=>match us,hl with|[_,_],_=>rfl
 have F12:=fun_mk (st:=s_read_text) l12 c12 k12;have b12:=F12.binds (ps:=["reader"]) fun _ _ _ _ _ _ us hl=>match us,hl with|[_],_=>rfl
 have F13:=fun_mk (st:=s_is_name) l13 c13 k13;have b13:=F13.binds (ps:=["thing"]) fun _ _ _ _ _ _ us hl=>match us,hl with|[_],_=>rfl
 have F14:=fun_mk (st:=s_is_tag) l14 c14 k14;have b14:=F14.binds (ps:=["thing"]) fun _ _ _ _ _ _ us hl=>match us,hl with|[_],_=>rfl
 have F15:=fun_mk (st:=s_mark_of) l15 c15 k15;have b15:=F15.binds (ps:=["words"]) fun _ _ _ _ _ _ us hl=>match us,hl with|[_],_=>rfl
 have F16:=fun_mk (st:=s_sealed) l16 c16 k16;have b16:=F16.binds (ps:=["words"]) fun _ _ _ _ _ _ us hl=>match us,hl with|[_],_=>rfl
 have F17:=fun_mk (st:=s_unsealed) l17 c17 k17;have b17:=F17.binds (ps:=["row"]) fun _ _ _ _ _ _ us hl=>match us,hl with|[_],_=>rfl
 have F18:=fun_mk (st:=s_thing_on) l18 c18 k18;have b18:=F18.binds (ps:=["boards","board","number"]) fun _ _ _ _ _ _ us hl=>match us,hl with|[_,_,_],_=>rfl
 have F19:=fun_mk (st:=s_is_head) l19 c19 k19;have b19:=F19.binds (ps:=["thing"]) fun _ _ _ _ _ _ us hl=>match us,hl with|[_],_=>rfl
 have F20:=fun_mk (st:=s_are_keepers) l20 c20 k20;have b20:=F20.binds (ps:=["thing"]) fun _ _ _ _ _ _ us hl=>match us,hl with|[_],_=>rfl
 have F21:=fun_mk (st:=s_is_keeper) l21 c21 k21;have b21:=F21.binds (ps:=["thing"]) fun _ _ _ _ _ _ us hl=>match us,hl with|[_],_=>rfl
 have F22:=fun_mk (st:=s_are_rising) l22 c22 k22;have b22:=F22.binds (ps:=["named"]) fun _ _ _ _ _ _ us hl=>match us,hl with|[_],_=>rfl
 have F23:=fun_mk (st:=s_are_names) l23 c23 k23;have b23:=F23.binds (ps:=["thing"]) fun _ _ _ _ _ _ us hl=>match us,hl with|[_],_=>rfl
 have F24:=fun_mk (st:=s_is_stem) l24 c24 k24;have b24:=F24.binds (ps:=["thing"]) fun _ _ _ _ _ _ us hl=>match us,hl with|[_],_=>rfl
 have F25:=fun_mk (st:=s_is_seal) l25 c25 k25;have b25:=F25.binds (ps:=["thing"]) fun _ _ _ _ _ _ us hl=>match us,hl with|[_],_=>rfl
 have F26:=fun_mk (st:=s_are_at_one) l26 c26 k26;have b26:=F26.binds (ps:=["keepers","names"]) fun _ _ _ _ _ _ us hl=>match us,hl with|[_,_],_=>rfl
 have F27:=fun_mk (st:=s_head_row) l27 c27 k27;have b27:=F27.binds (ps:=["head"]) fun _ _ _ _ _ _ us hl=>match us,hl with|[_],_=>rfl
 have F28:=fun_mk (st:=s_lay_head) l28 c28 k28;have b28:=F28.binds (ps:=["boards","head"]) fun _ _ _ _ _ _ us hl=>match us,hl with|[_,_],_=>rfl
 have F29:=fun_mk (st:=s_head_of) l29 c29 k29;have b29:=F29.binds (ps:=["boards"]) fun _ _ _ _ _ _ us hl=>match us,hl with|[_],_=>rfl
 have F30:=fun_mk (st:=s_Boards_init) l30 c30 k30;have b30:=F30.binds (ps:=["self","many"]) fun _ _ _ _ _ _ us hl=>match us,hl with|[_,_],_=>rfl
 have F31:=fun_mk (st:=s_Boards_many) l31 c31 k31;have b31:=F31.binds (ps:=["self"]) fun _ _ _ _ _ _ us hl=>match us,hl with|[_],_=>rfl
 have F32:=fun_mk (st:=s_Boards_write) l32 c32 k32;have b32:=F32.binds (ps:=["self","board","number","row"]) fun _ _ _ _ _ _ us hl=>match us,hl with|[_,_,_,_],_=>rfl
 have F33:=fun_mk (st:=s_Boards_cell) l33 c33 k33;have b33:=F33.binds (ps:=["self","board","number"]) fun _ _ _ _ _ _ us hl=>match us,hl with|[_,_,_],_=>rfl
 have F34:=fun_mk (st:=s_Boards_spoil) l34 c34 k34;have b34:=F34.binds (ps:=["self","board","number","row"]) fun _ _ _ _ _ _ us hl=>match us,hl with|[_,_,_,_],_=>rfl
 have F35:=fun_mk (st:=s_Boards_lose) l35 c35 k35;have b35:=F35.binds (ps:=["self","board"]) fun _ _ _ _ _ _ us hl=>match us,hl with|[_,_],_=>rfl
 have F36:=fun_mk (st:=s_Boards_stop) l36 c36 k36;have b36:=F36.binds (ps:=["self","many"]) fun _ _ _ _ _ _ us hl=>match us,hl with|[_,_],_=>rfl
 have F37:=fun_mk (st:=s_Boards_written) l37 c37 k37;have b37:=F37.binds (ps:=["self"]) fun _ _ _ _ _ _ us hl=>match us,hl with|[_],_=>rfl
 have F38:=fun_mk (st:=s_Boards_shelf) l38 c38 k38;have b38:=F38.binds (ps:=["self","board"]) fun _ _ _ _ _ _ us hl=>match us,hl with|[_,_],_=>rfl
 have F39:=fun_mk (st:=s__law_cell_at) l39 c39 k39;have b39:=F39.binds (ps:=["_law_script","_law_k"]) fun _ _ _ _ _ _ us hl=>match us,hl with|[_,_],_=>rfl
 have F40:=fun_mk (st:=s__law_row) l40 c40 k40;have b40:=F40.binds (ps:=["_law_cell","_law_many"]) fun _ _ _ _ _ _ us hl=>match us,hl with|[_,_],_=>rfl
 have F41:=fun_mk (st:=s__law_head) l41 c41 k41;have b41:=F41.binds (ps:=["_law_row_here"]) fun _ _ _ _ _ _ us hl=>match us,hl with|[_],_=>rfl
 have F42:=fun_mk (st:=s__law_spoilt) l42 c42 k42;have b42:=F42.binds (ps:=["_law_row_here","_law_words","_law_way"]) fun _ _ _ _ _ _ us hl=>match us,hl with|[_,_,_],_=>rfl
 have F43:=fun_mk (st:=s__law_told) l43 c43 k43;have b43:=F43.binds (ps:=["_law_boards"]) fun _ _ _ _ _ _ us hl=>match us,hl with|[_],_=>rfl
 have F44:=fun_mk (st:=s__law_is_stopped) l44 c44 k44;have b44:=F44.binds (ps:=["_law_boards","_law_head_here"]) fun _ _ _ _ _ _ us hl=>match us,hl with|[_,_],_=>rfl
 have F45:=fun_mk (st:=s_law) l45 c45 k45;refine⟨W.fnOf "law" "law" (defArgs s_law) (defBody s_law) (defScope s_law) .none kV45 dc45 pm45 an45 cd45 ct45,fun s v=>.of_eq rfl,fun base _ _=>?_⟩;have D_is_whole:Def l.prog w K mg base 1 "is_whole" ["thing"] (sp_is_whole K):=⟨_,_,ok_is_whole T F0 ,W.mg_of X G a0,k0,b0⟩
 have D_is_tuple_of:Def l.prog w K mg base 1 "is_tuple_of" ["thing","many"] (sp_is_tuple_of K):=⟨_,_,ok_is_tuple_of T F2 ,W.mg_of X G a2,k2,b2⟩
 have D_number_of:Def l.prog w K mg base 1 "number_of" ["sign"] (sp_number_of K):=⟨_,_,ok_number_of T F3 ,W.mg_of X G a3,k3,b3⟩
 have D_sign_of:Def l.prog w K mg base 1 "sign_of" ["number"] (sp_sign_of K):=⟨_,_,ok_sign_of T F4 ,W.mg_of X G a4,k4,b4⟩
 have D_is_text:Def l.prog w K mg base 1 "is_text" ["thing","least","most"] (sp_is_text K):=⟨_,_,ok_is_text T F5 ,W.mg_of X G a5,k5,b5⟩
 have D_WordReader_init:CDef l.prog w K mg base 1 C_WordReader "WordReader" ["self","words"] (sp_WordReader_init K C_WordReader):=⟨_,_,ok_WordReader_init T F8 ,⟨mk_WordReader,a8,i8,kc_WordReader⟩,W.mg_of X G aC_WordReader,b8⟩
 have D_WordReader_is_through:MDef l.prog w K mg base 1 C_WordReader "is_through" ["self"] (sp_WordReader_is_through K C_WordReader):=⟨_,_,ok_WordReader_is_through T F9 ,⟨a9,i9,k9⟩,b9⟩
 have D_mark_of:Def l.prog w K mg base 1 "mark_of" ["words"] (sp_mark_of K):=⟨_,_,ok_mark_of T F15 ,W.mg_of X G a15,k15,b15⟩
 have D_are_rising:Def l.prog w K mg base 1 "are_rising" ["named"] (sp_are_rising K):=⟨_,_,ok_are_rising T F22 ,W.mg_of X G a22,k22,b22⟩
 have D_are_at_one:Def l.prog w K mg base 1 "are_at_one" ["keepers","names"] (sp_are_at_one K):=⟨_,_,ok_are_at_one T F26 ,W.mg_of X G a26,k26,b26⟩
 have D_Boards_many:MDef l.prog w K mg base 1 C_Boards "many" ["self"] (sp_Boards_many K C_Boards):=⟨_,_,ok_Boards_many T F31 ,⟨a31,i31,k31⟩,b31⟩
 have D_Boards_stop:MDef l.prog w K mg base 1 C_Boards "stop" ["self","many"] (sp_Boards_stop K C_Boards):=⟨_,_,ok_Boards_stop T F36 ,⟨a36,i36,k36⟩,b36⟩
 have D_Boards_written:MDef l.prog w K mg base 1 C_Boards "written" ["self"] (sp_Boards_written K C_Boards):=⟨_,_,ok_Boards_written T F37 ,⟨a37,i37,k37⟩,b37⟩
 have D__law_cell_at:Def l.prog w K mg base 1 "_law_cell_at" ["_law_script","_law_k"] (sp__law_cell_at K):=⟨_,_,ok__law_cell_at T F39 ,W.mg_of X G a39,k39,b39⟩
 have D__law_row:Def l.prog w K mg base 1 "_law_row" ["_law_cell","_law_many"] (sp__law_row K):=⟨_,_,ok__law_row T F40 ,W.mg_of X G a40,k40,b40⟩
 have D__law_head:Def l.prog w K mg base 1 "_law_head" ["_law_row_here"] (sp__law_head K):=⟨_,_,ok__law_head T F41 ,W.mg_of X G a41,k41,b41⟩
 have D_is_between:Def l.prog w K mg base 2 "is_between" ["thing","least","most"] (sp_is_between K):=⟨_,_,ok_is_between T F1 D_is_whole,W.mg_of X G a1,k1,b1⟩
 have D_is_name:Def l.prog w K mg base 2 "is_name" ["thing"] (sp_is_name K):=⟨_,_,ok_is_name T F13 D_is_text,W.mg_of X G a13,k13,b13⟩
 have D_sealed:Def l.prog w K mg base 2 "sealed" ["words"] (sp_sealed K):=⟨_,_,ok_sealed T F16 D_mark_of,W.mg_of X G a16,k16,b16⟩
 have D_WordReader_word_to:MDefX l.prog w K mg base 3 C_WordReader "word_to" ["self","most"] (sp_WordReader_word_to K C_WordReader (fun n=>match n with|0=>X_NoThing|1=>X_Stopped|2=>X_NoHouse|3=>X_StemError|4=>X_Lost|_=>0)):=⟨_,_,ok_WordReader_word_to T F10 D_WordReader_is_through D_is_between,⟨a10,i10,k10⟩,b10⟩
 have D_is_tag:Def l.prog w K mg base 3 "is_tag" ["thing"] (sp_is_tag K):=⟨_,_,ok_is_tag T F14 D_is_between D_is_tuple_of,W.mg_of X G a14,k14,b14⟩
 have D_unsealed:Def l.prog w K mg base 3 "unsealed" ["row"] (sp_unsealed K):=⟨_,_,ok_unsealed T F17 D_mark_of D_is_between,W.mg_of X G a17,k17,b17⟩
 have D_is_keeper:Def l.prog w K mg base 3 "is_keeper" ["thing"] (sp_is_keeper K):=⟨_,_,ok_is_keeper T F21 D_is_tuple_of D_is_name D_is_between,W.mg_of X G a21,k21,b21⟩
 have D_Boards_init:CDef l.prog w K mg base 3 C_Boards "Boards" ["self","many"] (sp_Boards_init K C_Boards):=⟨_,_,ok_Boards_init T F30 D_is_between,⟨mk_Boards,a30,i30,kc_Boards⟩,W.mg_of X G aC_Boards,b30⟩
 have D_Boards_shelf:MDef l.prog w K mg base 3 C_Boards "shelf" ["self","board"] (sp_Boards_shelf K C_Boards):=⟨_,_,ok_Boards_shelf T F38 D_is_between D_Boards_many,⟨a38,i38,k38⟩,b38⟩
 have D_read_text:DefX l.prog w K mg base 4 "read_text" ["reader"] (sp_read_text K C_WordReader (fun n=>match n with|0=>X_NoThing|1=>X_Stopped|2=>X_NoHouse|3=>X_StemError|4=>X_Lost|_=>0)):=⟨_,_,ok_read_text T F12 D_WordReader_word_to D_sign_of,W.mg_of X G a12,k12,b12⟩
 have D_are_keepers:Def l.prog w K mg base 4 "are_keepers" ["thing"] (sp_are_keepers K):=⟨_,_,ok_are_keepers T F20 D_are_rising D_is_keeper,W.mg_of X G a20,k20,b20⟩
 have D_is_stem:Def l.prog w K mg base 4 "is_stem" ["thing"] (sp_is_stem K):=⟨_,_,ok_is_stem T F24 D_is_name D_is_tag D_is_tuple_of D_is_between,W.mg_of X G a24,k24,b24⟩
 have D_is_seal:Def l.prog w K mg base 4 "is_seal" ["thing"] (sp_is_seal K):=⟨_,_,ok_is_seal T F25 D_is_name D_is_between D_is_tag D_is_tuple_of,W.mg_of X G a25,k25,b25⟩
 have D_Boards_write:MDefX l.prog w K mg base 4 C_Boards "write" ["self","board","number","row"] (sp_Boards_write K C_Boards (fun n=>match n with|0=>X_NoThing|1=>X_Stopped|2=>X_NoHouse|3=>X_StemError|4=>X_Lost|_=>0)):=⟨_,_,ok_Boards_write T F32 D_Boards_shelf,⟨a32,i32,k32⟩,b32⟩
 have D_Boards_cell:MDef l.prog w K mg base 4 C_Boards "cell" ["self","board","number"] (sp_Boards_cell K C_Boards):=⟨_,_,ok_Boards_cell T F33 D_Boards_shelf,⟨a33,i33,k33⟩,b33⟩
 have D_Boards_spoil:MDef l.prog w K mg base 4 C_Boards "spoil" ["self","board","number","row"] (sp_Boards_spoil K C_Boards):=⟨_,_,ok_Boards_spoil T F34 D_Boards_shelf,⟨a34,i34,k34⟩,b34⟩
 have D_Boards_lose:MDef l.prog w K mg base 4 C_Boards "lose" ["self","board"] (sp_Boards_lose K C_Boards):=⟨_,_,ok_Boards_lose T F35 D_Boards_shelf,⟨a35,i35,k35⟩,b35⟩
 have D_are_names:Def l.prog w K mg base 5 "are_names" ["thing"] (sp_are_names K):=⟨_,_,ok_are_names T F23 D_are_rising D_is_stem D_is_seal,W.mg_of X G a23,k23,b23⟩
 have D_is_head:Def l.prog w K mg base 6 "is_head" ["thing"] (sp_is_head K):=⟨_,_,ok_is_head T F19 D_are_keepers D_are_names D_are_at_one D_is_tuple_of D_is_between,W.mg_of X G a19,k19,b19⟩
 have D_words_of:Def l.prog w K mg base 9 "words_of" ["thing"] (sp_words_of K):=⟨_,_,ok_words_of T F6 D_is_whole D_number_of (W.mg_of X G a6) k6 b6,W.mg_of X G a6,k6,b6⟩
 have D_head_row:Def l.prog w K mg base 10 "head_row" ["head"] (sp_head_row K):=⟨_,_,ok_head_row T F27 D_sealed D_words_of,W.mg_of X G a27,k27,b27⟩
 have D__law_spoilt:Def l.prog w K mg base 10 "_law_spoilt" ["_law_row_here","_law_words","_law_way"] (sp__law_spoilt K):=⟨_,_,ok__law_spoilt T F42 D_sealed D_words_of,W.mg_of X G a42,k42,b42⟩
 have D_lay_head:DefX l.prog w K mg base 11 "lay_head" ["boards","head"] (sp_lay_head K C_Boards (fun n=>match n with|0=>X_NoThing|1=>X_Stopped|2=>X_NoHouse|3=>X_StemError|4=>X_Lost|_=>0)):=⟨_,_,ok_lay_head T F28 D_head_row D_Boards_many D_Boards_write,W.mg_of X G a28,k28,b28⟩
 have D__law_is_stopped:Def l.prog w K mg base 12 "_law_is_stopped" ["_law_boards","_law_head_here"] (sp__law_is_stopped K C_Boards):=⟨_,_,ok__law_is_stopped T F44 D_lay_head,W.mg_of X G a44,k44,b44⟩
 have D_read_thing:DefX l.prog w K mg base 13 "read_thing" ["reader","deep"] (sp_read_thing K C_WordReader (fun n=>match n with|0=>X_NoThing|1=>X_Stopped|2=>X_NoHouse|3=>X_StemError|4=>X_Lost|_=>0)):=⟨_,_,ok_read_thing T F11 D_WordReader_word_to D_read_text (W.mg_of X G a11) k11 b11,W.mg_of X G a11,k11,b11⟩
 have D_thing_of:DefX l.prog w K mg base 14 "thing_of" ["words"] (sp_thing_of K (fun n=>match n with|0=>X_NoThing|1=>X_Stopped|2=>X_NoHouse|3=>X_StemError|4=>X_Lost|_=>0)):=⟨_,_,ok_thing_of T F7 D_WordReader_init D_read_thing D_WordReader_is_through,W.mg_of X G a7,k7,b7⟩
 have D_thing_on:Def l.prog w K mg base 15 "thing_on" ["boards","board","number"] (sp_thing_on K C_Boards):=⟨_,_,ok_thing_on T F18 D_Boards_cell D_unsealed D_thing_of,W.mg_of X G a18,k18,b18⟩
 have D_head_of:DefX l.prog w K mg base 16 "head_of" ["boards"] (sp_head_of K C_Boards (fun n=>match n with|0=>X_NoThing|1=>X_Stopped|2=>X_NoHouse|3=>X_StemError|4=>X_Lost|_=>0)):=⟨_,_,ok_head_of T F29 D_Boards_many D_thing_on D_is_head,W.mg_of X G a29,k29,b29⟩
 have D__law_told:Def l.prog w K mg base 17 "_law_told" ["_law_boards"] (sp__law_told K C_Boards):=⟨_,_,ok__law_told T F43 D_head_of,W.mg_of X G a43,k43,b43⟩
 exact ok_law T F45 D_Boards_init D__law_row D__law_head D_sealed D_Boards_written D__law_told D__law_cell_at D_words_of D_Boards_stop D__law_is_stopped D_Boards_spoil D_Boards_cell D_Boards_lose D__law_spoilt
theorem walk {l:W.OpenLaw} {q:Program} {loose:List Str} {XP:(Str->Option Value)->Heap->Prop} {YP:World->Heap->Prop} {d:DefRec} {K:Params->W.Frag} (hn:l.most=some 63) (hdf:d.params.defaults=[])
  (hY:∀(w:World) (h:Heap),YP w h->(K w.params).In h)
  (F:∀(w:World) (mg:Str->Option Value) (fa:Addr) (h:Heap),(K w.params).In h->h.Ns mainGlobals mg->mg d.name=some (.ref fa)->
   ∃fd:FuncData,(∀(s:Shared) (u:Value),BindsTo s fd ⟨[u],[]⟩ [("_law_script",u)])/\∀base:Heap,(K w.params).In base->base.Ns mainGlobals mg->FnOk l.prog w (K w.params) mg base CX0 18 fa fd ["_law_script"] (sp_law (K w.params))) :
  W.WalkO q loose XP YP l.row.toRowW d [] (fun f vs=>PySem.call f vs):=
 L2.walk_of (n:=63) (k:=18) (x:="_law_script") (CX:=fun _=>CX0) (sp:=fun w=>sp_law (K w.params)) hn (by decide) hdf ⟨rfl,by decide,by decide⟩ hY F (fun _ _ a ns hl _ hS=>⟨a,ns,rfl,hS,hl,fun _=>rfl⟩) fun _ _ _ _ _ z=>z
end K38
def PySem.W.Fast.tw15641715125113993005:Type:=PySem.Expr
theorem PySem.W.Fast.te15641715125113993005:PySem.Expr = PySem.W.Fast.tw15641715125113993005:=rfl
def PySem.W.Fast.tw90343872475197607:Type:=PySem.Params
theorem PySem.W.Fast.te90343872475197607:PySem.Params = PySem.W.Fast.tw90343872475197607:=rfl
open PySem PySem.W PyProof.Rows
set_option maxRecDepth 100000 in
set_option maxHeartbeats 0 in
theorem PySem.Challenge.cw_stemshelf_k38_heads_laid_holds : PySem.Challenge.rw_stemshelf_k38_heads_laid.Holds := by
 w_on;o_law;k_head;(case hw=>w_witness2)
 k_fill
 refine K38.walk (l:=PySem.Challenge.rw_stemshelf_k38_heads_laid) rfl rfl (fun w h Y=>W.kIn_of Y) ?F
 case F=>
  intro w mg fa h KX G hmg
  refine' K38.all_mk KX G hmg ?a0 ?l0 ?c0 ?k0 ?a1 ?l1 ?c1 ?k1 ?a2 ?l2 ?c2 ?k2 ?a3 ?l3 ?c3 ?k3 ?a4 ?l4 ?c4 ?k4 ?a5 ?l5 ?c5 ?k5 ?a6 ?l6 ?c6 ?k6 ?a7 ?l7 ?c7 ?k7 ?a8 ?i8 ?l8 ?c8 ?k8 ?a9 ?i9 ?l9 ?c9 ?k9 ?a10 ?i10 ?l10 ?c10 ?k10 ?a11 ?l11 ?c11 ?k11 ?a12 ?l12 ?c12 ?k12 ?a13 ?l13 ?c13 ?k13 ?a14 ?l14 ?c14 ?k14 ?a15 ?l15 ?c15 ?k15 ?a16 ?l16 ?c16 ?k16 ?a17 ?l17 ?c17 ?k17 ?a18 ?l18 ?c18 ?k18 ?a19 ?l19 ?c19 ?k19 ?a20 ?l20 ?c20 ?k20 ?a21 ?l21 ?c21 ?k21 ?a22 ?l22 ?c22 ?k22 ?a23 ?l23 ?c23 ?k23 ?a24 ?l24 ?c24 ?k24 ?a25 ?l25 ?c25 ?k25 ?a26 ?l26 ?c26 ?k26 ?a27 ?l27 ?c27 ?k27 ?a28 ?l28 ?c28 ?k28 ?a29 ?l29 ?c29 ?k29 ?a30 ?i30 ?l30 ?c30 ?k30 ?a31 ?i31 ?l31 ?c31 ?k31 ?a32 ?i32 ?l32 ?c32 ?k32 ?a33 ?i33 ?l33 ?c33 ?k33 ?a34 ?i34 ?l34 ?c34 ?k34 ?a35 ?i35 ?l35 ?c35 ?k35 ?a36 ?i36 ?l36 ?c36 ?k36 ?a37 ?i37 ?l37 ?c37 ?k37 ?a38 ?i38 ?l38 ?c38 ?k38 ?a39 ?l39 ?c39 ?k39 ?a40 ?l40 ?c40 ?k40 ?a41 ?l41 ?c41 ?k41 ?a42 ?l42 ?c42 ?k42 ?a43 ?l43 ?c43 ?k43 ?a44 ?l44 ?c44 ?k44 ?a45 ?l45 ?c45 ?k45 ?aC_WordReader ?pg_WordReader ?hd_WordReader ?po_WordReader ?sa_WordReader ?mk_WordReader ?kc_WordReader ?n_WordReader_words ?n_WordReader_place ?aC_Boards ?pg_Boards ?hd_Boards ?po_Boards ?sa_Boards ?mk_Boards ?kc_Boards ?n_Boards_shelves ?n_Boards_writes ?n_Boards_writes_left ?x_NoThing ?x_Stopped ?x_NoHouse ?x_StemError ?x_Lost ?q_Stopped ?q_NoThing ?q_NoHouse ?m_NoThing_NoThing ?m_NoHouse_StemError ?m_Stopped_Stopped ?ga_NoHouse ?gg_NoHouse ?gc_NoHouse ?gs_NoHouse ?gt_NoHouse ?go_NoHouse ?gb_NoHouse ?k_NoHouse_Lost ?k_NoHouse_NoThing ?k_NoHouse_Stopped ?k_NoHouse_ValueError ?k_NoHouse_NoHouse ?z_ValueError ?z_abs ?z_all ?z_bool ?z_dict ?z_enumerate ?z_int ?z_isinstance ?z_len ?z_list ?z_max ?z_min ?z_range ?z_set ?z_sorted ?z_str ?z_sum ?z_tuple ?w_SIGNS ?w_MOST_NUMBER ?w_MOST_SIGNS ?w_MOST_PARTS ?w_MOST_DEEP ?w_NUMBER_WORD ?w_TEXT_WORD ?w_TUPLE_WORD ?w_NAME_SIGNS ?w_MOST_NAME_SIGNS ?w_MOST_CELL ?w_MOST_BIRTH ?w_SUM_RESTS ?w_MARK_RESTS ?w_STEM ?w_SEAL ?w_HEAD_CELL ?w_MOST_KEEPERS ?w_MOST_NAMES ?w_LEAST_BOARDS ?w_MOST_BOARDS
  (case aC_WordReader|aC_Boards|x_NoThing|x_Stopped|x_NoHouse|x_StemError|x_Lost|a0|l0|c0|k0|a1|l1|c1|k1|a2|l2|c2|k2|a3|l3|c3|k3|a4|l4|c4|k4|a5|l5|c5|k5|a6|l6|c6|k6|a7|l7|c7|k7|a8|i8|l8|c8|k8|a9|i9|l9|c9|k9|a10|i10|l10|c10|k10|a11|l11|c11|k11|a12|l12|c12|k12|a13|l13|c13|k13|a14|l14|c14|k14|a15|l15|c15|k15|a16|l16|c16|k16|a17|l17|c17|k17|a18|l18|c18|k18|a19|l19|c19|k19|a20|l20|c20|k20|a21|l21|c21|k21|a22|l22|c22|k22|a23|l23|c23|k23|a24|l24|c24|k24|a25|l25|c25|k25|a26|l26|c26|k26|a27|l27|c27|k27|a28|l28|c28|k28|a29|l29|c29|k29|a30|i30|l30|c30|k30|a31|i31|l31|c31|k31|a32|i32|l32|c32|k32|a33|i33|l33|c33|k33|a34|i34|l34|c34|k34|a35|i35|l35|c35|k35|a36|i36|l36|c36|k36|a37|i37|l37|c37|k37|a38|i38|l38|c38|k38|a39|l39|c39|k39|a40|l40|c40|k40|a41|l41|c41|k41|a42|l42|c42|k42|a43|l43|c43|k43|a44|l44|c44|k44|a45|l45|c45|k45|pg_WordReader|hd_WordReader|po_WordReader|sa_WordReader|mk_WordReader|kc_WordReader|n_WordReader_words|n_WordReader_place|pg_Boards|hd_Boards|po_Boards|sa_Boards|mk_Boards|kc_Boards|n_Boards_shelves|n_Boards_writes|n_Boards_writes_left=>k_is)
  (case q_Stopped|q_NoThing|q_NoHouse=>k_exc)
  (case m_NoThing_NoThing|m_NoHouse_StemError|m_Stopped_Stopped=>kts_exm)
  (case ga_NoHouse|gg_NoHouse|gc_NoHouse|gs_NoHouse|gt_NoHouse|go_NoHouse|gb_NoHouse=>k_is)
  (case k_NoHouse_Lost|k_NoHouse_NoThing|k_NoHouse_Stopped|k_NoHouse_ValueError|k_NoHouse_NoHouse=>kit_is)
  (case z_ValueError|z_abs|z_all|z_bool|z_dict|z_enumerate|z_int|z_isinstance|z_len|z_list|z_max|z_min|z_range|z_set|z_sorted|z_str|z_sum|z_tuple|w_SIGNS|w_MOST_NUMBER|w_MOST_SIGNS|w_MOST_PARTS|w_MOST_DEEP|w_NUMBER_WORD|w_TEXT_WORD|w_TUPLE_WORD|w_NAME_SIGNS|w_MOST_NAME_SIGNS|w_MOST_CELL|w_MOST_BIRTH|w_SUM_RESTS|w_MARK_RESTS|w_STEM|w_SEAL|w_HEAD_CELL|w_MOST_KEEPERS|w_MOST_NAMES|w_LEAST_BOARDS|w_MOST_BOARDS=>k_is)
