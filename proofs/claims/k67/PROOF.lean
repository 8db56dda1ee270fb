import PyProof.Rows.All
import Wide.All
import OpenK.AllK
import Wide.FinOn
import Lean
import PyProof.EqAt
import PyProof.EqKinds
import PyProof.TupleCall
import PySem.Challenge.RW_stemshelf_k67_anything_looked_at
set_option Elab.async false
set_option linter.all false
set_option maxRecDepth 100000
namespace L2
open PySem PySem.Spec PyProof.Rows
abbrev Key:=Sum Int Str
def Kt:Key->Value->Bool
 | .inl k,v=>Value.isInt k v
 | .inr x,v=>Value.isStrOf x v
def VI (w:World):Key->Int
 | .inl k=>hashInt k
 | .inr x=>hashStr w x
theorem Bn:∀{k:Key} {v:Value},Kt k v=true->(∃i t,k=Sum.inl i/\v=Value.int i t)\/(∃x t,k=Sum.inr x/\v=Value.str x t)
 | .inl i,v,h=>by
  obtain⟨t,e⟩:=Value.isInt_shape (k:=i) (v:=v) h;exact .inl ⟨i,t,rfl,e⟩
 | .inr x,v,h=>by
  obtain⟨t,e⟩:=Value.isStrOf_shape (x:=x) (v:=v) h;exact .inr ⟨x,t,rfl,e⟩
theorem PN (i:Int)(t:Tok):Kt (.inl i) (.int i t)=true:=by simp[Kt,Value.isInt]
theorem Pe (x:Str)(t:Tok):Kt (.inr x) (.str x t)=true:=by simp[Kt,Value.isStrOf]
theorem Uj (a b:Int):decide ((Sum.inl a:Key)=Sum.inl b)=(a == b):=by
 by_cases e:a=b
 ·subst e;simp
 ·have h:¬(Sum.inl a:Key)=Sum.inl b:=fun q=>e (Sum.inl.inj q)
  rw[decide_eq_false h];exact(beq_eq_false_iff_ne.mpr e).symm
theorem Ug (a b:Str):decide ((Sum.inr a:Key)=Sum.inr b)=decide (a=b):=by
 by_cases e:a=b
 ·subst e;simp
 ·have h:¬(Sum.inr a:Key)=Sum.inr b:=fun q=>e (Sum.inr.inj q)
  rw[decide_eq_false h,decide_eq_false e]
theorem Vk (a:Int)(b:Str):decide ((Sum.inl a:Key)=Sum.inr b)=false:=decide_eq_false (fun q=>nomatch q)
theorem Vx (a:Str)(b:Int):decide ((Sum.inr a:Key)=Sum.inl b)=false:=decide_eq_false (fun q=>nomatch q)
def AY (prog:Program)(w:World):PySem.KeyKind prog w Key where
 is:=Kt
 hash:=VI w
 inj:=fun v a b ha hb=>by
  rcases Bn ha with⟨i,t,rfl,rfl⟩|⟨x,t,rfl,rfl⟩
  ·rcases Bn hb with⟨j,u,rfl,e⟩|⟨y,u,rfl,e⟩
   ·injection e with e1 _;rw[e1]
   ·exact nomatch e
  ·rcases Bn hb with⟨j,u,rfl,e⟩|⟨y,u,rfl,e⟩
   ·exact nomatch e
   ·injection e with e1 _;rw[e1]
 byValue:=fun k v h=>by
  rcases Bn h with⟨i,t,rfl,rfl⟩|⟨x,t,rfl,rfl⟩<;>rfl
 pyHash:=fun hv h=>by
  rcases Bn hv with⟨i,t,rfl,rfl⟩|⟨x,t,rfl,rfl⟩
  ·exact wpAny_pyHash_int h
  ·exact wpAny_pyHash_str h
 eqBool:=fun hu hv h=>by
  rcases Bn hu with⟨i,t,rfl,rfl⟩|⟨x,t,rfl,rfl⟩
  ·rcases Bn hv with⟨j,u,rfl,rfl⟩|⟨y,u,rfl,rfl⟩
   ·rw[Uj] at h;exact wpAny_eqBool_int h
   ·rw[Vk] at h;exact SeqAt.EqAt.int_str i t y u _ _ _ _ h
  ·rcases Bn hv with⟨j,u,rfl,rfl⟩|⟨y,u,rfl,rfl⟩
   ·rw[Vx] at h;exact SeqAt.EqAt.str_int x t j u _ _ _ _ h
   ·rw[Ug] at h;exact wpAny_eqBool_str h
 «strs»:=fun k x t v h=>by
  rcases Bn h with⟨i,u,rfl,e⟩|⟨y,u,rfl,e⟩
  ·exact nomatch e
  ·injection e with e1 _
   subst e1;cases v<;>rfl
theorem ML (prog:Program)(w:World)(i:Int)(t:Tok):(AY prog w).is (.inl i) (.int i t)=true:=PN i t
theorem MY (prog:Program)(w:World)(x:Str)(t:Tok):(AY prog w).is (.inr x) (.str x t)=true:=Pe x t
inductive V where
 |non|bl (b:Bool)|int (i:Int)|str (x:Str)|byt (b:Array UInt8)|flt (b:UInt64)|ref (a:Addr)|ty (n:String)
 deriving DecidableEq
def RelV:V->Value->Prop
 | .non,u=>u=Value.none
 | .bl b,u=>u=Value.bool b
 | .int i,u=>∃t,u=Value.int i t
 | .str x,u=>∃t,u=Value.str x t
 | .byt b,u=>∃t,u=Value.bytes b t
 | .flt b,u=>∃t,u=Value.float b t
 | .ref a,u=>u=Value.ref a
 | .ty n,u=>u=Value.type n
abbrev AN:List V->List Value->Prop:=Paired RelV
theorem AN.length {xs:List V}{us:List Value}(r:AN xs us):xs.length=us.length:=Paired.length r
theorem AN.get:∀{xs:List V} {us:List Value} {i:Nat} {x:V},AN xs us->xs[i]?=some x->∃u,us[i]?=some u/\RelV x u
 |_,_,_,_,.nil,e=>by simp at e
 |_,_,0,_,.cons r _,e=>by simp at e;subst e;exact⟨_,rfl,r⟩
 |_,_,i+1,x,.cons _ t,e=>by
  obtain⟨u,h1,h2⟩:=AN.get (i:=i) (x:=x) t (by simpa using e);exact⟨u,by simpa using h1,h2⟩
theorem AN.append:∀{xs ys:List V} {us ws:List Value},AN xs us->AN ys ws->AN (xs++ys) (us++ws)
 |_,_,_,_,.nil,s=>s
 |_,_,_,_,.cons r t,s=>.cons r (AN.append t s)
theorem AN.take:∀{xs:List V} {us:List Value} (n:Nat),AN xs us->AN (xs.take n) (us.take n)
 |_,_,0,_=>.nil
 |_,_,_+1,.nil=>.nil
 |_,_,n+1,.cons r t=>.cons r (AN.take n t)
theorem AN.drop:∀{xs:List V} {us:List Value} (n:Nat),AN xs us->AN (xs.drop n) (us.drop n)
 |_,_,0,r=>r
 |_,_,_+1,.nil=>.nil
 |_,_,n+1,.cons _ t=>AN.drop n t
def Hv:Option V->Option Value->Prop
 |some v,some u=>RelV v u
 |none,none=>True
 |_,_=>False
def KV {κ:Type}:List (κ×V)->List (κ×Value)->Prop:=Paired fun(p:κ×V) (q:κ×Value)=>p.1=q.1/\RelV p.2 q.2
def kV:Key->V
 | .inl i=>.int i
 | .inr x=>.str x
inductive HO where
 |lst (xs:List V)
 |tup (xs:List V)
 |dK (kvs:List (Key×V))|dT (kvs:List (List Key×V))
 |set (S:Int->Bool) (n:Nat)
 |ins (C dx:Addr) (fs:List (Str×V))
 |own (x:Addr)
 |xd (fs:List (Str×V))
 |met (f x:Addr)
 |rng (lo hi:Int)
 |frz (o:Obj) (u:HO)
 |tbl (ps:Array Value)
 |ext (φ:Heap->Prop)
abbrev Hp:=Addr->Option HO
def upd (H:Hp)(a:Addr)(o:HO):Hp:=fun b=>if b=a then some o else H b
theorem Ad {H:Hp}{a:Addr}{o:HO}:upd H a o a=some o:=by unfold upd;rw[if_pos rfl]
theorem Aj {H:Hp}{a b:Addr}{o:HO}(h:b≠a):upd H a o b=H b:=by unfold upd;rw[if_neg h]
theorem D2 {H:Hp}{a b:Addr}{o u:HO}(h:H a=some o)(h':H b=some u)(d:o≠u):a≠b:=by
 intro e;subst e;rw[h] at h';exact d (Option.some.inj h')
theorem B8 {H:Hp}{a b:Addr}{o:HO}(h:H a=some o)(h':H b=none):a≠b:=by
 intro e;subst e;rw[h] at h';cases h'
def WW:List V->Bool
 |[.int _,_]=>true
 |_=>false
def JV (b:Bool)(h:Heap)(a:Addr)(items:Array Value):Prop:=∃o,h.get? a=some o/\o.cls=.type "tuple"/\∃n,o.data=.seq items n/\(b=false->o.dict=none)
theorem JV.is {b:Bool}{h:Heap}{a:Addr}{items:Array Value}(x:JV b h a items):IsTup h a items:=let⟨o,e,c,n,d,_⟩:=x;⟨o,e,c,n,d⟩
theorem JV.lt {b:Bool}{h:Heap}{a:Addr}{items:Array Value}(x:JV b h a items):a<h.objs.size:=x.is.lt
theorem JV.new {b:Bool}(h:Heap)(items:Array Value):JV b (h.push { cls:=.type "tuple",data:=.seq items }) h.objs.size items:=⟨_,Heap.get?_push_size _ rfl,rfl,_,rfl,fun _=>rfl⟩
section
variable (P:Program)(w:World)
def AX (H:Hp)(h:Heap)(a:Addr):HO->Prop
 | .lst xs=>xs.length<=sizeLine/\∃(AC:List Value) (n:Nat),AN xs AC/\h.get? a=some { cls:=.type "list",data:=.seq AC.toArray n }
 | .tup xs=>xs.length<=sizeLine/\∃AC:List Value,AN xs AC/\JV (WW xs) h a AC.toArray
 | .dK kvs=>kvs.length<=sizeLine/\(a == sysModules)=false/\∃vs,KV kvs vs/\h.DictOf (AY P w) a vs
 | .dT kvs=>kvs.length<=sizeLine/\(a == sysModules)=false/\∃xs:List (List Key×Addr×Value),
   Paired (fun(p:List Key×V) (q:List Key×Addr×Value)=>p.1=q.1/\H q.2.1=some (.tup (p.1.map kV))/\RelV p.2 q.2.2) kvs xs/\
   ∃o es ep,h.get? a=some o/\o.ExactDict/\o.data=.dict es ep/\es.toList=xs.map (entryOfKey (tupleKind (AY P w)))/\(xs.map (·.1)).Nodup
 | .set S n=>h.SetOf (intKind P w) a S n
 | .ins C dx fs=>H dx=some (.own a)/\fs.length<=1000/\dx≠a/\h.get? a=some (PySem.W.instObj C dx)/\
   ∃mA,h.Ns1 dx mA/\(∀f,Hv (fs.lookup f) (mA f))/\PySem.Within mA (fs.map (·.1))
 | .own _=>∃o,h.get? a=some o
 | .xd fs=>∃mA,h.Ns1 a mA/\∀f,Hv (fs.lookup f) (mA f)
 | .rng lo hi=>∃t u v,h.get? a=some { cls:=.type "range",data:=.fields #[.int lo t,.int hi u,.int 1 v] }
 | .frz o u=>h.get? a=some o/\AX H h a u
 | .tbl ps=>h.get? a=some { cls:=.none,data:=.fields ps }
 | .met f x=>h.get? a=some (PySem.W.methodObj (.ref f) (.ref x))
 | .ext φ=>φ h/\(∃o,h.get? a=some o)/\∀h1 h2:Heap,φ h1->(∀o,h1.get? a=some o->h2.get? a=some o)->φ h2
def Gg (H:Hp)(h:Heap):Prop:=∀a o,H a=some o->AX P w H h a o
end
section
variable {P:Program}{w:World}{H H':Hp}{h h':Heap}{a:Addr}{o:HO}
theorem AX.lt (x:AX P w H h a o):a<h.objs.size:=by
 cases o with
 |lst xs=>obtain⟨_,_,_,_,e⟩:=x;exact Heap.lt_size e
 |tup xs=>obtain⟨_,_,_,p⟩:=x;exact p.lt
 |dK kvs=>obtain⟨_,_,_,_,o,_,_,e,_⟩:=x;exact Heap.lt_size e
 |dT kvs=>obtain⟨_,_,_,_,o,_,_,e,_⟩:=x;exact Heap.lt_size e
 |set S n=>obtain⟨o,_,_,_,e,_⟩:=x;exact Heap.lt_size e
 |ins C dx fs=>obtain⟨_,_,_,e,_⟩:=x;exact Heap.lt_size e
 |own y=>obtain⟨_,e⟩:=x;exact Heap.lt_size e
 |xd fs=>obtain⟨_,⟨_,_,_,e,_⟩,_⟩:=x;exact Heap.lt_size e
 |rng lo hi=>obtain⟨_,_,_,e⟩:=x;exact Heap.lt_size e
 |frz ob u=>obtain⟨e,_⟩:=x;exact Heap.lt_size e
 |tbl ps=>exact Heap.lt_size (show h.get? a=some _ from x)
 |met f y=>exact Heap.lt_size (show h.get? a=some _ from x)
 |ext φ=>obtain⟨_,⟨_,e⟩,_⟩:=x;exact Heap.lt_size e
theorem Paired.mapP {α β:Type}{F G:α->β->Prop}:∀{l₁:List α} {l₂:List β},Paired F l₁ l₂->(∀a b,F a b->G a b)->Paired G l₁ l₂
 |_,_,.nil,_=>.nil
 |_,_,.cons r t,f=>.cons (f _ _ r) (Paired.mapP t f)
theorem AX.stay (x:AX P w H h a o) (k:∀b u,(b=a\/H b=some (.own a))->h.get? b=some u->h'.get? b=some u)
  (ho:∀b,H b=some (.own a)->H' b=some (.own a)) (ht:∀b xs,H b=some (.tup xs)->H' b=some (.tup xs)):AX P w H' h' a o:=by
 induction o with
 |lst xs=>obtain⟨z,AC,n,r,e⟩:=x;exact⟨z,AC,n,r,k _ _ (.inl rfl) e⟩
 |tup xs=>obtain⟨z,AC,r,ob,e,c⟩:=x;exact⟨z,AC,r,ob,k _ _ (.inl rfl) e,c⟩
 |dK kvs=>obtain⟨z,y,vs,r,ob,es,ep,e,c⟩:=x;exact⟨z,y,vs,r,ob,es,ep,k _ _ (.inl rfl) e,c⟩
 |dT kvs=>
  obtain⟨z,y,xs,r,ob,es,ep,e,c⟩:=x;exact⟨z,y,xs,Paired.mapP r fun p q z=>⟨z.1,ht _ _ z.2.1,z.2.2⟩,ob,es,ep,k _ _ (.inl rfl) e,c⟩
 |set S n=>obtain⟨ob,es,ep,t,e,c⟩:=x;exact⟨ob,es,ep,t,k _ _ (.inl rfl) e,c⟩
 |ins C dx fs=>
  obtain⟨d,z,ne,e,mA,⟨od,es,ep,e2,c⟩,r⟩:=x;exact⟨ho _ d,z,ne,k _ _ (.inl rfl) e,mA,⟨od,es,ep,k _ _ (.inr d) e2,c⟩,r⟩
 |own y=>obtain⟨ob,e⟩:=x;exact⟨ob,k _ _ (.inl rfl) e⟩
 |xd fs=>obtain⟨mA,⟨od,es,ep,e,c⟩,r⟩:=x;exact⟨mA,⟨od,es,ep,k _ _ (.inl rfl) e,c⟩,r⟩
 |rng lo hi=>obtain⟨t,u,v,e⟩:=x;exact⟨t,u,v,k _ _ (.inl rfl) e⟩
 |frz ob u ih=>obtain⟨e,q⟩:=x;exact⟨k _ _ (.inl rfl) e,ih q⟩
 |tbl ps=>
  have e:h.get? a=some { cls:=.none,data:=.fields ps }:=x;show h'.get? a=some { cls:=.none,data:=.fields ps };exact k a _ (.inl rfl) e
 |met f y=>
  have e:h.get? a=some (PySem.W.methodObj (.ref f) (.ref y)):=x;show h'.get? a=some (PySem.W.methodObj (.ref f) (.ref y));exact k a _ (.inl rfl) e
 |ext φ=>obtain⟨p,⟨o,e⟩,st⟩:=x;exact⟨st _ _ p fun o q=>k _ _ (.inl rfl) q,⟨o,k _ _ (.inl rfl) e⟩,st⟩
theorem Gg.lt (x:Gg P w H h)(e:H a=some o):a<h.objs.size:=(x a o e).lt
theorem Gg.fresh (x:Gg P w H h)(e:h.objs.size<=a):H a=none:=by
 cases q:H a with
 |none=>rfl
 |some u=>exact absurd (Nat.lt_of_lt_of_le (x.lt q) e) (Nat.lt_irrefl _)
theorem Gg.kept (x:Gg P w H h)(k:∀b u,h.get? b=some u->h'.get? b=some u):Gg P w H h':=fun a o e=>
 (x a o e).stay (fun b u _ q=>k b u q) (fun _ q=>q) fun _ _ q=>q
theorem Gg.laid (x:Gg P w H h)(k:∀b u,h.get? b=some u->h'.get? b=some u)(hp:h.objs.size<=a)(new:AX P w (upd H a o) h' a o):Gg P w (upd H a o) h':=fun b u e=>by
 have hn:=x.fresh hp
 by_cases hb:b=a
 ·subst hb;rw[Ad] at e;cases e;exact new
 ·rw[Aj hb] at e;exact(x b u e).stay (fun c v _ q=>k c v q) (fun c q=>by rw[Aj (B8 q hn)];exact q) fun c xs q=>by rw[Aj (B8 q hn)];exact q
end
def Rd (H:Hp)(a:Addr)(u:HO):Prop:=H a=some u\/∃o,H a=some (.frz o u)
theorem Rd.ok {P:Program}{w:World}{H:Hp}{h:Heap}{a:Addr}{u:HO}(r:Rd H a u)(x:Gg P w H h):AX P w H h a u:=by
 rcases r with r|⟨o,r⟩
 ·exact x a u r
 ·obtain⟨_,q⟩:=x a _ r;exact q
def Wa:Option HO->Prop
 |some (.lst _)=>True
 |some (.dK _)=>True
 |some (.dT _)=>True
 |some (.set _ _)=>True
 |some (.ins _ _ _)=>True
 |some (.ext _)=>True
 |_=>False
section
variable {P:Program}{w:World}{H:Hp}{h h':Heap}{x e:Addr}{o':HO}
theorem Gg.write (ok:Gg P w H h) (mu:Wa (H x)) (he:e=x\/H e=some (.own x)) (k:∀b u,b≠e->h.get? b=some u->h'.get? b=some u) (heo:∃u,h'.get? e=some u)
  (new:AX P w (upd H x o') h' x o'):Gg P w (upd H x o') h':=fun b u q=>by
 have nown:∀c y,H c=some (.own y)->c≠x:=fun c y r z=>by subst z;rw[r] at mu;exact mu
 have ntup:∀c xs,H c=some (.tup xs)->c≠x:=fun c xs r z=>by subst z;rw[r] at mu;exact mu
 by_cases hb:b=x
 ·subst hb;rw[Ad] at q;cases q;exact new
 ·rw[Aj hb] at q
  by_cases hbe:b=e
  ·have q':H b=some (.own x):=by
    rcases he with z|z
    ·exact absurd (hbe.trans z) hb
    ·rw[hbe];exact z
   rw[q] at q';cases q';obtain⟨v,hv⟩:=heo;exact⟨v,by rw[hbe];exact hv⟩
  ·refine(ok b u q).stay (fun c v hc r=>k c v ?_ r) (fun c r=>by rw[Aj (nown c b r)];exact r) fun c xs r=>by rw[Aj (ntup c xs r)];exact r
   rcases hc with rfl|hc
   ·exact hbe
   ·rintro rfl
    rcases he with z|z
    ·exact nown c b hc z
    ·rw[hc] at z;cases z;exact hb rfl
end
structure Un (fs ex:List Addr) (H H':Hp) (h h':Heap):Prop where
 keep:∀b o,h.get? b=some o->H b=none->b∉fs->b∉ex->h'.get? b=some o
 slot:∀b o,h.get? b=some o->H b=none->b∈fs->b∉ex->∃sl,h'.get? b=some { o with slots:=sl }
 free:∀b o,h.get? b=some o->H b=none->b∉ex->H' b=none
 there:∀b o,h.get? b=some o->b∉ex->∃o',h'.get? b=some o'
 tups:∀b xs,H b=some (.tup xs)->H' b=some (.tup xs)
 frzs:∀b o u,H b=some (.frz o u)->H' b=some (.frz o u)
 tbls:∀b ps,H b=some (.tbl ps)->∃more,H' b=some (.tbl (ps++more))
section
variable {fs fs' ex ex':List Addr}{H H1 H2:Hp}{h h1 h2 h':Heap}{a x e:Addr}{o:HO}
theorem Un.any (u:Un fs ex H H1 h h1){b:Addr}{ob:Obj}(q:h.get? b=some ob)(n:H b=none)(hx:b∉ex):∃sl,h1.get? b=some { ob with slots:=sl }:=by
 by_cases hb:b∈fs
 ·exact u.slot b ob q n hb hx
 ·exact⟨ob.slots,u.keep b ob q n hb hx⟩
theorem Un.kept (k:∀b u,h.get? b=some u->h'.get? b=some u):Un fs ex H H h h':=
 ⟨fun b ob q _ _ _=>k b ob q,fun b ob q _ _ _=>⟨ob.slots,k b ob q⟩,fun _ _ _ n _=>n,fun b ob q _=>⟨ob,k b ob q⟩,fun _ _ q=>q,fun _ _ _ q=>q,fun _ ps q=>⟨#[],by rw[q];simp⟩⟩
theorem Un.refl:Un fs ex H H h h:=Un.kept fun _ _ q=>q
theorem Un.laid (k:∀b u,h.get? b=some u->h'.get? b=some u)(hp:h.objs.size<=a)(hn:H a=none):Un fs ex H (upd H a o) h h' where
 keep:=fun b u q _ _ _=>k b u q
 slot:=fun b u q _ _ _=>⟨u.slots,k b u q⟩
 free:=fun b u q n _=>by rw[Aj (Nat.ne_of_lt (Nat.lt_of_lt_of_le (Heap.lt_size q) hp))];exact n
 there:=fun b u q _=>⟨u,k b u q⟩
 tups:=fun b xs q=>by rw[Aj (B8 q hn)];exact q
 frzs:=fun b u xs q=>by rw[Aj (B8 q hn)];exact q
 tbls:=fun b ps q=>⟨#[],by rw[Aj (B8 q hn),q];simp⟩
theorem Un.write (mu:Wa (H x))(he:e=x\/H e=some (.own x))(k:∀b u,b≠e->h.get? b=some u->h'.get? b=some u)(heo:∃u,h'.get? e=some u):Un fs ex H (upd H x o) h h':=by
 have hx:∀b,H b=none->b≠x:=fun b n z=>by subst z;rw[n] at mu;exact mu
 have hb:∀b,H b=none->b≠e:=fun b n z=>by
  subst z;rcases he with r|r
  ·exact hx b n r
  ·rw[n] at r;cases r
 have hm:∀b u,H b=some u->¬Wa (some u)->b≠x:=fun b u q nm z=>by subst z;rw[q] at mu;exact nm mu
 refine⟨fun b u q n _ _=>k b u (hb b n) q,fun b u q n _ _=>⟨u.slots,k b u (hb b n) q⟩,fun b u q n _=>by rw[Aj (hx b n)];exact n,fun b u q _=>?_,
  fun b xs q=>by rw[Aj (hm b _ q fun z=>z)];exact q,fun b u xs q=>by rw[Aj (hm b _ q fun z=>z)];exact q,fun b ps q=>⟨#[],by rw[Aj (hm b _ q fun z=>z),q];simp⟩⟩
 by_cases hbe:b=e
 ·subst hbe;exact heo
 ·exact⟨u,k b u hbe q⟩
end
def Wq (h:Heap)(H:Hp):List Addr:=(List.range h.objs.size).filter fun a=>(H a).isSome
def L1 (h:Heap)(H:Hp):Heap:=PySem.W.hideAll h (Wq h H)
theorem Pg (h:Heap)(H:Hp):(L1 h H).objs.size=h.objs.size:=PySem.W.hideAll_size _ _
theorem Jf {h:Heap}{H:Hp}{b:Addr}{o:Obj}(e:h.get? b=some o)(n:H b=none):(L1 h H).get? b=some o:=
 PySem.W.hideAll_get _ e fun hm=>by
  have q:(H b).isSome=true:=(List.mem_filter.mp hm).2;rw[n] at q;simp at q
theorem TN {h:Heap}{H:Hp}{b:Addr}{o:Obj}(e:(L1 h H).get? b=some o):h.get? b=some o/\H b=none:=by
 have e':h.get? b=some o:=PySem.W.of_hideAll (Wq h H) e;refine⟨e',?_⟩;cases q:H b with
 |none=>rfl
 |some x=>
  have hm:b∈Wq h H:=List.mem_filter.mpr ⟨List.mem_range.mpr (Heap.lt_size e'),by simp[q]⟩;have z:(L1 h H).get? b=none:=PySem.W.hideAll_none (Wq h H) hm;rw[z] at e;cases e
structure Mod (K:PySem.W.Frag) (mg:Str->Option Value) (base:Heap):Prop where
 kin:K.In base
 glob:base.Ns mainGlobals mg
 blt:∃mb,base.Ns builtinsNs mb/\∀x:Str,x≠"__name__"->mb x=bootBuiltins x
 nolimit:base.NoLimit
structure Cx where
 prog:Program
 w:World
 K:PySem.W.Frag
 mg:Str->Option Value
 base:Heap
 A:Around
 N:List Str
 s₀:Shared
 H₀:Hp
 env:Env
 outer:List Env
 stack:List Env
 ex:List Addr
 fn:Str->Bool
 calm:Bool
 pn:List (Addr×Obj)
 xe:Value->Shared->Prop
def NV (l:List Env):List Addr:=l.filterMap (·.frame)
abbrev Cx.fs (X:Cx):List Addr:=NV X.outer
def WG (sc:Scope)(x:Str):Prop:=sc.names.lookup x=some .local\/sc.names.lookup x=some .cell\/sc.names.lookup x=some .free
def Loc (sc:Scope)(x:Str):Prop:=sc.names.lookup x=some .local\/sc.names.lookup x=some .cell
def Look (env:Env)(h:Heap)(m:Str->Option Value)(x:Str)(u:Value):Prop:=
 (env.kindOf x=some .local/\m x=some u)\/((env.kindOf x=some .cell\/env.kindOf x=some .free)/\∃c,env.cells.lookup x=some c/\h.IsCell c (some u))
structure Cx.Ok (X:Cx):Prop where
 mod:Mod X.K X.mg X.base
 kind:X.env.scope.kind=.function
 glob:X.env.globals=mainGlobals
 blt:X.env.builtins=builtinsNs
 above:X.s₀.heap.objs.size<=X.env.locals
 inj:∀x y c,X.env.cells.lookup x=some c->X.env.cells.lookup y=some c->x=y
 has:∀x,(X.env.kindOf x=some .cell\/X.env.kindOf x=some .free)->∃c,X.env.cells.lookup x=some c
 cab:∀x c,X.fn x=true->X.env.cells.lookup x=some c->X.s₀.heap.objs.size<=c
 hd:X.calm=true->X.A.handled=none
 frames:X.A.frames=some X.stack
 stk:X.stack=X.outer\/(X.stack=X.env::X.outer/\X.env.frame=some X.env.locals)
 exf:∀b∈X.ex,b≠X.env.locals/\∀x c,X.env.cells.lookup x=some c->c≠b
 bs:∀b o,X.base.get? b=some o->X.s₀.heap.get? b=some o/\X.H₀ b=none
 bsz:X.base.objs.size<=X.s₀.heap.objs.size
 noex:∀b o,X.base.get? b=some o->b∉X.ex
 exfs:∀b∈X.ex,b∉X.fs
 funs:X.s₀.heap.FunFrames X.base X.outer
 frf:∀b∈X.fs,X.H₀ b=none
structure Inv (X:Cx) (pins:List (Addr×Obj)) (σ:List (Option V)) (H:Hp) (s:Shared):Prop where
 ok:X.Ok
 os:s.os=X.s₀.os
 bare:AllBare s.gens
 base:Un X.fs X.ex X.H₀ H X.s₀.heap s.heap
 loc:∃m,s.heap.Ns X.env.locals m/\∀(i:Nat) (x:Str) (v:V),X.N[i]?=some x->σ[i]?=some (some v)->WG X.env.scope x->∃u,RelV v u/\Look X.env s.heap m x u
 cell:∀x c,X.env.cells.lookup x=some c->∃v,s.heap.IsCell c v
 free:H X.env.locals=none
 freeC:∀x c,X.env.cells.lookup x=some c->H c=none
 pin:∀p∈X.pn++pins,s.heap.get? p.1=some p.2/\H p.1=none/\p.1≠X.env.locals/\p.1∉X.fs/\∀v,p.2.data≠.cell v
 hok:Gg X.prog X.w H s.heap
 len:σ.length=X.N.length
section
variable {X:Cx}{pins:List (Addr×Obj)}{σ:List (Option V)}{H H':Hp}{s:Shared}{h':Heap}
theorem Cx.Ok.nofr (ok:X.Ok){b:Addr}{o:Obj}(e:X.base.get? b=some o):b∉X.fs:=fun hb=>by
 have:=(ok.funs.mem hb).1;rw[e] at this;cases this
theorem Inv.bs (I:Inv X pins σ H s):∀b o,X.base.get? b=some o->s.heap.get? b=some o/\H b=none:=fun b o e=>
 ⟨I.base.keep b o (I.ok.bs b o e).1 (I.ok.bs b o e).2 (I.ok.nofr e) (I.ok.noex b o e),I.base.free b o (I.ok.bs b o e).1 (I.ok.bs b o e).2 (I.ok.noex b o e)⟩
theorem Inv.bk (I:Inv X pins σ H s):∀b o,X.base.get? b=some o->s.heap.get? b=some o:=fun b o e=>(I.bs b o e).1
theorem Inv.mod (I:Inv X pins σ H s):Mod X.K X.mg X.base:=I.ok.mod
theorem Inv.kIn (I:Inv X pins σ H s):X.K.In s.heap:=I.ok.mod.kin.keeps I.bk
theorem Inv.nolimit (I:Inv X pins σ H s):s.heap.NoLimit:=I.ok.mod.nolimit.keeps I.bk
theorem Inv.lt (I:Inv X pins σ H s):X.env.locals<s.heap.objs.size:=let⟨_,hn,_⟩:=I.loc;hn.lt
theorem Inv.sz (I:Inv X pins σ H s):X.s₀.heap.objs.size<=s.heap.objs.size:=Nat.le_trans I.ok.above (Nat.le_of_lt I.lt)
theorem Inv.nofs (I:Inv X pins σ H s){a:Addr}(h:s.heap.objs.size<=a):a∉X.fs:=fun hb=>by
 obtain⟨_,o,ho,_⟩:=I.ok.funs.mem hb;exact absurd (Nat.lt_of_lt_of_le (Heap.lt_size ho) (Nat.le_trans I.sz h)) (Nat.lt_irrefl _)
theorem Inv.cne (I:Inv X pins σ H s):∀x c,X.env.cells.lookup x=some c->c≠X.env.locals:=fun x c e z=>by
 obtain⟨v,o,ho,hd⟩:=I.cell x c e;obtain⟨m,⟨o',es,ep,ho',hd',_⟩,_⟩:=I.loc;rw[z,ho'] at ho;cases ho;rw[hd'] at hd;cases hd
theorem Inv.funs (I:Inv X pins σ H s):s.heap.FunFrames X.base X.outer:=by
 have all:∀(l:List Env),(∀b∈NV l,b∈X.fs)->X.s₀.heap.FunFrames X.base l->s.heap.FunFrames X.base l:=by
  intro l
  induction l with
  |nil=>intro _ _;trivial
  |cons env r ih=>
   intro hs hl;obtain⟨hk,⟨L,o,hf,hn,ho,hd⟩,hr⟩:=hl;have hL:L∈X.fs:=hs L (by unfold NV;rw[List.filterMap_cons,hf];exact List.mem_cons_self);obtain⟨sl,e⟩:=I.base.slot L o ho (I.ok.frf L hL) hL fun z=>I.ok.exfs L z hL
   exact⟨hk,⟨L,_,hf,hn,e,hd⟩,ih (fun b hb=>hs b (by unfold NV;rw[List.filterMap_cons,hf];exact List.mem_cons_of_mem _ hb)) hr⟩
 exact all X.outer (fun _ hb=>hb) I.ok.funs
theorem Inv.stack (I:Inv X pins σ H s):s.heap.FunFrames X.base X.stack:=by
 rcases I.ok.stk with e|⟨e,hf⟩
 ·rw[e];exact I.funs
 ·rw[e];obtain⟨m,hn,_⟩:=I.loc;refine .cons (by rw[I.ok.kind];decide) hf hn ?_ I.funs;exact Heap.get?_none_of_le (Nat.le_trans I.ok.bsz I.ok.above)
theorem Inv.stkSub (I:Inv X pins σ H s):∀b∈NV X.stack,b∈X.env.locals::X.fs:=fun b hb=>by
 rcases I.ok.stk with e|⟨e,hf⟩
 ·rw[e] at hb;exact List.mem_cons_of_mem _ hb
 ·rw[e] at hb;unfold NV at hb;rw[List.filterMap_cons,hf] at hb;exact hb
theorem Inv.stkFree (I:Inv X pins σ H s):∀b∈NV X.stack,H b=none:=fun b hb=>by
 rcases List.mem_cons.mp (I.stkSub b hb) with e|hb
 ·rw[e];exact I.free
 ·obtain⟨_,o,ho,_⟩:=I.ok.funs.mem hb;exact I.base.free b o ho (I.ok.frf b hb) fun z=>I.ok.exfs b z hb
theorem Inv.step {g':Array GenState} {t':Nat} {d':Drawn} {ch:List Addr} (I:Inv X pins σ H s)
  (hch:∀b∈ch,(b∈X.ex\/X.s₀.heap.objs.size<=b)/\b≠X.env.locals/\(∀x c,X.env.cells.lookup x=some c->c≠b)/\∀p∈X.pn++pins,p.1≠b)
  (keep:∀b o,b≠X.env.locals->b∉X.fs->b∉ch->s.heap.get? b=some o->H b=none->h'.get? b=some o)
  (slot:∀b o,b≠X.env.locals->b∈X.fs->b∉ch->s.heap.get? b=some o->H b=none->∃sl,h'.get? b=some { o with slots:=sl }) (free:∀b o,b∉ch->s.heap.get? b=some o->H b=none->H' b=none)
  (there:∀b o,b∉ch->s.heap.get? b=some o->∃o',h'.get? b=some o')
  (tups:∀b xs,H b=some (.tup xs)->H' b=some (.tup xs)) (frzs:∀b o u,H b=some (.frz o u)->H' b=some (.frz o u)) (tbls:∀b ps,H b=some (.tbl ps)->∃more,H' b=some (.tbl (ps++more)))
  (ns:∀m,s.heap.Ns X.env.locals m->h'.Ns X.env.locals m) (hok:Gg X.prog X.w H' h') (hg:AllBare g') :
  Inv X pins σ H' { s with heap:=h',gens:=g',drawn:=d',toks:=t' }:=by
 have neL:∀b o,X.s₀.heap.get? b=some o->b≠X.env.locals:=fun b o e=>Nat.ne_of_lt (Nat.lt_of_lt_of_le (Heap.lt_size e) I.ok.above)
 have neC:∀b o,X.s₀.heap.get? b=some o->b∉X.ex->b∉ch:=fun b o e hx hb=>by
  rcases(hch b hb).1 with z|z
  ·exact hx z
  ·exact absurd (Nat.lt_of_lt_of_le (Heap.lt_size e) z) (Nat.lt_irrefl _)
 have cellK:∀x c,X.env.cells.lookup x=some c->∀v,s.heap.IsCell c v->h'.IsCell c v:=fun x c e v ⟨o,ho,hd⟩=>by
  have nch:c∉ch:=fun z=>(hch c z).2.2.1 x c e rfl
  by_cases hc:c∈X.fs
  ·obtain⟨sl,q⟩:=slot c o (I.cne x c e) hc nch ho (I.freeC x c e);exact⟨_,q,hd⟩
  ·exact⟨o,keep c o (I.cne x c e) hc nch ho (I.freeC x c e),hd⟩
 refine⟨I.ok,I.os,hg,⟨fun b o e n hb hx=>?_,fun b o e n hb hx=>?_,fun b o e n hx=>?_,fun b o e hx=>?_,fun b xs e=>tups b xs (I.base.tups b xs e),fun b o xs e=>frzs b o xs (I.base.frzs b o xs e),fun b ps e=>?_⟩,?_,fun x c e=>?_,?_,fun x c e=>?_,fun p hp=>?_,hok,I.len⟩
 ·exact keep b o (neL b o e) hb (neC b o e hx) (I.base.keep b o e n hb hx) (I.base.free b o e n hx)
 ·obtain⟨sl,e1⟩:=I.base.slot b o e n hb hx;obtain⟨sl',e2⟩:=slot b _ (neL b o e) hb (neC b o e hx) e1 (I.base.free b o e n hx);exact⟨sl',e2⟩
 ·obtain⟨o',e1⟩:=I.base.there b o e hx;exact free b o' (neC b o e hx) e1 (I.base.free b o e n hx)
 ·obtain⟨o',e1⟩:=I.base.there b o e hx;exact there b o' (neC b o e hx) e1
 ·obtain⟨m1,e1⟩:=I.base.tbls b ps e;obtain⟨m2,e2⟩:=tbls b _ e1;exact⟨m1++m2,by rw[e2,Array.append_assoc]⟩
 ·obtain⟨m,hn,hl⟩:=I.loc;refine⟨m,ns m hn,fun i x v e1 e2 e3=>?_⟩;obtain⟨u,r,l⟩:=hl i x v e1 e2 e3;refine⟨u,r,?_⟩;rcases l with l|⟨k,c,e,z⟩
  ·exact .inl l
  ·exact .inr ⟨k,c,e,cellK x c e _ z⟩
 ·obtain⟨v,z⟩:=I.cell x c e;exact⟨v,cellK x c e v z⟩
 ·obtain⟨m,⟨o,_,_,ho,_⟩,_⟩:=I.loc;exact free _ o (fun z=>(hch _ z).2.1 rfl) ho I.free
 ·obtain⟨v,o,ho,hd⟩:=I.cell x c e;exact free c o (fun z=>(hch c z).2.2.1 x c e rfl) ho (I.freeC x c e)
 ·obtain⟨e,n,ne,nf,d⟩:=I.pin p hp;have nch:p.1∉ch:=fun z=>(hch p.1 z).2.2.2 p hp rfl
  exact⟨keep p.1 p.2 ne nf nch e n,free p.1 p.2 nch e n,ne,nf,d⟩
theorem Inv.un {t':Nat}(I:Inv X pins σ H s)(u:Un X.fs [] H H' s.heap h')(hok:Gg X.prog X.w H' h'):Inv X pins σ H' { s with heap:=h',toks:=t' }:=by
 obtain⟨m,⟨o,es,ep,ho,r⟩,_⟩:=id I.loc;obtain⟨sl,hL⟩:=u.any ho I.free (by simp);exact I.step (g':=s.gens) (d':=s.drawn) (ch:=[]) (fun _ z=>nomatch z) (fun b o _ hb _ e n=>u.keep b o e n hb (by simp)) (fun b o _ hb _ e n=>u.slot b o e n hb (by simp)) (fun b o _ e n=>u.free b o e n (by simp)) (fun b o _ e=>u.there b o e (by simp)) u.tups u.frzs u.tbls (fun m' hm=>by
  obtain⟨o',es',ep',ho',r'⟩:=hm;rw[ho] at ho';cases ho';exact⟨_,es',ep',hL,r'⟩) hok I.bare
theorem Inv.call {g':Array GenState} {t':Nat} {d':Drawn} {ch:List Addr} (I:Inv X pins σ H s) (u:Un (NV X.stack) ch H H' s.heap h') (hok:Gg X.prog X.w H' h') (hg:AllBare g')
  (hch:∀b∈ch,(b∈X.ex\/X.s₀.heap.objs.size<=b)/\b≠X.env.locals/\(∀x c,X.env.cells.lookup x=some c->c≠b)/\∀p∈X.pn++pins,p.1≠b) :
  Inv X pins σ H' { s with heap:=h',gens:=g',drawn:=d',toks:=t' }:=by
 obtain⟨m,⟨o,es,ep,ho,r⟩,_⟩:=id I.loc;obtain⟨sl,hL⟩:=u.any ho I.free fun z=>(hch _ z).2.1 rfl
 exact I.step (ch:=ch) hch (fun b o hL hb hc e n=>u.keep b o e n (fun z=>(List.mem_cons.mp (I.stkSub b z)).elim hL hb) hc) (fun b o _ _ hc e n=>u.any e n hc) (fun b o hc e n=>u.free b o e n hc) (fun b o hc e=>u.there b o e hc) u.tups u.frzs u.tbls (fun m' hm=>by
  obtain⟨o',es',ep',ho',r'⟩:=hm;rw[ho] at ho';cases ho';exact⟨_,es',ep',hL,r'⟩) hok hg
theorem Inv.turned {t':Nat} {it:Addr} (I:Inv X pins σ H s) (k:∀b o,b≠it->s.heap.get? b=some o->h'.get? b=some o) (hn:H it=none) (hL:it≠X.env.locals)
  (h1:it∈X.ex\/X.s₀.heap.objs.size<=it) (h2:∀x c,X.env.cells.lookup x=some c->c≠it) (h3:∀p∈X.pn++pins,p.1≠it):Inv X pins σ H { s with heap:=h',toks:=t' }:=by
 have nit:∀b u,H b=some u->b≠it:=fun b u e z=>by rw[z,hn] at e;cases e
 refine I.step (g':=s.gens) (d':=s.drawn) (ch:=[it]) (fun b hb=>?_) (fun b o _ _ hc e _=>k b o (fun z=>hc (by simp[z])) e) (fun b o _ _ hc e _=>⟨o.slots,k b o (fun z=>hc (by simp[z])) e⟩) (fun _ _ _ _ n=>n)
  (fun b o hc e=>⟨o,k b o (fun z=>hc (by simp[z])) e⟩) (fun _ _ e=>e) (fun _ _ _ e=>e) (fun b ps e=>⟨#[],by rw[e];simp⟩) (fun m hm=>?_) (fun b u e=>?_) I.bare
 ·have e:b=it:=by simpa using hb
  subst e;exact⟨h1,hL,h2,h3⟩
 ·obtain⟨o,es,ep,ho,r⟩:=hm;exact⟨o,es,ep,k _ o (Ne.symm hL) ho,r⟩
 ·refine(I.hok b u e).stay (fun c v hc q=>k c v ?_ q) (fun _ q=>q) fun _ _ q=>q
  rcases hc with z|z
  ·rw[z];exact nit b u e
  ·exact nit c _ z
theorem Inv.tok (I:Inv X pins σ H s)(t:Nat):Inv X pins σ H { s with toks:=t }:=I.un (h':=s.heap) (t':=t) Un.refl I.hok
theorem Inv.kept {t':Nat}(I:Inv X pins σ H s)(k:∀b u,s.heap.get? b=some u->h'.get? b=some u):Inv X pins σ H { s with heap:=h',toks:=t' }:=I.un (Un.kept k) (I.hok.kept k)
theorem Inv.laid {a:Addr}{o:HO}{t':Nat}(I:Inv X pins σ H s)(k:∀b u,s.heap.get? b=some u->h'.get? b=some u)(hp:s.heap.objs.size<=a)(new:AX X.prog X.w (upd H a o) h' a o) :
  Inv X pins σ (upd H a o) { s with heap:=h',toks:=t' }:=I.un (Un.laid k hp (I.hok.fresh hp)) (I.hok.laid k hp new)
theorem Inv.write {x e:Addr} {o:HO} {t':Nat} (I:Inv X pins σ H s) (mu:Wa (H x)) (he:e=x\/H e=some (.own x)) (k:∀b u,b≠e->s.heap.get? b=some u->h'.get? b=some u) (heo:∃u,h'.get? e=some u)
  (new:AX X.prog X.w (upd H x o) h' x o):Inv X pins σ (upd H x o) { s with heap:=h',toks:=t' }:=I.un (Un.write mu he k heo) (I.hok.write mu he k heo new)
theorem Inv.pins_of {pins':List (Addr×Obj)}(I:Inv X pins σ H s)(h:∀p∈pins',s.heap.get? p.1=some p.2/\H p.1=none/\p.1≠X.env.locals/\p.1∉X.fs/\∀v,p.2.data≠.cell v):Inv X pins' σ H s:=
 ⟨I.ok,I.os,I.bare,I.base,I.loc,I.cell,I.free,I.freeC,fun p hp=>(List.mem_append.mp hp).elim (fun z=>I.pin p (List.mem_append_left _ z)) (h p),I.hok,I.len⟩
theorem MZ {N:List Str}(hN:N.Nodup){i j:Nat}{x:Str}(a:N[i]?=some x)(b:N[j]?=some x):i=j:=by
 obtain⟨h1,e1⟩:=List.getElem?_eq_some_iff.mp a;obtain⟨h2,e2⟩:=List.getElem?_eq_some_iff.mp b;exact(List.getElem_inj hN).mp (e1.trans e2.symm)
theorem PL {M:Model} {A:Around} {E:Value->Shared->Prop} {i:Nat} {x:Str} {v:V} {u:Value} {Q:Unit->Shared->Prop} (I:Inv X pins σ H s) (hN:X.N.Nodup) (hi:X.N[i]?=some x) (hx:Loc X.env.scope x) (r:RelV v u)
  (h:∀s',Inv X pins (σ.set i (some v)) H s'->(∃a,Heap.SameBut a s.heap s'.heap/\(a=X.env.locals\/X.env.cells.lookup x=some a))->Q () s') (hf:X.fn x=true\/X.env.scope.names.lookup x=some .local:=by first|exact .inl rfl|exact .inr rfl|assumption):wpAny M A (storeName X.env x u) Q E s:=by
 obtain⟨m,hn,hl⟩:=id I.loc;have hcls:(X.env.scope.kind == .class||(X.env.scope.kind == .module&&X.env.locals != X.env.globals))=false:=by rw[I.ok.kind];rfl
 have hiσ:i<σ.length:=by rw[I.len];exact(List.getElem?_eq_some_iff.mp hi).1
 have cne:=I.cne;have tracked:∀{a:Addr} {h':Heap},(∃o,s.heap.get? a=some o/\H a=none)->Heap.SameBut a s.heap h'->Gg X.prog X.w H h':=fun{a h'} ha hs b ob e=>by
  obtain⟨_,_,hfree⟩:=ha;refine(I.hok b ob e).stay (fun c w' hc q=>(hs.2 c ?_).trans q) (fun _ q=>q) fun _ _ q=>q
  rintro rfl
  rcases hc with rfl|hc
  ·rw[hfree] at e;cases e
  ·rw[hfree] at hc;cases hc
 rcases hx with hk|hk
 ·refine wpAny_storeName_local hk hn (fun h' hn' hs=>?_) hcls;obtain⟨oL,_,_,hoL,_⟩:=id hn;refine h _ ⟨I.ok,I.os,I.bare,⟨fun b o e n hb hx=>?_,fun b o e n hb hx=>?_,I.base.free,fun b o e hx=>?_,I.base.tups,I.base.frzs,I.base.tbls⟩,⟨_,hn',fun j y v' e1 e2 e3=>?_⟩,fun y c e=>?_,I.free,I.freeC,fun p hp=>?_,tracked ⟨oL,hoL,I.free⟩ hs,by simpa using I.len⟩ ⟨_,hs,.inl rfl⟩
  ·exact(hs.2 b (Nat.ne_of_lt (Nat.lt_of_lt_of_le (Heap.lt_size e) I.ok.above))).trans (I.base.keep b o e n hb hx)
  ·obtain⟨sl,e1⟩:=I.base.slot b o e n hb hx;exact⟨sl,(hs.2 b (Nat.ne_of_lt (Nat.lt_of_lt_of_le (Heap.lt_size e) I.ok.above))).trans e1⟩
  ·obtain⟨o',e1⟩:=I.base.there b o e hx;exact⟨o',(hs.2 b (Nat.ne_of_lt (Nat.lt_of_lt_of_le (Heap.lt_size e) I.ok.above))).trans e1⟩
  ·by_cases hj:j=i
   ·subst hj;rw[hi] at e1;cases e1;rw[List.getElem?_set_self hiσ] at e2;cases e2;exact⟨u,r,.inl ⟨hk,by simp⟩⟩
   ·rw[List.getElem?_set_ne (Ne.symm hj)] at e2;obtain⟨u',r',q⟩:=hl j y v' e1 e2 e3;refine⟨u',r',?_⟩;rcases q with⟨k,e⟩|⟨k,c,e,z⟩
    ·refine .inl ⟨k,?_⟩;have:y≠x:=fun e=>hj (MZ hN e1 (e▸hi))
     simp[this,e]
    ·exact .inr ⟨k,c,e,z.sameBut hs (cne y c e)⟩
  ·obtain⟨w',z⟩:=I.cell y c e;exact⟨w',z.sameBut hs (cne y c e)⟩
  ·obtain⟨e,n,ne,nf,d⟩:=I.pin p hp;exact⟨(hs.2 p.1 ne).trans e,n,ne,nf,d⟩
 ·have hfn:X.fn x=true:=by
   rcases hf with z|z
   ·exact z
   ·rw[z] at hk;cases hk
  obtain⟨c,hc⟩:=I.ok.has x (.inl hk);obtain⟨w',z⟩:=I.cell x c hc;refine wpAny_storeName_cell I.ok.kind hk hc z (fun h' hc' hs=>?_);obtain⟨oc,hoc,hocd⟩:=id z;refine h { s with heap:=h' } ⟨I.ok,I.os,I.bare,⟨fun b o e n hb hx=>?_,fun b o e n hb hx=>?_,I.base.free,fun b o e hx=>?_,I.base.tups,I.base.frzs,I.base.tbls⟩,⟨m,hn.sameBut hs (Ne.symm (cne x c hc)),fun j y v' e1 e2 e3=>?_⟩,fun y c' e=>?_,I.free,I.freeC,fun p hp=>?_,tracked ⟨oc,hoc,I.freeC x c hc⟩ hs,by simpa using I.len⟩ ⟨c,hs,.inr hc⟩
  ·exact(hs.2 b (Nat.ne_of_lt (Nat.lt_of_lt_of_le (Heap.lt_size e) (I.ok.cab x c hfn hc)))).trans (I.base.keep b o e n hb hx)
  ·obtain⟨sl,e1⟩:=I.base.slot b o e n hb hx;exact⟨sl,(hs.2 b (Nat.ne_of_lt (Nat.lt_of_lt_of_le (Heap.lt_size e) (I.ok.cab x c hfn hc)))).trans e1⟩
  ·obtain⟨o',e1⟩:=I.base.there b o e hx;exact⟨o',(hs.2 b (Nat.ne_of_lt (Nat.lt_of_lt_of_le (Heap.lt_size e) (I.ok.cab x c hfn hc)))).trans e1⟩
  ·by_cases hj:j=i
   ·subst hj;rw[hi] at e1;cases e1;rw[List.getElem?_set_self hiσ] at e2;cases e2;exact⟨u,r,.inr ⟨.inl hk,c,hc,hc'⟩⟩
   ·rw[List.getElem?_set_ne (Ne.symm hj)] at e2;obtain⟨u',r',q⟩:=hl j y v' e1 e2 e3;refine⟨u',r',?_⟩;rcases q with q|⟨k,c',e,z'⟩
    ·exact .inl q
    ·refine .inr ⟨k,c',e,z'.sameBut hs ?_⟩
     rintro rfl
     exact hj (MZ hN e1 (I.ok.inj _ _ _ e hc▸hi))
  ·by_cases hcc:c'=c
   ·subst hcc;exact⟨_,hc'⟩
   ·obtain⟨w2,z2⟩:=I.cell y c' e;exact⟨w2,z2.sameBut hs hcc⟩
  ·obtain⟨e,n,ne,nf,d⟩:=I.pin p hp;refine⟨(hs.2 p.1 ?_).trans e,n,ne,nf,d⟩;intro q;rw[q,hoc] at e;have q':oc=p.2:=Option.some.inj e;exact d w' (by rw[<-q'];exact hocd)
theorem IP {M:Model} {A:Around} {E:Value->Shared->Prop} {i:Nat} {x:Str} {v:V} {u:Value} {Q:Unit->Shared->Prop} (I:Inv X pins σ H s) (hN:X.N.Nodup) (hi:X.N[i]?=some x) (hx:Loc X.env.scope x) (r:RelV v u)
  (h:∀s',Inv X pins (σ.set i (some v)) H s'->Q () s') (hf:X.fn x=true\/X.env.scope.names.lookup x=some .local:=by first|exact .inl rfl|exact .inr rfl|assumption):wpAny M A (storeName X.env x u) Q E s:=
 PL I hN hi hx r (fun s' I' _=>h s' I') hf
theorem Inv.call' {s':Shared} {ch:List Addr} (I:Inv X pins σ H s) (ho:s'.os=s.os) (u:Un (NV X.stack) ch H H' s.heap s'.heap) (hok:Gg X.prog X.w H' s'.heap) (hg:AllBare s'.gens)
  (hch:∀b∈ch,(b∈X.ex\/X.s₀.heap.objs.size<=b)/\b≠X.env.locals/\(∀x c,X.env.cells.lookup x=some c->c≠b)/\∀p∈X.pn++pins,p.1≠b):Inv X pins σ H' s':=by
 obtain⟨h',g',d',t',o'⟩:=s';have e:o'=s.os:=ho;subst e;exact I.call (g':=g') (t':=t') (d':=d') u hok hg hch
end
abbrev XK:=Value->Option Addr->Hp->Prop
abbrev St:=List (Option V)
abbrev VK:=V->Hp->Prop
abbrev TE:=St->Hp->VK->Prop
abbrev TT:=St->Hp->(Bool->Hp->Prop)->Prop
abbrev TA:=St->Hp->(List V->Hp->Prop)->Prop
structure Ends where
 nx:St->Hp->Prop
 rt:VK
 bk:St->Hp->Prop:=fun _ _=>False
 ct:St->Hp->Prop:=fun _ _=>False
abbrev TS:=Ends->St->Hp->Prop
def EP (X:Cx)(pins:List (Addr×Obj))(σ:St)(Q:VK)(u:Value)(s':Shared):Prop:=∃v H',Inv X pins σ H' s'/\RelV v u/\Q v H'
def TP (X:Cx)(pins:List (Addr×Obj))(σ:St)(Q:Bool->Hp->Prop)(b:Bool)(s':Shared):Prop:=∃H',Inv X pins σ H' s'/\Q b H'
def AP (X:Cx)(pins:List (Addr×Obj))(σ:St)(Q:List V->Hp->Prop)(us:List Value)(s':Shared):Prop:=∃vs H',Inv X pins σ H' s'/\AN vs us/\Q vs H'
def SP (X:Cx)(pins:List (Addr×Obj))(D:Ends)(f:Flow)(s':Shared):Prop:=
 match f with
 | .next=>∃σ' H',Inv X pins σ' H' s'/\D.nx σ' H'
 | .brk=>∃σ' H',Inv X pins σ' H' s'/\D.bk σ' H'
 | .cont=>∃σ' H',Inv X pins σ' H' s'/\D.ct σ' H'
 | .ret u=>∃v σ' H',Inv X pins σ' H' s'/\RelV v u/\D.rt v H'
def PE (X:Cx)(e:Expr)(t:TE):Prop:=
 ∀(pins:List (Addr×Obj)) (s:Shared) (σ:St) (H:Hp) (Q:VK),Inv X pins σ H s->t σ H Q->wpAny (model X.prog X.w) X.A (eval e X.env) (EP X pins σ Q) X.xe s
def PT (X:Cx)(e:Expr)(t:TT):Prop:=
 ∀(pins:List (Addr×Obj)) (s:Shared) (σ:St) (H:Hp) (Q:Bool->Hp->Prop),Inv X pins σ H s->t σ H Q->wpAny (model X.prog X.w) X.A (isTrue e X.env (eval e X.env)) (TP X pins σ Q) X.xe s
def PW (X:Cx)(e:Expr)(t:TT):Prop:=
 ∀(whole:Sem Value) (pins:List (Addr×Obj)) (s:Shared) (σ:St) (H:Hp) (Q:Bool->Hp->Prop),Inv X pins σ H s->t σ H Q->wpAny (model X.prog X.w) X.A (isTrue e X.env whole) (TP X pins σ Q) X.xe s
theorem PW.pt {X:Cx}{e:Expr}{t:TT}(h:PW X e t):PT X e t:=h _
def PA (X:Cx)(es:List Expr)(t:TA):Prop:=
 ∀(pos:Pos) (pins:List (Addr×Obj)) (s:Shared) (σ:St) (H:Hp) (Q:List V->Hp->Prop),Inv X pins σ H s->t σ H Q->wpAny (model X.prog X.w) X.A (spliced (backTo pos (starEach es X.env))) (AP X pins σ Q) X.xe s
def PS (X:Cx)(st:Stmt)(t:TS):Prop:=
 ∀(pins:List (Addr×Obj)) (s:Shared) (σ:St) (H:Hp) (D:Ends),Inv X pins σ H s->t D σ H->wpAny (model X.prog X.w) X.A (exec st X.env) (SP X pins D) X.xe s
def OI (X:Cx)(st:List Stmt)(t:TS):Prop:=
 ∀(pins:List (Addr×Obj)) (s:Shared) (σ:St) (H:Hp) (D:Ends),Inv X pins σ H s->t D σ H->wpAny (model X.prog X.w) X.A (execs st X.env) (SP X pins D) X.xe s
theorem Bw {α:Type}{t:Sem α}{Q Q':α->Shared->Prop}{M:Model}{A:Around}{E:Value->Shared->Prop}{s:Shared}(h:wpAny M A t Q E s)(hQ:∀a s,Q a s->Q' a s):wpAny M A t Q' E s:=wpAny_mono h hQ fun _ _ x=>x
section
variable {X:Cx}
theorem bin {a b:Expr} {ta tb:TE} (ha:PE X a ta) (hb:PE X b tb) {pins:List (Addr×Obj)} {s:Shared} {σ:St} {H:Hp} {R:V->V->Hp->Prop} (I:Inv X pins σ H s) (h:ta σ H fun x H1=>tb σ H1 fun y H2=>R x y H2)
  {α:Type} {Q:α->Shared->Prop} {f:Value->Value->Sem α}
  (hf:∀v u s2 x y H2,Inv X pins σ H2 s2->RelV x v->RelV y u->R x y H2->wpAny (model X.prog X.w) X.A (f v u) Q X.xe s2) :
  wpAny (model X.prog X.w) X.A (eval a X.env) (fun v s₁=>wpAny (model X.prog X.w) X.A (eval b X.env) (fun u s₂=>wpAny (model X.prog X.w) X.A (f v u) Q X.xe s₂) X.xe s₁) X.xe s:=by
 refine Bw (ha pins s σ H _ I h) fun v s1 ⟨x,H1,I1,r1,q1⟩=>?_
 refine Bw (hb pins s1 σ H1 _ I1 q1) fun u s2 ⟨y,H2,I2,r2,q2⟩=>?_
 exact hf v u s2 x y H2 I2 r1 r2 q2
def Iv (i:Nat):TE:=fun σ H Q=>∃v,σ[i]?=some (some v)/\Q v H
def tC (v:V):TE:=fun _ H Q=>Q v H
theorem Ve {i:Nat}{x:Str}{pos:Pos}(hN:X.N[i]?=some x)(hv:WG X.env.scope x)(hd:(x == ("__debug__":Str))=false:=by decide)(hcd:(x == ("__classdict__":Str))=false:=by decide):PE X (.Name x pos) (Iv i):=by
 intro pins s σ H Q I h;obtain⟨v,e,h⟩:=h;obtain⟨m,hn,hl⟩:=I.loc;obtain⟨u,r,l⟩:=hl i x v hN e hv;have fin:EP X pins σ Q u s:=⟨v,H,I,r,h⟩
 rcases l with⟨hk,hm⟩|⟨hk,c,hc,hcell⟩
 ·exact wpAny_Name (wpAny_loadName_local I.ok.kind hk hn hm fin) hd
 ·rcases hk with hk|hk
  ·exact wpAny_Name (wpAny_loadName_cell I.ok.kind hk hc hcell fin) hd
  ·exact wpAny_Name (wpAny_loadName_free I.ok.kind hk hc hcell fin hcd) hd
theorem Ac {i j pos}:PE X (.Constant (.int i) j pos) (tC (.int i)):=fun _ _ _ H _ I h=>wpAny_Constant_int ⟨.int i,H,I.tok _,⟨_,rfl⟩,h⟩
theorem A1 {b j pos}:PE X (.Constant (.bool b) j pos) (tC (.bl b)):=fun _ _ _ H _ I h=>Constant_bool ⟨.bl b,H,I,rfl,h⟩
theorem Vb {j pos}:PE X (.Constant .none j pos) (tC .non):=fun _ _ _ H _ I h=>Constant_none ⟨.non,H,I,rfl,h⟩
theorem B5 {x j pos}:PE X (.Constant (.str x) j pos) (tC (.str x)):=fun _ _ _ H _ I h=>Calls.Constant_str ⟨.str x,H,I.tok _,⟨_,rfl⟩,h⟩
def Gl (X:Cx)(x:Str):Prop:=X.env.kindOf x=some .globalImplicit
theorem O4 {E:Value->Shared->Prop} {pins:List (Addr×Obj)} {s:Shared} {σ:St} {H:Hp} {x:Str} {u:Value} {pos:Pos} {Q:Value->Shared->Prop} (I:Inv X pins σ H s) (hg:Gl X x) (hm:X.mg x=some u) (h:Q u s)
  (hd:(x == ("__debug__":Str))=false:=by decide):wpAny (model X.prog X.w) X.A (eval (.Name x pos) X.env) Q E s:=
 Calls.Name_function_global I.ok.kind hg (Calls.loadGlobal_global (by rw[I.ok.glob];exact I.mod.glob.keeps I.bk) hm h) hd
theorem FP {E:Value->Shared->Prop} {pins:List (Addr×Obj)} {s:Shared} {σ:St} {H:Hp} {x:Str} {u:Value} {pos:Pos} {Q:Value->Shared->Prop} (I:Inv X pins σ H s) (hg:Gl X x) (hm:X.mg x=none) (hv:bootBuiltins x=some u) (h:Q u s)
  (hn:x≠"__name__":=by decide) (hd:(x == ("__debug__":Str))=false:=by decide):wpAny (model X.prog X.w) X.A (eval (.Name x pos) X.env) Q E s:=by
 obtain⟨mb,h1,h2⟩:=I.mod.blt;exact Calls.Name_function_global I.ok.kind hg (Calls.loadGlobal_builtin (by rw[I.ok.glob];exact I.mod.glob.keeps I.bk) hm (by rw[I.ok.blt];exact h1.keeps I.bk) ((h2 x hn).trans hv) h) hd
theorem Oj {x:Str}{v:V}{u:Value}{pos:Pos}(hg:Gl X x)(hm:X.mg x=some u)(r:RelV v u)(hd:(x == ("__debug__":Str))=false:=by decide):PE X (.Name x pos) (tC v):=
 fun _ _ _ H _ I h=>O4 I hg hm ⟨v,H,I,r,h⟩ hd
theorem TB {x:Str}{v:V}{u:Value}{pos:Pos}(hg:Gl X x)(hm:X.mg x=none)(hv:bootBuiltins x=some u)(r:RelV v u)(hn:x≠"__name__":=by decide)(hd:(x == ("__debug__":Str))=false:=by decide):PE X (.Name x pos) (tC v):=
 fun _ _ _ H _ I h=>FP I hg hm hv ⟨v,H,I,r,h⟩ hn hd
variable {a b:Expr}{ta tb:TE}{pos:Pos}
def PC (X:Cx)(op:CmpOp)(a b:Expr)(t:TE):Prop:=
 ∀(pins:List (Addr×Obj)) (s:Shared) (σ:St) (H:Hp) (Q:VK),Inv X pins σ H s->t σ H Q->
  wpAny (model X.prog X.w) X.A (eval a X.env) (fun v s₁=>wpAny (model X.prog X.w) X.A (eval b X.env) (fun u s₂=>wpAny (model X.prog X.w) X.A (compareOp op v u) (EP X pins σ Q) X.xe s₂) X.xe s₁) X.xe s
theorem Ez (b:Expr){op:CmpOp}(h:op≠.In)(h2:op≠.NotIn):behindInMarks op b=false:=by
 have e1:(op == CmpOp.In)=false:=by cases op<;>first|rfl|exact absurd rfl h
 have e2:(op == CmpOp.NotIn)=false:=by cases op<;>first|rfl|exact absurd rfl h2
 cases b<;>simp[behindInMarks,e1,e2]
def tB (t:TE):TT:=fun σ H Q=>t σ H fun x H1=>∃c,x=.bl c/\Q c H1
theorem LF {op:CmpOp}{t:TE}(h:PC X op a b t)(h1:behindInMarks op b=false:=by first|exact Ez _ (by decide) (by decide)|rfl):PE X (.Compare a [op] [b] pos) t:=fun pins s σ H Q I hw=>wpAny_Compare1 (h pins s σ H Q I hw) h1
theorem W5 {op:CmpOp}{t:TE}(h:PC X op a b t)(h1:behindInMarks op b=false:=by first|exact Ez _ (by decide) (by decide)|rfl):PT X (.Compare a [op] [b] pos) (tB t):=by
 intro pins s σ H Q I hw;refine wpAny_isTrue_Compare1 (Bw (h pins s σ H _ I hw) fun v s1 h1=>Bw h1 fun u s2 h2=>Bw h2 fun c s3 ⟨x,H1,I1,r1,q1⟩=>?_) h1;obtain⟨d,rfl,q⟩:=q1;cases r1;exact wpAny_truthy_bool ⟨H1,I1,q⟩
theorem AH {e:Expr}{t:TE}(h:PE X e t)(he:∀whole,isTrue e X.env whole=(do let v <-whole;standAt e.pos;holding [v] (truthy v)):=by intro _;rfl):PT X e (tB t):=by
 intro pins s σ H Q I hw;refine isTrue_plain (Bw (h pins s σ H _ I hw) fun v s1 ⟨x,H1,I1,r1,q1⟩=>?_) (he _);obtain⟨d,rfl,q⟩:=q1;cases r1;exact wpAny_truthy_bool ⟨H1,I1,q⟩
variable {tA tB':TT}{rest:List Expr}
def VG (t u:TT):TT:=fun σ H Q=>t σ H fun c H1=>if c=true then u σ H1 Q else Q false H1
def S1 (t u:TT):TT:=fun σ H Q=>t σ H fun c H1=>if c=true then Q true H1 else u σ H1 Q
def J3 (t:TT):TT:=fun σ H Q=>t σ H fun c H1=>Q (!c) H1
theorem IK (ha:PT X a tA):PW X (.BoolOp .And [a] pos) tA:=by
 intro wh pins s σ H Q I h;refine isTrue_and (Bw (ha pins s σ H Q I h) fun c s1 e=>?_);cases c with
 |true=>exact isTrue_and_nil e
 |false=>exact e
theorem Bs (ha:PT X a tA):PW X (.BoolOp .Or [a] pos) tA:=by
 intro wh pins s σ H Q I h;refine isTrue_or (Bw (ha pins s σ H Q I h) fun c s1 e=>?_);cases c with
 |false=>exact isTrue_or_nil e
 |true=>exact e
theorem K3 (ha:PT X a tA)(hb:PW X (.BoolOp .And (b::rest) pos) tB'):PW X (.BoolOp .And (a::b::rest) pos) (VG tA tB'):=by
 intro wh pins s σ H Q I h;refine isTrue_and (Bw (ha pins s σ H _ I h) fun c s1 ⟨H1,I1,q1⟩=>?_);cases c with
 |true=>exact hb wh pins s1 σ H1 Q I1 q1
 |false=>exact⟨H1,I1,q1⟩
theorem BO (ha:PT X a tA)(hb:PW X (.BoolOp .Or (b::rest) pos) tB'):PW X (.BoolOp .Or (a::b::rest) pos) (S1 tA tB'):=by
 intro wh pins s σ H Q I h;refine isTrue_or (Bw (ha pins s σ H _ I h) fun c s1 ⟨H1,I1,q1⟩=>?_);cases c with
 |true=>exact⟨H1,I1,q1⟩
 |false=>exact hb wh pins s1 σ H1 Q I1 q1
theorem AI (ha:PT X a tA):PT X (.UnaryOp .Not a pos) (J3 tA):=by
 intro pins s σ H Q I h;exact isTrue_not (ha pins s σ H (fun c H1=>Q (!c) H1) I h)
def T8 (ta tb:TE):TE:=fun σ H Q=>ta σ H fun x H1=>∃c,x=.bl c/\if c=true then tb σ H1 Q else Q (.bl false) H1
def WI (ta tb:TE):TE:=fun σ H Q=>ta σ H fun x H1=>∃c,x=.bl c/\if c=true then Q (.bl true) H1 else tb σ H1 Q
def Wn (ta:TE):TE:=fun σ H Q=>ta σ H fun x H1=>∃c,x=.bl c/\Q (.bl (!c)) H1
theorem Bq {op}{t:TE}(h:PE X a t):PE X (.BoolOp op [a] pos) t:=fun pins s σ H Q I hw=>BoolOp_one (h pins s σ H Q I hw)
theorem A8 (ha:PE X a ta)(hb:PE X (.BoolOp .And (b::rest) pos) tb):PE X (.BoolOp .And (a::b::rest) pos) (T8 ta tb):=by
 intro pins s σ H Q I h;refine BoolOp_and (Bw (ha pins s σ H _ I h) fun v s1 ⟨x,H1,I1,r1,q1⟩=>?_);obtain⟨c,rfl,q1⟩:=q1;cases r1;refine wpAny_truthy_bool ?_;cases c with
 |true=>exact hb pins s1 σ H1 Q I1 q1
 |false=>exact⟨.bl false,H1,I1,rfl,q1⟩
theorem Qf (ha:PE X a ta)(hb:PE X (.BoolOp .Or (b::rest) pos) tb):PE X (.BoolOp .Or (a::b::rest) pos) (WI ta tb):=by
 intro pins s σ H Q I h;refine BoolOp_or (Bw (ha pins s σ H _ I h) fun v s1 ⟨x,H1,I1,r1,q1⟩=>?_);obtain⟨c,rfl,q1⟩:=q1;cases r1;refine wpAny_truthy_bool ?_;cases c with
 |false=>exact hb pins s1 σ H1 Q I1 q1
 |true=>exact⟨.bl true,H1,I1,rfl,q1⟩
theorem Vj (ha:PE X a ta):PE X (.UnaryOp .Not a pos) (Wn ta):=by
 intro pins s σ H Q I h;refine UnaryOp_ (Bw (ha pins s σ H _ I h) fun v s1 ⟨x,H1,I1,r1,q1⟩=>?_);obtain⟨c,rfl,q1⟩:=q1;cases r1;exact not_of (wpAny_truthy_bool ⟨.bl (!c),H1,I1,rfl,q1⟩)
end
def AR (K:PySem.W.Frag)(H:Hp)(a:Addr)(xs:List V):Prop:=
 Rd H a (.lst xs)\/
  ∃(o:Obj) (AC:Array Value) (n:Nat),K.lookup a=some o/\o.cls=.type "list"/\o.dict=none/\o.data=.seq AC n/\AC.size<=sizeLine/\AN xs AC.toList
def AE (K:PySem.W.Frag)(H:Hp)(a:Addr)(xs:List V):Prop:=
 Rd H a (.tup xs)\/
  ∃(o:Obj) (AC:Array Value) (n:Nat),K.lookup a=some o/\o.cls=.type "tuple"/\o.data=.seq AC n/\AC.size<=sizeLine/\AN xs AC.toList
def W4:Value->Option V
 | .none=>some .non
 | .bool b=>some (.bl b)
 | .int i _=>some (.int i)
 | .str x _=>some (.str x)
 | .bytes b _=>some (.byt b)
 | .float b _=>some (.flt b)
 | .ref a=>some (.ref a)
 | .type n=>some (.ty n)
 |_=>none
theorem RelV.abs {x:V}{u:Value}(r:RelV x u):W4 u=some x:=by
 cases x with
 |non=>cases r;rfl
 |bl _=>cases r;rfl
 |int _=>obtain⟨t,rfl⟩:=r;rfl
 |str _=>obtain⟨t,rfl⟩:=r;rfl
 |byt _=>obtain⟨t,rfl⟩:=r;rfl
 |flt _=>obtain⟨t,rfl⟩:=r;rfl
 |ref _=>cases r;rfl
 |ty _=>cases r;rfl
theorem RelV.inj {x y:V}{u:Value}(r:RelV x u)(q:RelV y u):x=y:=Option.some.inj (r.abs.symm.trans q.abs)
theorem AN.inj:∀{xs ys:List V} {us:List Value},AN xs us->AN ys us->xs=ys
 |_,_,_,.nil,.nil=>rfl
 |_,_,_,.cons r t,.cons r' t'=>by rw[r.inj r',AN.inj t t']
section
variable {X:Cx}{pins:List (Addr×Obj)}{σ:St}{H:Hp}{s:Shared}{a:Addr}{xs ys:List V}
theorem AR.of {K:PySem.W.Frag}(h:H a=some (.lst xs)):AR K H a xs:=.inl (.inl h)
theorem AE.of {K:PySem.W.Frag}(h:H a=some (.tup xs)):AE K H a xs:=.inl (.inl h)
theorem Inv.list (I:Inv X pins σ H s)(h:AR X.K H a xs):∃AC:List Value,AN xs AC/\PlainL s.heap a AC.toArray/\xs.length<=sizeLine:=by
 rcases h with h|⟨o,AC,n,hk,hc,hd,hs,hz,r⟩
 ·obtain⟨z,AC,n,r,e⟩:=h.ok I.hok;exact⟨AC,r,⟨_,n,e,rfl,rfl,rfl⟩,z⟩
 ·refine⟨AC.toList,r,⟨o,n,I.kIn a o hk,hc,hd,by simpa using hs⟩,?_⟩;have e:=r.length;simp only[Array.length_toList] at e;omega
theorem Inv.tuple (I:Inv X pins σ H s)(h:AE X.K H a xs):∃AC:List Value,AN xs AC/\IsTup s.heap a AC.toArray/\xs.length<=sizeLine:=by
 rcases h with h|⟨o,AC,n,hk,hc,hs,hz,r⟩
 ·obtain⟨z,AC,r,p⟩:=h.ok I.hok;exact⟨AC,r,p.is,z⟩
 ·refine⟨AC.toList,r,⟨o,I.kIn a o hk,hc,n,by simpa using hs⟩,?_⟩;have e:=r.length;simp only[Array.length_toList] at e;omega
theorem Inv.list_inj (I:Inv X pins σ H s)(h:AR X.K H a xs)(h':AR X.K H a ys):xs=ys:=by
 obtain⟨AC,r,⟨o,n,e,_,_,d⟩,_⟩:=I.list h;obtain⟨its',r',⟨o',n',e',_,_,d'⟩,_⟩:=I.list h';rw[e] at e';cases e';rw[d] at d';injection d' with d1 _
 have:AC=its':=by simpa using congrArg Array.toList d1
 subst this;exact r.inj r'
theorem Inv.tuple_inj (I:Inv X pins σ H s)(h:AE X.K H a xs)(h':AE X.K H a ys):xs=ys:=by
 obtain⟨AC,r,⟨o,e,_,n,d⟩,_⟩:=I.tuple h;obtain⟨its',r',⟨o',e',_,n',d'⟩,_⟩:=I.tuple h';rw[e] at e';cases e';rw[d] at d';injection d' with d1 _
 have:AC=its':=by simpa using congrArg Array.toList d1
 subst this;exact r.inj r'
end
abbrev Cx.wish (X:Cx)(E:Value->Shared->Prop):Cx:={ X with xe:=E }
abbrev Cx.nox (X:Cx):Cx:=X.wish fun _ _=>False
theorem Cx.Ok.wish {X:Cx}(ok:X.Ok)(E:Value->Shared->Prop):(X.wish E).Ok:=
 ⟨ok.mod,ok.kind,ok.glob,ok.blt,ok.above,ok.inj,ok.has,ok.cab,ok.hd,ok.frames,ok.stk,ok.exf,ok.bs,ok.bsz,ok.noex,ok.exfs,ok.funs,ok.frf⟩
theorem Cx.Ok.unwish {X:Cx}{E:Value->Shared->Prop}(ok:(X.wish E).Ok):X.Ok:=
 ⟨ok.mod,ok.kind,ok.glob,ok.blt,ok.above,ok.inj,ok.has,ok.cab,ok.hd,ok.frames,ok.stk,ok.exf,ok.bs,ok.bsz,ok.noex,ok.exfs,ok.funs,ok.frf⟩
section
variable {X:Cx}{pins:List (Addr×Obj)}{σ:St}{H:Hp}{s:Shared}{E:Value->Shared->Prop}
theorem Inv.wish (I:Inv X pins σ H s)(E:Value->Shared->Prop):Inv (X.wish E) pins σ H s:=⟨I.ok.wish E,I.os,I.bare,I.base,I.loc,I.cell,I.free,I.freeC,I.pin,I.hok,I.len⟩
theorem Inv.unwish (I:Inv (X.wish E) pins σ H s):Inv X pins σ H s:=⟨I.ok.unwish,I.os,I.bare,I.base,I.loc,I.cell,I.free,I.freeC,I.pin,I.hok,I.len⟩
theorem SP.unwish {D:Ends}{f:Flow}{s':Shared}(h:SP (X.wish E) pins D f s'):SP X pins D f s':=by
 cases f with
 |next=>obtain⟨σ',H',I,q⟩:=h;exact⟨σ',H',I.unwish,q⟩
 |brk=>obtain⟨σ',H',I,q⟩:=h;exact⟨σ',H',I.unwish,q⟩
 |cont=>obtain⟨σ',H',I,q⟩:=h;exact⟨σ',H',I.unwish,q⟩
 |ret u=>obtain⟨v,σ',H',I,r,q⟩:=h;exact⟨v,σ',H',I.unwish,r,q⟩
theorem OI.nox {st:List Stmt}{t:TS}(h:OI X.nox st t):OI X st t:=fun pins s σ H D I hw=>
 wpAny_mono (h pins s σ H D (I.wish _) hw) (fun _ _ q=>q.unwish) fun _ _ z=>False.elim z
end
section
variable {X:Cx}{st:Stmt}{rest:List Stmt}{t u:TS}{e:Expr}{te:TE}{pos:Pos}
def Eb:TS:=fun D σ H=>D.nx σ H
def CB (t u:TS):TS:=fun D σ H=>t { D with nx:=u D } σ H
theorem Aw:OI X [] Eb:=fun _ _ σ H _ I h=>wpAny_execs_nil ⟨σ,H,I,h⟩
theorem Ae (h1:PS X st t)(h2:OI X rest u):OI X (st::rest) (CB t u):=by
 intro pins s σ H D I h;refine wpAny_execs_cons (Bw (h1 pins s σ H { D with nx:=u D } I h) fun f s1 q=>?_);cases f with
 |next=>
  obtain⟨σ',H',I',q⟩:=q;exact h2 pins s1 σ' H' D I' q
 |ret v=>exact q
 |brk=>exact q
 |cont=>exact q
theorem Ag (h1:PS X st t):OI X [st] t:=by
 intro pins s σ H D I h;refine wpAny_execs_cons (Bw (h1 pins s σ H D I h) fun f s1 q=>?_);cases f with
 |next=>exact wpAny_execs_nil q
 |ret v=>exact q
 |brk=>exact q
 |cont=>exact q
theorem Inv.quiet {pins:List (Addr×Obj)}{σ:St}{H:Hp}{s:Shared}(I:Inv X pins σ H s):interactive X.env=false:=by simp[interactive,I.ok.kind]
def OU (te:TE):TS:=fun D σ H=>te σ H fun _ H1=>D.nx σ H1
theorem Ec (he:PE X e te)(hs:swapsWith e none pos.line X.env=pure false:=by rfl):PS X (.Expr e pos) (OU te):=by
 intro pins s σ H D I h;exact wpAny_Expr_any (Bw (he pins s σ H _ I h) fun v s1 ⟨x,H1,I1,r1,q1⟩=>⟨σ,H1,I1,q1⟩) I.quiet hs
def Rf (te:TE):TS:=fun D σ H=>te σ H D.rt
theorem Al (he:PE X e te):PS X (.Return (some e) pos) (Rf te):=by
 intro pins s σ H D I h;exact wpAny_Return_some (Bw (he pins s σ H _ I h) fun v s1 ⟨x,H1,I1,r1,q1⟩=>⟨x,σ,H1,I1,r1,q1⟩)
def DE (c:TT)(t u:TS):TS:=fun D σ H=>c σ H fun b H1=>if b=true then t D σ H1 else u D σ H1
theorem AU {c:Expr}{a b:List Stmt}{tc:TT}(hc:PT X c tc)(ha:OI X a t)(hb:OI X b u):PS X (.If c a b pos) (DE tc t u):=by
 intro pins s σ H D I h;refine wpAny_If (Bw (hc pins s σ H _ I h) fun d s1 ⟨H1,I1,q1⟩=>?_);cases d with
 |true=>exact ha pins s1 σ H1 D I1 q1
 |false=>exact hb pins s1 σ H1 D I1 q1
end
abbrev TG:=V->St->Hp->(St->Hp->Prop)->Prop
abbrev T5:=List V->St->Hp->(St->Hp->Prop)->Prop
def PG (X:Cx)(target:Expr)(t:TG):Prop:=
 ∀(pins:List (Addr×Obj)) (s:Shared) (σ:St) (H:Hp) (v:V) (u:Value) (Q:St->Hp->Prop),Inv X pins σ H s->RelV v u->t v σ H Q->
  wpAny (model X.prog X.w) X.A (assign target X.env u) (fun _ s'=>∃σ' H',Inv X pins σ' H' s'/\Q σ' H') X.xe s
def V6 (X:Cx)(ts:List Expr)(t:T5):Prop:=
 ∀(pins:List (Addr×Obj)) (s:Shared) (σ:St) (H:Hp) (vs:List V) (us:List Value) (Q:St->Hp->Prop),Inv X pins σ H s->AN vs us->t vs σ H Q->
  wpAny (model X.prog X.w) X.A (assignInOrder ((assignEach ts X.env).map (·.2)) us) (fun _ s'=>∃σ' H',Inv X pins σ' H' s'/\Q σ' H') X.xe s
section
variable {X:Cx}{pos:Pos}
def A4 (i:Nat):TG:=fun v σ H Q=>Q (σ.set i (some v)) H
theorem An {i:Nat}{x:Str}(hN:X.N.Nodup)(hi:X.N[i]?=some x)(hx:Loc X.env.scope x)(hf:X.fn x=true\/X.env.scope.names.lookup x=some .local:=by first|exact .inl rfl|exact .inr rfl|assumption):PG X (.Name x pos) (A4 i):=by
 intro pins s σ H v u Q I r h;exact wpAny_assign_Name (IP I hN hi hx r (fun s' I'=>⟨_,H,I',h⟩) hf)
def V4:T5:=fun vs σ H Q=>vs=[]/\Q σ H
def Oo (t:TG)(u:T5):T5:=fun vs σ H Q=>∃v r,vs=v::r/\t v σ H fun σ' H'=>u r σ' H' Q
theorem Ho:V6 X [] V4:=by
 intro pins s σ H vs us Q I r h;obtain⟨e,h⟩:=h;subst e;cases r;exact assignInOrder_nil ⟨σ,H,I,h⟩
theorem BF {e:Expr} {es:List Expr} {t:TG} {u:T5} (h1:PG X e t) (h2:V6 X es u)
  (hs:(assignEach (e::es) X.env).map (·.2)=assign e X.env::(assignEach es X.env).map (·.2):=by rfl):V6 X (e::es) (Oo t u):=by
 intro pins s σ H vs us Q I r h;obtain⟨v,vr,e1,h⟩:=h;subst e1;cases r with
 |cons r rr=>
  rw[hs];refine assignInOrder_cons (Bw (h1 pins s σ H _ _ _ I r h) fun _ s1 ⟨σ1,H1,I1,q1⟩=>?_);exact h2 pins s1 σ1 H1 _ _ Q I1 rr q1
def U0 (K:PySem.W.Frag)(n:Nat)(t:T5):TG:=fun v σ H Q=>∃a xs,v=.ref a/\AE K H a xs/\xs.length=n/\t xs σ H Q
theorem NA {es:List Expr} {k:Nat} {t:T5} {n:Nat} (hc:X.calm=true) (h:V6 X es t)
  (hn:(assignEach es X.env).length=n:=by rfl) (hst:(assignEach es X.env).findIdx? (·.1)=none:=by rfl):PG X (.Tuple es k pos) (U0 X.K n t):=by
 intro pins s σ H v u Q I r hw;obtain⟨a,xs,e1,hq,hl,hw⟩:=hw;subst e1;cases r;obtain⟨AC,rv,ht,hz⟩:=I.tuple hq;refine assign_Tuple_tuple (I.ok.hd hc) ht (by simp[hn,<-hl,rv.length]) hst fun h' hx=>?_
 have I1:Inv X pins σ H { s with heap:=h' }:=I.kept (t':=s.toks) fun b o e=>hx b o (Nat.ne_of_lt (Heap.lt_size e)) e
 exact h pins _ σ H xs _ Q I1 (by simpa using rv) hw
def Ml (te:TE)(g:TG):TS:=fun D σ H=>te σ H fun x H1=>g x σ H1 D.nx
theorem A7 {i:Nat}{x:Str}{e:Expr}{te:TE}{pos':Pos}(hN:X.N.Nodup)(hi:X.N[i]?=some x)(hx:Loc X.env.scope x)(he:PE X e te)(hs:swapsWith e (some (.Name x pos')) pos.line X.env=pure false:=by rfl)(hf:X.fn x=true\/X.env.scope.names.lookup x=some .local:=by first|exact .inl rfl|exact .inr rfl|assumption) :
  PS X (.Assign [.Name x pos'] e pos) (Ml te (A4 i)):=by
 intro pins s σ H D I h;refine wpAny_Assign_Name (Bw (he pins s σ H _ I h) fun v s1 ⟨y,H1,I1,r1,q1⟩=>?_) hs;exact IP I1 hN hi hx r1 (fun s2 I2=>⟨_,H1,I2,q1⟩) hf
end
structure It where
 go:Nat->Hp->Prop
 yld:Nat->Hp->V->Hp->Prop
 stop:Nat->Hp->Prop
def Iu (X:Cx)(pins:List (Addr×Obj))(H:Hp)(b:Addr):Prop:=
 H b=none/\b≠X.env.locals/\b∉X.fs/\(b∈X.ex\/X.s₀.heap.objs.size<=b)/\(∀x c,X.env.cells.lookup x=some c->c≠b)/\∀p∈X.pn++pins,p.1≠b
theorem Inv.fpOk {X:Cx}{pins:List (Addr×Obj)}{σ:St}{H H':Hp}{s:Shared}{b:Addr}(I:Inv X pins σ H s)(hb:s.heap.objs.size<=b)(hn:H' b=none):Iu X pins H' b:=by
 refine⟨hn,Nat.ne_of_gt (Nat.lt_of_lt_of_le I.lt hb),I.nofs hb,.inr (Nat.le_trans I.sz hb),fun x c e z=>?_,fun p hp z=>?_⟩
 ·obtain⟨v,q⟩:=I.cell x c e;exact absurd (Nat.lt_of_lt_of_le q.lt (by rw[z];exact hb)) (Nat.lt_irrefl _)
 ·exact absurd (Nat.lt_of_lt_of_le (Heap.lt_size (I.pin p hp).1) (by rw[z];exact hb)) (Nat.lt_irrefl _)
structure Turn (P:Program) (w:World) (K:PySem.W.Frag) (tg:Expr) (J:It) (fp:List Addr) (it:Addr) (tn:Nat->Heap->Prop):Prop where
 mem:it∈fp
 obj:∀i h,tn i h->∀b∈fp,∃o,h.get? b=some o/\∀v,o.data≠.cell v
 keep:∀i h h',tn i h->(∀b∈fp,∀o,h.get? b=some o->h'.get? b=some o)->tn i h'
 item:∀(X:Cx),X.prog=P->X.w=w->X.K=K->X.calm=true->∀(i:Nat) (pins:List (Addr×Obj)) (s:Shared) (σ:St) (H:Hp) (E:Value->Shared->Prop),Inv X pins σ H s->(∀b∈fp,Iu X pins H b)->tn i s.heap->J.go i H->
  wpAny (model P w) X.A (pyNext (.ref it)) (fun r s1=>∃u,r=some u/\
   wpAny (model P w) X.A (letOwnedTupleGo tg (.ref it) u) (fun _ s2=>∃x H',Inv X pins σ H' s2/\RelV x u/\J.yld i H x H'/\tn (i+1) s2.heap/\∀b∈fp,H' b=none) E s1) E s
 done:∀(X:Cx),X.prog=P->X.w=w->X.K=K->X.calm=true->∀(i:Nat) (pins:List (Addr×Obj)) (s:Shared) (σ:St) (H:Hp) (E:Value->Shared->Prop),Inv X pins σ H s->(∀b∈fp,Iu X pins H b)->tn i s.heap->J.stop i H->
  wpAny (model P w) X.A (pyNext (.ref it)) (fun r s1=>r=none/\Inv X pins σ H s1) E s
 self:∀(A:Around) (i:Nat) (s:Shared) (Q:Value->Shared->Prop) (E:Value->Shared->Prop),tn i s.heap->Q (.ref it) s->wpAny (model P w) A (pyIter (.ref it)) Q E s
abbrev TI:=St->Hp->(It->Hp->Prop)->Prop
def Xg (X:Cx)(pins:List (Addr×Obj))(σ:St)(tg:Expr)(R:It->Hp->Prop)(itv:Value)(s2:Shared):Prop:=
 ∃(it:Addr) (fp:List Addr) (tn:Nat->Heap->Prop) (J:It) (H':Hp),itv=.ref it/\Inv X pins σ H' s2/\Turn X.prog X.w X.K tg J fp it tn/\tn 0 s2.heap/\(∀b∈fp,Iu X pins H' b)/\R J H'
def PI (X:Cx)(tg iter:Expr)(wi:TI):Prop:=
 ∀(pins:List (Addr×Obj)) (s:Shared) (σ:St) (H:Hp) (R:It->Hp->Prop),Inv X pins σ H s->wi σ H R->
  wpAny (model X.prog X.w) X.A (eval iter X.env) (fun v s1=>wpAny (model X.prog X.w) X.A (pyIter v) (Xg X pins σ tg R) X.xe s1) X.xe s
theorem JH {M:Model} {A:Around} {E:Value->Shared->Prop} {s:Shared} {tg:Expr} {it:Addr} {u:Value} {o:Obj} {n:String} {vs:Array Value} {Q:Unit->Shared->Prop} (ho:s.heap.get? it=some o) (hc:o.cls=.type n) (hd:o.data=.fields vs)
  (hn:["enumerate","zip","dict_itemiterator","dict_reverseitemiterator","odict_iterator","itertools.zip_longest","itertools.pairwise"].contains n=false) (hQ:Q () s):wpAny M A (letOwnedTupleGo tg (.ref it) u) Q E s:=by
 unfold letOwnedTupleGo;cases tg<;>first
  |exact wpAny_pure hQ
  |(cases u<;>first
    |exact wpAny_pure hQ
    |(refine wpAny_bind (wpAny_load ho ?_)
      rw[hc,hd];show wpAny M A (if(["enumerate","zip","dict_itemiterator","dict_reverseitemiterator","odict_iterator","itertools.zip_longest","itertools.pairwise"].contains n&&vs[0]? == some (rawInt _))=true then _ else _) Q E s;rw[if_neg (by intro h;rw[hn,Bool.false_and] at h;cases h)];exact wpAny_pure hQ))
def UG (K:PySem.W.Frag)(a:Addr):It:=
 ⟨fun i H=>∃xs x,AR K H a xs/\xs[i]?=some x,fun i H x H'=>H'=H/\∀xs,AR K H a xs->xs[i]?=some x,fun i H=>∃xs,AR K H a xs/\xs.length<=i⟩
def UD (K:PySem.W.Frag)(a:Addr):It:=
 ⟨fun i H=>∃xs x,AE K H a xs/\xs[i]?=some x,fun i H x H'=>H'=H/\∀xs,AE K H a xs->xs[i]?=some x,fun i H=>∃xs,AE K H a xs/\xs.length<=i⟩
def Ub (lo:Int)(n:Nat):It:=⟨fun i _=>i<n,fun i H x H'=>H'=H/\x=.int (lo+i),fun i _=>n<=i⟩
theorem Pp {P:Program}{w:World}{K:PySem.W.Frag}{tg:Expr}(a it:Addr):Turn P w K tg (UG K a) [it] it (fun i h=>h.IsListIter it a i) where
 mem:=by simp
 obj:=fun i h st b hb=>by
  have e:b=it:=by simpa using hb
  subst e;obtain⟨o,e,c,d⟩:=st;exact⟨o,e,fun v z=>by rw[d] at z;cases z⟩
 keep:=fun i h h' st k=>st.at fun o e=>k it (by simp) o e
 item:=by
  intro X hP hw hK hc i pins s σ H E I hf st hg;subst hP hw hK;obtain⟨xs,x,hq,hx⟩:=hg;obtain⟨AC,rv,p,hz⟩:=I.list hq;obtain⟨u,hu,ru⟩:=rv.get hx;obtain⟨f0,f1,f2,f3,f4,f5⟩:=hf it (by simp);refine wpAny_pyNext_list_item st p.isList (x:=u) (by simpa using hu) fun h' st' sb=>?_
  have I1:Inv X pins σ H { s with heap:=h' }:=I.turned (t':=s.toks) (fun b o hb e=>(sb.2 b hb).trans e) f0 f1 f3 f4 f5;obtain⟨o,e,c,d⟩:=id st';exact⟨u,rfl,JH (s:={ s with heap:=h' }) e c d (by decide) ⟨x,H,I1,ru,⟨rfl,fun ys hy=>by rw[I.list_inj hy hq];exact hx⟩,st',fun b hb=>(hf b hb).1⟩⟩
 done:=by
  intro X hP hw hK hc i pins s σ H E I hf st hg;subst hP hw hK;obtain⟨xs,hq,hx⟩:=hg;obtain⟨AC,rv,p,hz⟩:=I.list hq;obtain⟨f0,f1,f2,f3,f4,f5⟩:=hf it (by simp);have hl:=rv.length;exact wpAny_pyNext_list_end (I.ok.hd hc) st p.isList (by simp;omega) fun h' eb=>⟨rfl,I.turned (t':=s.toks) (fun b o hb e=>eb b o hb e) f0 f1 f3 f4 f5⟩
 self:=fun _ _ _ _ _ st h=>wpAny_pyIter_listiter st h
theorem Nu {P:Program}{w:World}{K:PySem.W.Frag}{tg:Expr}(a it:Addr):Turn P w K tg (UD K a) [it] it (fun i h=>h.IsTupleIter it a i) where
 mem:=by simp
 obj:=fun i h st b hb=>by
  have e:b=it:=by simpa using hb
  subst e;obtain⟨o,e,c,d⟩:=st;exact⟨o,e,fun v z=>by rw[d] at z;cases z⟩
 keep:=fun i h h' st k=>st.at fun o e=>k it (by simp) o e
 item:=by
  intro X hP hw hK hc i pins s σ H E I hf st hg;subst hP hw hK;obtain⟨xs,x,hq,hx⟩:=hg;obtain⟨AC,rv,p,hz⟩:=I.tuple hq;obtain⟨u,hu,ru⟩:=rv.get hx;obtain⟨f0,f1,f2,f3,f4,f5⟩:=hf it (by simp);refine wpAny_pyNext_tuple_item st (show s.heap.IsTuple a AC.toArray from p) (x:=u) (by simpa using hu) fun h' st' sb=>?_
  have I1:Inv X pins σ H { s with heap:=h' }:=I.turned (t':=s.toks) (fun b o hb e=>(sb.2 b hb).trans e) f0 f1 f3 f4 f5;obtain⟨o,e,c,d⟩:=id st';exact⟨u,rfl,JH (s:={ s with heap:=h' }) e c d (by decide) ⟨x,H,I1,ru,⟨rfl,fun ys hy=>by rw[I.tuple_inj hy hq];exact hx⟩,st',fun b hb=>(hf b hb).1⟩⟩
 done:=by
  intro X hP hw hK hc i pins s σ H E I hf st hg;subst hP hw hK;obtain⟨xs,hq,hx⟩:=hg;obtain⟨AC,rv,p,hz⟩:=I.tuple hq;obtain⟨f0,f1,f2,f3,f4,f5⟩:=hf it (by simp);have hl:=rv.length;exact wpAny_pyNext_tuple_end (I.ok.hd hc) st (show s.heap.IsTuple a AC.toArray from p) (by simp;omega) fun h' eb=>⟨rfl,I.turned (t':=s.toks) (fun b o hb e=>eb b o hb e) f0 f1 f3 f4 f5⟩
 self:=fun _ _ _ _ _ st h=>wpAny_pyIter_tupleiter st h
theorem NT {P:Program}{w:World}{K:PySem.W.Frag}{tg:Expr}(it:Addr)(lo:Int)(n:Nat):Turn P w K tg (Ub lo n) [it] it (fun i h=>IsRangeIter h it (lo+(i:Nat)*1) ((n:Int)-(i:Nat)) 1) where
 mem:=by simp
 obj:=fun i h st b hb=>by
  have e:b=it:=by simpa using hb
  subst e;exact⟨_,st,fun v z=>by
   have z':Data.fields _=Data.cell v:=z;cases z'⟩
 keep:=fun i h h' st k=>k it (by simp) _ st
 item:=by
  intro X hP hw hK hc i pins s σ H E I hf st hg;subst hP hw hK;obtain⟨f0,f1,f2,f3,f4,f5⟩:=hf it (by simp);have W:=Walks.range (prog:=X.prog) (w:=X.w) (I.ok.hd hc) it lo 1 n;refine W.item i s _ _ hg st fun v h' tk hv st' kk=>?_
  obtain⟨t,rfl⟩:=hv;have I1:Inv X pins σ H { s with heap:=h',toks:=tk }:=I.turned (fun b o hb e=>kk b o (by simpa using hb) e) f0 f1 f3 f4 f5;refine⟨_,rfl,JH (s:={ s with heap:=h',toks:=tk }) (n:="range_iterator") st' rfl rfl (by decide) ⟨.int (lo+i),H,I1,⟨t,?_⟩,⟨rfl,rfl⟩,st',fun b hb=>(hf b hb).1⟩⟩;rw[Int.mul_one]
 done:=by
  intro X hP hw hK hc i pins s σ H E I hf st hg;subst hP hw hK;obtain⟨f0,f1,f2,f3,f4,f5⟩:=hf it (by simp);exact wpAny_pyNext_range_end (I.ok.hd hc) st (by have:n<=i:=hg;omega) fun h' eb=>⟨rfl,I.turned (t':=s.toks) (fun b o hb e=>eb b o hb e) f0 f1 f3 f4 f5⟩
 self:=fun _ _ _ _ _ st h=>wpAny_pyIter_rangeiter st h
section
variable {X:Cx}{tg:Expr}
def V5 (K:PySem.W.Frag)(tl:TE):TI:=fun σ H R=>tl σ H fun x H1=>∃a,x=.ref a/\(∃xs,AR K H1 a xs)/\R (UG K a) H1
def WX (K:PySem.W.Frag)(tl:TE):TI:=fun σ H R=>tl σ H fun x H1=>∃a,x=.ref a/\(∃xs,AE K H1 a xs)/\R (UD K a) H1
theorem Bf {l:Expr}{tl:TE}(hl:PE X l tl):PI X tg l (V5 X.K tl):=by
 intro pins s σ H R I h;refine Bw (hl pins s σ H _ I h) fun v s1 ⟨x,H1,I1,r1,q1⟩=>?_
 obtain⟨a,e,⟨xs,hq⟩,q⟩:=q1;subst e;cases r1;obtain⟨AC,rv,p,hz⟩:=I1.list hq;refine wpAny_pyIter_list p.isList ?_;refine⟨s1.heap.objs.size,[s1.heap.objs.size],_,_,H1,rfl,I1.kept (t':=s1.toks) fun b o e=>Heap.get?_push_of_some _ e,Pp a _,⟨_,Heap.get?_push_size _ rfl,rfl,rfl⟩,fun b hb=>?_,q⟩;have e:b=s1.heap.objs.size:=by simpa using hb
 subst e;exact I1.fpOk (Nat.le_refl _) (I1.hok.fresh (Nat.le_refl _))
theorem Bb {l:Expr}{tl:TE}(hl:PE X l tl):PI X tg l (WX X.K tl):=by
 intro pins s σ H R I h;refine Bw (hl pins s σ H _ I h) fun v s1 ⟨x,H1,I1,r1,q1⟩=>?_
 obtain⟨a,e,⟨xs,hq⟩,q⟩:=q1;subst e;cases r1;obtain⟨AC,rv,p,hz⟩:=I1.tuple hq;refine wpAny_pyIter_tuple (show s1.heap.IsTuple a AC.toArray from p) ?_;refine⟨s1.heap.objs.size,[s1.heap.objs.size],_,_,H1,rfl,I1.kept (t':=s1.toks) fun b o e=>Heap.get?_push_of_some _ e,Nu a _,⟨_,Heap.get?_push_size _ rfl,rfl,rfl⟩,fun b hb=>?_,q⟩;have e:b=s1.heap.objs.size:=by simpa using hb
 subst e;exact I1.fpOk (Nat.le_refl _) (I1.hok.fresh (Nat.le_refl _))
theorem RX {pins:List (Addr×Obj)} {σ:St} {H:Hp} {s:Shared} {R:It->Hp->Prop} {E:Value->Shared->Prop} {lo hi:Int} {t u v:Tok} {tk:Nat} (I:Inv X pins σ H s) (h1:-(2^62)<=lo) (h2:lo<2^62) (h3:-(2^62)<=hi) (h4:hi<2^62)
  (q:R (Ub lo (hi-lo).toNat) H):wpAny (model X.prog X.w) X.A (pyIter (.ref s.heap.objs.size)) (Xg X pins σ tg R) E { s with heap:=s.heap.push { cls:=.type "range",data:=.fields #[.int lo t,.int hi u,.int 1 v] },toks:=tk }:=by
 refine wpAny_pyIter_range (IsRange.new ..) (small_one h1 h2 h3 h4) ?_;have I1:Inv X pins σ H { s with heap:=s.heap.push { cls:=.type "range",data:=.fields #[.int lo t,.int hi u,.int 1 v] },toks:=tk }:=I.kept fun b o e=>Heap.get?_push_of_some _ e
 refine⟨(s.heap.push { cls:=.type "range",data:=.fields #[.int lo t,.int hi u,.int 1 v] }).objs.size,[(s.heap.push { cls:=.type "range",data:=.fields #[.int lo t,.int hi u,.int 1 v] }).objs.size],_,_,H,rfl,
  I1.kept (t':=tk) fun b o e=>Heap.get?_push_of_some _ e,NT _ lo (hi-lo).toNat,?_,fun b hb=>?_,q⟩
 ·have e1:lo+((0:Nat):Int)*1=lo:=by simp
  have e2:(((hi-lo).toNat:Nat):Int)-((0:Nat):Int)=Builtin.Range.rangeSize lo hi 1:=by rw[rangeSize_one];split<;>omega
  show IsRangeIter _ _ (lo+((0:Nat):Int)*1) ((((hi-lo).toNat:Nat):Int)-((0:Nat):Int)) 1;rw[e1,e2];exact Heap.get?_push_size _ rfl
 ·have e:b=(s.heap.push { cls:=.type "range",data:=.fields #[.int lo t,.int hi u,.int 1 v] }).objs.size:=by simpa using hb
  subst e;exact I1.fpOk (Nat.le_refl _) (I1.hok.fresh (Nat.le_refl _))
def VJ (ta:TA):TI:=fun σ H R=>ta σ H fun vs H1=>∃j:Int,vs=[.int j]/\-(2^62)<=j/\j<2^62/\R (Ub 0 j.toNat) H1
theorem HP {a:Expr}{ta:TA}{p pos:Pos}(hg:Gl X "range")(hm:X.mg "range"=none)(ha:PA X [a] ta)(hs:starEach [a] X.env=[(false,eval a X.env)]:=by rfl):PI X tg (.Call (.Name "range" p) [a] [] pos) (VJ ta):=by
 intro pins s σ H R I h;refine Call_ (FP I hg hm boot_range (PyProof.Rows.callWith_type1 (Bw (ha pos pins s σ H _ I h) fun us s1 ⟨vs,H1,I1,r1,q1⟩=>?_) hs rfl));obtain⟨j,e,q1,q2,q⟩:=q1;subst e;cases r1 with
 |cons r rr=>
  cases rr;obtain⟨t,rfl⟩:=r;exact call_range_1 (RX I1 (by omega) (by omega) q1 q2 (by simpa using q))
def Vc (wi:TI)(g:TG)(tb:TS):TS:=fun D σ H=>wi σ H fun J H1=>∃W:Nat->Nat->St->Hp->Prop,(∃m,W 0 m σ H1)/\∀i m σ H,W i m σ H->
 (J.stop i H/\D.nx σ H)\/(J.go i H/\∃N:St->Hp->Prop,(∀σ' H',N σ' H'->∃m',m'<m/\W (i+1) m' σ' H')/\∀x H',J.yld i H x H'->g x σ H' fun σ2 H2=>tb { D with nx:=N,ct:=N,bk:=D.nx } σ2 H2)
def JB (fp:List Addr)(h:Heap):List (Addr×Obj):=fp.filterMap fun b=>(h.get? b).map fun o=>(b,o)
theorem EO {fp:List Addr}{h:Heap}{b:Addr}{o:Obj}(hb:b∈fp)(e:h.get? b=some o):(b,o)∈JB fp h:=List.mem_filterMap.mpr ⟨b,hb,by rw[e];rfl⟩
theorem PK {fp:List Addr}{h:Heap}{p:Addr×Obj}(hp:p∈JB fp h):p.1∈fp/\h.get? p.1=some p.2:=by
 obtain⟨b,hb,e⟩:=List.mem_filterMap.mp hp;cases q:h.get? b with
 |none=>rw[q] at e;cases e
 |some o=>
  rw[q] at e;have e':(b,o)=p:=Option.some.inj e;subst e';exact⟨hb,q⟩
theorem Inv.pinned {pins:List (Addr×Obj)}{σ:St}{H:Hp}{s:Shared}{fp:List Addr}(I:Inv X pins σ H s)(hf:∀b∈fp,Iu X pins H b)(ho:∀b∈fp,∃o,s.heap.get? b=some o/\∀v,o.data≠.cell v):Inv X (pins++JB fp s.heap) σ H s:=
 I.pins_of fun p hp=>(List.mem_append.mp hp).elim (fun z=>I.pin p (List.mem_append_right _ z)) fun z=>by
  obtain⟨hb,e⟩:=PK z;obtain⟨f0,f1,f2,_⟩:=hf p.1 hb;obtain⟨o,e',d⟩:=ho p.1 hb;rw[e] at e';cases e';exact⟨e,f0,f1,f2,d⟩
theorem Inv.unpinned {pins pl:List (Addr×Obj)}{σ:St}{H:Hp}{s:Shared}(I:Inv X (pins++pl) σ H s):Inv X pins σ H s:=I.pins_of fun p hp=>I.pin p (List.mem_append_right _ (List.mem_append_left _ hp))
theorem CA {iter:Expr} {body:List Stmt} {wi:TI} {g:TG} {tb:TS} {pos:Pos} (hp:PassesOwn (model X.prog X.w) X.A X.env X.xe) (hc:X.calm=true) (hi:PI X tg iter wi) (hg:PG X tg g) (hb:OI X body tb)
  (hs:∀x,foldedSetIterable iter X.env x=pure x:=by intro _;rfl):PS X (.For tg iter body [] pos) (Vc wi g tb):=by
 intro pins s σ H D I h;refine wpAny_For (Bw (hi pins s σ H _ I h) fun v s1 h1=>Bw h1 fun itv s2 h2=>?_) hs;obtain⟨it,fp,tn,J,H2,e,I2,T,st2,f2,W,⟨m0,w0⟩,turn⟩:=h2;subst e;have stat:∀{H':Hp},(∀b∈fp,H' b=none)->∀b∈fp,Iu X pins H' b:=fun hn b hb=>⟨hn b hb,(f2 b hb).2⟩
 refine codeAny_forLoop_any (fun n s'=>∃i σ' H',Inv X pins σ' H' s'/\tn i s'.heap/\(∀b∈fp,H' b=none)/\W i n σ' H') ?_ m0 ⟨0,σ,H2,I2,st2,fun b hb=>(f2 b hb).1,w0⟩
 rintro n s3 ⟨i,σ3,H3,I3,st3,fr3,w3⟩
 rcases turn i n σ3 H3 w3 with⟨stop,qn⟩|⟨go,N,hN,step⟩
 ·refine wpAny_passesOwn hp (Bw (T.done X rfl rfl rfl hc i pins s3 σ3 H3 X.xe I3 (stat fr3) st3 stop) fun r s4 ⟨hr,I4⟩=>?_);subst hr;exact wpAny_execs_nil ⟨σ3,H3,I4,qn⟩
 ·refine wpAny_passesOwn hp (Bw (T.item X rfl rfl rfl hc i pins s3 σ3 H3 X.xe I3 (stat fr3) st3 go) fun r s4 ⟨u,hr,h4⟩=>?_);subst hr;refine wpAny_passesOwn hp (Bw h4 fun _ s5 ⟨x,H5,I5,r5,y5,st5,fr5⟩=>?_);have I5':=I5.pinned (stat fr5) (T.obj _ _ st5);refine wpAny_passesOwn hp (Bw (hg _ s5 σ3 H5 x u _ I5' r5 (step x H5 y5)) fun _ s6 ⟨σ6,H6,I6,q6⟩=>?_);refine wpAny_passesOwn hp (Bw (hb _ s6 σ6 H6 _ I6 q6) fun f s7 q7=>?_);have again:∀{σ7:St} {H7:Hp},Inv X (pins++JB fp s5.heap) σ7 H7 s7->N σ7 H7->∃m,m<n/\∃i σ' H',Inv X pins σ' H' s7/\tn i s7.heap/\(∀b∈fp,H' b=none)/\W i m σ' H':=fun{σ7 H7} I7 n7=>by
   obtain⟨m',hm,w7⟩:=hN σ7 H7 n7;refine⟨m',hm,i+1,σ7,H7,I7.unpinned,T.keep _ _ _ st5 fun b hb o e=>(I7.pin (b,o) (List.mem_append_right _ (List.mem_append_right _ (EO hb e)))).1,fun b hb=>?_,w7⟩;obtain⟨o,e,d⟩:=T.obj _ _ st5 b hb;exact(I7.pin (b,o) (List.mem_append_right _ (List.mem_append_right _ (EO hb e)))).2.1
  cases f with
  |next=>obtain⟨σ7,H7,I7,n7⟩:=q7;exact again I7 n7
  |cont=>obtain⟨σ7,H7,I7,n7⟩:=q7;exact again I7 n7
  |brk=>obtain⟨σ7,H7,I7,q7⟩:=q7;exact⟨σ7,H7,I7.unpinned,q7⟩
  |ret v=>obtain⟨x7,σ7,H7,I7,r7,q7⟩:=q7;exact⟨x7,σ7,H7,I7.unpinned,r7,q7⟩
end
theorem FJ {K:PySem.W.Frag} {a:Addr} {xs:List V} {g:TG} {tb:TS} {D:Ends} {σ:St} {H:Hp} (Pv:Nat->St->Hp->Prop) (h0:Pv 0 σ H) (hl:∀i σ H,i<=xs.length->Pv i σ H->AR K H a xs)
  (hs:∀i x σ H,xs[i]?=some x->Pv i σ H->g x σ H fun σ2 H2=>tb { D with nx:=Pv (i+1),ct:=Pv (i+1),bk:=D.nx } σ2 H2) (hd:∀σ H,Pv xs.length σ H->D.nx σ H) :
  ∃W:Nat->Nat->St->Hp->Prop,(∃m,W 0 m σ H)/\∀i m σ H,W i m σ H->
   ((UG K a).stop i H/\D.nx σ H)\/((UG K a).go i H/\∃N:St->Hp->Prop,(∀σ' H',N σ' H'->∃m',m'<m/\W (i+1) m' σ' H')/\∀x H',(UG K a).yld i H x H'->g x σ H' fun σ2 H2=>tb { D with nx:=N,ct:=N,bk:=D.nx } σ2 H2):=by
 refine⟨fun i m σ H=>m=xs.length-i/\i<=xs.length/\Pv i σ H,⟨xs.length,by simp,Nat.zero_le _,h0⟩,?_⟩
 rintro i m σ H ⟨rfl,hi,p⟩
 have q:=hl i σ H hi p
 by_cases hlt:i<xs.length
 ·refine .inr ⟨⟨xs,xs[i],q,by simp[hlt]⟩,Pv (i+1),fun σ' H' p'=>⟨xs.length-(i+1),by omega,rfl,hlt,p'⟩,fun x H' y=>?_⟩;obtain⟨e,y⟩:=y;subst e;exact hs i x σ _ (y xs q) p
 ·have e:i=xs.length:=by omega
  subst e;exact .inl ⟨⟨xs,q,Nat.le_refl _⟩,hd σ H p⟩
theorem K4 {K:PySem.W.Frag} {a:Addr} {xs:List V} {g:TG} {tb:TS} {D:Ends} {σ:St} {H:Hp} (Pv:Nat->St->Hp->Prop) (h0:Pv 0 σ H) (hl:∀i σ H,i<=xs.length->Pv i σ H->AE K H a xs)
  (hs:∀i x σ H,xs[i]?=some x->Pv i σ H->g x σ H fun σ2 H2=>tb { D with nx:=Pv (i+1),ct:=Pv (i+1),bk:=D.nx } σ2 H2) (hd:∀σ H,Pv xs.length σ H->D.nx σ H) :
  ∃W:Nat->Nat->St->Hp->Prop,(∃m,W 0 m σ H)/\∀i m σ H,W i m σ H->
   ((UD K a).stop i H/\D.nx σ H)\/((UD K a).go i H/\∃N:St->Hp->Prop,(∀σ' H',N σ' H'->∃m',m'<m/\W (i+1) m' σ' H')/\∀x H',(UD K a).yld i H x H'->g x σ H' fun σ2 H2=>tb { D with nx:=N,ct:=N,bk:=D.nx } σ2 H2):=by
 refine⟨fun i m σ H=>m=xs.length-i/\i<=xs.length/\Pv i σ H,⟨xs.length,by simp,Nat.zero_le _,h0⟩,?_⟩
 rintro i m σ H ⟨rfl,hi,p⟩
 have q:=hl i σ H hi p
 by_cases hlt:i<xs.length
 ·refine .inr ⟨⟨xs,xs[i],q,by simp[hlt]⟩,Pv (i+1),fun σ' H' p'=>⟨xs.length-(i+1),by omega,rfl,hlt,p'⟩,fun x H' y=>?_⟩;obtain⟨e,y⟩:=y;subst e;exact hs i x σ _ (y xs q) p
 ·have e:i=xs.length:=by omega
  subst e;exact .inl ⟨⟨xs,q,Nat.le_refl _⟩,hd σ H p⟩
theorem P7 {lo:Int} {n:Nat} {g:TG} {tb:TS} {D:Ends} {σ:St} {H:Hp} (Pv:Nat->St->Hp->Prop) (h0:Pv 0 σ H)
  (hs:∀i σ H,i<n->Pv i σ H->g (.int (lo+i)) σ H fun σ2 H2=>tb { D with nx:=Pv (i+1),ct:=Pv (i+1),bk:=D.nx } σ2 H2) (hd:∀σ H,Pv n σ H->D.nx σ H) :
  ∃W:Nat->Nat->St->Hp->Prop,(∃m,W 0 m σ H)/\∀i m σ H,W i m σ H->
   ((Ub lo n).stop i H/\D.nx σ H)\/((Ub lo n).go i H/\∃N:St->Hp->Prop,(∀σ' H',N σ' H'->∃m',m'<m/\W (i+1) m' σ' H')/\∀x H',(Ub lo n).yld i H x H'->g x σ H' fun σ2 H2=>tb { D with nx:=N,ct:=N,bk:=D.nx } σ2 H2):=by
 refine⟨fun i m σ H=>m=n-i/\i<=n/\Pv i σ H,⟨n,by simp,Nat.zero_le _,h0⟩,?_⟩
 rintro i m σ H ⟨rfl,hi,p⟩
 by_cases hlt:i<n
 ·refine .inr ⟨hlt,Pv (i+1),fun σ' H' p'=>⟨n-(i+1),by omega,rfl,hlt,p'⟩,fun x H' y=>?_⟩;obtain⟨e,y⟩:=y;subst e y;exact hs i σ _ hlt p
 ·have e:i=n:=by omega
  subst e;exact .inl ⟨Nat.le_refl _,hd σ H p⟩
abbrev R2:=V->V->Hp->VK->Prop
def E1 (X:Cx)(f:Value->Value->Sem Value)(r:R2):Prop:=
 ∀(pins:List (Addr×Obj)) (s:Shared) (σ:St) (H:Hp) (x y:V) (v u:Value) (Q:VK),Inv X pins σ H s->RelV x v->RelV y u->r x y H Q->
  wpAny (model X.prog X.w) X.A (f v u) (EP X pins σ Q) X.xe s
def WD (X:Cx)(f:Value->Sem Value)(r:V->Hp->VK->Prop):Prop:=
 ∀(pins:List (Addr×Obj)) (s:Shared) (σ:St) (H:Hp) (x:V) (v:Value) (Q:VK),Inv X pins σ H s->RelV x v->r x H Q->
  wpAny (model X.prog X.w) X.A (f v) (EP X pins σ Q) X.xe s
def Ct (X:Cx)(f:Value)(r:List V->Hp->VK->Prop):Prop:=
 ∀(pins:List (Addr×Obj)) (s:Shared) (σ:St) (H:Hp) (xs:List V) (us:List Value) (Q:VK),Inv X pins σ H s->AN xs us->r xs H Q->
  wpAny (model X.prog X.w) X.A (call f us) (EP X pins σ Q) X.xe s
def KG (r:R2)(ta tb:TE):TE:=fun σ H Q=>ta σ H fun x H1=>tb σ H1 fun y H2=>r x y H2 Q
def Xb (r:V->Hp->VK->Prop)(ta:TE):TE:=fun σ H Q=>ta σ H fun x H1=>r x H1 Q
def rI (C:Int->Int->Prop)(g:Int->Int->V):R2:=fun x y H Q=>∃i j,x=.int i/\y=.int j/\C i j/\Q (g i j) H
def OC (g:Int->Int->V):R2:=fun x y H Q=>∃i j,x=.int i/\y=.int j/\Q (g i j) H
def rU (g:Int->V):V->Hp->VK->Prop:=fun x H Q=>∃i,x=.int i/\Q (g i) H
section
variable {X:Cx}{a b c:Expr}{ta tb tc:TE}{pos:Pos}
theorem Vw (ha:PE X a ta) (hb:PE X b tb) {pins:List (Addr×Obj)} {s:Shared} {σ:St} {H:Hp} {R:V->V->Hp->Prop} (I:Inv X pins σ H s)
  (h:ta σ H fun x H1=>tb σ H1 fun y H2=>R x y H2) {Q:Value->Shared->Prop} {f:Value->Value->Sem Value}
  (hf:∀v u s2 x y H2,Inv X pins σ H2 s2->RelV x v->RelV y u->R x y H2->wpAny (model X.prog X.w) X.A (f v u) Q X.xe s2) :
  wpAny (model X.prog X.w) X.A (eval a X.env) (fun v s₁=>wpAny (model X.prog X.w) X.A (eval b X.env) (fun u s₂=>wpAny (model X.prog X.w) X.A (f v u) Q X.xe s₂) X.xe s₁) X.xe s:=by
 refine Bw (ha pins s σ H _ I h) fun v s1 ⟨x,H1,I1,r1,q1⟩=>?_
 refine Bw (hb pins s1 σ H1 _ I1 q1) fun u s2 ⟨y,H2,I2,r2,q2⟩=>?_
 exact hf v u s2 x y H2 I2 r1 r2 q2
theorem AK {op:Operator}{r:R2}(ho:E1 X (binaryOp op) r)(ha:PE X a ta)(hb:PE X b tb):PE X (.BinOp a op b pos) (KG r ta tb):=by
 intro pins s σ H Q I h;exact wpAny_BinOp (Vw ha hb I h fun v u s2 x y H2 I2 rx ry q=>ho pins s2 σ H2 x y v u Q I2 rx ry q)
theorem T6 {op:UnaryOp}{r:V->Hp->VK->Prop}(ho:WD X (unaryOp op) r)(ha:PE X a ta):PE X (.UnaryOp op a pos) (Xb r ta):=by
 intro pins s σ H Q I h;exact UnaryOp_ (Bw (ha pins s σ H _ I h) fun v s1 ⟨x,H1,I1,r1,q1⟩=>ho pins s1 σ H1 x v Q I1 r1 q1)
theorem Ww {f:Value->Value->Sem Value} {C:Int->Int->Prop} {g:Int->Int->Int}
  (rule:∀(i j:Int) (t u:Tok) (s:Shared) (Q:Value->Shared->Prop) (E:Value->Shared->Prop),C i j->Q (.int (g i j) s.toks) { s with toks:=s.toks+1 }->wpAny (model X.prog X.w) X.A (f (.int i t) (.int j u)) Q E s) :
  E1 X f (rI C fun i j=>.int (g i j)):=by
 intro pins s σ H x y v u Q I rx ry h;obtain⟨i,j,rfl,rfl,hc,q⟩:=h;obtain⟨t,rfl⟩:=rx;obtain⟨t',rfl⟩:=ry;exact rule i j t t' s _ _ hc ⟨.int (g i j),H,I.tok _,⟨_,rfl⟩,q⟩
theorem U5 {f:Value->Value->Sem Value} {g:Int->Int->Int}
  (rule:∀(i j:Int) (t u:Tok) (s:Shared) (Q:Value->Shared->Prop) (E:Value->Shared->Prop),Q (.int (g i j) s.toks) { s with toks:=s.toks+1 }->wpAny (model X.prog X.w) X.A (f (.int i t) (.int j u)) Q E s) :
  E1 X f (OC fun i j=>.int (g i j)):=by
 intro pins s σ H x y v u Q I rx ry h;obtain⟨i,j,rfl,rfl,q⟩:=h;obtain⟨t,rfl⟩:=rx;obtain⟨t',rfl⟩:=ry;exact rule i j t t' s _ _ ⟨.int (g i j),H,I.tok _,⟨_,rfl⟩,q⟩
theorem Td {f:Value->Value->Sem Value} {g:Int->Int->Bool}
  (rule:∀(i j:Int) (t u:Tok) (s:Shared) (Q:Value->Shared->Prop) (E:Value->Shared->Prop),Q (.bool (g i j)) s->wpAny (model X.prog X.w) X.A (f (.int i t) (.int j u)) Q E s) :
  E1 X f (OC fun i j=>.bl (g i j)):=by
 intro pins s σ H x y v u Q I rx ry h;obtain⟨i,j,rfl,rfl,q⟩:=h;obtain⟨t,rfl⟩:=rx;obtain⟨t',rfl⟩:=ry;exact rule i j t t' s _ _ ⟨.bl (g i j),H,I,rfl,q⟩
def WR (i j:Int):Prop:=0<j/\j<1073741824
def Ul (i j:Int):Prop:=0<=j/\j<=1000000/\i.natAbs<2^64
def Uz (i j:Int):Prop:=(-(2^64)<i/\i<2^64)\/(-(2^64)<j/\j<2^64)
theorem Uz.ok {i j:Int}(h:Uz i j):IntMulOk i j:=by
 rcases h with⟨h1,h2⟩|⟨h1,h2⟩
 ·exact .of_left (intBits_le_64 h1 h2)
 ·exact .of_right (intBits_le_64 h1 h2)
theorem Cq:E1 X (binaryOp .Add) (OC fun i j=>.int (i+j)):=U5 fun _ _ _ _ _ _ _ q=>add_int q
theorem LL:E1 X (binaryOp .Sub) (OC fun i j=>.int (i-j)):=U5 fun _ _ _ _ _ _ _ q=>sub_int q
theorem Fs:E1 X (binaryOp .Mult) (rI Uz fun i j=>.int (i*j)):=Ww fun _ _ _ _ _ _ _ hc q=>mul_int q hc.ok
theorem OZ:E1 X (binaryOp .FloorDiv) (rI WR fun i j=>.int (i/j)):=Ww fun i j _ _ _ _ _ hc q=>by
 have h1:(0:Int)<j:=hc.1;have h2:j<1073741824:=hc.2;exact floordiv_int (by omega) (by rw[Int.fdiv_eq_ediv_of_nonneg i (by omega)];exact q) (.inl (PyProof.noPylong_small (by omega)))
theorem Bz:E1 X (binaryOp .Mod) (rI (fun _ j=>0<j) fun i j=>.int (i%j)):=Ww fun i j _ _ _ _ _ hc q=>by
 have h1:(0:Int)<j:=hc;exact mod_int' (by omega) (by rw[Int.fmod_eq_emod_of_nonneg i (by omega)];exact q)
theorem Lc:E1 X (binaryOp .Pow) (rI Ul fun i j=>.int (i^j.toNat)):=Ww fun _ _ _ _ _ _ _ hc q=>pow_int_small hc.1 hc.2.1 hc.2.2 q
theorem TF:E1 X (inplaceOp .Add) (OC fun i j=>.int (i+j)):=U5 fun _ _ _ _ _ _ _ q=>iadd_int q
theorem Xn {f:Value->Sem Value} {g:Int->Int}
  (rule:∀(i:Int) (t:Tok) (s:Shared) (Q:Value->Shared->Prop) (E:Value->Shared->Prop),Q (.int (g i) s.toks) { s with toks:=s.toks+1 }->wpAny (model X.prog X.w) X.A (f (.int i t)) Q E s) :
  WD X f (rU fun i=>.int (g i)):=by
 intro pins s σ H x v Q I rx h;obtain⟨i,rfl,q⟩:=h;obtain⟨t,rfl⟩:=rx;exact rule i t s _ _ ⟨.int (g i),H,I.tok _,⟨_,rfl⟩,q⟩
theorem Rc:WD X (unaryOp .USub) (rU fun i=>.int (-i)):=Xn fun _ _ _ _ _ q=>neg_int q
end
def VZ:V->V->Bool
 | .non,.non=>true | .non,.int _=>true | .int _,.non=>true | .non,.bl _=>true | .bl _,.non=>true | .non,.str _=>true | .str _,.non=>true
 | .int _,.int _=>true | .bl _,.bl _=>true | .str _,.str _=>true | .byt _,.byt _=>true
 | .int _,.str _=>true | .str _,.int _=>true | .bl _,.str _=>true | .str _,.bl _=>true
 |_,_=>false
def Xm:R2:=fun x y H Q=>VZ x y=true/\Q (.bl (decide (x=y))) H
def Xo:R2:=fun x y H Q=>VZ x y=true/\Q (.bl (!decide (x=y))) H
theorem EW {i j:Int}:decide (V.int i=V.int j)=(i == j):=by
 rw[Bool.eq_iff_iff];simp
theorem QX {i j:Bool}:decide (V.bl i=V.bl j)=(i == j):=by
 rw[Bool.eq_iff_iff];simp
theorem LD {i j:Str}:decide (V.str i=V.str j)=(i == j):=by
 rw[Bool.eq_iff_iff];simp
theorem OT {i j:Array UInt8}:decide (V.byt i=V.byt j)=(i.toList == j.toList):=by
 rw[Bool.eq_iff_iff];cases i;cases j;simp
section
variable {X:Cx}{a b c:Expr}{ta tb tc:TE}{pos:Pos}
theorem A6 {pins:List (Addr×Obj)}{σ:St}{H:Hp}{s:Shared}{Q:VK}{k k':Bool}(I:Inv X pins σ H s)(q:Q (.bl k) H)(e:k=k'):EP X pins σ Q (.bool k') s:=by
 subst e;exact⟨.bl k,H,I,rfl,q⟩
theorem Br:E1 X (compareOp .Eq) Xm:=by
 intro pins s σ H x y v u Q I rx ry h;obtain⟨hs,q⟩:=h;cases x with
 |non=>
  cases rx;cases y with
  |non=>cases ry;exact PySem.EqNone.eq_none_none (A6 I q (by simp))
  |bl j=>cases ry;exact PySem.EqNone.eq_none_bool (A6 I q (by simp))
  |int j=>obtain⟨t',rfl⟩:=ry;exact PySem.EqNone.eq_none_int (A6 I q (by simp))
  |str j=>obtain⟨t',rfl⟩:=ry;exact PySem.EqNone.eq_none_str (A6 I q (by simp))
  |_=>exact absurd (show false=true from hs) Bool.false_ne_true
 |bl i=>
  cases rx;cases y with
  |non=>cases ry;exact PySem.EqNone.eq_bool_none (A6 I q (by simp))
  |bl j=>cases ry;exact eq_bool (A6 I q QX)
  |str j=>obtain⟨t',rfl⟩:=ry;exact PySem.EqMixed.eq_bool_str (A6 I q (by simp))
  |_=>exact absurd (show false=true from hs) Bool.false_ne_true
 |int i=>
  obtain⟨t,rfl⟩:=rx;cases y with
  |non=>cases ry;exact PySem.EqNone.eq_int_none (A6 I q (by simp))
  |int j=>obtain⟨t',rfl⟩:=ry;exact eq_int (A6 I q EW)
  |str j=>obtain⟨t',rfl⟩:=ry;exact PySem.EqMixed.eq_int_str (A6 I q (by simp))
  |_=>exact absurd (show false=true from hs) Bool.false_ne_true
 |str i=>
  obtain⟨t,rfl⟩:=rx;cases y with
  |non=>cases ry;exact PySem.EqNone.eq_str_none (A6 I q (by simp))
  |bl j=>cases ry;exact PySem.EqMixed.eq_str_bool (A6 I q (by simp))
  |int j=>obtain⟨t',rfl⟩:=ry;exact PySem.EqMixed.eq_str_int (A6 I q (by simp))
  |str j=>obtain⟨t',rfl⟩:=ry;exact eq_str (A6 I q LD)
  |_=>exact absurd (show false=true from hs) Bool.false_ne_true
 |byt i=>
  obtain⟨t,rfl⟩:=rx;cases y with
  |byt j=>obtain⟨t',rfl⟩:=ry;exact PySem.W.eq_bytes (A6 I q OT)
  |_=>exact absurd (show false=true from hs) Bool.false_ne_true
 |_=>cases y<;>exact absurd (show false=true from hs) Bool.false_ne_true
theorem MK:E1 X (compareOp .NotEq) Xo:=by
 intro pins s σ H x y v u Q I rx ry h;obtain⟨hs,q⟩:=h;cases x with
 |non=>
  cases rx;cases y with
  |non=>cases ry;exact PySem.EqNone.ne_none_none (A6 I q (by simp))
  |bl j=>cases ry;exact PySem.EqNone.ne_none_bool (A6 I q (by simp))
  |int j=>obtain⟨t',rfl⟩:=ry;exact PySem.EqNone.ne_none_int (A6 I q (by simp))
  |str j=>obtain⟨t',rfl⟩:=ry;exact PySem.EqNone.ne_none_str (A6 I q (by simp))
  |_=>exact absurd (show false=true from hs) Bool.false_ne_true
 |bl i=>
  cases rx;cases y with
  |non=>cases ry;exact PySem.EqNone.ne_bool_none (A6 I q (by simp))
  |bl j=>cases ry;exact ne_bool (A6 I q (congrArg not QX))
  |str j=>obtain⟨t',rfl⟩:=ry;exact PySem.EqMixed.ne_bool_str (A6 I q (by simp))
  |_=>exact absurd (show false=true from hs) Bool.false_ne_true
 |int i=>
  obtain⟨t,rfl⟩:=rx;cases y with
  |non=>cases ry;exact PySem.EqNone.ne_int_none (A6 I q (by simp))
  |int j=>obtain⟨t',rfl⟩:=ry;exact ne_int (A6 I q (congrArg not EW))
  |str j=>obtain⟨t',rfl⟩:=ry;exact PySem.EqMixed.ne_int_str (A6 I q (by simp))
  |_=>exact absurd (show false=true from hs) Bool.false_ne_true
 |str i=>
  obtain⟨t,rfl⟩:=rx;cases y with
  |non=>cases ry;exact PySem.EqNone.ne_str_none (A6 I q (by simp))
  |bl j=>cases ry;exact PySem.EqMixed.ne_str_bool (A6 I q (by simp))
  |int j=>obtain⟨t',rfl⟩:=ry;exact PySem.EqMixed.ne_str_int (A6 I q (by simp))
  |str j=>obtain⟨t',rfl⟩:=ry;exact ne_str (A6 I q (congrArg not LD))
  |_=>exact absurd (show false=true from hs) Bool.false_ne_true
 |byt i=>
  obtain⟨t,rfl⟩:=rx;cases y with
  |byt j=>obtain⟨t',rfl⟩:=ry;exact PySem.W.ne_bytes (A6 I q (congrArg not OT))
  |_=>exact absurd (show false=true from hs) Bool.false_ne_true
 |_=>cases y<;>exact absurd (show false=true from hs) Bool.false_ne_true
theorem Qy:E1 X (compareOp .Lt) (OC fun i j=>.bl (decide (i<j))):=Td fun _ _ _ _ _ _ _ q=>lt_int q
theorem IY:E1 X (compareOp .LtE) (OC fun i j=>.bl (decide (i<=j))):=Td fun _ _ _ _ _ _ _ q=>le_int q
theorem KD:E1 X (compareOp .Gt) (OC fun i j=>.bl (decide (j<i))):=Td fun _ _ _ _ _ _ _ q=>gt_int q
theorem Wj:E1 X (compareOp .GtE) (OC fun i j=>.bl (decide (j<=i))):=Td fun _ _ _ _ _ _ _ q=>ge_int q
theorem KW:E1 X (compareOp .In) (fun x y H Q=>∃i j,x=.str i/\y=.str j/\Q (.bl (!(Builtin.Str.occurrences j i 0 j.length 1).isEmpty)) H):=by
 intro pins s σ H x y v u Q I rx ry h;obtain⟨i,j,rfl,rfl,q⟩:=h;obtain⟨t,rfl⟩:=rx;obtain⟨t',rfl⟩:=ry;exact in_str (A6 I q rfl)
theorem AF (b:Expr){op:CmpOp}(h:op≠.In:=by decide)(h2:op≠.NotIn:=by decide):behindInMarks op b=false:=by
 have e1:(op == CmpOp.In)=false:=by cases op<;>first|rfl|exact absurd rfl h
 have e2:(op == CmpOp.NotIn)=false:=by cases op<;>first|rfl|exact absurd rfl h2
 cases b<;>simp[behindInMarks,e1,e2]
theorem A5 {op:CmpOp}{r:R2}(ho:E1 X (compareOp op) r)(ha:PE X a ta)(hb:PE X b tb)(hm:behindInMarks op b=false):PE X (.Compare a [op] [b] pos) (KG r ta tb):=by
 intro pins s σ H Q I h;exact wpAny_Compare1 (Vw ha hb I h fun v u s2 x y H2 I2 rx ry q=>ho pins s2 σ H2 x y v u Q I2 rx ry q) hm
def Sh (t:TE):TT:=fun σ H Q=>t σ H fun x H'=>∃k,x=.bl k/\Q k H'
theorem AO {op:CmpOp}{r:R2}(ho:E1 X (compareOp op) r)(ha:PE X a ta)(hb:PE X b tb)(hm:behindInMarks op b=false):PT X (.Compare a [op] [b] pos) (Sh (KG r ta tb)):=by
 intro pins s σ H Q I h;refine wpAny_isTrue_Compare1 (Bw (ha pins s σ H _ I h) fun v s1 ⟨x,H1,I1,r1,q1⟩=>Bw (hb pins s1 σ H1 _ I1 q1) fun u s2 ⟨y,H2,I2,r2,q2⟩=>
  Bw (ho pins s2 σ H2 x y v u _ I2 r1 r2 q2) fun c s3 ⟨z,H3,I3,r3,k,e,q3⟩=>?_) hm
 subst e;cases r3;exact wpAny_truthy_bool ⟨H3,I3,q3⟩
def QF (r r':R2)(ta tb tc:TE):TE:=fun σ H Q=>ta σ H fun x H1=>tb σ H1 fun y H2=>r x y H2 fun z H3=>∃k,z=.bl k/\
 (if k=true then tc σ H3 fun w' H4=>r' y w' H4 Q else Q (.bl false) H3)
theorem Qg {op op':CmpOp} {r r':R2} (ho:E1 X (compareOp op) r) (ho':E1 X (compareOp op') r') (ha:PE X a ta) (hb:PE X b tb) (hc:PE X c tc)
  (hm:lastMarks [op,op'] [b,c]=false:=by with_unfolding_all rfl):PE X (.Compare a [op,op'] [b,c] pos) (QF r r' ta tb tc):=by
 intro pins s σ H Q I h;refine Compare_chain (Bw (ha pins s σ H _ I h) fun v s1 ⟨x,H1,I1,r1,q1⟩=>chain_link (Bw (hb pins s1 σ H1 _ I1 q1) fun u s2 ⟨y,H2,I2,r2,q2⟩=>
  Bw (ho pins s2 σ H2 x y v u _ I2 r1 r2 q2) fun d s3 ⟨z,H3,I3,r3,k,e,q3⟩=>?_)) hm
 subst e;cases r3;refine wpAny_truthy_bool ?_;cases k with
 |false=>exact ite_ff ⟨.bl false,H3,I3,rfl,q3⟩
 |true=>exact ite_tt (chain_last (Bw (hc pins s3 σ H3 _ I3 q3) fun w' s4 ⟨z',H4,I4,r4,q4⟩=>ho' pins s4 σ H4 y z' u w' Q I4 r2 r4 q4))
theorem IU {op op':CmpOp} {r r':R2} (ho:E1 X (compareOp op) r) (ho':E1 X (compareOp op') r') (ha:PE X a ta) (hb:PE X b tb) (hc:PE X c tc)
  (hm:lastMarks [op,op'] [b,c]=false:=by with_unfolding_all rfl):PT X (.Compare a [op,op'] [b,c] pos) (Sh (QF r r' ta tb tc)):=by
 intro pins s σ H Q I h;refine isTrue_chain (Bw (ha pins s σ H _ I h) fun v s1 ⟨x,H1,I1,r1,q1⟩=>test_link (Bw (hb pins s1 σ H1 _ I1 q1) fun u s2 ⟨y,H2,I2,r2,q2⟩=>
  Bw (ho pins s2 σ H2 x y v u _ I2 r1 r2 q2) fun d s3 ⟨z,H3,I3,r3,k,e,q3⟩=>?_)) hm
 subst e;cases r3;refine wpAny_truthy_bool ?_;cases k with
 |false=>
  obtain⟨k',e',q'⟩:=q3;cases e';exact ite_ff ⟨H3,I3,q'⟩
 |true=>
  refine ite_tt (test_last (Bw (hc pins s3 σ H3 _ I3 q3) fun w' s4 ⟨z',H4,I4,r4,q4⟩=>Bw (ho' pins s4 σ H4 y z' u w' _ I4 r2 r4 q4) fun d' s5 ⟨z2,H5,I5,r5,k2,e2,q5⟩=>?_));subst e2;cases r5;exact wpAny_truthy_bool ⟨H5,I5,q5⟩
theorem Ln:(sizeLine:Nat)<2^63:=by rw[sizeLine_eq];decide
theorem vals1 {x:V}{us:List Value}(r:AN [x] us):∃u,us=[u]/\RelV x u:=by
 cases r with
 |cons r1 r2=>cases r2;exact⟨_,rfl,r1⟩
theorem vals2 {x y:V}{us:List Value}(r:AN [x,y] us):∃u w',us=[u,w']/\RelV x u/\RelV y w':=by
 cases r with
 |cons r1 r2=>
  cases r2 with
  |cons r3 r4=>cases r4;exact⟨_,_,rfl,r1,r3⟩
end
structure ObjM (h:Heap) (x dx C:Addr) (mA:Str->Option Value):Prop where
 obj:h.get? x=some (PySem.W.instObj C dx)
 ns:h.Ns1 dx mA
 ne:dx≠x
theorem PF {h:Heap}{dx:Addr}{mA:Str->Option Value}(n:h.Ns1 dx mA):∃od,h.get? dx=some od/\∀name,PySem.W.lookIn name od=some (mA name):=by
 obtain⟨o,es,ep,ho,hd,hk,_,hm⟩:=n;refine⟨o,ho,fun name=>?_⟩;have e:=hm name;unfold nsFind findBy at e;rw[<-Array.find?_toList] at e;unfold PySem.W.lookIn;rw[hd];dsimp only
 split
 ·rename_i y q
  rw[q] at e;exact congrArg some e
 ·rename_i q
  rw[q] at e;have a:es.toList.any (·.refKey)=false:=by
   rw[List.any_eq_false];intro y hy;obtain⟨z,t,hkey⟩:=hk y (Array.mem_toList_iff.mp hy);simp[DictEntry.refKey,hkey]
  have a':¬es.toList.any (·.refKey)=true:=by rw[a];exact Bool.false_ne_true
  rw[if_neg a'];exact congrArg some e
theorem ObjM.look {h:Heap}{x dx C:Addr}{mA:Str->Option Value}(I:ObjM h x dx C mA):∃od,PySem.W.InstAt h x (PySem.W.instObj C dx) C (some od)/\∀name,PySem.W.lookIn name od=some (mA name):=
 let⟨od,ho,hl⟩:=PF I.ns
 ⟨od,⟨I.obj,rfl,rfl,ho⟩,hl⟩
theorem Hv.some_of {v:V}{o:Option Value}(r:Hv (some v) o):∃u,o=some u/\RelV v u:=by
 cases o with
 |none=>exact(show False from r).elim
 |some u=>exact⟨u,rfl,r⟩
section
variable {P:Program}{w:World}{H H':Hp}{h h':Heap}{a C dx:Addr}{fs fs':List (Str×V)}
theorem Tp (hok:Gg P w H h)(e:H a=some (.ins C dx fs)):∃mA,ObjM h a dx C mA/\(∀f,Hv (fs.lookup f) (mA f))/\PySem.Within mA (fs.map (·.1))/\fs.length<=1000/\H dx=some (.own a):=by
 obtain⟨d,z,ne,ob,mA,n,r,q⟩:=(show AX P w H h a (.ins C dx fs) from hok a _ e)
 exact⟨mA,⟨ob,n,ne⟩,r,q,z,d⟩
end
structure Cls (K:PySem.W.Frag) (C:Addr):Prop where
 pg:PySem.W.plainGet K C Str.empty=true
 hd:PySem.W.hasDictIn K C=true
 po:PySem.W.plainOver K C=true
 sa:PySem.W.findIn K (.ref C) "__setattr__"=some (some (.builtin "object.__setattr__"))
theorem Cls.get {K:PySem.W.Frag}{C:Addr}(c:Cls K C)(f:Str):PySem.W.plainGet K C f=true:=c.pg
structure Con (K:PySem.W.Frag) (C:Addr) (f:Str) (v:V) (u:Value):Prop where
 at_:PySem.W.findIn K (.ref C) f=some (some u)
 rel:RelV v u
 get:PySem.W.specialIn K u "__get__"=some none
 cp:PySem.W.copiedNames.contains f=false
structure Meth (K:PySem.W.Frag) (C:Addr) (m:Str) (f:Addr):Prop where
 at_:PySem.W.findIn K (.ref C) m=some (some (.ref f))
 fn:PySem.W.isFn K (.ref f)=true
 kp:PySem.W.keepIn K (.ref f)=true
section
variable {X:Cx}{pins:List (Addr×Obj)}{σ:St}{H:Hp}{s:Shared}{a C dx:Addr}{fs:List (Str×V)}{f:Str}{v:V}{A:Around}{E:Value->Shared->Prop}
theorem Inv.made (I:Inv X pins σ H s):Inv X pins σ (upd (upd H s.heap.objs.size (.own (s.heap.objs.size+1))) (s.heap.objs.size+1) (.ins C s.heap.objs.size []))
  { s with heap:=(s.heap.push PySem.W.emptyDict).push (PySem.W.instObj C s.heap.objs.size) }:=by
 have e1:(s.heap.push PySem.W.emptyDict).get? s.heap.objs.size=some PySem.W.emptyDict:=Heap.get?_push_size s.heap rfl;have e2:((s.heap.push PySem.W.emptyDict).push (PySem.W.instObj C s.heap.objs.size)).get? (s.heap.objs.size+1)=some (PySem.W.instObj C s.heap.objs.size):=by
  have:=Heap.get?_push_size (s.heap.push PySem.W.emptyDict) (o:=PySem.W.instObj C s.heap.objs.size) rfl
  rwa [Heap.size_push] at this
 have e3:(s.heap.push PySem.W.emptyDict).Ns s.heap.objs.size (fun _=>none):=⟨PySem.W.emptyDict,#[],_,e1,rfl,(fun e he=>absurd he (by simp)),fun _=>rfl⟩
 have I1:=I.laid (a:=s.heap.objs.size) (o:=.own (s.heap.objs.size+1)) (h':=s.heap.push PySem.W.emptyDict) (t':=s.toks) (fun b u q=>Heap.get?_push_of_some _ q) (Nat.le_refl _) ⟨_,e1⟩;refine I1.laid (a:=s.heap.objs.size+1) (o:=.ins C s.heap.objs.size []) (t':=s.toks) (fun b u q=>Heap.get?_push_of_some _ q) (Nat.le_of_eq (Heap.size_push _ _)) ?_;have ne:s.heap.objs.size≠s.heap.objs.size+1:=Nat.ne_of_lt (Nat.lt_succ_self _);refine⟨by rw[Aj ne,Ad],Nat.zero_le _,ne,e2,fun _=>none,(Heap.Ns1.of_empty e3).at fun o q=>Heap.get?_push_of_some _ q,fun _=>True.intro,fun y hy=>absurd rfl hy⟩
end
def WS (X:Cx)(op:Operator)(rd:V->V->Hp->VK->Prop):Prop:=
 ∀(pins:List (Addr×Obj)) (s:Shared) (σ:St) (H:Hp) (x y:V) (u v:Value) (Q:VK),Inv X pins σ H s->RelV x u->RelV y v->rd x y H Q->wpAny (model X.prog X.w) X.A (inplaceOp op u v) (EP X pins σ Q) X.xe s
section
variable {X:Cx}{pins:List (Addr×Obj)}{σ:St}{H:Hp}{s:Shared}{A:Around}{E:Value->Shared->Prop}{Q:Value->Shared->Prop}{c:Value}{b:Bool}
inductive TyOf (K:PySem.W.Frag) (H:Hp):V->Value->Prop where
 |non:TyOf K H .non (.type "NoneType")
 |bl (x:Bool):TyOf K H (.bl x) (.type "bool")
 |int (i:Int):TyOf K H (.int i) (.type "int")
 |str (x:Str):TyOf K H (.str x) (.type "str")
 |flt (x:UInt64):TyOf K H (.flt x) (.type "float")
 |lst {a:Addr} {xs:List V} (e:H a=some (.lst xs)):TyOf K H (.ref a) (.type "list")
 |frz {a:Addr} {o:Obj} {xs:List V} (e:H a=some (.frz o (.lst xs))):TyOf K H (.ref a) (.type "list")
 |tup {a:Addr} {xs:List V} (e:H a=some (.tup xs)):TyOf K H (.ref a) (.type "tuple")
 |dK {a:Addr} {kvs:List (Key×V)} (e:H a=some (.dK kvs)):TyOf K H (.ref a) (.type "dict")
 |dT {a:Addr} {kvs:List (List Key×V)} (e:H a=some (.dT kvs)):TyOf K H (.ref a) (.type "dict")
 |ins {a C dx:Addr} {fs:List (Str×V)} (e:H a=some (.ins C dx fs)) (cl:Cls K C) (ha:PySem.W.findIn K (.ref C) "__class__"=some (some (.builtin "object.__class__")))
   (hn:PySem.W.specialIn K (.builtin "object.__class__") "__get__"=some (some (.builtin "getset_descriptor.__get__"))) (htk:PySem.W.takesIn K (.builtin "object.__class__")=some true)
   (hm:PySem.W.mroIn K C (.type "object")=some true):TyOf K H (.ref a) (.ref C)
theorem Py {x:V}{u t:Value}(I:Inv X pins σ H s)(rx:RelV x u)(ty:TyOf X.K H x t)(e:PySem.W.kitOne X.K t c=some b)(h:∀tk,Q (.bool b) { s with toks:=tk }) :
  wpAny (model X.prog X.w) A (call (.builtin "isinstance") [u,c]) Q E s:=by
 cases ty with
 |non=>cases(show u=Value.none from rx);exact PySem.W.kia_one PySem.W.kitx_none I.kIn True.intro e (fun z=>nomatch z) h
 |bl y=>cases(show u=Value.bool y from rx);exact PySem.W.kia_one PySem.W.kitx_bool I.kIn True.intro e (fun z=>nomatch z) h
 |int i=>obtain⟨t,q⟩:=(show ∃t,u=Value.int i t from rx);cases q;exact PySem.W.kia_one PySem.W.kitx_int I.kIn True.intro e (fun z=>nomatch z) h
 |str y=>obtain⟨t,q⟩:=(show ∃t,u=Value.str y t from rx);cases q;exact PySem.W.kia_one PySem.W.kitx_str I.kIn True.intro e (fun z=>nomatch z) h
 |flt y=>obtain⟨t,q⟩:=(show ∃t,u=Value.float y t from rx);cases q;exact PySem.W.kia_one PySem.W.kitx_float I.kIn True.intro e (fun z=>nomatch z) h
 |@lst a xs ea=>
  cases(show u=Value.ref a from rx);obtain⟨_,_,n,_,h1⟩:=(show AX X.prog X.w H s.heap a (.lst xs) from I.hok a _ ea)
  exact PySem.W.kia_one PySem.W.kitx_list I.kIn ⟨_,h1,rfl⟩ e (fun z=>nomatch z) h
 |@frz a ob xs ea=>
  cases(show u=Value.ref a from rx);obtain⟨_,_,_,n,_,h1⟩:=(show AX X.prog X.w H s.heap a (.frz ob (.lst xs)) from I.hok a _ ea)
  exact PySem.W.kia_one PySem.W.kitx_list I.kIn ⟨_,h1,rfl⟩ e (fun z=>nomatch z) h
 |@tup a xs ea=>
  cases(show u=Value.ref a from rx);obtain⟨_,_,_,p⟩:=(show AX X.prog X.w H s.heap a (.tup xs) from I.hok a _ ea)
  obtain⟨o,h1,h2,_⟩:=p;exact PySem.W.kia_one PySem.W.kitx_tuple I.kIn ⟨o,h1,h2⟩ e (fun z=>nomatch z) h
 |@dK a kvs ea=>
  cases(show u=Value.ref a from rx);obtain⟨_,_,vs,_,p⟩:=(show AX X.prog X.w H s.heap a (.dK kvs) from I.hok a _ ea)
  obtain⟨o,es,ep,h1,h2,_⟩:=p;exact PySem.W.kia_one PySem.W.kitx_dict I.kIn ⟨o,h1,h2.1⟩ e (fun z=>nomatch z) h
 |@dT a kvs ea=>
  cases(show u=Value.ref a from rx);obtain⟨_,_,xs,_,o,es,ep,h1,h2,_⟩:=(show AX X.prog X.w H s.heap a (.dT kvs) from I.hok a _ ea)
  exact PySem.W.kia_one PySem.W.kitx_dict I.kIn ⟨o,h1,h2.1⟩ e (fun z=>nomatch z) h
 |@ins a C dx fs ea cl ha hn htk hm=>
  cases(show u=Value.ref a from rx);obtain⟨mA,O,_⟩:=Tp I.hok ea;obtain⟨od,J,_⟩:=O.look;exact PySem.W.kia_one (PySem.W.kitx_own (cl.get _) cl.hd ha hn htk hm) I.kIn J e (fun z=>nomatch z) h
end
structure Room (k:Nat) (A:Around):Prop where
 hd:A.handled=none
 dp:A.depth+3*k+5<recursionLimit
 un:A.units+16*k+200<cLine
theorem Room.mono {j k:Nat}{A:Around}(r:Room k A)(h:j<=k):Room j A:=⟨r.hd,by have:=r.dp;omega,by have:=r.un;omega⟩
theorem Room.deeper {k:Nat}{A:Around}(r:Room (k+1) A)(env:Env):Room k (A.deeper env):=
 ⟨r.hd,by have:=r.dp;show A.depth+1+3*k+5<_;omega,by have:=r.un;show A.units+3+16*k+200<_;omega⟩
theorem Room.in1 {k:Nat}{A:Around}(r:Room (k+1) A):Room k A.in1:=
 ⟨r.hd,by have:=r.dp;show A.depth+3*k+5<_;omega,by have:=r.un;show A.units+1+16*k+200<_;omega⟩
theorem Room.depth {k:Nat}{A:Around}(r:Room k A):A.depth<recursionLimit:=by have:=r.dp;omega
theorem Room.units {k:Nat}{A:Around}(r:Room k A):A.units+64<cLine:=by have:=r.un;omega
def PP:TA:=fun _ H Q=>Q [] H
def KY (ta:TE)(tr:TA):TA:=fun σ H Q=>ta σ H fun x H1=>tr σ H1 fun xs H2=>Q (x::xs) H2
section
variable {X:Cx}{e:Expr}{es:List Expr}{te:TE}{t:TA}{pos:Pos}
theorem Ab:PA X [] PP:=fun _ _ _ _ H Q I h=>Calls.spliced_nil ⟨[],H,I,.nil,h⟩
theorem Aa (ha:PE X e te)(hr:PA X es t)(hs:starEach (e::es) X.env=(false,eval e X.env)::starEach es X.env:=by rfl):PA X (e::es) (KY te t):=by
 intro pos pins s σ H Q I h;rw[hs];show wpAny _ _ (spliced ((false,eval e X.env)::backTo pos (starEach es X.env))) _ _ s;refine Calls.spliced_cons (Bw (ha pins s σ H _ I h) fun u s1 ⟨x,H1,I1,r1,q1⟩=>?_);exact Bw (hr pos pins s1 σ H1 _ I1 q1) fun us s2 ⟨xs,H2,I2,r2,q2⟩=>⟨x::xs,H2,I2,.cons r1 r2,q2⟩
def Wf (t:TA):TE:=fun σ H Q=>t σ H fun xs H1=>xs.length<=sizeLine/\∀p,H1 p=none->Q (.ref p) (upd H1 p (.tup xs))
def Vf (t:TA):TE:=fun σ H Q=>t σ H fun xs H1=>xs.length<=sizeLine/\∀p,H1 p=none->Q (.ref p) (upd H1 p (.lst xs))
theorem Av {x1}(h:PA X es t):PE X (.Tuple es x1 pos) (Wf t):=by
 intro pins s σ H Q I hq;refine wpAny_Tuple_spliced (Bw (h pos pins s σ H _ I hq) fun us s1 ⟨xs,H1,I1,r,z,q⟩=>⟨by rw[<-r.length];exact z,?_⟩);have hf:H1 s1.heap.objs.size=none:=I1.hok.fresh (Nat.le_refl _);refine⟨.ref s1.heap.objs.size,upd H1 s1.heap.objs.size (.tup xs),I1.laid (t':=s1.toks) (fun b u e=>Heap.get?_push_of_some _ e) (Nat.le_refl _) ?_,rfl,q _ hf⟩;exact⟨z,us,r,⟨_,Heap.get?_push_size _ rfl,rfl,_,rfl,fun _=>rfl⟩⟩
theorem C0 (h:PA X es t):PE X (.List es pos) (Vf t):=by
 intro pins s σ H Q I hq;refine wpAny_List_spliced (Bw (h pos pins s σ H _ I hq) fun us s1 ⟨xs,H1,I1,r,z,q⟩=>⟨by rw[<-r.length];exact z,?_⟩);have hf:H1 s1.heap.objs.size=none:=I1.hok.fresh (Nat.le_refl _);refine⟨.ref s1.heap.objs.size,upd H1 s1.heap.objs.size (.lst xs),I1.laid (t':=s1.toks) (fun b u e=>Heap.get?_push_of_some _ e) (Nat.le_refl _) ?_,rfl,q _ hf⟩;exact⟨z,us,0,r,Heap.get?_push_size _ rfl⟩
end
abbrev Sp:=List V->Hp->VK->XK->Prop
abbrev Qb:=List Env->Hp->Shared->XK->Value->Shared->Prop
structure Env0 (P:Program) (w:World) (K:PySem.W.Frag) (mg:Str->Option Value) (base:Heap) (A:Around) (outer:List Env) (s:Shared) (H:Hp):Prop where
 frames:A.frames=some outer
 mod:Mod K mg base
 bs:∀b o,base.get? b=some o->s.heap.get? b=some o/\H b=none
 bsz:base.objs.size<=s.heap.objs.size
 funs:s.heap.FunFrames base outer
 frf:∀b∈NV outer,H b=none
 hok:Gg P w H s.heap
 bare:AllBare s.gens
def CE (outer:List Env)(P:Program)(w:World)(H:Hp)(s:Shared)(Q:VK)(u:Value)(s':Shared):Prop:=
 ∃v H',s'.os=s.os/\AllBare s'.gens/\Un (NV outer) [] H H' s.heap s'.heap/\Gg P w H' s'.heap/\RelV v u/\Q v H'
def CR (CX:Qb)(outer:List Env)(P:Program)(w:World)(H:Hp)(s:Shared)(Q:VK)(E:XK)(r:Result)(s':Shared):Prop:=
 match r with
 | .ok (.ret u)=>CE outer P w H s Q u s'
 | .ok _=>False
 | .error e=>CX outer H s E e s'
structure FnOk (P:Program) (w:World) (K:PySem.W.Frag) (mg:Str->Option Value) (base:Heap) (CX:Qb) (k:Nat) (f:Addr) (fd:FuncData) (ps:List Str) (sp:Sp):Prop where
 len:∀vs H Q E,sp vs H Q E->vs.length=ps.length
 run:∀(A:Around) (outer:List Env) (s:Shared) (H:Hp) (args:Args) (us:List Value) (vs:List V) (Q:VK) (E:XK),Room k A->Env0 P w K mg base A outer s H->BindsTo s fd args (ps.zip us)->AN vs us->sp vs H Q E->
  codeAny (model P w) A (.call (.ref f) args) (CR CX outer P w H s Q E) s
theorem FnOk.imp {P:Program} {w:World} {K:PySem.W.Frag} {mg:Str->Option Value} {base:Heap} {CX:Qb} {k:Nat} {f:Addr} {fd:FuncData} {ps:List Str} {sp sp':Sp} (F:FnOk P w K mg base CX k f fd ps sp)
  (h:∀vs H Q E,sp' vs H Q E->sp vs H Q E):FnOk P w K mg base CX k f fd ps sp':=
 ⟨fun vs H Q E q=>F.len vs H Q E (h _ _ _ _ q),fun A outer s H args us vs Q E hr he hb hv hs=>F.run A outer s H args us vs Q E hr he hb hv (h _ _ _ _ hs)⟩
theorem Env0.in1 {P:Program}{w:World}{K:PySem.W.Frag}{mg:Str->Option Value}{base:Heap}{A:Around}{outer:List Env}{s:Shared}{H:Hp}(e:Env0 P w K mg base A outer s H) :
  Env0 P w K mg base A.in1 outer s H:=⟨e.frames,e.mod,e.bs,e.bsz,e.funs,e.frf,e.hok,e.bare⟩
section
variable {X:Cx}{pins:List (Addr×Obj)}{σ:St}{H:Hp}{s s':Shared}
theorem Inv.env0 (I:Inv X pins σ H s):Env0 X.prog X.w X.K X.mg X.base X.A X.stack s H:=
 ⟨I.ok.frames,I.ok.mod,I.bs,Nat.le_trans I.ok.bsz I.sz,I.stack,I.stkFree,I.hok,I.bare⟩
theorem Inv.after {Q:VK}{u:Value}(I:Inv X pins σ H s)(h:CE X.stack X.prog X.w H s Q u s'):EP X pins σ Q u s':=by
 obtain⟨v,H',os,bare,un,hok,r,q⟩:=h;obtain⟨hh,g,d,t,os'⟩:=s';obtain rfl:os'=s.os:=os;exact⟨v,H',I.call (h':=hh) (g':=g) (d':=d) (t':=t) (ch:=[]) un hok bare (fun b z=>absurd z (by simp)),r,q⟩
end
def OW (sp:Sp)(dvs:List V)(E:XK)(t:TA):TE:=fun σ H Q=>t σ H fun vs H1=>sp (vs++dvs) H1 Q E
def Binds (K:PySem.W.Frag)(fd:FuncData)(ps:List Str)(ds:List Value):Prop:=
 ∀(s:Shared) (us:List Value),K.In s.heap->(us++ds).length=ps.length->BindsTo s fd ⟨us,[]⟩ (ps.zip (us++ds))
theorem Binds.all {K:PySem.W.Frag}{fd:FuncData}{ps:List Str}(h:∀us:List Value,us.length=ps.length->bindArgs fd ⟨us,[]⟩=pure (ps.zip us)):Binds K fd ps []:=fun s us _ hl=>by
 rw[List.append_nil] at hl ⊢;exact .of_eq (h us hl)
def Nb (CX:Qb)(X:Cx)(E:XK):Prop:=∀(pins:List (Addr×Obj)) (σ:St) (H:Hp) (s:Shared) (e:Value) (s':Shared),Inv X pins σ H s->CX X.stack H s E e s'->X.xe e s'
section
variable {X:Cx}{CX:Qb}{k:Nat}{f C:Addr}{fd:FuncData}{ps:List Str}{sp:Sp}{dvs:List V}{ds:List Value}{E:XK}{x m:Str}{p pos apos:Pos}{e o:Expr}{es:List Expr}{ta:TE}{t:TA}
theorem Vr {pins:List (Addr×Obj)} {σ:St} {H:Hp} {s:Shared} {Q:VK} {us:List Value} {vs:List V} (F:FnOk X.prog X.w X.K X.mg X.base CX k f fd ps sp) (hr:Room k X.A) (hb:Binds X.K fd ps ds) (hd:AN dvs ds) (hx:Nb CX X E)
  (I:Inv X pins σ H s) (r:AN vs us) (h:sp (vs++dvs) H Q E):wpAny (model X.prog X.w) X.A (call (.ref f) us) (EP X pins σ Q) X.xe s:=by
 have r2:AN (vs++dvs) (us++ds):=r.append hd;have hl:(us++ds).length=ps.length:=by rw[<-r2.length];exact F.len _ _ _ _ h
 refine wpAny_call (codeAny_mono (F.run X.A X.stack s H ⟨us,[]⟩ (us++ds) (vs++dvs) Q E hr I.env0 (hb s us I.kIn hl) r2 h) fun r s' hq=>?_);cases r with
 |error e=>exact hx pins σ H s e s' I hq
 |ok fl=>
  cases fl with
  |ret u=>exact I.after hq
  |next=>exact False.elim hq
  |brk=>exact False.elim hq
  |cont=>exact False.elim hq
theorem Tz (F:FnOk X.prog X.w X.K X.mg X.base CX k f fd ps sp) (hr:Room k X.A) (hg:Gl X x) (hm:X.mg x=some (.ref f)) (hk:PySem.W.keepIn X.K (.ref f)=true) (hb:Binds X.K fd ps ds) (hd:AN dvs ds) (hx:Nb CX X E)
  (ha:PA X (e::es) t) (hdb:(x == ("__debug__":Str))=false:=by decide) (he:starEach (e::es) X.env=(false,eval e X.env)::starEach es X.env:=by rfl) (hpl:(backTo pos (starEach es X.env)).any (·.1)=false:=by rfl) :
  PE X (.Call (.Name x p) (e::es) [] pos) (OW sp dvs E t):=by
 intro pins s σ H Q I h;refine wpAny_Call_Name_kw (O4 I hg hm ?_ hdb);refine PySem.W.callWith_K (h₀:=X.base) I.ok.mod.kin hk (Bw (ha pos pins s σ H _ I h) fun us s1 ⟨vs,H1,I1,r,q⟩=>⟨I1.kIn,?_⟩) he hpl;exact Vr F hr hb hd hx I1 r q
structure Mk (K:PySem.W.Frag) (C f:Addr):Prop where
 makes:PySem.W.makesIn K C=true
 init:PySem.W.findIn K (.ref C) "__init__"=some (some (.ref f))
 fn:PySem.W.isFn K (.ref f)=true
 kp:PySem.W.keepIn K (.ref C)=true
end
structure FnScope (N P:List Str) (sc:Scope):Prop where
 kind:sc.kind=.function
 co:sc.isCoroutine=false
 gen:sc.isGenerator=false
 nd:N.Nodup
 pre:N.take P.length=P
 par:∀x∈P,sc.names.lookup x=some .local\/sc.names.lookup x=some .cell
 nofree:∀y∈sc.names,y.2≠.free
theorem K2 {kindOf:Str->Option NameKind}{x:Str}:∀{binds:List (Str×Value)} {m:Str->Option Value},(∀v,(x,v)∉binds)->bindL kindOf binds m x=m x
 |[],_,_=>rfl
 |(n,v)::r,m,h=>by
  unfold bindL;rw[K2 fun w hw=>h w (List.mem_cons_of_mem _ hw)]
  split
  ·have:x≠n:=by rintro rfl;exact h v List.mem_cons_self
   simp[this]
  ·rfl
theorem Kp {kindOf:Str->Option NameKind}{x:Str}:∀{binds:List (Str×Value)} {m:Str->Option Value},(∀v,(x,v)∉binds)->bindC kindOf binds m x=m x
 |[],_,_=>rfl
 |(n,v)::r,m,h=>by
  unfold bindC;rw[Kp fun w hw=>h w (List.mem_cons_of_mem _ hw)]
  split
  ·rfl
  ·have:x≠n:=by rintro rfl;exact h v List.mem_cons_self
   simp[this]
theorem Ke {kindOf:Str->Option NameKind}{x:Str}{v:Value}:∀{P:List Str} {vs:List Value} {i:Nat} {m:Str->Option Value},P.Nodup->P[i]?=some x->vs[i]?=some v->kindOf x=some .local->
  bindL kindOf (P.zip vs) m x=some v
 |[],_,_,_,_,h,_,_=>by simp at h
 |_::_,[],_,_,_,_,h,_=>by simp at h
 |p::P,w::vs,0,m,nd,h1,h2,hk=>by
  simp at h1 h2;subst h1;subst h2;show bindL kindOf ((p,w)::P.zip vs) m p=_;unfold bindL;rw[K2 fun v hv=>(List.nodup_cons.mp nd).1 (List.of_mem_zip hv).1,if_pos hk];simp
 |p::P,w::vs,i+1,m,nd,h1,h2,hk=>by
  show bindL kindOf ((p,w)::P.zip vs) m x=_;unfold bindL;exact Ke (i:=i) (List.nodup_cons.mp nd).2 (by simpa using h1) (by simpa using h2) hk
theorem Ku {kindOf:Str->Option NameKind}{x:Str}{v:Value}:∀{P:List Str} {vs:List Value} {i:Nat} {m:Str->Option Value},P.Nodup->P[i]?=some x->vs[i]?=some v->kindOf x≠some .local->
  bindC kindOf (P.zip vs) m x=some v
 |[],_,_,_,_,h,_,_=>by simp at h
 |_::_,[],_,_,_,_,h,_=>by simp at h
 |p::P,w::vs,0,m,nd,h1,h2,hk=>by
  simp at h1 h2;subst h1;subst h2;show bindC kindOf ((p,w)::P.zip vs) m p=_;unfold bindC;rw[Kp fun v hv=>(List.nodup_cons.mp nd).1 (List.of_mem_zip hv).1,if_neg hk];simp
 |p::P,w::vs,i+1,m,nd,h1,h2,hk=>by
  show bindC kindOf ((p,w)::P.zip vs) m x=_;unfold bindC;exact Ku (i:=i) (List.nodup_cons.mp nd).2 (by simpa using h1) (by simpa using h2) hk
def start (N:List Str)(vs:List V):St:=vs.map some++List.replicate (N.length-vs.length) none
def Cg (CX:Qb)(P:Program)(w:World)(K:PySem.W.Frag)(mg:Str->Option Value)(base:Heap)(N:List Str)(qual:Str)(scope:Scope)(f:Addr)(cd:Value)(A:Around)(outer:List Env)(s:Shared)(H:Hp)(E:XK):Cx where
 prog:=P
 w:=w
 K:=K
 mg:=mg
 base:=base
 A:=A.deeper (envOfC qual scope s.heap.objs.size f cd)
 N:=N
 s₀:=s
 H₀:=H
 env:=envOfC qual scope s.heap.objs.size f cd
 outer:=outer
 stack:=envOfC qual scope s.heap.objs.size f cd::outer
 ex:=[]
 calm:=true
 fn:=fun _=>true
 pn:=[]
 xe:=fun e s'=>wpAny (model P w) (A.deeper (envOfC qual scope s.heap.objs.size f cd)) (leaving (envOfC qual scope s.heap.objs.size f cd) e) (fun _ s''=>CX outer H s E e s'') (fun e' s''=>CX outer H s E e' s'') s'
theorem MJ {sc:Scope}{n:Nat}{x:Str}(h:sc.names.lookup x=some .cell):∃c,(cellsFrom n sc.names []).lookup x=some c:=by
 have q:=PySem.W.cellsFrom_some sc.names n [] (.inl h);exact Option.isSome_iff_exists.mp q
theorem Pd {CX:Qb} {P:Program} {w:World} {K:PySem.W.Frag} {mg:Str->Option Value} {base:Heap} {N ps:List Str} {qual:Str} {scope:Scope} {f:Addr} {cd:Value} {A:Around} {outer:List Env} {s s1:Shared} {H:Hp} {E:XK} {us:List Value} {vs:List V}
  (S:FnScope N ps scope) (hd:A.handled=none) (e0:Env0 P w K mg base A outer s H) (hl:vs.length=ps.length) (r:AN vs us)
  (x:InCallC s s.heap.objs.size (bindL (envOfC qual scope s.heap.objs.size f cd).kindOf (ps.zip us) fun _=>none) (cellsFrom (s.heap.objs.size+1) scope.names []) (bindC (envOfC qual scope s.heap.objs.size f cd).kindOf (ps.zip us) fun _=>none) s1) :
  Inv (Cg CX P w K mg base N qual scope f cd A outer s H E) [] (start N vs) H s1:=by
 have hpl:ps.length<=N.length:=by have:=congrArg List.length S.pre;rw[List.length_take] at this;omega
 obtain⟨h1,tk,rfl,hk⟩:=x.done;have noA:∀b:Addr,b∉(Cg CX P w K mg base N qual scope f cd A outer s H E).ex:=fun b z=>absurd (show b∈([]:List Addr) from z) (by simp)
 refine⟨⟨e0.mod,S.kind,rfl,rfl,Nat.le_refl _,fun y z c h1 h2=>?_,fun y hy=>?_,fun y c _ h=>?_,fun _=>hd,Around.frames_deeper e0.frames,.inr ⟨rfl,rfl⟩,fun b z=>absurd z (noA b),e0.bs,e0.bsz,fun b _ _=>noA b,fun b z=>absurd z (noA b),e0.funs,e0.frf⟩,
  rfl,e0.bare,Un.kept hk,⟨_,x.toInCall.ns,fun i y v h1 h2 h3=>?_⟩,fun y c h=>⟨_,x.cell y c h⟩,e0.hok.fresh (Nat.le_refl _),fun y c h=>?_,fun p hp=>absurd (show p∈([]:List (Addr×Obj)) from hp) (by simp),e0.hok.kept hk,?_⟩
 ·exact name_of_addr x.apart (PySem.mem_of_lookup h1) (PySem.mem_of_lookup h2)
 ·have hy:scope.names.lookup y=some .cell\/scope.names.lookup y=some .free:=hy;rcases hy with hy|hy
  ·exact MJ hy
  ·exact absurd rfl (S.nofree _ (PySem.mem_of_lookup hy))
 ·exact Nat.le_of_lt (x.above y c (PySem.mem_of_lookup h))
 ·have hi:i<vs.length:=by
   unfold start at h2
   by_cases hi:i<vs.length
   ·exact hi
   ·rw[List.getElem?_append_right (by simpa using hi)] at h2;rw[List.getElem?_replicate] at h2
    split at h2<;>cases h2
  have ha:vs[i]?=some v:=by
   unfold start at h2;rw[List.getElem?_append_left (by simpa using hi),List.getElem?_map] at h2;cases e:vs[i]? with
   |none=>rw[e] at h2;cases h2
   |some a=>rw[e] at h2;cases h2;rfl
  obtain⟨u,hu,rv⟩:=r.get ha;have hp:ps[i]?=some y:=by
   rw[<-S.pre,List.getElem?_take_of_lt (by omega)];exact h1
  have ndP:ps.Nodup:=by rw[<-S.pre];exact S.nd.sublist (List.take_sublist _ _)
  refine⟨u,rv,?_⟩;rcases S.par y (List.mem_of_getElem? hp) with k|k
  ·exact .inl ⟨k,Ke ndP hp hu k⟩
  ·obtain⟨c,e⟩:=MJ (n:=s.heap.objs.size+1) k;refine .inr ⟨.inl k,c,e,?_⟩;have q:=x.cell y c e;rw[Ku ndP hp hu (by show scope.names.lookup y≠_;rw[k];decide)] at q;exact q
 ·exact e0.hok.fresh (Nat.le_of_lt (x.above y c (PySem.mem_of_lookup h)))
 ·unfold start;show _=N.length;rw[List.length_append,List.length_map,List.length_replicate];omega
theorem TU {CX:Qb} {P:Program} {w:World} {K:PySem.W.Frag} {mg:Str->Option Value} {base:Heap} {k:Nat} {f:Addr} {name qual:Str} {params:Arguments} {body:List Stmt} {scope:Scope} {dV kV doc pm cdv ct oc:Value} {an od:Option Addr}
  {osl:Array (Option Value)} {N ps:List Str} {sp:Sp} (lk:K.lookup f=some ⟨oc,od,.func (PySem.W.fnOf name qual params body scope dV kV doc pm an cdv ct),osl⟩) (hcd:PySem.W.codeIn K cdv qual=true) (S:FnScope N ps scope)
  (len:∀vs H Q E,sp vs H Q E->vs.length=ps.length)
  (hbody:∀(A:Around) (outer:List Env) (s:Shared) (H:Hp) (vs:List V) (Q:VK) (E:XK),Room k (A.deeper (envOfC qual scope s.heap.objs.size f cdv))->sp vs H Q E->
   ∃t,OI (Cg CX P w K mg base N qual scope f cdv A outer s H E) body t/\t { nx:=fun _ H'=>Q .non H',rt:=Q } (start N vs) H) :
  FnOk P w K mg base CX (k+1) f (PySem.W.fnOf name qual params body scope dV kV doc pm an cdv ct) ps sp:=by
 refine⟨len,fun A outer s H args us vs Q E hr e0 hb r hsp=>?_⟩;have hl:=len _ _ _ _ hsp;have KX:K.In s.heap:=e0.mod.kin.keeps fun b o e=>(e0.bs b o e).1
 have lim:s.heap.NoLimit:=e0.mod.nolimit.keeps fun b o e=>(e0.bs b o e).1
 have hkind:∀y∈ps.zip us,scope.names.lookup y.1=some .local\/(scope.names.lookup y.1=some .cell/\((cellsFrom (s.heap.objs.size+1) scope.names []).lookup y.1).isSome=true):=fun⟨n,v⟩ hy=>by
  rcases S.par n (List.of_mem_zip hy).1 with q|q
  ·exact .inl q
  ·exact .inr ⟨q,PySem.W.cellsFrom_some _ _ _ (.inl q)⟩
 refine codeAny_call_function hr.depth (KX _ _ lk) rfl S.co S.gen rfl (PySem.W.codeRec_of KX hcd) (hb _ _ _ _ ?_);refine wpAny_newFunctionEnv_cells S.kind hkind fun env he s1 x=>?_
 subst he;refine⟨lim.keeps x.toInCall.keep,codeAny_func ?_⟩;obtain⟨t,ht,hq⟩:=hbody A outer s H vs Q E (hr.deeper _) hsp;have I:Inv (Cg CX P w K mg base N qual scope f cdv A outer s H E) [] (start N vs) H s1:=Pd S hr.hd e0 hl r x;refine wpAny_mono (ht [] s1 (start N vs) H _ I hq) (fun fl s' hs=>?_) fun e s' hs=>hs
 have fin:∀{σ':St} {H':Hp} {v:V} {u:Value},Inv (Cg CX P w K mg base N qual scope f cdv A outer s H E) [] σ' H' s'->RelV v u->Q v H'->CE outer P w H s Q u s':=
  fun{σ' H' v u} J rv q=>⟨v,H',J.os,J.bare,J.base,J.hok,rv,q⟩
 cases fl with
 |ret u=>
  obtain⟨v,σ',H',J,rv,q⟩:=hs;exact fin J rv q
 |next=>
  obtain⟨σ',H',J,q⟩:=hs;exact fin (v:=V.non) (u:=Value.none) J rfl q
 |brk=>
  obtain⟨_,_,_,q⟩:=hs;exact False.elim q
 |cont=>
  obtain⟨_,_,_,q⟩:=hs;exact False.elim q
section
variable {X:Cx}{x:Str}{p pos:Pos}{e:Expr}{es:List Expr}{t:TA}{id T:String}{r:List V->Hp->VK->Prop}
def Xi (r:List V->Hp->VK->Prop)(t:TA):TE:=fun σ H Q=>t σ H fun vs H1=>r vs H1 Q
theorem Ak (hc:Ct X (.builtin id) r) (hg:Gl X x) (hm:X.mg x=none) (hv:bootBuiltins x=some (.builtin id)) (ha:PA X (e::es) t) (hn:x≠"__name__":=by decide) (hdb:(x == ("__debug__":Str))=false:=by decide)
  (he:starEach (e::es) X.env=(false,eval e X.env)::starEach es X.env:=by rfl) (hpl:(backTo pos (starEach es X.env)).any (·.1)=false:=by rfl):PE X (.Call (.Name x p) (e::es) [] pos) (Xi r t):=by
 intro pins s σ H Q I h;refine wpAny_Call_Name_kw (FP I hg hm hv ?_ hn hdb);exact PyProof.Rows.callWith_builtin1 (Bw (ha pos pins s σ H _ I h) fun us s1 ⟨vs,H1,I1,r1,q1⟩=>hc pins s1 σ H1 vs us Q I1 r1 q1) he hpl
theorem A9 (hc:Ct X (.type T) r) (hg:Gl X x) (hm:X.mg x=none) (hv:bootBuiltins x=some (.type T)) (ha:PA X (e::es) t) (hn:x≠"__name__":=by decide) (hdb:(x == ("__debug__":Str))=false:=by decide)
  (he:starEach (e::es) X.env=(false,eval e X.env)::starEach es X.env:=by rfl) (hpl:(backTo pos (starEach es X.env)).any (·.1)=false:=by rfl):PE X (.Call (.Name x p) (e::es) [] pos) (Xi r t):=by
 intro pins s σ H Q I h;refine wpAny_Call_Name_kw (FP I hg hm hv ?_ hn hdb);exact PyProof.Rows.callWith_type1 (Bw (ha pos pins s σ H _ I h) fun us s1 ⟨vs,H1,I1,r1,q1⟩=>hc pins s1 σ H1 vs us Q I1 r1 q1) he hpl
end
end L2
namespace HT
open PySem PyProof.Rows
section
variable {prog:Program}{w:World}{A:Around}{E:Value->Shared->Prop}{s:Shared}
theorem TJ {t b:Addr} {vs ws:List Value} {Q:Value->Shared->Prop} (ht:IsTup s.heap t vs.toArray) (hb:IsTup s.heap b ws.toArray) (hv:vs≠[])
  (h1:ws=[]->Q (.ref t) s) (h2:ws≠[]->Q (.ref s.heap.objs.size) { s with heap:=s.heap.push { cls:=.type "tuple",data:=.seq (vs++ws).toArray } })
  (hsz:vs.length+ws.length<=sizeLine):wpAny (model prog w) A (binaryOp .Add (.ref t) (.ref b)) Q E s:=by
 obtain⟨⟨cls,dd,data,sl⟩,ho,hc,n,hd⟩:=id ht;obtain⟨⟨cls2,dd2,data2,sl2⟩,ho2,hc2,n2,hd2⟩:=id hb;simp only at hc hd hc2 hd2;subst hc hd hc2 hd2;have e:vs.toArray++ws.toArray=(vs++ws).toArray:=by simp
 by_cases hw:ws=[]
 ·exact concat_meets ⟨_,ho,rfl⟩ ⟨_,ho2,rfl⟩ noFill_tuple_add seq_tuple_add PySem.F.slot_tuple_add PySem.F.entry_tuple_add (PySem.F.args_tuple_add_2 _ _)
   (tuple_addW1 t b vs.toArray ws.toArray n n2 dd dd2 sl sl2 (by simpa using hv) (by simp[hw])) ⟨ho,ho2,h1 hw⟩
 ·refine concat_meets ⟨_,ho,rfl⟩ ⟨_,ho2,rfl⟩ noFill_tuple_add seq_tuple_add PySem.F.slot_tuple_add PySem.F.entry_tuple_add (PySem.F.args_tuple_add_2 _ _)
   (tuple_addW2 t b vs.toArray ws.toArray n n2 dd dd2 sl sl2 (by simpa using hv) (by simpa using hw) (by rw[List.size_toArray,List.size_toArray];exact hsz)) ⟨ho,ho2,?_⟩
  rw[e];exact h2 hw
def CQ (n d:Nat):Option Int->Nat
 |none=>d
 |some v=>if v<0 then(v+(n:Int)).toNat else min v.toNat n
theorem Mv (n d:Nat):CQ n d none=d:=rfl
theorem OL (n d k:Nat):CQ n d (some (k:Int))=min k n:=by
 show(if(k:Int)<0 then((k:Int)+(n:Int)).toNat else min (k:Int).toNat n)=min k n;rw[if_neg (by omega),Int.toNat_natCast]
theorem Vn (n d:Nat)(hd:d<=n)(o:Option Int):CQ n d o<=n:=by
 cases o with
 |none=>exact hd
 |some v=>
  show(if v<0 then(v+(n:Int)).toNat else min v.toNat n)<=n
  by_cases hv:v<0
  ·rw[if_pos hv];omega
  ·rw[if_neg hv];exact Nat.min_le_right _ _
theorem Om (v:Int)(n d:Nat):(if v<0 then max (v+(n:Int)) 0 else min v (n:Int))=((CQ n d (some v):Nat):Int):=by
 show(if v<0 then max (v+(n:Int)) 0 else min v (n:Int))=(((if v<0 then(v+(n:Int)).toNat else min v.toNat n):Nat):Int)
 by_cases hv:v<0
 ·simp only[if_pos hv];omega
 ·simp only[if_neg hv];omega
theorem NY (lo hi:Option Int)(n:Nat):Builtin.Slice.sliceAdjust lo hi 1 (n:Int)=(((CQ n 0 lo:Nat):Int),((CQ n n hi:Nat):Int)):=by
 have h1:¬((1:Int)<0):=by omega
 unfold Builtin.Slice.sliceAdjust;simp only[h1,if_false];refine Prod.ext ?_ ?_
 ·cases lo with
  |none=>rfl
  |some v=>exact Om v n 0
 ·cases hi with
  |none=>rfl
  |some v=>exact Om v n n
theorem NB (i j:Nat):Builtin.Slice.slicePlaces (i:Int) (j:Int) 1=j-i:=by
 unfold Builtin.Slice.slicePlaces;have h1:(1:Int)>0:=by omega
 simp only[h1,if_true,Int.ediv_one]
 split<;>omega
theorem JQ {v:Value}{o:Option Int}{Q:Option Int->Shared->Prop}(p:IsPart v o)(h:Q o s):wpAny (model prog w) A (Builtin.Slice.slicePartIndex v) Q E s:=by
 cases p with
 |none=>exact slicePart_none h
 |int i t=>exact slicePart_int h
theorem HC {sl:Addr} {vl vu:Value} {lo hi:Option Int} {n:Nat} {Q:Int×Int×Nat->Shared->Prop} (hs:s.heap.IsSliceOf sl vl vu .none) (pl:IsPart vl lo) (pu:IsPart vu hi)
  (h:Q (((CQ n 0 lo:Nat):Int),1,CQ n n hi-CQ n 0 lo) s):wpAny (model prog w) A (Builtin.Slice.sliceApplied (.ref sl) (pure (n:Int))) Q E s:=by
 obtain⟨os,hos,hcs,hds⟩:=id hs;unfold Builtin.Slice.sliceApplied Builtin.Slice.sliceFields;refine wpAny_bind (wpAny_bind (wpAny_field hos hds (x:=vl) rfl (wpAny_bind (wpAny_field hos hds (x:=vu) rfl (wpAny_bind (wpAny_field hos hds (x:=.none) rfl (wpAny_pure ?_)))))));refine wpAny_bind (slicePart_none ?_);show wpAny _ _ (if((1:Int) == 0)=true then _ else _) _ _ s;rw[if_neg (by decide)];refine wpAny_bind (JQ pl (wpAny_bind (JQ pu (wpAny_bind (wpAny_pure ?_)))));show wpAny _ _ (match Builtin.Slice.sliceAdjust lo hi 1 (n:Int) with|(lo,hi)=>pure (lo,(1:Int),Builtin.Slice.slicePlaces lo hi 1)) _ _ s;rw[NY lo hi n];show wpAny _ _ (pure (((CQ n 0 lo:Nat):Int),(1:Int),Builtin.Slice.slicePlaces ((CQ n 0 lo:Nat):Int) ((CQ n n hi:Nat):Int) 1)) _ _ s;rw[NB];exact wpAny_pure h
theorem Qi (xs:Array Value)(i k:Nat):((List.range k).filterMap fun(m:Nat)=>xs[((i:Int)+(m:Int)*1).toNat]?).toArray=((xs.toList.drop i).take k).toArray:=by
 have e:(fun(m:Nat)=>xs[((i:Int)+(m:Int)*1).toNat]?)=fun m=>xs[i+m]?:=by
  funext m
  have:((i:Int)+(m:Int)*1).toNat=i+m:=by omega
  rw[this]
 rw[e];have:=pick_run xs i k;rw[List.filterMap_map] at this;have e2:((fun x=>xs[x]?)∘fun x=>i+x)=fun m=>xs[i+m]?:=rfl
 rw[e2] at this;rw[this]
theorem Hw {t sl:Addr} {items:Array Value} {vl vu:Value} {lo hi:Option Int} {Q:Value->Shared->Prop} (ht:IsTup s.heap t items) (hs:s.heap.IsSliceOf sl vl vu .none) (pl:IsPart vl lo) (pu:IsPart vu hi)
  (hw:¬(CQ items.size 0 lo=0/\CQ items.size items.size hi=items.size))
  (h:Q (.ref s.heap.objs.size) { s with heap:=s.heap.push { cls:=.type "tuple",data:=.seq ((items.toList.drop (CQ items.size 0 lo)).take (CQ items.size items.size hi-CQ items.size 0 lo)).toArray } })
  (hsz:items.size<=sizeLine):wpAny (model prog w) A (getItem (.ref t) (.ref sl)) Q E s:=by
 have htake:sizeOk (.seq ((items.toList.drop (CQ items.size 0 lo)).take (CQ items.size items.size hi-CQ items.size 0 lo)).toArray):=by
  show((items.toList.drop (CQ items.size 0 lo)).take (CQ items.size items.size hi-CQ items.size 0 lo)).toArray.size<=sizeLine;rw[List.size_toArray,List.length_take,List.length_drop,Array.length_toList];omega
 have hj:CQ items.size items.size hi<=items.size:=Vn _ _ (Nat.le_refl _) hi;obtain⟨os,hos,hcs,hds⟩:=id hs;have hTs:s.TypeIs (.ref sl) "slice":=⟨os,hos,hcs⟩
 unfold getItem
 try with_reducible refine wpAny_holding ?_
 first|refine wpAny_bind (wpAny_pure ?_)|skip
 refine wpAny_bind (wpAny_sequenceKey ht.typeIs (by decide) ?_);refine wpAny_bind (wpAny_callSpecial?_slot (name:=Str.ofString "__getitem__") ht.typeIs PyProof.Rows.slot_tuple_getitem
  (wpAny_call_entry PyProof.Rows.slot_tuple_getitem ht.typeIs entry_tuple_getitem ?_ (args_tuple_getitem _ _)))
 show wpAny _ _ (Builtin.Tuple.tupleItemsOf (.ref t) >>= _) _ _ s;refine wpAny_bind (tupleItemsOf_ ht ?_);refine wpAny_bind (wpAny_typeOf hTs ?_);rw[if_pos (by decide)];refine wpAny_bind (HC hs pl pu ?_);have hno:¬((((CQ items.size 0 lo:Nat):Int) == 0&&(1:Int) == 1&&(CQ items.size items.size hi-CQ items.size 0 lo) == items.size)=true):=by
  intro q;rw[Bool.and_eq_true,Bool.and_eq_true] at q;have q1:((CQ items.size 0 lo:Nat):Int)=0:=eq_of_beq q.1.1;have q2:CQ items.size items.size hi-CQ items.size 0 lo=items.size:=eq_of_beq q.2;exact hw ⟨by omega,by omega⟩
 show wpAny _ _ (if(((CQ items.size 0 lo:Nat):Int) == 0&&(1:Int) == 1&&(CQ items.size items.size hi-CQ items.size 0 lo) == items.size)=true then _ else _) _ _ s;rw[if_neg hno,Qi]
 first
  |exact wpAny_bind (m:=Builtin.Tuple.tupleExact _) (wpAny_newObj_type (wpAny_pure ⟨_,rfl,wpAny_pure h⟩) htake)
  |exact wpAny_bind (m:=Builtin.Tuple.tupleExact _) (wpAny_newObj_type (wpAny_bind (wpAny_pure (wpAny_pure ⟨_,rfl,wpAny_pure h⟩))) htake)
  |exact wpAny_bind (wpAny_bind (m:=Builtin.Tuple.tupleExact _) (wpAny_newObj_type (wpAny_pure (wpAny_pure ⟨_,rfl,wpAny_pure h⟩)) htake))
  |exact wpAny_bind (wpAny_bind (m:=Builtin.Tuple.tupleExact _) (wpAny_newObj_type (wpAny_pure ⟨_,rfl,wpAny_pure h⟩) htake))
end
end HT
namespace L2
open PySem PySem.Spec PyProof.Rows
abbrev TO:=St->Hp->(Option Int->Hp->Prop)->Prop
def PO (X:Cx)(e:Option Expr)(t:TO):Prop:=
 ∀(pins:List (Addr×Obj)) (s:Shared) (σ:St) (H:Hp) (Q:Option Int->Hp->Prop),Inv X pins σ H s->t σ H Q->
  wpAny (model X.prog X.w) X.A (evalPart e X.env) (fun u s'=>∃o H',Inv X pins σ H' s'/\IsPart u o/\Q o H') X.xe s
def Ld:TO:=fun _ H Q=>Q none H
def RG (t:TE):TO:=fun σ H Q=>t σ H fun x H1=>∃i,x=.int i/\Q (some i) H1
theorem intsAre_of {ns:List Int}:∀{us:List Value},AN (ns.map V.int) us->IntsAre us ns:=by
 induction ns with
 |nil=>intro us r;rw[List.map_nil] at r;cases r;exact .nil
 |cons n ns ih=>
  intro us r;rw[List.map_cons] at r;cases r with
  |cons r1 r2=>
   obtain⟨t,e⟩:=r1;subst e;exact .cons n t (ih r2)
section
variable {X:Cx}{e:Expr}{te:TE}{lo hi:Option Expr}{tl th:TO}{pos p2:Pos}
theorem FY:PO X none Ld:=by
 intro pins s σ H Q I h;rw[evalPart_none];exact wpAny_pure ⟨none,H,I,.none,h⟩
theorem Gd (h:PE X e te):PO X (some e) (RG te):=by
 intro pins s σ H Q I hw;rw[evalPart_some];refine Bw (h pins s σ H _ I hw) fun u s1 ⟨x,H1,I1,r1,q1⟩=>?_
 obtain⟨i,rfl,q⟩:=q1;obtain⟨t,rfl⟩:=r1;exact⟨some i,H1,I1,.int i t,q⟩
def W8 (X:Cx)(r:V->Option Int->Option Int->Hp->VK->Prop):Prop:=
 ∀(pins:List (Addr×Obj)) (s:Shared) (σ:St) (H:Hp) (x:V) (v vl vu:Value) (lo hi:Option Int) (sl:Addr) (Q:VK),Inv X pins σ H s->RelV x v->s.heap.IsSliceOf sl vl vu .none->IsPart vl lo->IsPart vu hi->r x lo hi H Q->
  ∃T id,typeLookup (.type T) "__getitem__"=pure (some (.builtin id))/\s.TypeIs v T/\wpAny (model X.prog X.w) X.A (getItem v (.ref sl)) (EP X pins σ Q) X.xe s
def WM (r:V->Option Int->Option Int->Hp->VK->Prop)(te:TE)(tl th:TO):TE:=fun σ H Q=>te σ H fun x H1=>tl σ H1 fun l H2=>th σ H2 fun u H3=>r x l u H3 Q
theorem EG {r:V->Option Int->Option Int->Hp->VK->Prop}(hr:W8 X r)(he:PE X e te)(hl:PO X lo tl)(hu:PO X hi th):PE X (.Subscript e (.Slice lo hi none p2) pos) (WM r te tl th):=by
 intro pins s σ H Q I h;refine Subscript_ (Bw (he pins s σ H _ I h) fun v s1 ⟨x,H1,I1,r1,q1⟩=>?_);refine wpAny_Slice (Bw (hl pins s1 σ H1 _ I1 q1) fun vl s2 ⟨l,H2,I2,pl,q2⟩=>Bw (hu pins s2 σ H2 _ I2 q2) fun vu s3 ⟨u,H3,I3,pu,q3⟩=>?_);rw[evalPart_none];refine wpAny_pure ?_;have I4:Inv X pins σ H3 { s3 with heap:=s3.heap.push { cls:=.type "slice",data:=.fields #[vl,vu,.none] } }:=I3.kept (t':=s3.toks) fun b ob q=>Heap.get?_push_of_some _ q
 obtain⟨T,id,hT,ht,hg⟩:=hr pins { s3 with heap:=s3.heap.push { cls:=.type "slice",data:=.fields #[vl,vu,.none] } } σ H3 x v vl vu l u s3.heap.objs.size Q I4 r1 (Heap.IsSliceOf.new ..) pl pu q3;show wpAny (model X.prog X.w) X.A (subscriptTail e (.Slice lo hi none p2) v (.ref s3.heap.objs.size)) (EP X pins σ Q) X.xe { s3 with heap:=s3.heap.push { cls:=.type "slice",data:=.fields #[vl,vu,.none] } };exact tail_any (ops:=[.ref s3.heap.objs.size,v]) ht hT hg (by with_unfolding_all rfl)
def HY (xs:List V)(lo hi:Option Int):List V:=(xs.drop (HT.CQ xs.length 0 lo)).take (HT.CQ xs.length xs.length hi-HT.CQ xs.length 0 lo)
theorem Ij (xs:List V)(lo hi:Option Int):(HY xs lo hi).length<=xs.length:=by
 unfold HY;rw[List.length_take,List.length_drop];omega
def Uh (K:PySem.W.Frag):V->Option Int->Option Int->Hp->VK->Prop:=fun x lo hi H Q=>∃a xs,x=.ref a/\AE K H a xs/\
 ¬(HT.CQ xs.length 0 lo=0/\HT.CQ xs.length xs.length hi=xs.length)/\∀p,H p=none->Q (.ref p) (upd H p (.tup (HY xs lo hi)))
theorem Jc:W8 X (Uh X.K):=by
 intro pins s σ H x v vl vu lo hi sl Q I rx hs pl pu h;obtain⟨a,xs,rfl,hx,hw,q⟩:=h;cases rx;obtain⟨AC,r,ht,hz⟩:=I.tuple hx;have hlen:AC.toArray.size=xs.length:=by rw[List.size_toArray];exact r.length.symm
 refine⟨"tuple",_,PyProof.Rows.slot_tuple_getitem.lookup,ht.typeIs,?_⟩;refine HT.Hw ht hs pl pu (by rw[hlen];exact hw) ?_ (by rw[hlen];exact hz);rw[hlen];refine⟨.ref s.heap.objs.size,_,I.laid (t':=s.toks) (o:=.tup (HY xs lo hi)) (fun b ob q=>Heap.get?_push_of_some _ q) (Nat.le_refl _) ?_,rfl,q _ (I.hok.fresh (Nat.le_refl _))⟩;exact⟨Nat.le_trans (Ij xs lo hi) hz,_,(r.drop (HT.CQ xs.length 0 lo)).take (HT.CQ xs.length xs.length hi-HT.CQ xs.length 0 lo),JV.new _ _⟩
def VR (K:PySem.W.Frag):R2:=fun x y H Q=>∃a b xs ys,x=.ref a/\y=.ref b/\AE K H a xs/\AE K H b ys/\xs≠[]/\xs.length+ys.length<=sizeLine/\
 (ys=[]->Q (.ref a) H)/\(ys≠[]->∀p,H p=none->Q (.ref p) (upd H p (.tup (xs++ys))))
theorem AN.nil_iff {xs:List V}{us:List Value}(r:AN xs us):us=[]↔xs=[]:=by
 cases r with
 |nil=>simp
 |cons _ _=>simp
theorem Sr:E1 X (binaryOp .Add) (VR X.K):=by
 intro pins s σ H x y v u Q I rx ry h;obtain⟨a,b,xs,ys,rfl,rfl,ha,hb,hx,hz,q1,q2⟩:=h;cases rx;cases ry;obtain⟨AC,r1,p1,_⟩:=I.tuple ha;obtain⟨its2,r2,p2,_⟩:=I.tuple hb;refine HT.TJ p1 p2 (fun z=>hx (r1.nil_iff.mp z)) (fun z=>⟨.ref a,H,I,rfl,q1 (r2.nil_iff.mp z)⟩) (fun z=>?_) (by rw[<-r1.length,<-r2.length];exact hz);refine⟨.ref s.heap.objs.size,_,I.laid (t':=s.toks) (o:=.tup (xs++ys)) (fun b ob q=>Heap.get?_push_of_some _ q) (Nat.le_refl _) ?_,rfl,q2 (fun w=>z (r2.nil_iff.mpr w)) _ (I.hok.fresh (Nat.le_refl _))⟩;exact⟨by rw[List.length_append];exact hz,_,r1.append r2,JV.new _ _⟩
end
def UQ (n:Nat)(i:Int):Option Nat:=if 0<=i then(if i<n then some i.toNat else none) else if -(n:Int)<=i then some (i+n).toNat else none
def Hz {α:Type}(xs:List α)(i:Int):Option α:=(UQ xs.length i).bind fun j=>xs[j]?
theorem Sy {n:Nat}{i:Int}{j:Nat}(h:UQ n i=some j):seqIndex? i n=some j/\j<n/\-(n:Int)<=i/\i<n:=by
 unfold UQ at h
 by_cases h0:0<=i
 ·rw[if_pos h0] at h
  by_cases h1:i<n
  ·rw[if_pos h1] at h;have e:i.toNat=j:=Option.some.inj h;exact⟨by rw[seqIndex_of h0 h1,e],by omega,by omega,h1⟩
  ·rw[if_neg h1] at h;cases h
 ·rw[if_neg h0] at h
  by_cases h1:-(n:Int)<=i
  ·rw[if_pos h1] at h;have e:(i+n).toNat=j:=Option.some.inj h;exact⟨by rw[seqIndex_neg (by omega) h1,e],by omega,h1,by omega⟩
  ·rw[if_neg h1] at h;cases h
theorem Ox {α:Type}{xs:List α}{i:Int}{v:α}(h:Hz xs i=some v):∃j,seqIndex? i xs.length=some j/\xs[j]?=some v/\j<xs.length/\-(xs.length:Int)<=i/\i<xs.length:=by
 unfold Hz at h;cases e:UQ xs.length i with
 |none=>rw[e] at h;cases h
 |some j=>
  rw[e] at h;obtain⟨h1,h2,h3,h4⟩:=Sy e;exact⟨j,h1,h,h2,h3,h4⟩
theorem AZ {α:Type}{xs:List α}{j:Nat}{v:α}(h:xs[j]?=some v):Hz xs (j:Int)=some v:=by
 have hj:j<xs.length:=(List.getElem?_eq_some_iff.mp h).1;have e:UQ xs.length (j:Int)=some j:=by
  unfold UQ;rw[if_pos (by omega),if_pos (by omega)];simp
 unfold Hz;rw[e];exact h
def SH (b:Expr):Prop:=∀o i,subscripted b false o i=operate [o,i] (getItem o i)
def VB (X:Cx)(r:R2):Prop:=
 ∀(value slice:Expr) (pins:List (Addr×Obj)) (s:Shared) (σ:St) (H:Hp) (x y:V) (v u:Value) (Q:VK),Inv X pins σ H s->RelV x v->RelV y u->r x y H Q->
  subscripted slice false v u=operate [v,u] (getItem v u)->wpAny (model X.prog X.w) X.A (subscriptTail value slice v u) (EP X pins σ Q) X.xe s
def Xj (X:Cx)(id:String)(r:V->List V->Hp->VK->Prop):Prop:=
 ∀(pins:List (Addr×Obj)) (s:Shared) (σ:St) (H:Hp) (x:V) (xs:List V) (v:Value) (us:List Value) (Q:VK),Inv X pins σ H s->RelV x v->AN xs us->r x xs H Q->
  wpAny (model X.prog X.w) X.A (call (.builtin id) (v::us)) (EP X pins σ Q) X.xe s
section
variable {X:Cx}{a b:Expr}{ta tb:TE}{pos:Pos}
theorem Am {r:R2}(hr:VB X r)(ha:PE X a ta)(hb:PE X b tb)(hs:SH b):PE X (.Subscript a b pos) (KG r ta tb):=by
 intro pins s σ H Q I h;exact Subscript_ (Vw ha hb I h fun v u s2 x y H2 I2 rx ry q=>hr a b pins s2 σ H2 x y v u Q I2 rx ry q (hs _ _))
def QP (K:PySem.W.Frag):R2:=fun x y H Q=>∃p xs i v,x=.ref p/\y=.int i/\AR K H p xs/\Hz xs i=some v/\Q v H
def Uk (K:PySem.W.Frag):R2:=fun x y H Q=>∃p xs i v,x=.ref p/\y=.int i/\AE K H p xs/\Hz xs i=some v/\Q v H
theorem B2:VB X (QP X.K):=by
 intro value slice pins s σ H x y v u Q I rx ry h hs;obtain⟨p,xs,i,z,rfl,rfl,hq,he,q⟩:=h;cases rx;obtain⟨t,rfl⟩:=ry;obtain⟨AC,r,pl,hz⟩:=I.list hq;obtain⟨j,h1,h2,h3,h4,h5⟩:=Ox he;obtain⟨w,ew,rw'⟩:=r.get h2;have hl:=r.length;have hn:=Ln;have fin:EP X pins σ Q w s:=⟨z,H,I,rw',q⟩
 by_cases h0:0<=i
 ·have hj:i.toNat=j:=by
   rw[seqIndex_of h0 h5] at h1;exact Option.some.inj h1
  exact item_listR pl.isList h0 (by omega) (by rw[hj];simpa using ew) fin hs
 ·have hj:(i+(AC.toArray.size:Int)).toNat=j:=by
   rw[seqIndex_neg (by omega) h4] at h1;rw[List.size_toArray,<-hl];exact Option.some.inj h1
  exact subscriptTail_builtinR (x:=w) pl.isList.typeIs slot_list_getitem.lookup
   (wpAny_getItem_list_neg (Q:=fun r s'=>r=w/\EP X pins σ Q r s') pl.isList (by omega) (by rw[List.size_toArray]<;>omega) (by omega) (by rw[hj];simpa using ew) ⟨rfl,fin⟩) hs
theorem Ap:VB X (Uk X.K):=by
 intro value slice pins s σ H x y v u Q I rx ry h hs;obtain⟨p,xs,i,z,rfl,rfl,hq,he,q⟩:=h;cases rx;obtain⟨t,rfl⟩:=ry;obtain⟨AC,r,pl,hz⟩:=I.tuple hq;obtain⟨j,h1,h2,h3,h4,h5⟩:=Ox he;obtain⟨w,ew,rw'⟩:=r.get h2;have hl:=r.length;have hn:=Ln;have fin:EP X pins σ Q w s:=⟨z,H,I,rw',q⟩
 exact subscriptTail_builtinR (x:=w) pl.typeIs slot_tuple_getitem.lookup
  (getItem_tuple (j:=j) (Q:=fun r s'=>r=w/\EP X pins σ Q r s') pl (by omega) (by omega) (by rw[List.size_toArray,<-hl];exact h1) (by simpa using ew) ⟨rfl,fin⟩) hs
theorem Lo (lo hi:Option Int)(n:Nat):(sliceBounds lo hi none n).1=((HT.CQ n 0 lo:Nat):Int)/\(sliceBounds lo hi none n).2.1=((HT.CQ n n hi:Nat):Int)/\(sliceBounds lo hi none n).2.2=1:=by
 refine⟨?_,?_,rfl⟩
 ·cases lo with
  |none=>simp[sliceBounds,HT.CQ]
  |some i=>
   simp only[sliceBounds,HT.CQ,Option.getD_none,show(1:Int)>0 by decide,if_true]
   by_cases h:i<0
   ·simp only[h,if_true]<;>omega
   ·simp only[h,if_false]<;>omega
 ·cases hi with
  |none=>simp[sliceBounds,HT.CQ]
  |some i=>
   simp only[sliceBounds,HT.CQ,Option.getD_none,show(1:Int)>0 by decide,if_true]
   by_cases h:i<0
   ·simp only[h,if_true]<;>omega
   ·simp only[h,if_false]<;>omega
theorem JT (AC:List Value)(lo hi:Option Int):slicePick AC.toArray lo hi none=((AC.drop (HT.CQ AC.length 0 lo)).take (HT.CQ AC.length AC.length hi-HT.CQ AC.length 0 lo)).toArray:=by
 obtain⟨h1,h2,h3⟩:=Lo lo hi AC.toArray.size;unfold slicePick;rw[h1,h2,h3];simp only[sliceRange_one,pick_run,List.size_toArray]<;>rfl
def W6 (K:PySem.W.Frag):V->Option Int->Option Int->Hp->VK->Prop:=fun x lo hi H Q=>∃a xs,x=.ref a/\AR K H a xs/\∀p,H p=none->Q (.ref p) (upd H p (.lst (HY xs lo hi)))
theorem Tn:W8 X (W6 X.K):=by
 intro pins s σ H x v vl vu lo hi sl Q I rx hs pl pu h;obtain⟨a,xs,rfl,hx,q⟩:=h;cases rx;obtain⟨AC,r,ht,hz⟩:=I.list hx;have hlen:=r.length;refine⟨"list",_,slot_list_getitem.lookup,ht.isList.typeIs,?_⟩;refine wpAny_getItem_list_slice ht.isList hs pl pu .none (by simp) ?_ (by rw[List.size_toArray]<;>omega);rw[JT,<-hlen];refine⟨.ref s.heap.objs.size,_,I.laid (t':=s.toks) (o:=.lst (HY xs lo hi)) (fun b ob q=>Heap.get?_push_of_some _ q) (Nat.le_refl _) ?_,rfl,q _ (I.hok.fresh (Nat.le_refl _))⟩;exact⟨Nat.le_trans (Ij xs lo hi) hz,_,0,(r.drop (HT.CQ xs.length 0 lo)).take (HT.CQ xs.length xs.length hi-HT.CQ xs.length 0 lo),Heap.get?_push_size _ rfl⟩
def G9:V->Bool
 | .non=>true
 | .bl _=>true
 | .int _=>true
 | .str _=>true
 |_=>false
def O7:V->V->Bool
 | .non,.non=>true
 | .bl a,.bl b=>a == b
 | .bl a,.int b=>(if a then 1 else 0) == b
 | .int a,.bl b=>a == (if b then 1 else 0)
 | .int a,.int b=>a == b
 | .str a,.str b=>a == b
 |_,_=>false
theorem Qn {A:Around}{s:Shared}{y x:V}{u v:Value}(ry:RelV y u)(rx:RelV x v)(fy:G9 y=true)(fx:G9 x=true):SeqAt.EqAt A s u v (O7 y x):=by
 cases y with
 |non=>
  cases ry;cases x with
  |non=>cases rx;exact SeqAt.EqAt.same _
  |bl b=>cases rx;exact SeqAt.EqAt.none_bool b
  |int b=>obtain⟨t,rfl⟩:=rx;exact SeqAt.EqAt.none_int b t
  |str b=>obtain⟨t,rfl⟩:=rx;exact SeqAt.EqAt.none_str b t
  |_=>exact absurd (show false=true from fx) Bool.false_ne_true
 |bl a=>
  cases ry;cases x with
  |non=>cases rx;exact SeqAt.EqAt.bool_none a
  |bl b=>cases rx;exact SeqAt.EqAt.bool_bool a b
  |int b=>obtain⟨t,rfl⟩:=rx;exact SeqAt.EqAt.bool_int a b t
  |str b=>obtain⟨t,rfl⟩:=rx;exact SeqAt.EqAt.bool_str a b t
  |_=>exact absurd (show false=true from fx) Bool.false_ne_true
 |int a=>
  obtain⟨t',rfl⟩:=ry;cases x with
  |non=>cases rx;exact SeqAt.EqAt.int_none a t'
  |bl b=>cases rx;exact SeqAt.EqAt.int_bool a t' b
  |int b=>obtain⟨t,rfl⟩:=rx;exact SeqAt.EqAt.int_int a t' b t
  |str b=>obtain⟨t,rfl⟩:=rx;exact SeqAt.EqAt.int_str a t' b t
  |_=>exact absurd (show false=true from fx) Bool.false_ne_true
 |str a=>
  obtain⟨t',rfl⟩:=ry;cases x with
  |non=>cases rx;exact SeqAt.EqAt.str_none a t'
  |bl b=>cases rx;exact SeqAt.EqAt.str_bool a t' b
  |int b=>obtain⟨t,rfl⟩:=rx;exact SeqAt.EqAt.str_int a t' b t
  |str b=>obtain⟨t,rfl⟩:=rx;exact SeqAt.EqAt.str_str a t' b t
  |_=>exact absurd (show false=true from fx) Bool.false_ne_true
 |_=>exact absurd (show false=true from fy) Bool.false_ne_true
def Tc (x:V)(u:Value):Bool:=match u with
 | .none=>O7 .non x
 | .bool b=>O7 (.bl b) x
 | .int i _=>O7 (.int i) x
 | .str z _=>O7 (.str z) x
 |_=>false
theorem Ru {x y:V}{u:Value}(r:RelV y u)(f:G9 y=true):Tc x u=O7 y x:=by
 cases y with
 |non=>cases r;rfl
 |bl b=>cases r;rfl
 |int i=>obtain⟨t,rfl⟩:=r;rfl
 |str z=>obtain⟨t,rfl⟩:=r;rfl
 |_=>exact absurd (show false=true from f) Bool.false_ne_true
theorem Le {x:V}:∀{xs:List V} {us:List Value},AN xs us->xs.all G9=true->us.any (Tc x)=xs.any fun y=>O7 y x
 |_,_,.nil,_=>rfl
 |y::xs,u::us,.cons r t,f=>by
  rw[List.all_cons,Bool.and_eq_true] at f;rw[List.any_cons,List.any_cons,Ru r f.1,Le t f.2]
theorem Jy {A:Around}{s:Shared}{x:V}{v:Value}(rx:RelV x v)(fx:G9 x=true):∀{xs:List V} {us:List Value},AN xs us->xs.all G9=true->∀u∈us,SeqAt.EqAt A s u v (Tc x u)
 |_,_,.nil,_=>fun u hu=>by cases hu
 |y::xs,u::us,.cons r t,f=>fun u' hu=>by
  rw[List.all_cons,Bool.and_eq_true] at f;rcases List.mem_cons.mp hu with rfl|hu
  ·rw[Ru r f.1];exact Qn r rx f.1 fx
  ·exact Jy rx fx t f.2 u' hu
def Wu (x:V)(xs:List V):Bool:=xs.any fun y=>O7 y x
def Xh (K:PySem.W.Frag)(neg:Bool):R2:=fun x y H Q=>∃p xs,y=.ref p/\(AR K H p xs\/AE K H p xs)/\G9 x=true/\xs.all G9=true/\Q (.bl (if neg then !Wu x xs else Wu x xs)) H
theorem PJ:E1 X (compareOp .In) (Xh X.K false):=by
 intro pins s σ H x y v u Q I rx ry h;obtain⟨p,xs,rfl,hq,fx,fs,q⟩:=h;cases ry;rcases hq with hq|hq
 ·obtain⟨AC,r,pl,hz⟩:=I.list hq;refine SeqAt.in_listAt (Tc x) pl.isList (fun w hw=>Jy rx fx r fs w (by simpa using hw)) ⟨.bl _,H,I,rfl,?_⟩;rw[show AC.toArray.any (Tc x)=AC.any (Tc x) by simp,Le r fs];exact q
 ·obtain⟨AC,r,pl,hz⟩:=I.tuple hq;refine SeqAt.in_tupleAt (Tc x) pl (fun w hw=>Jy rx fx r fs w (by simpa using hw)) ⟨.bl _,H,I,rfl,?_⟩;rw[show AC.toArray.any (Tc x)=AC.any (Tc x) by simp,Le r fs];exact q
theorem AM:Ct X (.builtin "len") (fun xs H Q=>∃p ys,xs=[.ref p]/\(AR X.K H p ys\/AE X.K H p ys)/\Q (.int ys.length) H):=by
 intro pins s σ H xs us Q I r h;obtain⟨p,ys,rfl,hq,q⟩:=h;obtain⟨u,rfl,rx⟩:=vals1 r;cases rx;have hn:=Ln;rcases hq with hq|hq
 ·obtain⟨AC,r',pl,hz⟩:=I.list hq;have hlen:=r'.length;exact Calls.call_len_list pl.isList (by simp only[List.size_toArray]<;>omega) ⟨.int ys.length,H,I.tok _,⟨s.toks+1,by rw[List.size_toArray,hlen]⟩,q⟩
 ·obtain⟨AC,r',pl,hz⟩:=I.tuple hq;have hlen:=r'.length;exact len_tuple pl (by simp only[List.size_toArray]<;>omega) ⟨.int ys.length,H,I.tok _,⟨s.toks+1,by rw[List.size_toArray,hlen]⟩,q⟩
theorem LV:Ct X (.builtin "len") (fun xs H Q=>∃z,xs=[.str z]/\z.length<=sizeLine/\Q (.int z.length) H):=by
 intro pins s σ H xs us Q I r h;obtain⟨z,rfl,hz,q⟩:=h;obtain⟨u,rfl,t,rfl⟩:=vals1 r;have hn:=Ln;exact len_str (by omega) ⟨.int z.length,H,I.tok _,⟨_,rfl⟩,q⟩
theorem LC:Ct X (.type "list") (fun xs H Q=>∃p ys,xs=[.ref p]/\(AR X.K H p ys\/AE X.K H p ys)/\∀l,H l=none->Q (.ref l) (upd H l (.lst ys))):=by
 intro pins s σ H xs us Q I r h;obtain⟨p,ys,rfl,hq,q⟩:=h;obtain⟨u,rfl,rx⟩:=vals1 r;cases rx;have fin:∀(AC:List Value),AN ys AC->ys.length<=sizeLine->∀(h':Heap) (c':Nat),(∀b o',s.heap.get? b=some o'->h'.get? b=some o')->
   h'.get? s.heap.objs.size=some { cls:=.type "list",dict:=none,data:=.seq AC.toArray c',slots:=#[] }->EP X pins σ Q (.ref s.heap.objs.size) { s with heap:=h' }:=fun AC r' hz h' c' kp e=>
  ⟨.ref s.heap.objs.size,_,I.laid (t':=s.toks) kp (Nat.le_refl _) (show AX X.prog X.w _ h' _ (.lst ys) from⟨hz,AC,c',r',e⟩),rfl,q _ (I.hok.fresh (Nat.le_refl _))⟩
 rcases hq with hq|hq
 ·obtain⟨AC,r',pl,hz⟩:=I.list hq;have hlen:=r'.length;obtain⟨o,ho,hc,n,hd⟩:=pl.isList;exact call_list_seq p (.inl rfl) ho hc hd (fun h' c' kp e=>fin AC r' hz h' c' kp e) (by simp only[List.size_toArray]<;>omega)
 ·obtain⟨AC,r',pl,hz⟩:=I.tuple hq;have hlen:=r'.length;obtain⟨o,ho,hc,n,hd⟩:=pl;exact call_list_seq p (.inr rfl) ho hc hd (fun h' c' kp e=>fin AC r' hz h' c' kp e) (by simp only[List.size_toArray]<;>omega)
theorem Cv:Ct X (.type "tuple") (fun xs H Q=>∃p ys,xs=[.ref p]/\((AR X.K H p ys/\∀l,H l=none->Q (.ref l) (upd H l (.tup ys)))\/(AE X.K H p ys/\Q (.ref p) H))):=by
 intro pins s σ H xs us Q I r h;obtain⟨p,ys,rfl,h⟩:=h;obtain⟨u,rfl,rx⟩:=vals1 r;cases rx;rcases h with⟨hq,q⟩|⟨hq,q⟩
 ·obtain⟨AC,r',pl,hz⟩:=I.list hq;have hlen:=r'.length;refine call_tuple_list pl.isList (fun h' kp=>?_) (by simp only[List.size_toArray]<;>omega);have I1:Inv X pins σ H { s with heap:=h' }:=I.kept (t':=s.toks) kp;have I2:Inv X pins σ (upd H h'.objs.size (.tup ys)) { s with heap:=h'.push { cls:=.type "tuple",data:=.seq AC.toArray } }:=
   I1.laid (t':=s.toks) (fun b o e=>Heap.get?_push_of_some _ e) (Nat.le_refl _) (show AX X.prog X.w _ _ _ (.tup ys) from⟨hz,AC,r',JV.new _ _⟩)
  exact⟨.ref h'.objs.size,_,I2,rfl,q _ (I1.hok.fresh (Nat.le_refl _))⟩
 ·obtain⟨AC,r',pl,hz⟩:=I.tuple hq;exact call_tuple_same pl ⟨.ref p,H,I,rfl,q⟩
def Xf (K:PySem.W.Frag)(T:String)(x:V)(H:Hp):Prop:=match x with
 | .str _=>T="str"
 | .int _=>T="int"
 | .ref p=>(T="list"/\∃xs,AR K H p xs)\/(T="tuple"/\∃o,K.lookup p=some o/\o.cls=.type "tuple"/\o.dict=none)\/
   (T="dict"/\((∃kvs,H p=some (.dK kvs))\/∃kvs,H p=some (.dT kvs)))\/(T="set"/\∃S n,H p=some (.set S n))
 |_=>False
theorem UY {pins:List (Addr×Obj)}{σ:St}{H:Hp}{s:Shared}{T:String}{x:V}{v:Value}(I:Inv X pins σ H s)(r:RelV x v)(ty:Xf X.K T x H) :
  s.TypeIs v T/\∀a,v=.ref a->∃ob,s.heap.get? a=some ob/\ob.dict=none:=by
 cases x with
 |str z=>
  obtain⟨t,rfl⟩:=r;cases(show T="str" from ty);exact⟨typeIs_str s z t,fun _ e=>nomatch e⟩
 |int i=>
  obtain⟨t,rfl⟩:=r;cases(show T="int" from ty);exact⟨typeIs_int s i t,fun _ e=>nomatch e⟩
 |ref p=>
  cases r;rcases ty with⟨rfl,xs,hq⟩|⟨rfl,o,hk,hc,hd⟩|⟨rfl,hk⟩|⟨rfl,S,n,hk⟩
  ·obtain⟨AC,_,pl,_⟩:=I.list hq;refine⟨pl.isList.typeIs,fun a e=>?_⟩;cases e;obtain⟨o,n,e,c,hd,_⟩:=pl;exact⟨o,e,hd⟩
  ·refine⟨⟨o,I.kIn p o hk,hc⟩,fun a e=>?_⟩;cases e;exact⟨o,I.kIn _ o hk,hd⟩
  ·have z:∃o,s.heap.get? p=some o/\o.ExactDict:=by
    rcases hk with⟨kvs,hk⟩|⟨kvs,hk⟩
    ·obtain⟨_,_,_,_,o,_,_,e,ex,_⟩:=I.hok p _ hk;exact⟨o,e,ex⟩
    ·obtain⟨_,_,_,_,o,_,_,e,ex,_⟩:=I.hok p _ hk;exact⟨o,e,ex⟩
   obtain⟨o,e,ex⟩:=z;refine⟨⟨o,e,ex.1⟩,fun a e2=>?_⟩;cases e2;exact⟨o,e,ex.2.1⟩
  ·obtain⟨o,_,_,_,e,ex,_⟩:=I.hok p _ hk;refine⟨⟨o,e,ex.1⟩,fun a e2=>?_⟩;cases e2;exact⟨o,e,ex.2.1⟩
 |_=>exact False.elim ty
def Xc (K:PySem.W.Frag)(T:String)(r:V->List V->Hp->VK->Prop)(to:TE)(t:TA):TE:=fun σ H Q=>to σ H fun x H1=>Xf K T x H1/\t σ H1 fun xs H2=>r x xs H2 Q
variable {o e:Expr}{es:List Expr}{to:TE}{t:TA}{name:Str}{apos cpos:Pos}{T id:String}{r:V->List V->Hp->VK->Prop}
theorem GX (pa:PlainAttrs T) (slot:Slot T name id) (hty:typeOf (.builtin id)=pure (.type "method_descriptor")) (hm:Xj X id r) (ho:PE X o to) (ha:PA X (e::es) t)
  (hbase:attributeBase o name X.env (eval o X.env)=eval o X.env:=by rfl)
  (hfew:((backTo cpos (starEach (e::es) X.env)).all (fun x=>!x.1)&&(backToKw cpos (keywordEach [] X.env)).all (fun x=>x.1.isSome)
   && decide ((e::es).length+([]:List Keyword).length+(if([]:List Keyword).isEmpty then 0 else 1)<30))=true:=by rfl)
  (hline:(apos.endLine == cpos.line)=true:=by rfl) (hs:starEach (e::es) X.env=(false,eval e X.env)::starEach es X.env:=by rfl) (hplain:(backTo cpos (starEach es X.env)).any (·.1)=false:=by rfl) :
  PE X (.Call (.Attribute o name apos) (e::es) [] cpos) (Xc X.K T r to t):=by
 intro pins s σ H Q I h;refine wpAny_Call_method_late hbase hfew hline rfl (Bw (ho pins s σ H _ I h) fun v s1 ⟨x,H1,I1,r1,ty,q1⟩=>?_);obtain⟨h1,h2⟩:=UY I1 r1 ty;refine⟨T,id,pa,slot,hty,h1,h2,?_⟩;have hA:=ha cpos pins s1 σ H1 _ I1 q1;rw[hs] at hA ⊢;refine Calls.callWith_builtin (by show(false||(backTo cpos (starEach es X.env)).any (·.1))=false;rw[hplain]<;>rfl) (Calls.evalArgs_plain ?_);exact Bw hA fun us s2 ⟨vs,H2,I2,r2,q2⟩=>hm pins s2 σ H2 x vs v us Q I2 r1 r2 q2
end
def Xe (X:Cx)(id:String)(r:V->List V->Hp->VK->Prop):Prop:=
 ∀(pins:List (Addr×Obj)) (s:Shared) (σ:St) (H:Hp) (x:V) (xs:List V) (v:Value) (us:List Value) (Q:VK),Inv X pins σ H s->RelV x v->AN xs us->r x xs H Q->
  wpAny (model X.prog X.w) X.A (call (.builtin id) (v::us)) (EP X pins σ Q) X.xe s
theorem AN.one:∀{x:V} {us:List Value},AN [x] us->∃u,us=[u]/\RelV x u
 |_,_,.cons r .nil=>⟨_,rfl,r⟩
theorem AN.two:∀{x y:V} {us:List Value},AN [x,y] us->∃u v,us=[u,v]/\RelV x u/\RelV y v
 |_,_,_,.cons r (.cons q .nil)=>⟨_,_,rfl,r,q⟩
theorem AN.zero:∀{us:List Value},AN [] us->us=[]
 |_,.nil=>rfl
theorem AN.eraseIdx:∀{xs:List V} {us:List Value} (i:Nat),AN xs us->AN (xs.eraseIdx i) (us.eraseIdx i)
 |_,_,_,.nil=>.nil
 |_,_,0,.cons _ t=>t
 |_,_,i+1,.cons r t=>.cons r (AN.eraseIdx i t)
theorem AN.reverse {xs:List V}{us:List Value}(h:AN xs us):AN xs.reverse us.reverse:=by
 induction h with
 |nil=>exact .nil
 |cons r t ih=>rw[List.reverse_cons,List.reverse_cons];exact AN.append ih (.cons r .nil)
theorem AN.rep {xs:List V}{us:List Value}(h:AN xs us):∀k:Nat,AN (List.replicate k xs).flatten (List.replicate k us).flatten
 |0=>.nil
 |k+1=>by
  rw[List.replicate_succ,List.replicate_succ,List.flatten_cons,List.flatten_cons];exact AN.append h (AN.rep h k)
theorem foldl_rep (AC:List Value):∀(k:Nat) (acc:List Value),
  List.foldl (fun x1 x2=>x1++x2) acc.toArray (List.replicate k AC.toArray)=(acc++(List.replicate k AC).flatten).toArray
 |0,acc=>by simp
 |k+1,acc=>by
  have e:acc.toArray++AC.toArray=(acc++AC).toArray:=by simp
  have e2:(acc++AC)++(List.replicate k AC).flatten=acc++(List.replicate (k+1) AC).flatten:=by
   rw[List.replicate_succ,List.flatten_cons,List.append_assoc]
  rw[<-e2,<-foldl_rep AC k (acc++AC),<-e,List.replicate_succ,List.foldl_cons]
section
variable {X:Cx}{pins:List (Addr×Obj)}{σ:St}{H:Hp}{s:Shared}{l b:Addr}{xs ys zs:List V}
theorem Inv.lset {AC its':List Value} {n:Nat} {f:Array Value->Array Value} {t':Nat} (I:Inv X pins σ H s) (hH:H l=some (.lst xs))
  (e:s.heap.get? l=some { cls:=.type "list",data:=.seq AC.toArray n }) (hf:f AC.toArray=its'.toArray) (hv:AN ys its') (hz:ys.length<=sizeLine) :
  Inv X pins σ (upd H l (.lst ys)) { s with heap:=s.heap.update l (Obj.mapSeq f),toks:=t' }:=by
 have q:=PySem.IsL.update e f;rw[hf] at q;refine I.write (x:=l) (e:=l) (by rw[hH];exact trivial) (.inl rfl) (fun b' u hb hu=>(Heap.get?_update_other s.heap (Obj.mapSeq f) (Ne.symm hb)).trans hu) ⟨_,q⟩ ?_;exact⟨hz,its',_,hv,q⟩
theorem Inv.lnew {AC:List Value}{t':Nat}(I:Inv X pins σ H s)(hv:AN ys AC)(hz:ys.length<=sizeLine) :
  Inv X pins σ (upd H s.heap.objs.size (.lst ys)) { s with heap:=s.heap.push { cls:=.type "list",data:=.seq AC.toArray },toks:=t' }:=
 I.laid (fun _ _ q=>Heap.get?_push_of_some _ q) (Nat.le_refl _) ⟨hz,AC,0,hv,Heap.get?_push_size _ rfl⟩
theorem Inv.fresh (I:Inv X pins σ H s):H s.heap.objs.size=none:=I.hok.fresh (Nat.le_refl _)
theorem Inv.lstM (I:Inv X pins σ H s)(hH:H l=some (.lst xs)):xs.length<=sizeLine/\∃(AC:List Value) (n:Nat),AN xs AC/\xs.length=AC.length/\s.heap.get? l=some { cls:=.type "list",data:=.seq AC.toArray n }:=by
 obtain⟨z,AC,n,r,e⟩:=I.hok l _ hH;exact⟨z,AC,n,r,r.length,e⟩
theorem Mn {n:Nat}(h:n<=sizeLine):Builtin.List.listTooLong n=false:=by
 unfold Builtin.List.listTooLong;exact decide_eq_false (by omega)
end
section
variable {X:Cx}
def SK:V->List V->Hp->VK->Prop:=fun x vs H Q=>∃l xs y,x=.ref l/\vs=[y]/\H l=some (.lst xs)/\xs.length<sizeLine/\Q .non (upd H l (.lst (xs++[y])))
theorem DM:Xe X "list.append" SK:=by
 intro pins s σ H x vs v us Q I rx rv h;obtain⟨l,xs,y,rfl,rfl,hH,hz,q⟩:=h;cases rx;obtain⟨u,rfl,ru⟩:=rv.one;obtain⟨z,AC,n,r,hl,e⟩:=I.lstM hH;refine call_meets F.slot_list_append ⟨_,e,rfl⟩ F.entry_list_append (F.args_list_append_2 _ _) (PySem.list_append l AC.toArray n u (by rw[List.size_toArray];omega)) ⟨e,?_⟩;refine⟨.non,_,I.lset (its':=AC++[u]) hH e (by simp) (r.append (.cons ru .nil)) ?_,rfl,q⟩;rw[List.length_append,List.length_singleton];omega
def Tx:V->List V->Hp->VK->Prop:=fun x vs H Q=>∃l b xs zs,x=.ref l/\vs=[.ref b]/\H l=some (.lst xs)/\H b=some (.lst zs)/\xs.length+zs.length<=sizeLine/\Q .non (upd H l (.lst (xs++zs)))
theorem HW:Xe X "list.extend" Tx:=by
 intro pins s σ H x vs v us Q I rx rv h;obtain⟨l,b,xs,zs,rfl,rfl,hH,hB,hz,q⟩:=h;cases rx;obtain⟨u,rfl,ru⟩:=rv.one;cases ru;obtain⟨z,AC,n,r,hl,e⟩:=I.lstM hH;obtain⟨z2,its2,n2,r2,hl2,e2⟩:=I.lstM hB;have hsz:AC.toArray.size+its2.toArray.size<=sizeLine:=by rw[List.size_toArray,List.size_toArray];omega
 have hlong:¬(!AC.toArray.isEmpty&&Builtin.List.listTooLong (AC.toArray.size+its2.toArray.size))=true:=by
  rw[Mn hsz,Bool.and_false];exact Bool.false_ne_true
 refine call_meets F.slot_list_extend ⟨_,e,rfl⟩ F.entry_list_extend (F.args_list_extend_2 _ _)
  (AutoSeq1.list_extend_list_list_0 l AC.toArray n b its2.toArray n2 hlong (by rw[List.size_toArray];omega) (by omega)) ⟨e,e2,?_⟩
 refine⟨.non,_,I.lset (its':=AC++its2) hH e (by simp) (r.append r2) ?_,rfl,q⟩;rw[List.length_append];omega
def WZ:R2:=fun x y H Q=>∃l k xs,x=.ref l/\y=.int k/\H l=some (.lst xs)/\-(2^63)<=k/\k<2^63/\xs.length*k.toNat<=sizeLine/\
 ∀p,H p=none->Q (.ref p) (upd H p (.lst (List.replicate k.toNat xs).flatten))
theorem len_rep {α:Type}(xs:List α)(k:Nat):(List.replicate k xs).flatten.length=k*xs.length:=by
 induction k with
 |zero=>simp
 |succ k ih=>rw[List.replicate_succ,List.flatten_cons,List.length_append,ih,Nat.succ_mul,Nat.add_comm]
theorem UJ:E1 X (binaryOp .Mult) WZ:=by
 intro pins s σ H x y v u Q I rx ry h;obtain⟨l,k,xs,rfl,rfl,hH,h1,h2,hz,q⟩:=h;cases rx;obtain⟨t,rfl⟩:=ry;obtain⟨z,AC,n,r,hl,e⟩:=I.lstM hH;have hlen:AC.toArray.size*k.toNat<=sizeLine:=by rw[List.size_toArray,<-hl];exact hz
 have hcap:¬AC.toArray.size*k.toNat>(2^63-1)/8:=by
  have:(sizeLine:Nat)<=(2^63-1)/8:=by decide
  omega
 have hfit:¬(!Builtin.List.listFitsIndex k)=true:=by
  rw[fitsIndex_both h1 h2];exact Bool.false_ne_true
 have hlong:¬Builtin.List.listTooLong (AC.toArray.size*k.toNat)=true:=by
  rw[Mn hlen];exact Bool.false_ne_true
 have hnew:List.foldl (fun x1 x2=>x1++x2) #[] (List.replicate (if AC.toArray.isEmpty=true then 0 else k.toNat) AC.toArray)=(List.replicate k.toNat AC).flatten.toArray:=by
  have f0:∀m:Nat,List.foldl (fun x1 x2=>x1++x2) #[] (List.replicate m AC.toArray)=(List.replicate m AC).flatten.toArray:=fun m=>by
   have:=foldl_rep AC m [];rw[List.nil_append] at this;exact this
  rw[f0];cases AC with
  |nil=>simp
  |cons a r'=>rw[if_neg (by simp)]
 refine wpAny_binaryOp_repeat_ref (T:="list") (U:="int") (by decide) ⟨_,e,rfl⟩ (fun s'=>typeIs_int s' k t) noFill_list_mul F.fills_int_mul F.slot_int_rmul repeat_list F.slot_int_index.lookup
  (call_meets F.slot_int_rmul (typeIs_int s k t) F.entry_int_rmul (F.args_int_rmul_2 _ _) (int___rmul___int_list k t l AC.toArray n)
   ⟨e,rfl,⟨_,e,rfl⟩,call_meets F.slot_list_mul ⟨_,e,rfl⟩ F.entry_list_mul (F.args_list_mul_2 _ _) (AutoListH.list___mul___list_int_3 l AC.toArray n k t hfit hcap hlong) ⟨e,?_⟩⟩)
 rw[hnew];exact⟨.ref _,_,I.lnew (t':=s.toks) (r.rep k.toNat) (by rw[len_rep,Nat.mul_comm];exact hz),rfl,q _ I.fresh⟩
end
end L2
namespace Att
open PySem PySem.W PySem.Calls PyProof.Rows
theorem Ir {P:Params}{h:Heap}:∀(ns:List Int) (vs:List Value),WellAll P h vs (ns.map WData.int)->IntsAre vs ns:=by
 intro ns
 induction ns with
 |nil=>
  intro vs w;rw[List.map_nil] at w;cases w;exact .nil
 |cons n ns ih=>
  intro vs w;rw[List.map_cons] at w;cases w with
  |cons a b=>
   cases a;exact .cons _ _ (ih _ b)
theorem PX {l:OpenLaw} {n:Nat} (hn:l.most=some n) {P:Params} {h:Heap} {args:List WData} {vals:List Value}
  (hpre:l.row.toRowW.claim.pre args=true) (hwl:WellAll P h vals args) :
  ∃a vs ns,vals=[Value.ref a]/\args=[WData.list (ns.map WData.int)]/\h.get? a=some { cls:=.type "list",data:=.seq vs.toArray }/\IntsAre vs ns/\ns.length<=n:=by
 have hsh:WShape.hasAll [] args [.list .int]=true:=(pre_splitW hpre).1;have hc:l.pre.holds [] { args:=args }=true:=(pre_splitW hpre).2;obtain⟨d,r,rfl,h1,h2⟩:=hasAllW_cons hsh;obtain rfl:=hasAllW_nil h2;obtain⟨xs,rfl,h3⟩:=hasW_list h1;obtain⟨ns,rfl⟩:=items_int h3;have hlen:ns.length<=n:=by
  unfold OpenLaw.pre at hc;have h4:(WTm.not (.lt (.lit (.int (n:Int))) (.len (.arg 0)))).holds [] { args:=[.list (ns.map .int)] }=true:=by
   have h4:=(holds_andW hc).1;rw[hn] at h4;exact h4
  have h5:=condW_of h4 (w_not (w_lt w_lit (w_len_list (w_arg rfl))));rw[List.length_map] at h5;refine Nat.le_of_not_lt fun q=>?_
  have q':(n:Int)<((ns.length:Nat):Int):=by omega
  first
   |(rw[decide_eq_true q'] at h5;exact absurd h5 (by decide))
   |(simp at h5;omega)
 cases hwl with
 |cons w1 w2=>
  cases w2;cases w1 with
  |list ho hall=>exact⟨_,_,ns,rfl,rfl,ho,Ir ns _ hall,hlen⟩
theorem PR (l:OpenLaw)(args:List WData):l.row.toRowW.claim.post args (.bool true) args=true:=
 postW_of (r:=l.row.toRowW) (X:=(true == true))
  (show WShape.has [] (.bool true) .bool=true by first|rfl|decide|simp[WShape.has,WShape.arms,WShape.armsAll])
  (show(WTm.eq .res (.lit (.bool true))).value [] { args:=args,res:=some (.bool true),after:=args }=some (.bool (true == true)) from w_eq_bool (w_res rfl) w_lit) rfl
theorem Ma {l:OpenLaw} {n:Nat} {q:Program} {loose:List Str} {XP:(Str->Option Value)->Heap->Prop} {YP:World->Heap->Prop} {d:DefRec}
  (hn:l.most=some n) (hdf:d.params.defaults=[])
  (call:∀(w:World) (s₀ s₁:Shared) (mg mb:Str->Option Value) (fa:Addr) (o:Obj) (pm cd doc:Value) (a:Addr) (vs:List Value) (ns:List Int),
   Ground q loose [] XP w s₀ mg mb s₁.heap->YP w s₁.heap->
   s₁.heap.get? fa=some o->o.data=.func (docDef d.name d.params d.body d.scope pm cd doc)->s₁.heap.CodeRec cd d.name->mg d.name=some (.ref fa)->
   s₁.heap.get? a=some { cls:=.type "list",data:=.seq vs.toArray }->IntsAre vs ns->ns.length<=n->s₁.gens = #[]->
   codeAny (model l.prog w) callerA (.call (.ref fa) ⟨[.ref a],[]⟩) (fun r s'=>r=.ok (.ret (.bool true))/\OldK s₁.heap s'.heap/\s'.os=s₁.os/\AllBare s'.gens) s₁) :
  WalkO q loose XP YP l.row.toRowW d [] (fun f vs=>PySem.call f vs):=by
 intro w s₀ s₁ mg mb G Y fa o pm cd doc dV kV ho hd hcd hD hmg hg args vals as hpre hlay hrd hwl hlo;obtain rfl:dV=.none:=Dflts.none hD hdf;obtain rfl:kV=.none:=Dflts.noKw hD;obtain⟨a,vs,ns,rfl,rfl,hobj,hints,hlen⟩:=PX hn hpre hwl;refine enter_call (codeAny_mono (call w s₀ s₁ mg mb fa o pm cd doc a vs ns G Y ho (fd_plain hd) hcd hmg hobj hints hlen hg) fun r s' hq=>?_);obtain⟨rfl,h2,h3,h4⟩:=hq;exact⟨.inl ⟨.bool true,.bool true,[],rfl,fun _=>rfl,.bool true,PR l _,fun _=>⟨List.Pairwise.nil,fun _ hm=>(nomatch hm)⟩⟩,h2,h3,h4⟩
section
variable {prog:Program}{w:World}{A:Around}{E:Value->Shared->Prop}{s:Shared}{K:Frag}
def JC (h:Heap):Heap:={ h with objs:=#[] }
theorem GJ (h:Heap)(b:Addr):(JC h).get? b=none:=by
 cases e:(JC h).get? b with
 |none=>rfl
 |some o=>exact absurd (Heap.lt_size e) (Nat.not_lt_zero _)
def ledger (h:Heap)(L d:Addr):List (Addr×Obj):=(List.range h.objs.size).filterMap fun a=>if a=L\/a=d then none else(h.get? a).map fun o=>(a,o)
theorem GN {h:Heap}{L d a:Addr}{o:Obj}:(a,o)∈ledger h L d↔a≠L/\a≠d/\h.get? a=some o:=by
 unfold ledger;rw[List.mem_filterMap];constructor
 ·rintro⟨b,_,e⟩
  split at e
  ·cases e
  ·rename_i hb
   obtain⟨o',ho,e'⟩:=Option.map_eq_some_iff.mp e;cases e';exact⟨fun q=>hb (.inl q),fun q=>hb (.inr q),ho⟩
 ·rintro⟨n1,n2,ho⟩
  refine⟨a,List.mem_range.mpr (Heap.lt_size ho),?_⟩;rw[if_neg (show ¬(a=L\/a=d) from fun q=>q.elim n1 n2),ho]<;>rfl
theorem MF {h:Heap}{L d:Addr}{od:Obj}(hne:d≠L)(ho:h.get? d=some od):News (JC h) L h ([]++(d,od)::ledger h L d):=by
 rintro⟨a,o⟩ hp
 rcases List.mem_cons.mp hp with e|hp
 ·cases e;exact⟨ho,hne,GJ _ _⟩
 ·obtain⟨n1,n2,e⟩:=GN.mp hp;exact⟨e,n1,GJ _ _⟩
theorem Ud {h:Heap}{L:Addr}{m:Str->Option Value}(n:h.Ns L m):Fr (JC h) L h m:=
 ⟨n,fun b o e=>(by rw[GJ] at e;cases e),Nat.zero_le _⟩
theorem Df {x C dx L:Addr} {ox:Obj} {m:Str->Option Value} {es es':List DictEntry} {n n':Nat} {name:Str} {v:Value} {Q:Unit->Shared->Prop}
  (X:K.In s.heap) (I:PySem.W.InstAt s.heap x ox C (some (dictOf es n))) (hd:ox.dict=some dx) (hL:s.heap.Ns L m) (hne:dx≠L)
  (hs:findIn K (.ref C) "__setattr__"=some (some (.builtin "object.__setattr__"))) (hp:plainOver K C=true) (ht:takerIn K C name=some none) (hh:hasDictIn K C=true) (hl:(getL name es).isSome=true)
  (e:(putL name (PyData.keyHash w.params name) (.str name (s.toks+1)) v es,putN name es n)=(es',n')) (hz:es'.length<=1000)
  (h:∀h':Heap,h'.Ns L m->h'.get? dx=some (dictOf es' n')->(∀b o,b≠dx->b≠L->s.heap.get? b=some o->h'.get? b=some o)->Q () { s with heap:=h',toks:=s.toks+2 }) :
  wpAny (model prog w) A (setAttr (.ref x) name v) Q E s:=by
 obtain⟨e1,e2⟩:=Prod.mk.inj e;have hdx:s.heap.get? dx=some (dictOf es n):=by
  have:=I.dict;rw[hd] at this;exact this
 refine set_plain X I hs (osa_dict (s:={ s with toks:=s.toks+1 }) (h₀:=JC s.heap) (L:=L) (m:=m) (od:=dictOf es n) (od':=dictOf es' n') (es:=es') (n:=n') (pre:=[]) (post:=ledger s.heap L dx)
  (Ud hL) (MF hne hdx) X I hd hp ht hh hl (fun _ q=>nomatch q) (fun⟨_,_⟩ q=>(GN.mp q).2.1) (by rw[putName_dict,e1,e2]) rfl hz fun h' F' N'=>?_)
 exact h h' F'.ns (N'.get (List.Mem.head _)) fun b o n1 n2 ho=>N'.get (List.Mem.tail _ (GN.mpr ⟨n2,n1,ho⟩))
end
end Att
namespace L2
open PySem PySem.Spec PyProof.Rows
theorem HS:∀{vs:List Value} {ns:List Int},IntsAre vs ns->AN (ns.map V.int) vs
 |_,_,.nil=>.nil
 |_,_,.cons n t h=>.cons ⟨t,rfl⟩ (HS h)
def Az (s:Stmt):Arguments:=match s with
 | .FunctionDef _ a _ _ _ _ _ _ _ _=>a
 |_=>{ posonlyargs:=[],args:=[],vararg:=none,kwonlyargs:=[],kw_defaults:=[],kwarg:=none,defaults:=[] }
def Ay (s:Stmt):List Stmt:=match s with
 | .FunctionDef _ _ b _ _ _ _ _ _ _=>b
 |_=>[]
def Af (s:Stmt):Scope:=match s with
 | .FunctionDef _ _ _ _ _ _ sc _ _ _=>sc
 |_=>{ kind:=.function,names:=[],isGenerator:=false,isCoroutine:=false }
abbrev CP:Qb:=fun _ _ _ _ _ _=>False
abbrev E0:XK:=fun _ _ _=>False
theorem VS {X:Cx}:Nb CP X E0:=fun _ _ _ _ _ _ _ h=>h.elim
structure Fun (K:PySem.W.Frag) (x qual:Str) (st:Stmt) (f:Addr) (fd:FuncData):Prop where
 ex:∃(oc:Value) (od:Option Addr) (kV doc pm:Value) (an:Option Addr) (cdv ct:Value) (osl:Array (Option Value)),
  fd=PySem.W.fnOf x qual (Az st) (Ay st) (Af st) .none kV doc pm an cdv ct/\K.lookup f=some ⟨oc,od,.func fd,osl⟩/\PySem.W.codeIn K cdv qual=true
 kp:PySem.W.keepIn K (.ref f)=true
section
variable {P:Program}{w:World}{K:PySem.W.Frag}{mg:Str->Option Value}{base:Heap}
theorem Fun.ok {x qual:Str} {st:Stmt} {f:Addr} {fd:FuncData} {N ps:List Str} {k:Nat} {sp:Sp} (F:Fun K x qual st f fd) (S:FnScope N ps (Af st)) (len:∀vs H Q E,sp vs H Q E->vs.length=ps.length)
  (hbody:∀(cdv:Value) (A:Around) (outer:List Env) (s:Shared) (H:Hp) (vs:List V) (Q:VK) (E:XK),Room k (A.deeper (envOfC qual (Af st) s.heap.objs.size f cdv))->sp vs H Q E->
   ∃t,OI (Cg CP P w K mg base N qual (Af st) f cdv A outer s H E).nox (Ay st) t/\t { nx:=fun _ H'=>Q .non H',rt:=Q } (start N vs) H):FnOk P w K mg base CP (k+1) f fd ps sp:=by
 obtain⟨oc,od,kV,doc,pm,an,cdv,ct,osl,rfl,lk,hcd⟩:=F.ex;refine TU lk hcd S len fun A outer s H vs Q E hr hsp=>?_
 obtain⟨t,h,q⟩:=hbody cdv A outer s H vs Q E hr hsp;exact⟨t,h.nox,q⟩
theorem Fun.binds {x qual:Str} {st:Stmt} {f:Addr} {fd:FuncData} {ps:List Str} (F:Fun K x qual st f fd)
  (h:∀(kV doc pm:Value) (an:Option Addr) (cdv ct:Value) (us:List Value),us.length=ps.length->bindArgs (PySem.W.fnOf x qual (Az st) (Ay st) (Af st) .none kV doc pm an cdv ct) ⟨us,[]⟩=pure (ps.zip us)):Binds K fd ps []:=by
 obtain⟨oc,od,kV,doc,pm,an,cdv,ct,osl,rfl,lk,hcd⟩:=F.ex;exact .all (h kV doc pm an cdv ct)
theorem AL {x qual:Str} {st:Stmt} {f:Addr} {oc:Value} {od an:Option Addr} {osl:Array (Option Value)} {kV doc pm cdv ct:Value} (l:K.lookup f=some ⟨oc,od,.func (PySem.W.fnOf x qual (Az st) (Ay st) (Af st) .none kV doc pm an cdv ct),osl⟩)
  (c:PySem.W.codeIn K cdv qual=true) (k:PySem.W.keepIn K (.ref f)=true):Fun K x qual st f (PySem.W.fnOf x qual (Az st) (Ay st) (Af st) .none kV doc pm an cdv ct):=⟨⟨oc,od,kV,doc,pm,an,cdv,ct,osl,rfl,l,c⟩,k⟩
end
theorem Cu {A:Around}{k:Nat}(hr:Room k A):A.units+1<cLine:=Nat.lt_of_le_of_lt (Nat.add_le_add_left (by decide:1<=64) _) hr.units
section
variable {X:Cx}
theorem pv (i:Nat) {x:Str} {pos:Pos} (hN:X.N[i]?=some x:=by rfl) (hv:WG X.env.scope x:=by first|exact Or.inl rfl|exact Or.inr (Or.inl rfl)|exact Or.inr (Or.inr rfl)) (hd:(x == ("__debug__":Str))=false:=by decide)
  (hcd:(x == ("__classdict__":Str))=false:=by decide):PE X (.Name x pos) (Iv i):=Ve hN hv hd hcd
end
theorem DH {c A B:Prop}[Decidable c](h1:c->A)(h2:¬c->B):if c then A else B:=by
 by_cases h:c
 ·rw[if_pos h];exact h1 h
 ·rw[if_neg h];exact h2 h
def Ah (H H':Hp):Prop:=∀b o,H b=some o->H' b=some o
theorem Ah.refl (H:Hp):Ah H H:=fun _ _ h=>h
theorem Ah.trans {H H1 H2:Hp}(a:Ah H H1)(b:Ah H1 H2):Ah H H2:=fun c o h=>b c o (a c o h)
theorem Ah.free {H H':Hp}(e:Ah H H'){l:Addr}(h:H' l=Option.none):H l=Option.none:=by
 cases q:H l with
 |none=>rfl
 |some o=>
  rw[e l o q] at h;cases h
theorem Ah.seq {K:PySem.W.Frag}{H H':Hp}{a:Addr}{xs:List V}(e:Ah H H')(h:AR K H a xs):AR K H' a xs:=by
 rcases h with(h|⟨o,h⟩)|h
 ·exact .inl (.inl (e _ _ h))
 ·exact .inl (.inr ⟨o,e _ _ h⟩)
 ·exact .inr h
end L2
set_option maxHeartbeats 1000000
namespace L2
open PySem PySem.Spec PyProof.Rows
section
variable {prog:Program}{w:World}{A:Around}{env:Env}{elt target iter:Expr}{ifs:List Expr}{scope:Scope}{pos:Pos}{it acc:Value}
abbrev TM (env:Env)(ifs:List Expr):Sem Bool:=forIn ifs true fun c r=>(if r=true then(do let ok <-isTrue c env (eval c env);pure (ForInStep.yield ok)) else pure (ForInStep.yield r))
abbrev OY (prog:Program)(w:World)(A:Around)(env:Env)(elt target:Expr)(ifs:List Expr)(it acc:Value)(Ee:Value->Shared->Prop)(over on:Shared->Prop):Shared->Prop:=
 wpAny (model prog w) A (pyNext it) (fun|none,s1=>over s1|some v,s1=>wpAny (model prog w) A (letOwnedTupleGo target it v) (fun _ s2=>wpAny (model prog w) A (assign target env v) (fun _ s3=>wpAny (model prog w) A (TM env ifs) (fun ok s4=>
  if ok=true then wpAny (model prog w) A (eval elt env) (fun x s5=>wpAny (model prog w) A (call (.builtin "list.append") [acc,x]) (fun _=>on) (fun _ _=>False) s5) Ee s4 else on s4) Ee s3) Ee s2) (fun _ _=>False) s1) (fun _ _=>False)
theorem L8 {R:Result->Shared->Prop} {Ee:Value->Shared->Prop} (I:Nat->Shared->Prop) (hE:∀x s,Ee x s->notedBy (model prog w) A env (fun x s=>R (.error x) s) x s)
  (turn:∀n s,I n s->OY prog w A env elt target ifs it acc Ee (R (.ok .next)) (fun s'=>∃m,m<n/\I m s') s) (n:Nat) {s:Shared} (h:I n s) :
  codeAny (model prog w) A (.compLoop (.ListComp elt [⟨target,iter,ifs,0⟩] scope pos) 0 it acc env) R s:=by
 have none':∀{Z:Value->Shared->Prop} (x:Value) (s:Shared),False->Z x s:=fun _ _ z=>z.elim
 refine codeAny_loop rfl I (fun k s1 h1=>?_) n h
 change wpAny _ A ((compTurn (.ListComp elt [⟨target,iter,ifs,0⟩] scope pos) 0 it acc env).onRaise (fun x=>do noteFrame x env;theTreesLotGoes x)) _ _ s1
 refine wpAny_noted ?_;rw[compTurn_list];refine wpAny_bind (wpAny_standAt (wpAny_bind (wpAny_mono (turn k s1 h1) (fun r s2 h2=>?_) none')))
 match r,h2 with
 |none,h2=>exact wpAny_pure h2
 |some v,h2=>
  refine wpAny_bind (wpAny_mono h2 (fun _ s3 h3=>wpAny_bind (wpAny_mono h3 (fun _ s4 h4=>wpAny_bind (wpAny_mono h4 (fun ok s5 h5=>?_) hE)) hE)) none')
  match ok,h5 with
  |false,h5=>exact wpAny_pure ⟨rfl,h5⟩
  |true,h5=>exact wpAny_bind (wpAny_bind (wpAny_mono h5 (fun x s6 h6=>wpAny_bind (wpAny_mono h6 (fun _ s7 h7=>wpAny_pure (wpAny_pure ⟨rfl,h7⟩)) none')) hE))
theorem NK {R:Result->Shared->Prop}(I:Nat->Shared->Prop)(turn:∀n s,I n s->OY prog w A env elt target ifs it acc (fun _ _=>False) (R (.ok .next)) (fun s'=>∃m,m<n/\I m s') s)(n:Nat){s:Shared}(h:I n s) :
  codeAny (model prog w) A (.compLoop (.ListComp elt [⟨target,iter,ifs,0⟩] scope pos) 0 it acc env) R s:=L8 I (fun _ _ z=>z.elim) turn n h
end
def N6 (X:Cx)(ifs:List Expr)(t:TT):Prop:=
 ∀(pins:List (Addr×Obj)) (s:Shared) (σ:St) (H:Hp) (Q:Bool->Hp->Prop),Inv X pins σ H s->t σ H Q->
  wpAny (model X.prog X.w) X.A (forIn ifs true fun c r=>if r=true then do let ok <-isTrue c X.env (eval c X.env);pure (ForInStep.yield ok) else pure (ForInStep.yield r)) (TP X pins σ Q) X.xe s
def MV:TT:=fun _ H Q=>Q true H
theorem AB {X:Cx}:N6 X [] MV:=fun _ _ _ H _ I h=>wpAny_tests_nil ⟨H,I,h⟩
theorem Et {X:Cx}{c:Expr}{t:TT}(h:PT X c t):N6 X [c] t:=fun pins s σ H Q I q=>wpAny_tests_one (h pins s σ H Q I q)
def Bj (X:Cx)(scope:Scope)(cl:List (Str×Addr))(N:List Str)(C:Addr)(s:Shared)(H:Hp)(fp:List Addr):Cx:=
 { prog:=X.prog,w:=X.w,K:=X.K,mg:=X.mg,base:=X.base,A:=X.A,N:=N,s₀:=s,H₀:=H,env:=compEnvC scope cl C X.env,outer:=X.stack,stack:=X.stack,ex:=fp,fn:=fun _=>false,calm:=X.calm,pn:=[],xe:=fun _ _=>False }
def stC (fr:List (Option Nat))(σ:St):St:=fr.map fun o=>o.bind fun i=>(σ[i]?).bind id
def Dd (fr:List (Option Nat))(g:TG)(tt:TT)(te:TE)(σ:St)(Q:VK)(J:It)(H1:Hp):Prop:=∀l,H1 l=none->∃W:Nat->Nat->St->Hp->Prop,(∃m,W 0 m (stC fr σ) (upd H1 l (.lst [])))/\∀i m σ H,W i m σ H->
 (J.stop i H/\Q (.ref l) H)\/(J.go i H/\∀x H',J.yld i H x H'->g x σ H' fun σ2 H2=>tt σ2 H2 fun b H3=>if b=true then te σ2 H3 fun v H4=>∃xs,H4 l=some (.lst xs)/\xs.length<sizeLine/\∃m',m'<m/\W (i+1) m' σ2 (upd H4 l (.lst (xs++[v])))
  else ∃m',m'<m/\W (i+1) m' σ2 H3)
def KI (fr:List (Option Nat))(wi:TI)(g:TG)(tt:TT)(te:TE):TE:=fun σ H Q=>wi σ H (Dd fr g tt te σ Q)
def Gc (XN:List Str)(xs sc:Scope)(N:List Str)(fr:List (Option Nat)):Bool:=
 decide (sc.kind=.function)&&decide (fr.length=N.length)&&(sc.names.all fun y=>!decide (y.2=.cell))&&(sc.names.all fun y=>!decide (y.2=.local)||decide (sc.names.lookup y.1=some .local)) &&
 (sc.names.all fun y=>!decide (y.2=.free)||(decide (xs.names.lookup y.1=some .cell)||decide (xs.names.lookup y.1=some .free))) &&
 ((N.zip fr).all fun p=>match p.2 with|none=>true|some i=>decide (XN[i]?=some p.1)&&decide (sc.names.lookup p.1=some .free))
def NW (cells:List (Str×Addr)):List (Str×Addr)->Prop
 |[]=>True
 |p::r=>cells.lookup p.1=some p.2/\NW cells r
theorem NW.get {cells:List (Str×Addr)}:∀{cl:List (Str×Addr)},NW cells cl->∀{x:Str} {c:Addr},cl.lookup x=some c->cells.lookup x=some c
 |[],_,_,_,h=>by cases h
 |(y,d)::r,k,x,c,h=>by
  rw[List.lookup_cons] at h;cases e:x == y with
  |true=>
   rw[e] at h;cases h;rw[eq_of_beq e];exact k.1
  |false=>
   rw[e] at h;exact NW.get k.2 h
def Hk (cl:List (Str×Addr)):List (Str×NameKind)->Prop
 |[]=>True
 |p::r=>(p.2=.free->∃c,cl.lookup p.1=some c)/\Hk cl r
theorem Hk.get {cl:List (Str×Addr)}:∀{ns:List (Str×NameKind)},Hk cl ns->∀y∈ns,y.2=.free->∃c,cl.lookup y.1=some c
 |[],_,_,h=>by cases h
 |p::r,k,y,h=>by
  rcases List.mem_cons.mp h with rfl|h
  ·exact k.1
  ·exact Hk.get k.2 y h
theorem EL {env:Env}:∀{names:List (Str×NameKind)} {x:Str} {k:NameKind},(names.map fun(n,k)=>if(k == NameKind.free&&env.scope.kind == .function&&env.kindOf n == some .cell) then(n,NameKind.cell) else(n,k)).lookup x=some k->
  names.lookup x=some k\/(k=.cell/\names.lookup x=some .free)
 |[],_,_,h=>by cases h
 |(n,k0)::r,x,k,h=>by
  have ih:=@EL env r x k
  by_cases hc:(k0 == NameKind.free&&env.scope.kind == .function&&env.kindOf n == some .cell)=true
  ·simp only[List.map_cons,if_pos hc,List.lookup_cons] at h;rw[List.lookup_cons];cases e:x == n with
   |true=>
    rw[e] at h;cases h;simp only[Bool.and_eq_true] at hc;have:k0=.free:=by simpa using hc.1.1
    exact .inr ⟨rfl,by rw[this]⟩
   |false=>rw[e] at h;exact ih h
  ·simp only[List.map_cons,if_neg hc,List.lookup_cons] at h;rw[List.lookup_cons];cases e:x == n with
   |true=>rw[e] at h;exact .inl h
   |false=>rw[e] at h;exact ih h
theorem Hf {env:Env}:∀{names:List (Str×NameKind)} {x:Str},names.lookup x=some .free->
  (names.map fun(n,k)=>if(k == NameKind.free&&env.scope.kind == .function&&env.kindOf n == some .cell) then(n,NameKind.cell) else(n,k)).lookup x=some .cell\/
  (names.map fun(n,k)=>if(k == NameKind.free&&env.scope.kind == .function&&env.kindOf n == some .cell) then(n,NameKind.cell) else(n,k)).lookup x=some .free
 |[],_,h=>by cases h
 |(n,k0)::r,x,h=>by
  have ih:=@Hf env r x;rw[List.lookup_cons] at h
  by_cases hc:(k0 == NameKind.free&&env.scope.kind == .function&&env.kindOf n == some .cell)=true
  ·simp only[List.map_cons,if_pos hc,List.lookup_cons];cases e:x == n with
   |true=>exact .inl rfl
   |false=>rw[e] at h;exact ih h
  ·simp only[List.map_cons,if_neg hc,List.lookup_cons];cases e:x == n with
   |true=>rw[e] at h;exact .inr h
   |false=>rw[e] at h;exact ih h
section
variable {X:Cx}
theorem KS (N:List Str) (fr:List (Option Nat)) {elt tg iter:Expr} {ifs:List Expr} {scope:Scope} {pos fpos:Pos} {wi:TI} {g:TG} {tt:TT} {te:TE} {cl:List (Str×Addr)}
  (hc:X.calm=true) (hi:PI X tg iter wi) (hchk:Gc X.N X.env.scope scope N fr=true) (hclos:closureFor scope X.env=pure cl) (hcl:NW X.env.cells cl) (hall:Hk cl scope.names)
  (hb:∀(C:Addr) (s:Shared) (H:Hp) (fp:List Addr),PG (Bj X scope cl N C s H fp) tg g/\N6 (Bj X scope cl N C s H fp) ifs tt/\PE (Bj X scope cl N C s H fp) elt te)
  (hs:∀x,foldedSetIterable iter X.env x=pure x) {pins:List (Addr×Obj)} {s:Shared} {σ:St} {H:Hp} {Q:VK} {use:Option (Value->Sem Unit)} {Qc:Value->Shared->Prop} (I:Inv X pins σ H s) (h:KI fr wi g tt te σ H Q)
  (hfin:∀(l:Addr) (H':Hp) (s':Shared) (C:Addr),Inv X pins σ H' s'->Iu X pins H' C->(∃m,s'.heap.Ns C m)->Q (.ref l) H'->compPost (model X.prog X.w) X.A X.xe use Qc (.ref l) C (.ok .next) s') :
  wpAny (model X.prog X.w) X.A (comprehension (.ListComp elt [⟨tg,iter,ifs,0⟩] scope pos) scope X.env fpos (newList []) (firstAsync [⟨tg,iter,ifs,0⟩]) (firstIter [⟨tg,iter,ifs,0⟩] X.env) use) Qc X.xe s:=by
 simp only[Gc,Bool.and_eq_true,decide_eq_true_eq,List.all_eq_true,Bool.or_eq_true,Bool.not_eq_true',decide_eq_false_iff_not] at hchk;obtain⟨⟨⟨⟨⟨hkind,hlen⟩,hcell⟩,hnames⟩,hfree⟩,hfr⟩:=hchk;have hnames':∀x∈scope.names,x.2=.local->scope.names.lookup x.1=some .local:=fun y hy e=>(hnames y hy).resolve_left fun z=>z e
 have hcell':∀x∈scope.names,x.2≠.cell:=fun y hy=>hcell y hy
 refine wpAny_comprehension_free (use:=use) rfl hs hclos hkind hnames' (Bw (hi pins s σ H _ I h) fun v s1 h1=>Bw h1 fun itv s2 h2=>?_);obtain⟨it,fp,tn,J,H2,e,I2,T,st2,f2,hQ⟩:=h2;subst e;refine wpAny_newObj_type (hd:=by size_fits) (wpAny_newFunctionEnv hcell' (by intro y hy;simp at hy) (fun h₁ hns hsb=>?_) hkind);dsimp only at hns hsb ⊢;obtain⟨W,⟨m0,w0⟩,turn⟩:=hQ s2.heap.objs.size I2.fresh;have I3:Inv X pins σ (upd H2 s2.heap.objs.size (.lst [])) { s2 with heap:=s2.heap.push { cls:=.type "list",data:=.seq ([]:List Value).toArray },toks:=s2.toks }:=I2.lnew (AC:=[]) .nil (Nat.zero_le _);generalize hh3:s2.heap.push { cls:=.type "list",dict:=none,data:=.seq ([]:List Value).toArray }=h3 at hns hsb ⊢;rw[show s2.heap.push { cls:=.type "list",data:=.seq ([]:List Value).toArray }=h3 from hh3] at I3;generalize hH3:upd H2 s2.heap.objs.size (.lst [])=H3 at I3 w0;generalize hl:s2.heap.objs.size=l at turn hH3 ⊢;have hl3:l<h3.objs.size:=by rw[<-hh3,<-hl,Heap.size_push];exact Nat.lt_succ_self _
 generalize hs3:({ s2 with heap:=h3,toks:=s2.toks }:Shared)=s3 at I3;have es3:s3.heap=h3:=by rw[<-hs3]
 have eos:s3.os=s2.os:=by rw[<-hs3]
 have egens:s3.gens=s2.gens:=by rw[<-hs3]
 generalize hC:h3.objs.size=C at hns hsb ⊢;have old:∀b o,h3.get? b=some o->h₁.get? b=some o:=fun b o e=>
  hsb.extBut b o (by rw[<-hC];exact Nat.ne_of_lt (Heap.lt_size e)) (Heap.get?_push_of_some _ e)
 have f3:∀b∈fp,Iu X pins H3 b:=fun b hb=>by
  obtain⟨g0,g1⟩:=f2 b hb;refine⟨?_,g1⟩;rw[<-hH3];have:b≠l:=by
   obtain⟨o,e,_⟩:=T.obj _ _ st2 b hb;rw[<-hl];exact Nat.ne_of_lt (Heap.lt_size e)
  rw[Aj this];exact g0
 have st3:tn 0 h₁:=T.keep _ _ _ st2 fun b hb o e=>old b o (by rw[<-hh3];exact Heap.get?_push_of_some _ e)
 have ok:(Bj X scope cl N C s3 H3 fp).Ok:=by
  refine⟨I3.ok.mod,?_,I3.ok.glob,I3.ok.blt,?_,fun x y c e1 e2=>I3.ok.inj x y c (hcl.get e1) (hcl.get e2),fun x hx=>?_,fun x c hx=>(by cases hx),I3.ok.hd,I3.ok.frames,.inl rfl,fun b hb=>?_,fun b o e=>?_,?_,fun b o e hb=>?_,fun b hb hb2=>?_,?_,fun b hb=>?_⟩
  ·exact hkind
  ·show s3.heap.objs.size<=C;rw[es3,hC];exact Nat.le_refl _
  ·have hx':(relabel scope X.env).names.lookup x=some .cell\/(relabel scope X.env).names.lookup x=some .free:=hx;have:scope.names.lookup x=some .free:=by
    rcases hx' with z|z
    ·rcases EL z with q|⟨_,q⟩
     ·exact absurd rfl (hcell' _ (PySem.mem_of_lookup q))
     ·exact q
    ·rcases EL z with q|⟨q,_⟩
     ·exact q
     ·cases q
   exact hall.get _ (PySem.mem_of_lookup this) rfl
  ·obtain⟨g0,g1,g2,g3,g4,g5⟩:=f3 b hb;obtain⟨o,e,_⟩:=T.obj _ _ st2 b hb;refine⟨?_,fun x c e=>g4 x c (hcl.get e)⟩;show b≠C;rw[<-hC];exact Nat.ne_of_lt (Heap.lt_size (by rw[<-hh3];exact Heap.get?_push_of_some _ e))
  ·have q:=I3.bs b o e;exact q
  ·show X.base.objs.size<=s3.heap.objs.size;exact Nat.le_trans I3.ok.bsz I3.sz
  ·obtain⟨g0,g1,g2,g3,g4,g5⟩:=f3 b hb;rcases g3 with z|z
   ·exact I3.ok.noex b o e z
   ·exact absurd (Nat.lt_of_lt_of_le (Heap.lt_size e) (Nat.le_trans I3.ok.bsz z)) (Nat.lt_irrefl _)
  ·obtain⟨g0,g1,g2,g3,g4,g5⟩:=f3 b hb;rcases List.mem_cons.mp (I3.stkSub b hb2) with z|z
   ·exact g1 z
   ·exact g2 z
  ·show s3.heap.FunFrames X.base X.stack;exact I3.stack
  ·exact I3.stkFree b hb
 have I4:Inv (Bj X scope cl N C s3 H3 fp) [] (stC fr σ) H3 { s2 with heap:=h₁,toks:=s2.toks+([]:List (Str×Value)).length }:=by
  have hk3:∀b o,s3.heap.get? b=some o->h₁.get? b=some o:=fun b o e=>old b o (by rw[<-es3];exact e)
  refine⟨ok,eos.symm▸rfl,egens▸I3.bare,Un.kept hk3,⟨_,hns,fun i x v e1 e2 e3=>?_⟩,fun x c e=>?_,?_,fun x c e=>I3.freeC x c (hcl.get e),fun p hp=>(by cases hp),I3.hok.kept hk3,?_⟩
  ·
   have e1':N[i]?=some x:=e1;have e2':(fr[i]?).map (fun o=>o.bind fun i=>(σ[i]?).bind id)=some (some v):=by
    have:(stC fr σ)[i]?=some (some v):=e2;rw[stC,List.getElem?_map] at this;exact this
   cases q:fr[i]? with
   |none=>rw[q] at e2';cases e2'
   |some o=>
    rw[q] at e2';cases o with
    |none=>cases e2'
    |some j=>
     have e2'':(σ[j]?).bind id=some v:=Option.some.inj e2';obtain⟨p1,p2⟩:X.N[j]?=some x/\scope.names.lookup x=some .free:=by
      have hz:(x,some j)∈N.zip fr:=by
       have:(N.zip fr)[i]?=some (x,some j):=by
        rw[List.getElem?_zip_eq_some];exact⟨e1',q⟩
       exact List.mem_of_getElem? this
      have:=hfr _ hz;simpa using this
     have hv:X.env.scope.names.lookup x=some .cell\/X.env.scope.names.lookup x=some .free:=by
      rcases hfree _ (PySem.mem_of_lookup p2) with z|z
      ·exact absurd rfl z
      ·simpa using z
     have e3':σ[j]?=some (some v):=by
      cases q3:σ[j]? with
      |none=>rw[q3] at e2'';cases e2''
      |some w'=>rw[q3] at e2'';have:w'=some v:=e2'';rw[this]
     obtain⟨m,hn,hl'⟩:=I3.loc;obtain⟨u,ru,lk⟩:=hl' j x v p1 e3' (.inr hv);refine⟨u,ru,.inr ⟨Hf p2,?_⟩⟩;rcases lk with⟨lk,_⟩|⟨_,c,ec,cc⟩
     ·have lk':X.env.scope.names.lookup x=some .local:=lk;rcases hv with z|z<;>(rw[z] at lk';cases lk')
     ·obtain⟨c',ec'⟩:=hall.get _ (PySem.mem_of_lookup p2) rfl;have:=hcl.get ec';rw[ec] at this;cases this;obtain⟨o,ho,hd⟩:=cc;exact⟨c,ec',o,hk3 _ _ ho,hd⟩
  ·obtain⟨v,o,ho,hd⟩:=I3.cell x c (hcl.get e);exact⟨v,o,hk3 _ _ ho,hd⟩
  ·show H3 C=none;exact I3.hok.fresh (by rw[es3,hC];exact Nat.le_refl _)
  ·show(stC fr σ).length=N.length;rw[stC,List.length_map];exact hlen
 obtain⟨hg,ht,he⟩:=hb C s3 H3 fp;have fpc:∀{H':Hp},(∀b∈fp,H' b=none)->∀b∈fp,Iu (Bj X scope cl N C s3 H3 fp) [] H' b:=fun hn b hb=>by
  obtain⟨q1,q2⟩:=ok.exf b hb;exact⟨hn b hb,q1,ok.exfs b hb,.inl hb,q2,fun p hp=>by cases hp⟩
 have fin:∀(σ':St) (H':Hp) (s':Shared),Inv (Bj X scope cl N C s3 H3 fp) [] σ' H' s'->Q (.ref l) H'->compPost (model X.prog X.w) X.A X.xe use Qc (.ref l) C (.ok .next) s':=fun σ' H' s' I' q=>by
  obtain⟨m,hn,_⟩:=I'.loc;have nC:∀b o,s3.heap.get? b=some o->b≠C:=fun b o e=>by
   rw[<-hC,<-es3];exact Nat.ne_of_lt (Heap.lt_size e)
  have fC:H' C=none:=I'.free;have u:=I'.base;refine hfin l H' s' C ?_ (I3.fpOk (by rw[es3,hC];exact Nat.le_refl _) fC) ⟨m,hn⟩ q;refine I3.call' (s':=s') (ch:=fp) I'.os ⟨fun b o e n hb hx=>u.keep b o e n hb hx,fun b o e n hb hx=>u.slot b o e n hb hx,u.free,fun b o e hx=>u.there b o e hx,u.tups,u.frzs,u.tbls⟩ (fun b o e=>I'.hok b o e) I'.bare fun b hb=>?_
  obtain⟨g0,g1,g2,g3,g4,g5⟩:=f3 b hb;exact⟨g3,g1,g4,g5⟩
 have loop:codeAny (model X.prog X.w) X.A (.compLoop (.ListComp elt [⟨tg,iter,ifs,0⟩] scope pos) 0 (.ref it) (.ref l) (compEnvC scope cl C X.env)) (compPost (model X.prog X.w) X.A X.xe use Qc (.ref l) C)
   { s2 with heap:=h₁,toks:=s2.toks+([]:List (Str×Value)).length }:=by
  refine NK (fun n s'=>∃i σ' H',Inv (Bj X scope cl N C s3 H3 fp) [] σ' H' s'/\tn i s'.heap/\(∀b∈fp,H' b=none)/\W i n σ' H') ?_ m0 ⟨0,_,H3,I4,st3,fun b hb=>(f3 b hb).1,w0⟩
  rintro n s5 ⟨i,σ5,H5,I5,st5,fr5,w5⟩
  rcases turn i n σ5 H5 w5 with⟨stop,qn⟩|⟨go,step⟩
  ·refine Bw (T.done (Bj X scope cl N C s3 H3 fp) rfl rfl rfl hc i [] s5 σ5 H5 (fun _ _=>False) I5 (fpc fr5) st5 stop) fun r s6 ⟨hr,I6⟩=>?_
   subst hr;exact fin σ5 H5 s6 I6 qn
  ·refine Bw (T.item (Bj X scope cl N C s3 H3 fp) rfl rfl rfl hc i [] s5 σ5 H5 (fun _ _=>False) I5 (fpc fr5) st5 go) fun r s6 ⟨u,hr,h6⟩=>?_
   subst hr;refine Bw h6 fun _ s7 ⟨x,H7,I7,r7,y7,st7,fr7⟩=>?_
   have I7':=I7.pinned (fpc fr7) (T.obj _ _ st7);refine Bw (hg _ s7 σ5 H7 x u _ I7' r7 (step x H7 y7)) fun _ s8 ⟨σ8,H8,I8,q8⟩=>?_
   have again:∀{σ9:St} {H9:Hp} {s9:Shared},Inv (Bj X scope cl N C s3 H3 fp) ([]++JB fp s7.heap) σ9 H9 s9->(∃m',m'<n/\W (i+1) m' σ9 H9)->∃m,m<n/\∃i σ' H',Inv (Bj X scope cl N C s3 H3 fp) [] σ' H' s9/\tn i s9.heap/\(∀b∈fp,H' b=none)/\W i m σ' H':=fun{σ9 H9 s9} I9 n9=>by
    obtain⟨m',hm,w9⟩:=n9;refine⟨m',hm,i+1,σ9,H9,I9.unpinned,T.keep _ _ _ st7 fun b hb o e=>(I9.pin (b,o) (List.mem_append_right _ (List.mem_append_right _ (EO hb e)))).1,fun b hb=>?_,w9⟩;obtain⟨o,e,d⟩:=T.obj _ _ st7 b hb;exact(I9.pin (b,o) (List.mem_append_right _ (List.mem_append_right _ (EO hb e)))).2.1
   refine Bw (ht _ s8 σ8 H8 _ I8 q8) fun ok s9 ⟨H9,I9,q9⟩=>?_
   cases ok with
   |false=>
    rw[if_neg Bool.false_ne_true] at q9 ⊢;exact again I9 q9
   |true=>
    rw[if_pos rfl] at q9 ⊢;refine Bw (he _ s9 σ8 H9 _ I9 q9) fun y sa ⟨vy,Ha,Ia,ry,qa⟩=>?_
    obtain⟨xs,hla,hsz,n9⟩:=qa;refine Bw (DM _ sa σ8 Ha (.ref l) [vy] (.ref l) [y] (fun _ Hb=>∃m',m'<n/\W (i+1) m' σ8 Hb) Ia rfl (.cons ry .nil) ⟨l,xs,vy,rfl,rfl,hla,hsz,n9⟩) fun _ sb ⟨_,Hb,Ib,_,qb⟩=>?_
    exact again Ib qb
 show codeAny (model X.prog X.w) X.A (.compStart (.ListComp elt [⟨tg,iter,ifs,0⟩] scope pos) 0 (.ref it) (.ref l) (compEnvC scope cl C X.env)) (compPost (model X.prog X.w) X.A X.xe use Qc (.ref l) C) { s2 with heap:=h₁,toks:=s2.toks+([]:List (Str×Value)).length };exact codeAny_compStart_list loop (T.self _ 0 _ _ _ st3 loop)
theorem Cc (N:List Str) (fr:List (Option Nat)) {elt tg iter:Expr} {ifs:List Expr} {scope:Scope} {pos:Pos} {wi:TI} {g:TG} {tt:TT} {te:TE} {cl:List (Str×Addr)}
  (hc:X.calm=true) (hi:PI X tg iter wi) (hchk:Gc X.N X.env.scope scope N fr=true) (hclos:closureFor scope X.env=pure cl) (hcl:NW X.env.cells cl) (hall:Hk cl scope.names)
  (hb:∀(C:Addr) (s:Shared) (H:Hp) (fp:List Addr),PG (Bj X scope cl N C s H fp) tg g/\N6 (Bj X scope cl N C s H fp) ifs tt/\PE (Bj X scope cl N C s H fp) elt te)
  (hs:∀x,foldedSetIterable iter X.env x=pure x:=by intro _;rfl) :
  PE X (.ListComp elt [⟨tg,iter,ifs,0⟩] scope pos) (KI fr wi g tt te):=by
 intro pins s σ H Q I h;rw[eval_ListComp];refine KS N fr hc hi hchk hclos hcl hall hb hs I h fun l H' s' C I' fC ⟨m,hn⟩ q=>?_
 refine⟨m,hn,fun h'' hs''=>⟨.ref l,H',?_,rfl,q⟩⟩;obtain⟨f0,f1,f2,f3,f4,f5⟩:=fC;exact I'.turned (t':=s'.toks) (fun b o hb e=>(hs''.2 b hb).trans e) f0 f1 f3 f4 f5
theorem IJ (N:List Str) (fr:List (Option Nat)) {i:Nat} {x:Str} {elt tg iter:Expr} {ifs:List Expr} {scope:Scope} {cpos pos pos':Pos} {wi:TI} {g:TG} {tt:TT} {te:TE} {cl:List (Str×Addr)}
  (hN:X.N.Nodup) (hi':X.N[i]?=some x) (hx:Loc X.env.scope x)
  (hc:X.calm=true) (hi:PI X tg iter wi) (hchk:Gc X.N X.env.scope scope N fr=true) (hclos:closureFor scope X.env=pure cl) (hcl:NW X.env.cells cl) (hall:Hk cl scope.names)
  (hb:∀(C:Addr) (s:Shared) (H:Hp) (fp:List Addr),PG (Bj X scope cl N C s H fp) tg g/\N6 (Bj X scope cl N C s H fp) ifs tt/\PE (Bj X scope cl N C s H fp) elt te)
  (hs:∀x,foldedSetIterable iter X.env x=pure x:=by intro _;rfl)
  (hsw:swapsWith (.ListComp elt [⟨tg,iter,ifs,0⟩] scope cpos) (some (.Name x pos')) pos.line X.env=pure true:=by rfl)
  (hf:X.fn x=true\/X.env.scope.names.lookup x=some .local:=by first|exact .inl rfl|exact .inr rfl|assumption) :
  PS X (.Assign [.Name x pos'] (.ListComp elt [⟨tg,iter,ifs,0⟩] scope cpos) pos) (Ml (KI fr wi g tt te) (A4 i)):=by
 intro pins s σ H D I h;rw[exec_Assign_arm];refine wpAny_bind (wpAny_standAt ?_);rw[show swapsWithSole [.Name x pos'] (.ListComp elt [⟨tg,iter,ifs,0⟩] scope cpos) pos.line X.env=pure true from hsw];refine wpAny_bind (wpAny_pure ?_);rw[if_pos rfl,arm_evalThenUse_ListComp];refine wpAny_bind (wpAny_bind ?_);have h1:KI fr wi g tt te σ H fun v H1=>D.nx (σ.set i (some v)) H1:=h
 refine KS (use:=some _) N fr hc hi hchk hclos hcl hall hb hs I h1 fun l H' s' C I' fC ⟨m,hn⟩ q=>?_
 obtain⟨f0,f1,f2,f3,f4,f5⟩:=fC;obtain⟨o,es,ep,ho,hd,hk,hm⟩:=hn;have Ip:Inv X (pins++[(C,o)]) σ H' s':=I'.pins_of fun p hp=>(List.mem_append.mp hp).elim (fun z=>I'.pin p (List.mem_append_right _ z)) fun z=>by
  rw[List.mem_singleton.mp z];exact⟨ho,f0,f1,f2,fun v e=>by rw[hd] at e;cases e⟩
 show wpAny _ _ (assignAll (.ref l) [assign (.Name x pos') X.env]) _ _ _;rw[assignAll.eq_2];refine wpAny_assign_Name (IP Ip hN hi' hx (v:=.ref l) rfl (fun s2 I2=>?_) hf);have ho2:=(I2.pin (C,o) (List.mem_append_right _ (List.mem_append_right _ (List.mem_singleton_self _)))).1;refine⟨m,⟨o,es,ep,ho2,hd,hk,hm⟩,fun h' hs'=>wpAny_pure (wpAny_pure ⟨_,H',?_,q⟩)⟩;exact I2.unpinned.turned (t':=s2.toks) (fun b o hb e=>(hs'.2 b hb).trans e) f0 f1 f3 f4 f5
def Hn (sc:Scope):Bool:=
 decide (sc.kind=.function)&&(sc.names.all fun y=>!decide (y.2=.cell))&&(sc.names.all fun y=>!decide (y.2=.local)||decide (sc.names.lookup y.1=some .local))&&(sc.names.all fun y=>!decide (y.2=.free))
theorem AV (N:List Str) {elt tg iter:Expr} {ifs:List Expr} {scope:Scope} {pos:Pos} {wi:TI} {g:TG} {tt:TT} {te:TE}
  (hc:X.calm=true) (hi:PI X tg iter wi) (hchk:Hn scope=true)
  (hb:∀(C:Addr) (s:Shared) (H:Hp) (fp:List Addr),PG (Bj X scope [] N C s H fp) tg g/\N6 (Bj X scope [] N C s H fp) ifs tt/\PE (Bj X scope [] N C s H fp) elt te)
  (hs:∀x,foldedSetIterable iter X.env x=pure x:=by intro _;rfl) :
  PE X (.ListComp elt [⟨tg,iter,ifs,0⟩] scope pos) (KI (N.map fun _=>none) wi g tt te):=by
 simp only[Hn,Bool.and_eq_true,decide_eq_true_eq,List.all_eq_true,Bool.or_eq_true,Bool.not_eq_true',decide_eq_false_iff_not] at hchk;obtain⟨⟨⟨hkind,hcell⟩,hnames⟩,hfree⟩:=hchk;refine Cc (cl:=[]) N (N.map fun _=>none) hc hi ?_ (closureFor_none fun x hx=>hfree x hx) trivial ?_ hb hs
 ·simp only[Gc,Bool.and_eq_true,decide_eq_true_eq,List.all_eq_true,Bool.or_eq_true,Bool.not_eq_true',decide_eq_false_iff_not];refine⟨⟨⟨⟨⟨hkind,by simp⟩,hcell⟩,hnames⟩,fun y hy=>.inl (hfree y hy)⟩,fun p hp=>?_⟩;have:p.2∈N.map fun _=>(none:Option Nat):=(List.of_mem_zip hp).2
  obtain⟨_,_,e⟩:=List.mem_map.mp this;rw[<-e]
 ·have:∀ns:List (Str×NameKind),(∀y∈ns,y.2≠.free)->Hk [] ns:=by
   intro ns
   induction ns with
   |nil=>intro _;exact trivial
   |cons p r ih=>intro h;exact⟨fun e=>absurd e (h p List.mem_cons_self),ih fun y hy=>h y (List.mem_cons_of_mem _ hy)⟩
  exact this _ fun y hy=>hfree y hy
theorem Ex (N:List Str) {i:Nat} {x:Str} {elt tg iter:Expr} {ifs:List Expr} {scope:Scope} {cpos pos pos':Pos} {wi:TI} {g:TG} {tt:TT} {te:TE}
  (hN:X.N.Nodup) (hi':X.N[i]?=some x) (hx:Loc X.env.scope x)
  (hc:X.calm=true) (hi:PI X tg iter wi) (hchk:Hn scope=true)
  (hb:∀(C:Addr) (s:Shared) (H:Hp) (fp:List Addr),PG (Bj X scope [] N C s H fp) tg g/\N6 (Bj X scope [] N C s H fp) ifs tt/\PE (Bj X scope [] N C s H fp) elt te)
  (hs:∀x,foldedSetIterable iter X.env x=pure x:=by intro _;rfl)
  (hsw:swapsWith (.ListComp elt [⟨tg,iter,ifs,0⟩] scope cpos) (some (.Name x pos')) pos.line X.env=pure true:=by rfl)
  (hf:X.fn x=true\/X.env.scope.names.lookup x=some .local:=by first|exact .inl rfl|exact .inr rfl|assumption) :
  PS X (.Assign [.Name x pos'] (.ListComp elt [⟨tg,iter,ifs,0⟩] scope cpos) pos) (Ml (KI (N.map fun _=>none) wi g tt te) (A4 i)):=by
 simp only[Hn,Bool.and_eq_true,decide_eq_true_eq,List.all_eq_true,Bool.or_eq_true,Bool.not_eq_true',decide_eq_false_iff_not] at hchk;obtain⟨⟨⟨hkind,hcell⟩,hnames⟩,hfree⟩:=hchk;refine IJ (cl:=[]) N (N.map fun _=>none) hN hi' hx hc hi ?_ (closureFor_none fun x hx=>hfree x hx) trivial ?_ hb hs hsw hf
 ·simp only[Gc,Bool.and_eq_true,decide_eq_true_eq,List.all_eq_true,Bool.or_eq_true,Bool.not_eq_true',decide_eq_false_iff_not];refine⟨⟨⟨⟨⟨hkind,by simp⟩,hcell⟩,hnames⟩,fun y hy=>.inl (hfree y hy)⟩,fun p hp=>?_⟩;have:p.2∈N.map fun _=>(none:Option Nat):=(List.of_mem_zip hp).2
  obtain⟨_,_,e⟩:=List.mem_map.mp this;rw[<-e]
 ·have:∀ns:List (Str×NameKind),(∀y∈ns,y.2≠.free)->Hk [] ns:=by
   intro ns
   induction ns with
   |nil=>intro _;exact trivial
   |cons p r ih=>intro h;exact⟨fun e=>absurd e (h p List.mem_cons_self),ih fun y hy=>h y (List.mem_cons_of_mem _ hy)⟩
  exact this _ fun y hy=>hfree y hy
end
def Def (P:Program)(w:World)(K:PySem.W.Frag)(mg:Str->Option Value)(base:Heap)(k:Nat)(x:Str)(ps:List Str)(sp:Sp):Prop:=
 ∃(f:Addr) (fd:FuncData),FnOk P w K mg base CP k f fd ps sp/\mg x=some (.ref f)/\PySem.W.keepIn K (.ref f)=true/\Binds K fd ps []
section
variable {X:Cx}{k:Nat}{x:Str}{ps:List Str}{sp:Sp}{e:Expr}{es:List Expr}{t:TA}{p pos:Pos}
theorem Au (D:Def X.prog X.w X.K X.mg X.base k x ps sp) (hr:Room k X.A) (hg:Gl X x) (ha:PA X (e::es) t)
  (hdb:(x == ("__debug__":Str))=false:=by decide) (he:starEach (e::es) X.env=(false,eval e X.env)::starEach es X.env:=by rfl) (hpl:(backTo pos (starEach es X.env)).any (·.1)=false:=by rfl) :
  PE X (.Call (.Name x p) (e::es) [] pos) (OW sp [] E0 t):=by
 obtain⟨f,fd,F,hm,hk,hb⟩:=D;exact Tz F hr hg hm hk hb .nil VS ha hdb he hpl
end
section
variable {X:Cx}
theorem AG {x:Str}{i:Int}{pos:Pos}(hg:Gl X x)(hm:∃t,X.mg x=some (.int i t))(hd:(x == ("__debug__":Str))=false:=by decide):PE X (.Name x pos) (tC (.int i)):=by
 obtain⟨t,hm⟩:=hm;exact Oj hg hm ⟨_,rfl⟩ hd
theorem BS {x:Str}{T:String}{pos:Pos}(hg:Gl X x)(hm:X.mg x=none)(hv:bootBuiltins x=some (.type T))(hn:x≠"__name__":=by decide)(hd:(x == ("__debug__":Str))=false:=by decide):PE X (.Name x pos) (tC (.ty T)):=TB hg hm hv rfl hn hd
theorem Jr {x z:Str}{pos:Pos}(hg:Gl X x)(hm:∃t,X.mg x=some (.str z t))(hd:(x == ("__debug__":Str))=false:=by decide):PE X (.Name x pos) (tC (.str z)):=by
 obtain⟨t,hm⟩:=hm;exact Oj hg hm ⟨_,rfl⟩ hd
end
theorem Ax:bootBuiltins "isinstance"=some (.builtin "isinstance"):=by decide +kernel
theorem Ca:bootBuiltins "all"=some (.builtin "all"):=by decide +kernel
theorem DT:bootBuiltins "sorted"=some (.builtin "sorted"):=by decide +kernel
theorem BG:bootBuiltins "len"=some (.builtin "len"):=by decide +kernel
theorem UP:bootBuiltins "max"=some (.builtin "max"):=by decide +kernel
theorem RQ:bootBuiltins "int"=some (.type "int"):=by decide +kernel
theorem Hs:bootBuiltins "bool"=some (.type "bool"):=by decide +kernel
theorem UU:bootBuiltins "str"=some (.type "str"):=by decide +kernel
theorem FV:bootBuiltins "list"=some (.type "list"):=by decide +kernel
theorem Be:bootBuiltins "tuple"=some (.type "tuple"):=by decide +kernel
theorem G6:bootBuiltins "dict"=some (.type "dict"):=by decide +kernel
theorem Jj:bootBuiltins "set"=some (.type "set"):=by decide +kernel
theorem Uq {t c:String}{b:Bool}(h:(if(Value.type t == Value.type c)=true then some true else if PySem.W.kitMeta c=true then(fastBuiltinMro t).map (·.contains (.type c)) else none)=some b)(K:PySem.W.Frag) :
  PySem.W.kitOne K (.type t) (.type c)=some b:=h
section
variable {X:Cx}
def VP (K:PySem.W.Frag):List V->Hp->VK->Prop:=fun xs H Q=>∃x c t b,xs=[x,.ty c]/\TyOf K H x t/\PySem.W.kitOne K t (.type c)=some b/\Q (.bl b) H
theorem AJ:Ct X (.builtin "isinstance") (VP X.K):=by
 intro pins s σ H xs us Q I r h;obtain⟨x,c,t,b,rfl,ty,e,q⟩:=h;obtain⟨u,v,rfl,ru,rv⟩:=vals2 r;have ev:v=Value.type c:=rv;subst ev;exact Py I ru ty e fun tk=>⟨.bl b,H,I.tok _,rfl,q⟩
end
def D7:V->Bool
 | .non=>true
 | .int _=>true
 | .str _=>true
 |_=>false
theorem KM {x:V}(h:D7 x=true):G9 x=true:=by
 cases x<;>first|rfl|exact h
theorem pure_eq {x y:V}(hx:D7 x=true)(hy:D7 y=true):O7 x y=decide (x=y):=by
 cases x<;>first|exact absurd (show false=true from hx) Bool.false_ne_true|skip
 all_goals (cases y<;>first|exact absurd (show false=true from hy) Bool.false_ne_true|skip)
 ·rfl
 ·rfl
 ·rfl
 ·rfl
 ·exact EW.symm
 ·rfl
 ·rfl
 ·rfl
 ·exact LD.symm
theorem J7:∀(xs ys:List V),xs.length=ys.length->xs.all D7=true->ys.all D7=true->
  ((List.range xs.length).all fun i=>O7 (xs.getD i .non) (ys.getD i .non))=decide (xs=ys):=by
 intro xs
 induction xs with
 |nil=>
  intro ys hl _ _;cases ys with
  |nil=>rfl
  |cons _ _=>simp at hl
 |cons x xs ih=>
  intro ys hl hx hy;cases ys with
  |nil=>simp at hl
  |cons y ys=>
   rw[List.all_cons,Bool.and_eq_true] at hx hy;have q:=ih ys (by simpa using hl) hx.2 hy.2;rw[List.length_cons,List.range_succ_eq_map,List.all_cons,List.all_map];have e0:((fun i=>O7 ((x::xs).getD i .non) ((y::ys).getD i .non))∘Nat.succ)=fun i=>O7 (xs.getD i .non) (ys.getD i .non):=by
    funext i;simp
   rw[e0,q];show(O7 x y&&decide (xs=ys))=_;rw[pure_eq hx.1 hy.1]
   by_cases h1:x=y
   ·by_cases h2:xs=ys<;>simp[h1,h2]
   ·simp[h1]
theorem OG {xs:List V}{us:List Value}(r:AN xs us){j:Nat}(hj:j<us.length):∃x,xs[j]?=some x/\RelV x us[j]:=by
 have hl:=r.length;obtain⟨u,e1,e2⟩:=r.get (i:=j) (x:=xs[j]'(by omega)) (by simp[show j<xs.length by omega]);refine⟨xs[j]'(by omega),by simp[show j<xs.length by omega],?_⟩;rw[List.getElem?_eq_getElem hj] at e1;cases e1;exact e2
section
variable {X:Cx}
theorem RO {A:Around} {s:Shared} {a b:Addr} {xs ys:List V} {AC its2:List Value} (hu:A.units<cLine) (r1:AN xs AC) (r2:AN ys its2) (h1:s.heap.IsList a AC.toArray) (h2:s.heap.IsList b its2.toArray)
  (f1:xs.all D7=true) (f2:ys.all D7=true):SeqAt.RcAt A s (.ref a) (.ref b) (decide (xs=ys)):=by
 have l1:=r1.length;have l2:=r2.length
 by_cases hl:xs.length=ys.length
 ·have q:=SeqAt.RcAt.lists (A:=A) (s:=s) (e:=fun i=>O7 (xs.getD i .non) (ys.getD i .non)) h1 h2 (by simp;omega) hu (fun j g1 g2=>by
   have g1':j<AC.length:=by simpa using g1
   have g2':j<its2.length:=by simpa using g2
   obtain⟨x,e1,rx⟩:=OG r1 g1';obtain⟨y,e2,ry⟩:=OG r2 g2';have p1:D7 x=true:=List.all_eq_true.mp f1 x (List.mem_of_getElem? e1);have p2:D7 y=true:=List.all_eq_true.mp f2 y (List.mem_of_getElem? e2);have:=Qn (A:=A.in1) (s:=s) rx ry (KM p1) (KM p2);simpa [List.getD,e1,e2] using this)
  have e:(AC.toArray.size)=xs.length:=by simp;omega
  rw[e,J7 xs ys hl f1 f2] at q;exact q
 ·have e:decide (xs=ys)=false:=decide_eq_false fun z=>hl (by rw[z])
  rw[e];exact SeqAt.RcAt.lists_lengths h1 h2 (by simp;omega) hu
def WQ (K:PySem.W.Frag)(neg:Bool):R2:=fun x y H Q=>∃a b xs ys,x=.ref a/\y=.ref b/\AR K H a xs/\AR K H b ys/\xs.all D7=true/\ys.all D7=true/\Q (.bl (if neg then !decide (xs=ys) else decide (xs=ys))) H
theorem Oc (hu:X.A.units+1<cLine):E1 X (compareOp .Eq) (WQ X.K false):=by
 intro pins s σ H x y v u Q I rx ry h;obtain⟨a,b,xs,ys,rfl,rfl,h1,h2,f1,f2,q⟩:=h;cases rx;cases ry;obtain⟨AC,r1,p1,_⟩:=I.list h1;obtain⟨its2,r2,p2,_⟩:=I.list h2;exact RO (by omega) r1 r2 p1.isList p2.isList f1 f2 _ _ _ _ ⟨.bl _,H,I,rfl,q⟩
theorem GQ (ns:List Str):(ns.map V.str).all D7=true:=by simp[List.all_map,Function.comp_def,D7]
end
theorem Il:∀{bs:List Bool} {us:List Value},AN (bs.map V.bl) us->LSm.BoolsAre us bs
 |[],_,.nil=>.nil
 |b::bs,_,.cons r t=>by
  have e:_=Value.bool b:=r;subst e;exact .cons b (Il t)
section
variable {prog:Program}{w:World}{A:Around}{E:Value->Shared->Prop}{s:Shared}{l:Addr}{vs:List Value}
theorem Si {bs:List Bool} {Q:Value->Shared->Prop} (hh:A.handled=none) (hl:s.heap.IsList l vs.toArray) (hb:LSm.BoolsAre vs bs)
  (h:∀h' tk,(∀b o,s.heap.get? b=some o->h'.get? b=some o)->Q (.bool (bs.all id)) { s with heap:=h',toks:=tk }):wpAny (model prog w) A (call (.builtin "all") [.ref l]) Q E s:=by
 have below:l<s.heap.objs.size:=(fun⟨_,e,_⟩=>Heap.lt_size e:s.heap.IsList l vs.toArray->_) hl;have whole:((List.range vs.toArray.size).all fun i=>(bs[i]?).getD true)=bs.all id:=by rw[List.size_toArray,hb.length,LSm.range_all]
 exact call_all_walk (wpAny_pyIter_list hl ⟨s.heap.objs.size,[s.heap.objs.size,l],[s.heap.objs.size],vs.toArray.size,_,_,fun i=>(bs[i]?).getD true,rfl,Walks.list (A:=A.in1) hh _ l (Nat.ne_of_lt below) vs.toArray,⟨⟨_,Heap.get?_push_size _ rfl,rfl,rfl⟩,hl.push _⟩,
  (fun i v s' Q' E' hP hQ=>by
   obtain⟨b,hg,hv⟩:=hb.get i v (by simpa using hP);have hQ':Q' b s':=by simpa [hg] using hQ
   subst hv;exact wpAny_truthy_bool hQ'),
  fun h' tk hk=>whole▸h h' tk (LSm.kept_iter hk)⟩)
end
section
variable {X:Cx}
theorem Bd (hc:X.calm=true):Ct X (.builtin "all") (fun xs H Q=>∃(a:Addr) (bs:List Bool),xs=[.ref a]/\AR X.K H a (bs.map V.bl)/\Q (.bl (bs.all id)) H):=by
 intro pins s σ H xs us Q I r h;obtain⟨a,bs,rfl,h1,q⟩:=h;obtain⟨u,rfl,ru⟩:=vals1 r;cases ru;obtain⟨AC,r1,p1,_⟩:=I.list h1;exact Si (I.ok.hd hc) p1.isList (Il r1) fun h' tk hk=>⟨.bl _,H,I.kept hk,rfl,q⟩
def VE (K:PySem.W.Frag):R2:=fun x y H Q=>∃l b xs zs,x=.ref l/\y=.ref b/\AR K H l xs/\AR K H b zs/\xs.length+zs.length<=sizeLine/\∀p,H p=none->Q (.ref p) (upd H p (.lst (xs++zs)))
theorem OB:E1 X (binaryOp .Add) (VE X.K):=by
 intro pins s σ H x y v u Q I rx ry h;obtain⟨l,b,xs,zs,rfl,rfl,h1,h2,hz,q⟩:=h;cases rx;cases ry;obtain⟨AC,r,p1,_⟩:=I.list h1;obtain⟨its2,r2,p2,_⟩:=I.list h2;have l1:=r.length;have l2:=r2.length;obtain⟨⟨cls,dd,data,sl⟩,ho,hc,n,hd⟩:=id p1.isList;obtain⟨⟨cls2,dd2,data2,sl2⟩,ho2,hc2,n2,hd2⟩:=id p2.isList;simp only at hc hd hc2 hd2;subst hc hd hc2 hd2;have e:AC.toArray++its2.toArray=(AC++its2).toArray:=by simp
 refine concat_meets ⟨_,ho,rfl⟩ ⟨_,ho2,rfl⟩ noFill_list_add seq_list_add PySem.F.slot_list_add PySem.F.entry_list_add (PySem.F.args_list_add_2 _ _) (list_addW l b AC.toArray its2.toArray n n2 dd dd2 sl sl2 (by rw[List.size_toArray,List.size_toArray];omega)) ⟨ho,ho2,?_⟩;rw[e];exact⟨.ref _,_,I.lnew (t':=s.toks) (r.append r2) (by rw[List.length_append];omega),rfl,q _ I.fresh⟩
end
theorem Ai {H:Hp}{p:Addr}(h:H p=none)(o:HO):Ah H (upd H p o):=fun b u q=>by rw[Aj (B8 q h)];exact q
theorem B4 {H H':Hp}{p:Addr}(s:Ah H H')(h:H p=none)(o:HO):Ah H (upd H' p o):=fun b u q=>by rw[Aj (B8 q h)];exact s b u q
theorem Ah.get {H H':Hp}{a:Addr}{o:HO}(s:Ah H H')(h:H a=some o):H' a=some o:=s a o h
theorem Hi:1000000<=sizeLine:=by decide
theorem small {n:Nat}(h:n<=1000000):n<=sizeLine:=Nat.le_trans h Hi
theorem CV {n:Nat}(h:n<1000000):n<sizeLine:=Nat.lt_of_lt_of_le h Hi
theorem R1 {ns:List Int}{i:Int}(h0:0<=i)(h1:i<ns.length):Hz (ns.map V.int) i=some (.int (ns.getD i.toNat 0)):=by
 have hk:i.toNat<ns.length:=by omega
 have ek:i=((i.toNat:Nat):Int):=by omega
 have q:Hz (ns.map V.int) ((i.toNat:Nat):Int)=some (.int (ns.getD i.toNat 0)):=AZ (by rw[List.getElem?_map,List.getElem?_eq_getElem hk];simp[List.getD,List.getElem?_eq_getElem hk]);rw[<-ek] at q;exact q
theorem Vi {xs:List V}{i:Int}(h:0<=i):HY xs (some i) none=xs.drop i.toNat:=by
 unfold HY;rw[show i=((i.toNat:Nat):Int) by omega,HT.OL,HT.Mv,Int.toNat_natCast]
 by_cases hl:i.toNat<=xs.length
 ·rw[Nat.min_eq_left hl,List.take_of_length_le (by rw[List.length_drop];exact Nat.le_refl _)]
 ·rw[Nat.min_eq_right (by omega),List.drop_eq_nil_of_le (Nat.le_refl _),List.drop_eq_nil_of_le (by omega),List.take_nil]
theorem Np {xs:List V}{j:Int}(h:0<=j):HY xs none (some j)=xs.take j.toNat:=by
 unfold HY;rw[show j=((j.toNat:Nat):Int) by omega,HT.OL,HT.Mv,Int.toNat_natCast,List.drop_zero,Nat.sub_zero]
 by_cases hl:j.toNat<=xs.length
 ·rw[Nat.min_eq_left hl]
 ·rw[Nat.min_eq_right (by omega),List.take_of_length_le (Nat.le_refl _),List.take_of_length_le (by omega)]
theorem R4 (ns:List Int)(lo hi:Option Int):∃ms:List Int,HY (ns.map V.int) lo hi=ms.map V.int/\ms.length<=ns.length/\∀x∈ms,x∈ns:=by
 refine⟨(ns.drop (HT.CQ (ns.map V.int).length 0 lo)).take (HT.CQ (ns.map V.int).length (ns.map V.int).length hi-HT.CQ (ns.map V.int).length 0 lo),?_,?_,fun x hx=>List.mem_of_mem_drop (List.mem_of_mem_take hx)⟩
 ·unfold HY;rw[List.map_take,List.map_drop]
 ·rw[List.length_take,List.length_drop];omega
theorem As {c:Bool}{A B:Prop}(h:c=false)(b:B):if c=true then A else B:=by
 subst h;rw[if_neg Bool.false_ne_true];exact b
theorem Ao {c:Bool}{A B:Prop}(h:c=true)(b:A):if c=true then A else B:=by
 subst h;rw[if_pos rfl];exact b
theorem dec_true {c:Prop}[Decidable c](h:decide c=true):c:=of_decide_eq_true h
theorem dec_false {c:Prop}[Decidable c](h:¬decide c=true):¬c:=fun z=>h (decide_eq_true z)
theorem I0 {t u:TT}{σ:St}{H:Hp}{Q:Bool->Hp->Prop}(c d:Bool)(ht:∀R:Bool->Hp->Prop,R c H->t σ H R)(hu:c=false->∀R:Bool->Hp->Prop,R d H->u σ H R)(q:Q (c||d) H):S1 t u σ H Q:=by
 refine ht _ ?_;cases c with
 |true=>rw[if_pos rfl];exact q
 |false=>rw[if_neg Bool.false_ne_true];exact hu rfl _ q
def Hm (J:It)(H:Hp)(xs:List V):Prop:=∀H',Ah H H'->∀i:Nat,(i<xs.length->J.go i H')/\(∀x H'',J.yld i H' x H''->H''=H'/\(i<xs.length->xs[i]?=some x))/\(xs.length<=i->J.stop i H')
theorem BZ {K:PySem.W.Frag}{a:Addr}{H:Hp}{xs:List V}(h:AR K H a xs):Hm (UG K a) H xs:=fun H' s i=>
 ⟨fun hi=>⟨xs,xs[i],s.seq h,by simp[hi]⟩,fun x H'' y=>⟨y.1,fun _=>y.2 xs (s.seq h)⟩,fun hi=>⟨xs,s.seq h,hi⟩⟩
theorem Jw {lo:Int}{n:Nat}{H:Hp}:Hm (Ub lo n) H ((List.range n).map fun(i:Nat)=>V.int (lo+(i:Int))):=fun H' s i=>
 ⟨fun hi=>(by simpa using hi:i<n),fun x H'' y=>⟨y.1,fun hi=>by
  have hi':i<n:=by simpa using hi
  rw[List.getElem?_map,List.getElem?_range hi',y.2];rfl⟩,fun hi=>(by simpa using hi:n<=i)⟩
theorem comp_map {J:It} {xs:List V} {fr:List (Option Nat)} {k:Nat} {te:TE} {Q:VK} {σ:St} {H:Hp} (f:V->V) (hJ:Hm J H xs) (hn:xs.length<=1000000)
  (helt:∀(x:V) (H':Hp) (R:VK),x∈xs->Ah H H'->(∀H'',Ah H' H''->R (f x) H'')->te ((stC fr σ).set k (some x)) H' R)
  (hQ:∀l H',H l=none->Ah H H'->H' l=some (.lst (xs.map f))->Q (.ref l) H') :
  Dd fr (A4 k) MV te σ Q J H:=by
 intro l hl;refine⟨fun i m σ' H'=>m=xs.length-i/\i<=xs.length/\(∀y,σ'.set k y=(stC fr σ).set k y)/\Ah H H'/\H' l=some (.lst ((xs.take i).map f)),⟨xs.length,by simp,Nat.zero_le _,fun _=>rfl,Ai hl _,by rw[Ad,List.take_zero,List.map_nil]⟩,?_⟩
 rintro i m σ' H' ⟨rfl,hi,hσ,hs,hl'⟩
 obtain⟨h1,h2,h3⟩:=hJ H' hs i
 by_cases hlt:i<xs.length
 ·refine .inr ⟨h1 hlt,fun x H'' y=>?_⟩;obtain⟨rfl,hx⟩:=h2 x H'' y;have hx:=hx hlt;show te (σ'.set k (some x)) H'' _;rw[hσ];refine helt x H'' _ (List.mem_of_getElem? hx) hs fun H4 s4=>?_
  refine⟨_,s4.get hl',CV (by rw[List.length_map,List.length_take];omega),xs.length-(i+1),by omega,rfl,hlt,fun y=>by rw[List.set_set],B4 (hs.trans s4) hl _,?_⟩;rw[Ad,List.take_add_one,hx];simp
 ·have e:i=xs.length:=by omega
  subst e;exact .inl ⟨h3 (Nat.le_refl _),hQ l H' hl hs (by rw[hl',List.take_of_length_le (Nat.le_refl _)])⟩
section
variable {X:Cx}{K:PySem.W.Frag}
theorem QU (h:X.K=K):VB X (QP K):=by subst h;exact B2
theorem AQ (h:X.K=K):VB X (Uk K):=by subst h;exact Ap
theorem Lf (h:X.K=K):Ct X (.builtin "isinstance") (VP K):=by subst h;exact AJ
end
def Ok (H:Hp):V->Prop
 | .non=>True
 | .bl _=>True
 | .int _=>True
 | .str z=>z.length<=1000
 | .ref a=>(∃xs,H a=some (.lst xs))\/∃xs,H a=some (.tup xs)
 |_=>False
theorem Ok.same {H H':Hp}{v:V}(h:Ok H v)(s:Ah H H'):Ok H' v:=by
 cases v<;>first|exact h|skip
 rcases h with⟨xs,e⟩|⟨xs,e⟩
 ·exact .inl ⟨xs,s.get e⟩
 ·exact .inr ⟨xs,s.get e⟩
def Eg (H:Hp):V->String
 | .non=>"NoneType"
 | .bl _=>"bool"
 | .int _=>"int"
 | .str _=>"str"
 | .ref a=>match H a with
  |some (.lst _)=>"list"
  |some (.tup _)=>"tuple"
  |_=>"?"
 |_=>"?"
theorem Ok.ty {H:Hp}{v:V}(h:Ok H v)(K:PySem.W.Frag):TyOf K H v (.type (Eg H v)):=by
 cases v with
 |non=>exact .non
 |bl b=>exact .bl b
 |int i=>exact .int i
 |str z=>exact .str z
 |ref a=>
  rcases h with⟨xs,e⟩|⟨xs,e⟩
  ·have q:Eg H (.ref a)="list":=by simp only[Eg,e]
   rw[q];exact .lst e
  ·have q:Eg H (.ref a)="tuple":=by simp only[Eg,e]
   rw[q];exact .tup e
 |_=>exact h.elim
def isA (t c:String):Bool:=t == c||(t == "bool"&&c == "int")
theorem OQ {t c:String}(K:PySem.W.Frag)(ht:t∈["NoneType","bool","int","str","list","tuple"])(hc:c∈["bool","int","str","list","tuple"]):PySem.W.kitOne K (.type t) (.type c)=some (isA t c):=by
 have all:∀t∈["NoneType","bool","int","str","list","tuple"],∀c∈["bool","int","str","list","tuple"],(if(Value.type t == Value.type c)=true then some true else if PySem.W.kitMeta c=true then(fastBuiltinMro t).map (·.contains (.type c)) else none)=some (isA t c):=by decide +kernel
 exact Uq (all t ht c hc) K
theorem Ok.tyMem {H:Hp}{v:V}(h:Ok H v):Eg H v∈["NoneType","bool","int","str","list","tuple"]:=by
 cases v with
 |ref a=>
  rcases h with⟨xs,e⟩|⟨xs,e⟩
  ·simp only[Eg,e];decide
  ·simp only[Eg,e];decide
 |byt _=>exact h.elim
 |flt _=>exact h.elim
 |ty _=>exact h.elim
 |_=>simp only[Eg];decide
theorem Ok.kit {H:Hp}{v:V}(h:Ok H v)(K:PySem.W.Frag){c:String}(hc:c∈["bool","int","str","list","tuple"]:=by decide):PySem.W.kitOne K (.type (Eg H v)) (.type c)=some (isA (Eg H v) c):=OQ K h.tyMem hc
theorem Gb {t u:TE}{σ:St}{H:Hp}{Q:VK}(c d:Bool)(ht:∀R:VK,R (.bl c) H->t σ H R)(hu:c=true->∀R:VK,R (.bl d) H->u σ H R)(q:Q (.bl (c&&d)) H):T8 t u σ H Q:=by
 refine ht _ ⟨c,rfl,?_⟩;cases c with
 |false=>rw[if_neg Bool.false_ne_true];exact q
 |true=>rw[if_pos rfl];exact hu rfl _ q
theorem SJ {H:Hp}{a:Addr}{xs:List V}(e:H a=some (.lst xs)):Eg H (.ref a)="list":=by simp only[Eg,e]
theorem SC {H:Hp}{a:Addr}{xs:List V}(e:H a=some (.tup xs)):Eg H (.ref a)="tuple":=by simp only[Eg,e]
theorem Ok.elim {H:Hp} {v:V} (ok:Ok H v) {C:Prop} (c1:v=.non->Eg H v="NoneType"->C) (c2:∀b,v=.bl b->Eg H v="bool"->C) (c3:∀i,v=.int i->Eg H v="int"->C) (c4:∀z,v=.str z->z.length<=1000->Eg H v="str"->C)
  (c5:∀a xs,v=.ref a->H a=some (.lst xs)->Eg H v="list"->C) (c6:∀a xs,v=.ref a->H a=some (.tup xs)->Eg H v="tuple"->C):C:=by
 cases v with
 |non=>exact c1 rfl rfl
 |bl b=>exact c2 b rfl rfl
 |int i=>exact c3 i rfl rfl
 |str z=>exact c4 z rfl ok rfl
 |ref a=>
  rcases ok with⟨xs,e⟩|⟨xs,e⟩
  ·exact c5 a xs rfl e (SJ e)
  ·exact c6 a xs rfl e (SC e)
 |_=>exact(show False from ok).elim
def E5 (H:Hp)(v:V):Bool:=isA (Eg H v) "int" && !isA (Eg H v) "bool"
theorem Pq (H:Hp)(i:Int):E5 H (.int i)=true:=by
 show(isA "int" "int" && !isA "int" "bool")=true
 decide
theorem Q1 {H:Hp}{v:V}(ok:Ok H v)(h:E5 H v=true):∃i,v=.int i:=by
 unfold E5 at h;refine ok.elim (fun _ e=>?_) (fun _ _ e=>?_) (fun i e _=>⟨i,e⟩) (fun _ _ _ e=>?_) (fun _ _ _ _ e=>?_) (fun _ _ _ _ e=>?_)
 all_goals (rw[e] at h;exact absurd h (by decide))
def BD (a b:Int):V->Bool
 | .int i=>decide (a<=i)&&decide (i<=b)
 |_=>false
theorem S2 {H:Hp}{v:V}{a b:Int}(h:E5 H v=false):BD a b v=false:=by
 cases v with
 |int i=>rw[Pq] at h;cases h
 |_=>rfl
theorem Qe {H:Hp}{v:V}(ok:Ok H v)(h:isA (Eg H v) "tuple"=true):∃a xs,v=.ref a/\H a=some (.tup xs):=by
 refine ok.elim (fun _ e=>?_) (fun _ _ e=>?_) (fun _ _ e=>?_) (fun _ _ _ e=>?_) (fun _ _ _ _ e=>?_) (fun a xs e1 e2 _=>⟨a,xs,e1,e2⟩)
 all_goals (rw[e] at h;exact absurd h (by decide))
theorem UH {H:Hp}{v:V}(ok:Ok H v)(h:isA (Eg H v) "str"=true):∃z,v=.str z/\z.length<=1000:=by
 refine ok.elim (fun _ e=>?_) (fun _ _ e=>?_) (fun _ _ e=>?_) (fun z e1 e2 _=>⟨z,e1,e2⟩) (fun _ _ _ _ e=>?_) (fun _ _ _ _ e=>?_)
 all_goals (rw[e] at h;exact absurd h (by decide))
def Ws (x:Str):It:=⟨fun i _=>i<x.cps.size,fun i H v H'=>H'=H/\∃c,x.cps[i]?=some c/\v=.str ⟨#[c]⟩,fun i _=>x.cps.size<=i⟩
theorem N9 {P:Program}{w:World}{K:PySem.W.Frag}{tg:Expr}(it:Addr)(x:Str)(t:Tok):Turn P w K tg (Ws x) [it] it (fun i h=>h.IsStrIter it "str_ascii_iterator" x t i) where
 mem:=by simp
 obj:=fun i h st b hb=>by
  have e:b=it:=by simpa using hb
  subst e;obtain⟨o,e,c,d⟩:=st;exact⟨o,e,fun v z=>by rw[d] at z;cases z⟩
 keep:=fun i h h' st k=>by
  obtain⟨o,e,c,d⟩:=st;exact⟨o,k it (by simp) o e,c,d⟩
 item:=by
  intro X hP hw hK hc i pins s σ H E I hf st hg;subst hP hw hK;have hg':i<x.cps.size:=hg;obtain⟨f0,f1,f2,f3,f4,f5⟩:=hf it (by simp);refine wpAny_pyNext_ascii_item st (c:=x.cps[i]) (by simp[hg']) fun h' st' sb=>?_
  have I1:Inv X pins σ H { s with heap:=h',toks:=s.toks+1 }:=I.turned (fun b o hb e=>(sb.2 b hb).trans e) f0 f1 f3 f4 f5;obtain⟨o,e,c,d⟩:=id st';exact⟨_,rfl,JH (s:={ s with heap:=h',toks:=s.toks+1 }) e c d (by decide) ⟨.str ⟨#[x.cps[i]]⟩,H,I1,⟨_,rfl⟩,⟨rfl,_,by simp[hg'],rfl⟩,st',fun b hb=>(hf b hb).1⟩⟩
 done:=by
  intro X hP hw hK hc i pins s σ H E I hf st hg;subst hP hw hK;have hg':x.cps.size<=i:=hg;obtain⟨f0,f1,f2,f3,f4,f5⟩:=hf it (by simp);exact wpAny_pyNext_ascii_end (I.ok.hd hc) st (by simp[hg']) fun h' eb=>⟨rfl,I.turned (t':=s.toks) (fun b o hb e=>eb b o hb e) f0 f1 f3 f4 f5⟩
 self:=fun _ _ _ _ _ st h=>wpAny_pyIter_striter_ascii st h
theorem PD {P:Program}{w:World}{K:PySem.W.Frag}{tg:Expr}(it:Addr)(x:Str)(t:Tok):Turn P w K tg (Ws x) [it] it (fun i h=>h.IsStrIter it "str_iterator" x t i) where
 mem:=by simp
 obj:=fun i h st b hb=>by
  have e:b=it:=by simpa using hb
  subst e;obtain⟨o,e,c,d⟩:=st;exact⟨o,e,fun v z=>by rw[d] at z;cases z⟩
 keep:=fun i h h' st k=>by
  obtain⟨o,e,c,d⟩:=st;exact⟨o,k it (by simp) o e,c,d⟩
 item:=by
  intro X hP hw hK hc i pins s σ H E I hf st hg;subst hP hw hK;have hg':i<x.cps.size:=hg;obtain⟨f0,f1,f2,f3,f4,f5⟩:=hf it (by simp);refine wpAny_pyNext_wide_item st (c:=x.cps[i]) (by simp[hg']) fun h' st' sb=>?_
  have I1:Inv X pins σ H { s with heap:=h',toks:=s.toks+1 }:=I.turned (fun b o hb e=>(sb.2 b hb).trans e) f0 f1 f3 f4 f5;obtain⟨o,e,c,d⟩:=id st';exact⟨_,rfl,JH (s:={ s with heap:=h',toks:=s.toks+1 }) e c d (by decide) ⟨.str ⟨#[x.cps[i]]⟩,H,I1,⟨_,rfl⟩,⟨rfl,_,by simp[hg'],rfl⟩,st',fun b hb=>(hf b hb).1⟩⟩
 done:=by
  intro X hP hw hK hc i pins s σ H E I hf st hg;subst hP hw hK;have hg':x.cps.size<=i:=hg;obtain⟨f0,f1,f2,f3,f4,f5⟩:=hf it (by simp);exact wpAny_pyNext_wide_end (I.ok.hd hc) st (by simp[hg']) fun h' eb=>⟨rfl,I.turned (t':=s.toks) (fun b o hb e=>eb b o hb e) f0 f1 f3 f4 f5⟩
 self:=fun _ _ _ _ _ st h=>wpAny_pyIter_striter_wide st h
section
variable {X:Cx}{tg:Expr}
def WO (tl:TE):TI:=fun σ H R=>tl σ H fun x H1=>∃z,x=.str z/\R (Ws z) H1
theorem LH {l:Expr}{tl:TE}(hl:PE X l tl):PI X tg l (WO tl):=by
 intro pins s σ H R I h;refine Bw (hl pins s σ H _ I h) fun v s1 ⟨x,H1,I1,r1,q1⟩=>?_
 obtain⟨z,e,q⟩:=q1;subst e;obtain⟨t,rfl⟩:=r1;have fp:∀b∈[s1.heap.objs.size],Iu X pins H1 b:=fun b hb=>by
  have e:b=s1.heap.objs.size:=by simpa using hb
  subst e;exact I1.fpOk (Nat.le_refl _) (I1.hok.fresh (Nat.le_refl _))
 cases ha:z.cps.all (· < 128)
 ·exact wpAny_pyIter_wide ha ⟨s1.heap.objs.size,[s1.heap.objs.size],_,_,H1,rfl,I1.kept (t':=s1.toks) (fun b o e=>Heap.get?_push_of_some _ e),PD _ z t,⟨_,Heap.get?_push_size _ rfl,rfl,rfl⟩,fp,q⟩
 ·exact wpAny_pyIter_ascii ha ⟨s1.heap.objs.size,[s1.heap.objs.size],_,_,H1,rfl,I1.kept (t':=s1.toks) (fun b o e=>Heap.get?_push_of_some _ e),N9 _ z t,⟨_,Heap.get?_push_size _ rfl,rfl,rfl⟩,fp,q⟩
end
theorem GU {x:Str}{H:Hp}:Hm (Ws x) H (x.cps.toList.map fun c=>V.str ⟨#[c]⟩):=fun H' s i=>
 ⟨fun hi=>(by simpa using hi:i<x.cps.size),fun v H'' y=>⟨y.1,fun hi=>by
  obtain⟨_,c,hc,e⟩:=y;rw[List.getElem?_map,Array.getElem?_toList,hc,e];rfl⟩,fun hi=>(by simpa using hi:x.cps.size<=i)⟩
section
variable {X:Cx}
def UR:V->List V->Hp->VK->Prop:=fun x vs H Q=>∃t u,x=.str t/\vs=[.str u]/\0<=Txt.find t u/\Q (.int (Txt.find t u)) H
theorem Ri (hc:X.calm=true):Xj X "str.index" UR:=by
 intro pins s σ H x vs v us Q I rx rv h;obtain⟨t,u,rfl,rfl,h0,q⟩:=h;obtain⟨tk,rfl⟩:=rx;obtain⟨y,rfl,ry⟩:=rv.one;obtain⟨tk2,rfl⟩:=ry;refine index_or (I.ok.hd hc) (fun e=>absurd e (by omega)) fun _ _=>⟨.int (Txt.find t u),H,I.tok _,⟨_,rfl⟩,q⟩
end
end L2
namespace L2
open PySem PySem.Spec PyProof.Rows PySem.Builtin.Str
abbrev Iq (z:Str):List Nat:=z.cps.toList
theorem Fj (z:Str):(Iq z).length=z.length:=by simp[Str.length]
end L2
namespace L2
open PySem PySem.Spec PyProof.Rows
section
variable {X:Cx}
def W0:R2:=fun x y H Q=>∃a b,x=.bl a/\y=.bl b/\Q (.bl (a == b)) H
theorem R5:E1 X (compareOp .Is) W0:=by
 intro pins s σ H x y v u Q I rx ry h;obtain⟨a,b,rfl,rfl,q⟩:=h;cases rx;cases ry;exact is_bool ⟨.bl _,H,I,rfl,q⟩
end
theorem Lg {X:Cx}{K:PySem.W.Frag}{pos:Pos}{es:List Expr}{k:Nat}{t:T5}{n:Nat}(hK:X.K=K)(hc:X.calm=true)(h:V6 X es t)(hn:(assignEach es X.env).length=n:=by rfl)(hs:(assignEach es X.env).findIdx? (·.1)=none:=by rfl):PG X (.Tuple es k pos) (U0 K n t):=by
 subst hK;exact NA hc h hn hs
section
variable {κ:Type}[DecidableEq κ]
def BK (kvs:List (κ×V))(k:κ):Option V:=(kvs.find? fun kv=>decide (kv.1=k)).map (·.2)
def putK (kvs:List (κ×V))(k:κ)(v:V):List (κ×V):=
 if(kvs.any fun kv=>decide (kv.1=k))=true then kvs.map (fun kv=>if kv.1=k then(kv.1,v) else kv) else kvs++[(k,v)]
theorem GW {p:κ×V}{r:List (κ×V)}{k:κ}(e:p.1=k):BK (p::r) k=some p.2:=by simp[BK,List.find?_cons,e]
theorem GZ {p:κ×V}{r:List (κ×V)}{k:κ}(e:¬p.1=k):BK (p::r) k=BK r k:=by simp[BK,List.find?_cons,e]
theorem M4 (k:κ):∀kvs:List (κ×V),(kvs.any fun kv=>decide (kv.1=k))=(BK kvs k).isSome
 |[]=>rfl
 |p::r=>by
  rw[List.any_cons]
  by_cases e:p.1=k
  ·simp only[GW e,decide_eq_true e,Bool.true_or,Option.isSome_some]
  ·rw[GZ e,decide_eq_false e,Bool.false_or];exact M4 k r
theorem HZ (kvs:List (κ×V))(k:κ)(v:V):(putK kvs k v).length<=kvs.length+1:=by
 unfold putK
 split
 ·rw[List.length_map];omega
 ·rw[List.length_append,List.length_cons,List.length_nil];omega
theorem Hv.isSome_eq {o:Option V}{u:Option Value}(r:Hv o u):o.isSome=u.isSome:=by
 cases o with
 |none=>cases u with
  |none=>rfl
  |some _=>exact(show False from r).elim
 |some _=>cases u with
  |none=>exact(show False from r).elim
  |some _=>rfl
theorem Hv.getD {o:Option V}{u:Option Value}{d:V}{d':Value}(r:Hv o u)(rd:RelV d d'):RelV (o.getD d) (u.getD d'):=by
 cases o with
 |none=>cases u with
  |none=>exact rd
  |some _=>exact(show False from r).elim
 |some _=>cases u with
  |none=>exact(show False from r).elim
  |some _=>exact r
theorem KV.val {kvs:List (κ×V)}{vs:List (κ×Value)}(r:KV kvs vs)(k:κ):Hv (BK kvs k) (valueAt vs k):=by
 unfold KV at r
 induction r with
 |nil=>exact True.intro
 |@cons p q ps qs h t ih=>
  obtain⟨h1,h2⟩:=h
  by_cases e:p.1=k
  ·have e':q.1=k:=h1.symm.trans e;have b:valueAt (q::qs) k=some q.2:=by simp[valueAt,List.find?_cons,e']
   rw[GW e,b];exact h2
  ·have e':¬q.1=k:=fun z=>e (h1.trans z)
   have b:valueAt (q::qs) k=valueAt qs k:=by simp[valueAt,List.find?_cons,e']
   rw[GZ e,b];exact ih
theorem KV.any {kvs:List (κ×V)}{vs:List (κ×Value)}(r:KV kvs vs)(k:κ):(kvs.any fun kv=>decide (kv.1=k))=vs.any fun kv=>decide (kv.1=k):=by
 unfold KV at r
 induction r with
 |nil=>rfl
 |cons h t ih=>rw[List.any_cons,List.any_cons,ih,h.1]
theorem KV.repl {kvs:List (κ×V)}{vs:List (κ×Value)}(r:KV kvs vs)(k:κ){y:V}{u:Value}(ry:RelV y u) :
  KV (kvs.map fun kv=>if kv.1=k then(kv.1,y) else kv) (vs.map fun kv=>if kv.1=k then(kv.1,u) else kv):=by
 unfold KV at r ⊢
 induction r with
 |nil=>exact .nil
 |@cons p q ps qs h t ih=>
  rw[List.map_cons,List.map_cons];refine .cons ?_ ih;obtain⟨h1,h2⟩:=h
  by_cases e:p.1=k
  ·rw[if_pos e,if_pos (h1.symm.trans e)];exact⟨h1,ry⟩
  ·rw[if_neg e,if_neg (fun z=>e (h1.trans z))];exact⟨h1,h2⟩
theorem KV.put {kvs:List (κ×V)}{vs:List (κ×Value)}(r:KV kvs vs)(k:κ){y:V}{u:Value}(ry:RelV y u):KV (putK kvs k y) (stored vs k u):=by
 unfold putK stored;rw[r.any k]
 by_cases e:(vs.any fun kv=>decide (kv.1=k))=true
 ·rw[if_pos e,if_pos e];exact r.repl k ry
 ·rw[if_neg e,if_neg e];exact Paired.snoc r ⟨rfl,ry⟩
theorem KV.keys {kvs:List (κ×V)}{vs:List (κ×Value)}(r:KV kvs vs):kvs.map (·.1)=vs.map (·.1):=by
 unfold KV at r
 induction r with
 |nil=>rfl
 |cons h t ih=>rw[List.map_cons,List.map_cons,ih,h.1]
theorem KV.length {kvs:List (κ×V)}{vs:List (κ×Value)}(r:KV kvs vs):kvs.length=vs.length:=Paired.length r
end
theorem G8 {P:Program}{w:World}{k:Key}{u:Value}(r:RelV (kV k) u):(AY P w).is k u=true:=by
 cases k with
 |inl i=>obtain⟨t,e⟩:=(show ∃t,u=Value.int i t from r);subst e;exact ML P w i t
 |inr x=>obtain⟨t,e⟩:=(show ∃t,u=Value.str x t from r);subst e;exact MY P w x t
theorem K0 {P:Program}{w:World}:∀{ks:List Key} {us:List Value},AN (ks.map kV) us->ItemsAre (AY P w) ks us
 |[],_,r=>by rw[List.map_nil] at r;cases r;exact .nil
 |k::ks,_,r=>by
  rw[List.map_cons] at r;cases r with
  |cons h t=>exact .cons (G8 h) (K0 t)
abbrev KT (H:Hp):List (List Key×V)->List (List Key×Addr×Value)->Prop:=Paired fun p q=>p.1=q.1/\H q.2.1=some (.tup (p.1.map kV))/\RelV p.2 q.2.2
theorem KT.val {H:Hp}{kvs:List (List Key×V)}{xs:List (List Key×Addr×Value)}(r:KT H kvs xs)(k:List Key):Hv (BK kvs k) ((atKey xs k).map (·.2)):=by
 induction r with
 |nil=>exact True.intro
 |@cons p q ps qs h t ih=>
  obtain⟨h1,_,h2⟩:=h
  by_cases e:p.1=k
  ·have e':q.1=k:=h1.symm.trans e;have b:atKey (q::qs) k=some q.2:=by simp[atKey,List.find?_cons,e']
   rw[GW e,b];exact h2
  ·have e':¬q.1=k:=fun z=>e (h1.trans z)
   have b:atKey (q::qs) k=atKey qs k:=by simp[atKey,List.find?_cons,e']
   rw[GZ e,b];exact ih
theorem KT.repl {H:Hp}{kvs:List (List Key×V)}{xs:List (List Key×Addr×Value)}(r:KT H kvs xs)(k:List Key){y:V}{u:Value}(ry:RelV y u) :
  KT H (kvs.map fun kv=>if kv.1=k then(kv.1,y) else kv) (xs.map (putAt k u)):=by
 induction r with
 |nil=>exact .nil
 |@cons p q ps qs h t ih=>
  rw[List.map_cons,List.map_cons];refine .cons ?_ ih;obtain⟨h1,h2,h3⟩:=h;unfold putAt
  by_cases e:p.1=k
  ·rw[if_pos e,if_pos (h1.symm.trans e)];exact⟨h1,h2,ry⟩
  ·rw[if_neg e,if_neg (fun z=>e (h1.trans z))];exact⟨h1,h2,h3⟩
theorem KT.put {H:Hp}{kvs:List (List Key×V)}{xs:List (List Key×Addr×Value)}(r:KT H kvs xs)(k:List Key){b:Addr}{y:V}{u:Value}(hb:H b=some (.tup (k.map kV)))(ry:RelV y u) :
  KT H (putK kvs k y) (storedH xs k b u):=by
 have e:(kvs.any fun kv=>decide (kv.1=k))=(atKey xs k).isSome:=by
  rw[M4,(r.val k).isSome_eq,Option.isSome_map]
 unfold putK storedH;rw[e]
 by_cases q:(atKey xs k).isSome=true
 ·rw[if_pos q,if_pos q];exact r.repl k ry
 ·rw[if_neg q,if_neg q];exact Paired.snoc r ⟨rfl,hb,ry⟩
theorem KT.keeps {H H':Hp}{kvs:List (List Key×V)}{xs:List (List Key×Addr×Value)}(r:KT H kvs xs)(ht:∀b ys,H b=some (.tup ys)->H' b=some (.tup ys)):KT H' kvs xs:=
 Paired.mapP r fun _ _ z=>⟨z.1,ht _ _ z.2.1,z.2.2⟩
section
variable {P:Program}{w:World}{H:Hp}{h:Heap}{a:Addr}
theorem TZ {u:HO}(ok:Gg P w H h)(e:Rd H a u):AX P w H h a u:=e.ok ok
theorem Ki {kvs:List (Key×V)}(ok:Gg P w H h)(e:Rd H a (.dK kvs)):kvs.length<=sizeLine/\(a == sysModules)=false/\∃vs,KV kvs vs/\h.DictOf (AY P w) a vs:=
 show AX P w H h a (.dK kvs) from TZ ok e
theorem V9 {kvs:List (Key×V)}(ok:Gg P w H h)(e:H a=some (.dK kvs)):kvs.length<=sizeLine/\(a == sysModules)=false/\∃vs,KV kvs vs/\h.DictOf (AY P w) a vs:=Ki ok (.inl e)
theorem Gx {ks:List Key}(ok:Gg P w H h)(e:H a=some (.tup (ks.map kV))):(tupleKind (AY P w)).is h ks a:=by
 obtain⟨_,AC,r,o,h1,h2,n,h3⟩:=(show AX P w H h a (.tup (ks.map kV)) from ok a _ e)
 exact⟨o,AC.toArray,n,h1,h2,h3.1,by simpa using K0 r⟩
theorem KR {kvs:List (List Key×V)}(ok:Gg P w H h)(e:Rd H a (.dT kvs)):kvs.length<=sizeLine/\(a == sysModules)=false/\
  ∃xs,KT H kvs xs/\h.DictOfH (tupleKind (AY P w)) a xs:=by
 obtain⟨z,y,xs,r,o,es,ep,h1,h2,h3,h4,h5⟩:=(show AX P w H h a (.dT kvs) from TZ ok e)
 refine⟨z,y,xs,r,o,es,ep,h1,h2,h3,h4,fun x hx=>?_,h5⟩;have all:∀{l:List (List Key×V)} {m:List (List Key×Addr×Value)},KT H l m->∀x∈m,(tupleKind (AY P w)).is h x.1 x.2.1:=by
  intro l m q
  induction q with
  |nil=>intro x hx;exact nomatch hx
  |@cons p q ps qs hq t ih=>
   intro x hx;rcases List.mem_cons.mp hx with e|hx
   ·subst e;exact Gx ok (by rw[<-hq.1];exact hq.2.1)
   ·exact ih x hx
 exact all r x hx
theorem Uc {kvs:List (List Key×V)}(ok:Gg P w H h)(e:H a=some (.dT kvs)):kvs.length<=sizeLine/\(a == sysModules)=false/\
  ∃xs,KT H kvs xs/\h.DictOfH (tupleKind (AY P w)) a xs:=KR ok (.inl e)
end
def Cm (H:Hp)(a:Addr)(y:V)(r:Option V):Prop:=
 (∃kvs k,Rd H a (.dK kvs)/\y=kV k/\r=BK kvs k)\/∃kvs k b,Rd H a (.dT kvs)/\y=.ref b/\H b=some (.tup (k.map kV))/\r=BK kvs k
def LY (H:Hp)(a:Addr)(y v:V)(H':Hp):Prop:=
 (∃kvs k,H a=some (.dK kvs)/\y=kV k/\kvs.length<sizeLine/\H'=upd H a (.dK (putK kvs k v)))\/
 ∃kvs k b,H a=some (.dT kvs)/\y=.ref b/\H b=some (.tup (k.map kV))/\kvs.length<sizeLine/\H'=upd H a (.dT (putK kvs k v))
theorem Cm.k {H:Hp}{a:Addr}{kvs:List (Key×V)}{k:Key}(e:H a=some (.dK kvs)):Cm H a (kV k) (BK kvs k):=.inl ⟨kvs,k,.inl e,rfl,rfl⟩
theorem Cm.t {H:Hp}{a b:Addr}{kvs:List (List Key×V)}{k:List Key}(e:H a=some (.dT kvs))(eb:H b=some (.tup (k.map kV))):Cm H a (.ref b) (BK kvs k):=.inr ⟨kvs,k,b,.inl e,rfl,eb,rfl⟩
theorem LY.k {H:Hp}{a:Addr}{kvs:List (Key×V)}{k:Key}{v:V}(e:H a=some (.dK kvs))(hl:kvs.length<sizeLine):LY H a (kV k) v (upd H a (.dK (putK kvs k v))):=.inl ⟨kvs,k,e,rfl,hl,rfl⟩
theorem LY.t {H:Hp}{a b:Addr}{kvs:List (List Key×V)}{k:List Key}{v:V}(e:H a=some (.dT kvs))(eb:H b=some (.tup (k.map kV)))(hl:kvs.length<sizeLine) :
  LY H a (.ref b) v (upd H a (.dT (putK kvs k v))):=.inr ⟨kvs,k,b,e,rfl,eb,hl,rfl⟩
section
variable {X:Cx}{pins:List (Addr×Obj)}{σ:St}{H:Hp}{s:Shared}{a:Addr}{y v:V}{u r:Value}{o:Option V}{A:Around}{E:Value->Shared->Prop}
theorem Inv.big (I:Inv X pins σ H s):sysModules<s.heap.objs.size:=by
 have h:mainGlobals<s.heap.objs.size:=(I.mod.glob.keeps I.bk).lt;exact Nat.lt_trans (by decide) h
theorem KZ {Q:Value->Shared->Prop}(hu:A.units+1<cLine)(I:Inv X pins σ H s)(g:Cm H a y (some v))(ry:RelV y u)(h:∀w' s',Inv X pins σ H s'->RelV v w'->Q w' s') :
  wpAny (model X.prog X.w) A (getItem (.ref a) u) Q E s:=by
 rcases g with⟨kvs,k,e,ey,l⟩|⟨kvs,k,b,e,ey,eb,l⟩
 ·subst ey;obtain⟨z,hd,vs,rel,dd⟩:=Ki I.hok e;obtain⟨w',hw,rw'⟩:=Hv.some_of (v:=v) (o:=valueAt vs k) (by rw[l];exact rel.val k);exact wpAny_getItem_of (G8 ry) dd.mapOf hw (h w' _ (I.tok _) rw')
 ·subst ey;cases(show u=Value.ref b from ry);obtain⟨z,hd,xs,rel,dd⟩:=KR I.hok e;obtain⟨w',hw,rw'⟩:=Hv.some_of (v:=v) (o:=(atKey xs k).map (·.2)) (by rw[l];exact rel.val k);obtain⟨p,hp,hp2⟩:=Option.map_eq_some_iff.mp hw;refine wpAny_getItem_heap (tupleKind_room_in1 hu) (Gx I.hok eb) dd hp ?_;rw[hp2];exact h w' _ (I.tok _) rw'
theorem WA {Q:Value->Shared->Prop}(hu:A.units+1<cLine)(I:Inv X pins σ H s)(g:Cm H a y o)(ry:RelV y u)(h:∀s',Inv X pins σ H s'->Q (.bool o.isSome) s') :
  wpAny (model X.prog X.w) A (compareOp .In u (.ref a)) Q E s:=by
 rcases g with⟨kvs,k,e,ey,l⟩|⟨kvs,k,b,e,ey,eb,l⟩
 ·subst ey;obtain⟨z,hd,vs,rel,dd⟩:=Ki I.hok e;refine wpAny_in_of (G8 ry) hd dd.mapOf ?_;rw[<-(rel.val k).isSome_eq,<-l];exact h _ (I.tok _)
 ·subst ey;cases(show u=Value.ref b from ry);obtain⟨z,hd,xs,rel,dd⟩:=KR I.hok e;refine wpAny_in_heap (tupleKind_room_in1 hu) (Gx I.hok eb) hd dd ?_;have q:=(rel.val k).isSome_eq;rw[Option.isSome_map] at q;rw[<-q,<-l];exact h _ (I.tok _)
theorem OD {h':Heap}{t':Nat}{ob:HO}(I:Inv X pins σ H s)(mu:Wa (H a))(hs:Heap.SameBut a s.heap h')(he:∃q,h'.get? a=some q)(new:AX X.prog X.w (upd H a ob) h' a ob) :
  Inv X pins σ (upd H a ob) { s with heap:=h',toks:=t' }:=
 I.write (x:=a) (e:=a) mu (.inl rfl) (fun b q hb z=>(hs.2 b hb).trans z) he new
theorem RP {P:Program}{w:World}{H':Hp}{h':Heap}{kvs:List (Key×V)}{vs:List (Key×Value)}(z:kvs.length<=sizeLine)(hd:(a == sysModules)=false)(rel:KV kvs vs)(dd:h'.DictOf (AY P w) a vs) :
  AX P w H' h' a (.dK kvs):=⟨z,hd,vs,rel,dd⟩
theorem KB {H':Hp}{Q:Unit->Shared->Prop}(hu:A.units+1<cLine)(I:Inv X pins σ H s)(g:LY H a y v H')(ry:RelV y u)(rv:RelV v r)(h:∀s',Inv X pins σ H' s'->Q () s') :
  wpAny (model X.prog X.w) A (setItem (.ref a) u r) Q E s:=by
 rcases g with⟨kvs,k,e,ey,l,eH⟩|⟨kvs,k,b,e,ey,eb,l,eH⟩
 ·subst ey eH;obtain⟨z,hd,vs,rel,dd⟩:=V9 I.hok e;have hz:vs.length<=sizeLine:=by rw[<-rel.length];exact z
  have hl:(putK kvs k v).length<=sizeLine:=by have:=HZ kvs k v;omega
  refine wpAny_setItem_pairs (hsz:=hz) (G8 ry) dd fun h' dd' hs=>h _ ?_
  have he:∃q,h'.get? a=some q:=let⟨q,_,_,hq,_⟩:=dd';⟨q,hq⟩;exact OD I (by rw[e];exact True.intro) hs he (RP hl hd (rel.put k rv) dd')
 ·subst ey eH;cases(show u=Value.ref b from ry);obtain⟨z,hd,xs,rel,dd⟩:=Uc I.hok e;have hz:xs.length<=sizeLine:=by rw[<-Paired.length rel];exact z
  have hl:(putK kvs k v).length<=sizeLine:=by have:=HZ kvs k v;omega
  refine wpAny_setItem_heap (hsz:=hz) (tupleKind_room_in1 hu) (Gx I.hok eb) dd fun h' dd' hs=>h _ ?_
  obtain⟨q,es,ep,hq,h2,h3,h4,_,h5⟩:=dd';refine OD I (by rw[e];exact True.intro) hs ⟨q,hq⟩ ⟨hl,hd,_,(rel.put k eb rv).keeps fun c ys ec=>?_,q,es,ep,hq,h2,h3,h4,h5⟩;rw[Aj (D2 ec e (fun z=>nomatch z))];exact ec
end
def VD (i:Expr):Prop:=∀ov iv,subscripted i false ov iv=operate [ov,iv] (getItem ov iv)
theorem Te {prog:Program} {w:World} {A:Around} {E:Value->Shared->Prop} {s:Shared} {env:Env} {value slice:Expr} {pos:Pos} {T id:String} {Q:Value->Shared->Prop}
  (hl:typeLookup (.type T) "__getitem__"=pure (some (.builtin id))) (hs:VD slice)
  (h:wpAny (model prog w) A (eval value env) (fun o s₁=>wpAny (model prog w) A (eval slice env) (fun i s₂=>s₂.TypeIs o T/\wpAny (model prog w) A (getItem o i) Q E s₂) E s₁) E s) :
  wpAny (model prog w) A (eval (.Subscript value slice pos) env) Q E s:=by
 refine Subscript_ (wpAny_mono h (fun o s₁ h₁=>wpAny_mono h₁ (fun i s₂ h₂=>?_) fun _ _ x=>x) fun _ _ x=>x);obtain⟨hT,h₂⟩:=h₂;unfold subscriptTail;refine wpAny_bind ?_;rw[getitemInPython_of_ne hT.not_modules];refine wpAny_bind (wpAny_specialOf hT hl ?_);have fin:wpAny (model prog w) A (subscripted slice false o i) (fun r s₃=>wpAny (model prog w) A (letTemporaryGo value o r >>= fun _=>pure r) Q E s₃) E s₂:=by
  rw[hs o i];exact wpAny_operating (wpAny_mono h₂ (fun r s₃ h₃=>wpAny_bind (wpAny_letTemporaryGo (wpAny_pure h₃))) fun _ _ x=>x)
 first
  |exact wpAny_pure (wpAny_bind fin)
  |exact wpAny_bind (wpAny_pure (wpAny_bind fin))
  |exact wpAny_bind fin
theorem MM {X:Cx}{pins:List (Addr×Obj)}{σ:St}{H:Hp}{s:Shared}{a:Addr}{y:V}{o:Option V}(I:Inv X pins σ H s)(g:Cm H a y o):s.TypeIs (.ref a) "dict":=by
 rcases g with⟨kvs,k,e,_,_⟩|⟨kvs,k,b,e,_,_,_⟩
 ·obtain⟨_,_,vs,_,dd⟩:=Ki I.hok e;exact dd.typeIs
 ·obtain⟨_,_,xs,_,dd⟩:=KR I.hok e;exact dd.typeIs
def VX (td ty:TE):TE:=fun σ H Q=>td σ H fun x H1=>ty σ H1 fun y H2=>∃a v,x=.ref a/\Cm H2 a y (some v)/\Q v H2
def W7 (ty td:TE):TE:=fun σ H Q=>ty σ H fun y H1=>td σ H1 fun x H2=>∃a o,x=.ref a/\Cm H2 a y o/\Q (.bl o.isSome) H2
def VH (td ty tv:TE):TS:=fun D σ H=>tv σ H fun v H1=>td σ H1 fun x H2=>ty σ H2 fun y H3=>∃a H4,x=.ref a/\LY H3 a y v H4/\D.nx σ H4
def VN (td ty tv:TE)(rd:V->V->Hp->VK->Prop):TS:=fun D σ H=>td σ H fun x H1=>ty σ H1 fun y H2=>∃a v,x=.ref a/\Cm H2 a y (some v)/\
 tv σ H2 fun y2 H3=>rd v y2 H3 fun z H4=>∃H5,LY H4 a y z H5/\D.nx σ H5
section
variable {X:Cx}{o i e value:Expr}{pos pos' tpos:Pos}{td ty tv:TE}
theorem DI (hu:X.A.units+1<cLine)(ho:PE X o td)(hi:PE X i ty)(hs:VD i):PE X (.Subscript o i pos) (VX td ty):=by
 intro pins s σ H Q I h;refine Te PySem.F.slot_dict_getitem.lookup hs (Bw (ho pins s σ H _ I h) fun u s1 ⟨x,H1,I1,rx,q1⟩=>Bw (hi pins s1 σ H1 _ I1 q1) fun iv s2 ⟨y,H2,I2,ry,a,v,ex,g,q2⟩=>?_);subst ex;obtain rfl:u=Value.ref a:=rx;exact⟨MM I2 g,KZ hu I2 g ry fun w' s3 I3 rw'=>⟨v,H2,I3,rw',q2⟩⟩
theorem LZ (hu:X.A.units+1<cLine)(hi:PE X i ty)(ho:PE X o td):PC X .In i o (W7 ty td):=by
 intro pins s σ H Q I h;refine Bw (hi pins s σ H _ I h) fun iv s1 ⟨y,H1,I1,ry,q1⟩=>Bw (ho pins s1 σ H1 _ I1 q1) fun u s2 ⟨x,H2,I2,rx,a,ov,ex,g,q2⟩=>?_
 subst ex;obtain rfl:u=Value.ref a:=rx;exact WA hu I2 g ry fun s3 I3=>⟨.bl ov.isSome,H2,I3,rfl,q2⟩
theorem Sv (hu:X.A.units+1<cLine)(ho:PE X o td)(hi:PE X i ty)(hv:PE X value tv)(hs:swapsWith value (some (.Subscript o i pos')) pos.line X.env=pure false) :
  PS X (.Assign [.Subscript o i pos'] value pos) (VH td ty tv):=by
 intro pins s σ H D I h;refine wpAny_Assign_Subscript (Bw (hv pins s σ H _ I h) fun r s1 ⟨v,H1,I1,rv,q1⟩=>Bw (ho pins s1 σ H1 _ I1 q1) fun u s2 ⟨x,H2,I2,rx,q2⟩=>Bw (hi pins s2 σ H2 _ I2 q2) fun iv s3 ⟨y,H3,I3,ry,a,H4,ex,g,q3⟩=>?_) hs;subst ex;obtain rfl:u=Value.ref a:=rx;exact KB hu I3 g ry rv fun s4 I4=>⟨σ,H4,I4,q3⟩
theorem TH {op:Operator} {rd:V->V->Hp->VK->Prop} (hu:X.A.units+1<cLine) (ho:PE X o td) (hi:PE X i ty) (hv:PE X value tv) (hop:WS X op rd)
  (ha:∀ov iv new,augStore i ov iv new=(do holding [new,ov,iv] (setItem ov iv new);release [new,ov,iv] [];pure .next)):PS X (.AugAssign (.Subscript o i tpos) op value pos) (VN td ty tv rd):=by
 intro pins s σ H D I h;refine wpAny_AugAssign_SubscriptAny (Bw (ho pins s σ H _ I h) fun u s1 ⟨x,H1,I1,rx,q1⟩=>Bw (hi pins s1 σ H1 _ I1 q1) fun iv s2 ⟨y,H2,I2,ry,a,v,ex,g,q2⟩=>?_) ha;subst ex;obtain rfl:u=Value.ref a:=rx;refine KZ hu I2 g ry fun w' s3 I3 rw'=>Bw (hv pins s3 σ H2 _ I3 q2) fun w2 s4 ⟨y2,H3,I4,ry2,q3⟩=>Bw (hop pins s4 σ H3 v y2 w' w2 _ I4 rw' ry2 q3) fun w3 s5 ⟨z,H4,I5,rz,H5,g5,q4⟩=>?_
 exact KB hu I5 g5 ry rz fun s6 I6=>⟨σ,H5,I6,q4⟩
end
theorem Qz {P:Program}{w:World}{H:Hp}(h:Heap)(hb:sysModules<h.objs.size):AX P w H (h.push { cls:=.type "dict",data:=.dict #[] }) h.objs.size (.dK []):=
 ⟨Nat.zero_le _,beq_eq_false_iff_ne.mpr (Ne.symm (Nat.ne_of_lt hb)),[],.nil,Heap.DictOf.new h⟩
def UV:TE:=fun _ H Q=>∀p,H p=none->Q (.ref p) (upd H p (.dK []))
section
variable {X:Cx}{pos:Pos}
theorem Ht:PE X (.Dict [] [] pos) UV:=fun pins s σ H Q I h=>
 wpAny_Dict_empty ⟨.ref s.heap.objs.size,_,I.laid (a:=s.heap.objs.size) (o:=.dK []) (t':=s.toks) (fun _ _ q=>Heap.get?_push_of_some _ q) (Nat.le_refl _) (Qz s.heap I.big),rfl,h _ (I.hok.fresh (Nat.le_refl _))⟩
end
structure M1 (X:Cx) (o:Expr) (m:Str) (apos:Pos) (e:Expr) (cpos:Pos):Prop where
 base:attributeBase o m X.env (eval o X.env)=eval o X.env
 few:((backTo cpos (starEach [e] X.env)).all (fun x=>!x.1)&&(backToKw cpos (keywordEach [] X.env)).all (fun x=>x.1.isSome)
  && decide (([e]:List Expr).length+([]:List Keyword).length+(if([]:List Keyword).isEmpty then 0 else 1)<30))=true
 line:(apos.endLine == cpos.line)=true
 trees:backTo cpos (starEach [e] X.env)=[(false,eval e X.env)]
structure M2 (X:Cx) (o:Expr) (m:Str) (apos:Pos) (e f:Expr) (cpos:Pos):Prop where
 base:attributeBase o m X.env (eval o X.env)=eval o X.env
 few:((backTo cpos (starEach [e,f] X.env)).all (fun x=>!x.1)&&(backToKw cpos (keywordEach [] X.env)).all (fun x=>x.1.isSome)
  && decide (([e,f]:List Expr).length+([]:List Keyword).length+(if([]:List Keyword).isEmpty then 0 else 1)<30))=true
 line:(apos.endLine == cpos.line)=true
 trees:backTo cpos (starEach [e,f] X.env)=[(false,eval e X.env),(false,eval f X.env)]
def Xd (H:Hp)(a:Addr):Prop:=(∃kvs,Rd H a (.dK kvs))\/∃kvs,Rd H a (.dT kvs)
theorem Ux {X:Cx}{pins:List (Addr×Obj)}{σ:St}{H:Hp}{s:Shared}{a:Addr}(I:Inv X pins σ H s)(d:Xd H a) :
  s.TypeIs (.ref a) "dict"/\(∀b,Value.ref a=.ref b->∃ob,s.heap.get? b=some ob/\ob.dict=none)/\(a == sysModules)=false:=by
 rcases d with⟨kvs,e⟩|⟨kvs,e⟩
 ·obtain⟨_,hd,vs,_,dd⟩:=Ki I.hok e;refine⟨dd.typeIs,fun b q=>?_,hd⟩;cases q;obtain⟨ob,_,_,h1,h2,_⟩:=dd;exact⟨ob,h1,h2.2.1⟩
 ·obtain⟨_,hd,xs,_,dd⟩:=KR I.hok e;refine⟨dd.typeIs,fun b q=>?_,hd⟩;cases q;obtain⟨ob,_,_,h1,h2,_⟩:=dd;exact⟨ob,h1,h2.2.1⟩
section
variable {X:Cx}{pins:List (Addr×Obj)}{σ:St}{H:Hp}{s:Shared}{a:Addr}{y d:V}{u r:Value}{o:Option V}{A:Around}{E:Value->Shared->Prop}
theorem U9 {Q:Value->Shared->Prop}(hu:A.units+1<cLine)(I:Inv X pins σ H s)(g:Cm H a y o)(ry:RelV y u)(rd:RelV d r)(h:∀w' s',Inv X pins σ H s'->RelV (o.getD d) w'->Q w' s') :
  wpAny (model X.prog X.w) A (call (.builtin "dict.get") [.ref a,u,r]) Q E s:=by
 rcases g with⟨kvs,k,e,ey,l⟩|⟨kvs,k,b,e,ey,eb,l⟩
 ·subst ey;obtain⟨z,hd,vs,rel,dd⟩:=Ki I.hok e;refine call_meetsIn PySem.F.slot_dict_get dd.typeIs PySem.F.entry_dict_get (PySem.F.args_dict_get_3 _ _ _) (meets_dict_get_default (AY X.prog X.w) a (G8 ry) hd r) ⟨_,dd.mapOf,h _ _ (I.tok _) ?_⟩;rw[l];exact(rel.val k).getD rd
 ·subst ey;cases(show u=Value.ref b from ry);obtain⟨z,hd,xs,rel,dd⟩:=KR I.hok e;refine call_meetsIn PySem.F.slot_dict_get dd.typeIs PySem.F.entry_dict_get (PySem.F.args_dict_get_3 _ _ _) (meetsH_dict_get_default (tupleKind (AY X.prog X.w)) a b hd r) ⟨tupleKind_room_in1 hu,k,xs,Gx I.hok eb,dd,h _ _ (I.tok _) ?_⟩;rw[l];exact(rel.val k).getD rd
end
def US (td ty tx:TE):TE:=fun σ H Q=>td σ H fun x H1=>∃a,x=.ref a/\Xd H1 a/\ty σ H1 fun y H2=>tx σ H2 fun z H3=>∃o,Cm H3 a y o/\Q (o.getD z) H3
section
variable {X:Cx}{o e f:Expr}{apos cpos:Pos}{td ty tx:TE}
theorem Q6 (hu:X.A.units+1<cLine)(ho:PE X o td)(he:PE X e ty)(hf:PE X f tx)(m:M2 X o "get" apos e f cpos):PE X (.Call (.Attribute o "get" apos) [e,f] [] cpos) (US td ty tx):=by
 intro pins s σ H Q I h;refine wpAny_Call_method m.base m.few m.line PySem.F.plainAttrs_dict PySem.F.slot_dict_get PySem.F.type_dict_get (Bw (ho pins s σ H _ I h) fun u s1 ⟨x,H1,I1,rx,a,ex,d,q1⟩=>?_);subst ex;obtain rfl:u=Value.ref a:=rx;obtain⟨t1,t2,_⟩:=Ux I1 d;refine⟨t1,t2,?_⟩;rw[m.trees];refine Calls.callWith_builtin rfl (Calls.evalArgs_plain (Calls.spliced_cons (Bw (he pins s1 σ H1 _ I1 q1) fun iv s2 ⟨y,H2,I2,ry,q2⟩=>
  Calls.spliced_cons (Bw (hf pins s2 σ H2 _ I2 q2) fun fv s3 ⟨z,H3,I3,rz,ov,g,q3⟩=>Calls.spliced_nil ?_))))
 exact U9 hu I3 g ry rz fun w' s4 I4 rw'=>⟨_,H3,I4,rw',q3⟩
end
section
variable {X:Cx}
def RS (K:PySem.W.Frag):R2:=fun x y H Q=>∃a b xs ys,x=.ref a/\y=.ref b/\AE K H a xs/\AE K H b ys/\xs.length+ys.length<=sizeLine/\
 (xs=[]->Q (.ref b) H)/\(xs≠[]->ys=[]->Q (.ref a) H)/\(xs≠[]->ys≠[]->∀p,H p=none->Q (.ref p) (upd H p (.tup (xs++ys))))
theorem Mi:E1 X (binaryOp .Add) (RS X.K):=by
 intro pins s σ H x y v u Q I rx ry h;obtain⟨a,b,xs,ys,rfl,rfl,ha,hb,hz,q0,q1,q2⟩:=h
 by_cases hx:xs=[]
 ·subst hx;cases rx;cases ry;obtain⟨AC,r1,p1,_⟩:=I.tuple ha;obtain⟨its2,r2,p2,_⟩:=I.tuple hb;cases r1;obtain⟨⟨cls,dd,data,sl⟩,ho,hc,n,hd⟩:=id p1;obtain⟨⟨cls2,dd2,data2,sl2⟩,ho2,hc2,n2,hd2⟩:=id p2;simp only at hc hd hc2 hd2;subst hc hd hc2 hd2;exact concat_meets ⟨_,ho,rfl⟩ ⟨_,ho2,rfl⟩ noFill_tuple_add seq_tuple_add PySem.F.slot_tuple_add PySem.F.entry_tuple_add (PySem.F.args_tuple_add_2 _ _) (tuple_addW0 a b _ _ n n2 dd dd2 sl sl2 rfl) ⟨ho,ho2,.ref b,H,I,rfl,q0 rfl⟩
 ·exact Sr pins s σ H _ _ v u Q I rx ry ⟨a,b,xs,ys,rfl,rfl,ha,hb,hx,hz,q1 hx,q2 hx⟩
def Xa (K:PySem.W.Frag)(neg:Bool):R2:=fun x y H Q=>∃a b xs,x=.ref a/\y=.ref b/\AR K H a xs/\AR K H b []/\Q (.bl (if neg then !decide (xs=[]) else decide (xs=[]))) H
theorem Q3 (hu:X.A.units+1<cLine):E1 X (compareOp .Eq) (Xa X.K false):=by
 intro pins s σ H x y v u Q I rx ry h;obtain⟨a,b,xs,rfl,rfl,h1,h2,q⟩:=h;cases rx;cases ry;obtain⟨AC,r1,p1,_⟩:=I.list h1;obtain⟨its2,r2,p2,_⟩:=I.list h2;cases r2;cases r1 with
 |nil=>
  exact SeqAt.RcAt.lists (A:=X.A) (s:=s) (e:=fun _=>true) p1.isList p2.isList rfl (by omega) (fun j g1 g2=>absurd g1 (by simp)) _ _ _ _ ⟨.bl _,H,I,rfl,q⟩
 |cons r rr=>
  exact SeqAt.RcAt.lists_lengths p1.isList p2.isList (by simp) (by omega) _ _ _ _ ⟨.bl _,H,I,rfl,q⟩
end
inductive Tr where
 |non
 |bl (b:Bool)
 |int (i:Int)
 |str (z:Str)
 |tup (ts:List Tr)
 |lst (ts:List Tr)
mutual
def Rep (F:Addr->Prop)(H:Hp):Tr->V->Prop
 | .non,v=>v=.non
 | .bl b,v=>v=.bl b
 | .int i,v=>v=.int i
 | .str z,v=>v=.str z
 | .tup ts,v=>∃a vs,v=.ref a/\H a=some (.tup vs)/\Aq F H ts vs
 | .lst ts,v=>∃a vs,v=.ref a/\F a/\H a=some (.lst vs)/\Aq F H ts vs
def Aq (F:Addr->Prop)(H:Hp):List Tr->List V->Prop
 |[],vs=>vs=[]
 |t::ts,vs=>∃v us,vs=v::us/\Rep F H t v/\Aq F H ts us
end
mutual
def Tr.dep:Tr->Nat
 | .tup ts=>1+Tr.deps ts
 | .lst ts=>1+Tr.deps ts
 |_=>1
def Tr.deps:List Tr->Nat
 |[]=>0
 |t::ts=>max (Tr.dep t) (Tr.deps ts)
end
mutual
def Tr.ok:Tr->Prop
 | .str z=>z.length<=1000
 | .tup ts=>ts.length<=1000/\Tr.oks ts
 | .lst ts=>ts.length<=1000/\Tr.oks ts
 |_=>True
def Tr.oks:List Tr->Prop
 |[]=>True
 |t::ts=>Tr.ok t/\Tr.oks ts
end
mutual
theorem Rep.same {F:Addr->Prop}{H H':Hp}(s:Ah H H'):∀(t:Tr) (v:V),Rep F H t v->Rep F H' t v
 | .non,_,h=>h
 | .bl _,_,h=>h
 | .int _,_,h=>h
 | .str _,_,h=>h
 | .tup ts,_,⟨a,vs,e,ha,hr⟩=>⟨a,vs,e,s.get ha,Aq.same s ts vs hr⟩
 | .lst ts,_,⟨a,vs,e,fa,ha,hr⟩=>⟨a,vs,e,fa,s.get ha,Aq.same s ts vs hr⟩
theorem Aq.same {F:Addr->Prop}{H H':Hp}(s:Ah H H'):∀(ts:List Tr) (vs:List V),Aq F H ts vs->Aq F H' ts vs
 |[],_,h=>h
 |t::ts,_,⟨v,us,e,h1,h2⟩=>⟨v,us,e,Rep.same s t v h1,Aq.same s ts us h2⟩
end
theorem Aq.len {F:Addr->Prop}{H:Hp}:∀(ts:List Tr) (vs:List V),Aq F H ts vs->vs.length=ts.length
 |[],_,h=>by rw[show _=[] from h];rfl
 |t::ts,_,⟨v,us,e,_,h2⟩=>by rw[e,List.length_cons,List.length_cons,Aq.len ts us h2]
theorem Aq.get {F:Addr->Prop}{H:Hp}:∀{ts:List Tr} {vs:List V},Aq F H ts vs->∀{i:Nat} {v:V},vs[i]?=some v->∃t,ts[i]?=some t/\Rep F H t v
 |[],_,h,i,v,hv=>by rw[show _=[] from h] at hv;simp at hv
 |t::ts,_,⟨w,us,e,h1,h2⟩,0,v,hv=>by
  rw[e] at hv;cases(Option.some.inj hv);exact⟨t,rfl,h1⟩
 |t::ts,_,⟨w,us,e,h1,h2⟩,i+1,v,hv=>by
  rw[e] at hv;obtain⟨t',e1,e2⟩:=Aq.get h2 (i:=i) (v:=v) (by simpa using hv);exact⟨t',by simpa using e1,e2⟩
theorem Aq.append {F:Addr->Prop}{H:Hp}:∀{ts us:List Tr} {vs ws:List V},Aq F H ts vs->Aq F H us ws->Aq F H (ts++us) (vs++ws)
 |[],us,_,ws,h,h2=>by rw[show _=[] from h];exact h2
 |t::ts,us,_,ws,⟨w,vs,e,h1,hr⟩,h2=>by
  rw[e];exact⟨w,vs++ws,rfl,h1,Aq.append hr h2⟩
theorem Aq.one {F:Addr->Prop}{H:Hp}{t:Tr}{v:V}(h:Rep F H t v):Aq F H [t] [v]:=⟨v,[],rfl,h,rfl⟩
theorem Tr.oks_get:∀{ts:List Tr},Tr.oks ts->∀{i:Nat} {t:Tr},ts[i]?=some t->Tr.ok t
 |t::ts,h,0,t',e=>by cases(Option.some.inj e);exact h.1
 |t::ts,h,i+1,t',e=>Tr.oks_get h.2 (i:=i) (by simpa using e)
theorem Tr.deps_get:∀{ts:List Tr} {i:Nat} {t:Tr},ts[i]?=some t->Tr.dep t<=Tr.deps ts
 |t::ts,0,t',e=>by cases(Option.some.inj e);exact Nat.le_max_left _ _
 |t::ts,i+1,t',e=>Nat.le_trans (Tr.deps_get (ts:=ts) (i:=i) (by simpa using e)) (Nat.le_max_right _ _)
theorem Rep.ok {F:Addr->Prop}{H:Hp}:∀{t:Tr} {v:V},Rep F H t v->t.ok->Ok H v
 | .non,_,h,_=>by rw[show _=V.non from h];trivial
 | .bl _,_,h,_=>by rw[show _=V.bl _ from h];trivial
 | .int _,_,h,_=>by rw[show _=V.int _ from h];trivial
 | .str z,_,h,o=>by rw[show _=V.str z from h];exact o
 | .tup ts,_,⟨a,vs,e,ha,_⟩,_=>by rw[e];exact .inr ⟨vs,ha⟩
 | .lst ts,_,⟨a,vs,e,_,ha,_⟩,_=>by rw[e];exact .inl ⟨vs,ha⟩
mutual
theorem Rep.mono {F G:Addr->Prop}{H:Hp}(h:∀a,F a->G a):∀(t:Tr) (v:V),Rep F H t v->Rep G H t v
 | .non,_,q=>q
 | .bl _,_,q=>q
 | .int _,_,q=>q
 | .str _,_,q=>q
 | .tup ts,_,⟨a,vs,e,ha,hr⟩=>⟨a,vs,e,ha,Aq.mono h ts vs hr⟩
 | .lst ts,_,⟨a,vs,e,fa,ha,hr⟩=>⟨a,vs,e,h a fa,ha,Aq.mono h ts vs hr⟩
theorem Aq.mono {F G:Addr->Prop}{H:Hp}(h:∀a,F a->G a):∀(ts:List Tr) (vs:List V),Aq F H ts vs->Aq G H ts vs
 |[],_,q=>q
 |t::ts,_,⟨v,us,e,h1,h2⟩=>⟨v,us,e,Rep.mono h t v h1,Aq.mono h ts us h2⟩
end
mutual
theorem Rep.upd {F:Addr->Prop}{H:Hp}{l:Addr}{us us':List V}(hl:H l=some (.lst us))(nl:¬F l):∀(t:Tr) (v:V),Rep F H t v->Rep F (upd H l (.lst us')) t v
 | .non,_,q=>q
 | .bl _,_,q=>q
 | .int _,_,q=>q
 | .str _,_,q=>q
 | .tup ts,_,⟨a,vs,e,ha,hr⟩=>⟨a,vs,e,by rw[Aj (D2 ha hl (by intro z;cases z))];exact ha,Aq.upd hl nl ts vs hr⟩
 | .lst ts,_,⟨a,vs,e,fa,ha,hr⟩=>⟨a,vs,e,fa,by rw[Aj (show a≠l from fun z=>nl (by rw[<-z];exact fa))];exact ha,Aq.upd hl nl ts vs hr⟩
theorem Aq.upd {F:Addr->Prop}{H:Hp}{l:Addr}{us us':List V}(hl:H l=some (.lst us))(nl:¬F l):∀(ts:List Tr) (vs:List V),Aq F H ts vs->Aq F (L2.upd H l (.lst us')) ts vs
 |[],_,q=>q
 |t::ts,_,⟨v,ur,e,h1,h2⟩=>⟨v,ur,e,Rep.upd hl nl t v h1,Aq.upd hl nl ts ur h2⟩
end
theorem EF {J:It} {xs:List V} {fr:List (Option Nat)} {k:Nat} {te:TE} {Q:VK} {σ:St} {H:Hp} (P:Nat->Hp->V->Hp->Prop) (hP:∀i H1 y H2 H3,P i H1 y H2->Ah H2 H3->P i H1 y H3)
  (hU:∀i H1 y H2 l us us' ws,P i H1 y H2->H1 l=some (.lst ws)->H2 l=some (.lst us)->P i H1 y (upd H2 l (.lst us'))) (hJ:Hm J H xs) (hn:xs.length<=1000000)
  (helt:∀(i:Nat) (x:V) (H':Hp) (R:VK),xs[i]?=some x->Ah H H'->(∀y H'',Ah H' H''->P i H' y H''->R y H'')->te ((stC fr σ).set k (some x)) H' R)
  (hQ:∀l H' (ys:List V),H l=none->Ah H H'->H' l=some (.lst ys)->ys.length=xs.length->(∀(i:Nat) y,ys[i]?=some y->∃H1,Ah H H1/\P i H1 y H')->Q (.ref l) H') :
  Dd fr (A4 k) MV te σ Q J H:=by
 intro l hl;refine⟨fun i m σ' H'=>m=xs.length-i/\i<=xs.length/\(∀y,σ'.set k y=(stC fr σ).set k y)/\Ah H H'/\∃ys:List V,H' l=some (.lst ys)/\ys.length=i/\(∀(i:Nat) y,ys[i]?=some y->∃H1 ws,Ah H H1/\H1 l=some (.lst ws)/\P i H1 y H'),
  ⟨xs.length,by simp,Nat.zero_le _,fun _=>rfl,Ai hl _,[],Ad,rfl,fun i y h=>by simp at h⟩,?_⟩
 rintro i m σ' H' ⟨rfl,hi,hσ,hs,ys,hl',hlen,hp⟩
 obtain⟨h1,h2,h3⟩:=hJ H' hs i
 by_cases hlt:i<xs.length
 ·refine .inr ⟨h1 hlt,fun x H'' y=>?_⟩;obtain⟨rfl,hx⟩:=h2 x H'' y;have hx:=hx hlt;show te (σ'.set k (some x)) H'' _;rw[hσ];refine helt i x H'' _ hx hs fun y H4 s4 py=>?_
  refine⟨_,s4.get hl',CV (by omega),xs.length-(i+1),by omega,rfl,hlt,fun y=>by rw[List.set_set],B4 (hs.trans s4) hl _,ys++[y],Ad,by rw[List.length_append,hlen];rfl,fun j y' hy'=>?_⟩
  by_cases hj:j<ys.length
  ·rw[List.getElem?_append_left hj] at hy';obtain⟨H1,ws,a1,a2,a3⟩:=hp j y' hy';exact⟨H1,ws,a1,a2,hU _ _ _ _ _ _ _ _ (hP _ _ _ _ _ a3 s4) a2 (s4.get hl')⟩
  ·rw[List.getElem?_append_right (by omega)] at hy'
   by_cases hj2:j=ys.length
   ·subst hj2;rw[Nat.sub_self] at hy';cases(Option.some.inj hy':y=y');rw[hlen];exact⟨H'',ys,hs,hl',hU _ _ _ _ _ _ _ _ py hl' (s4.get hl')⟩
   ·rw[List.getElem?_eq_none (by simp;omega)] at hy';cases hy'
 ·have e:i=xs.length:=by omega
  subst e;exact .inl ⟨h3 (Nat.le_refl _),hQ l H' ys hl hs hl' hlen fun i y hy=>(let⟨H1,_,a1,_,a3⟩:=hp i y hy;⟨H1,a1,a3⟩)⟩
theorem A2 {K:PySem.W.Frag}{a:Addr}{H:Hp}{xs:List V}(h:H a=some (.tup xs)):Hm (UD K a) H xs:=fun H' s i=>
 ⟨fun hi=>⟨xs,xs[i],AE.of (s.get h),by simp[hi]⟩,fun x H'' y=>⟨y.1,fun _=>y.2 xs (AE.of (s.get h))⟩,fun hi=>⟨xs,AE.of (s.get h),hi⟩⟩
def Tr.ty:Tr->String
 | .non=>"NoneType"
 | .bl _=>"bool"
 | .int _=>"int"
 | .str _=>"str"
 | .tup _=>"tuple"
 | .lst _=>"list"
theorem Rep.tyN {F:Addr->Prop}{H:Hp}:∀{t:Tr} {v:V},Rep F H t v->L2.Eg H v=t.ty
 | .non,_,h=>by rw[show _=V.non from h];rfl
 | .bl _,_,h=>by rw[show _=V.bl _ from h];rfl
 | .int _,_,h=>by rw[show _=V.int _ from h];rfl
 | .str z,_,h=>by rw[show _=V.str z from h];rfl
 | .tup ts,_,⟨a,vs,e,ha,_⟩=>by rw[e];simp only[L2.Eg,ha];rfl
 | .lst ts,_,⟨a,vs,e,_,ha,_⟩=>by rw[e];simp only[L2.Eg,ha];rfl
theorem C1 {A:Around}{k:Nat}(hr:Room k A):A.units+150<cLine:=by have:=hr.un;omega
section
variable {σ:St}{H:Hp}{m k:Nat}{te:TE}{ta:TA}
theorem Aq.rep {F:Addr->Prop}{ts:List Tr}{vs:List V}(h:Aq F H ts vs):∀n:Nat,Aq F H (List.replicate n ts).flatten (List.replicate n vs).flatten
 |0=>rfl
 |n+1=>by
  rw[List.replicate_succ,List.replicate_succ,List.flatten_cons,List.flatten_cons];exact Aq.append h (Aq.rep h n)
end
theorem R0 {P:Program}{w:World}{k:Key}{u:Value}(h:(AY P w).is k u=true):RelV (kV k) u:=by
 rcases Bn h with⟨i,t,rfl,rfl⟩|⟨x,t,rfl,rfl⟩
 ·exact⟨t,rfl⟩
 ·exact⟨t,rfl⟩
section
variable {X:Cx}
structure M0 (X:Cx) (o:Expr) (m:Str) (apos cpos:Pos):Prop where
 base:attributeBase o m X.env (eval o X.env)=eval o X.env
 few:((backTo cpos (starEach [] X.env)).all (fun x=>!x.1)&&(backToKw cpos (keywordEach [] X.env)).all (fun x=>x.1.isSome)
  && decide (([]:List Expr).length+([]:List Keyword).length+(if([]:List Keyword).isEmpty then 0 else 1)<30))=true
 line:(apos.endLine == cpos.line)=true
 trees:backTo cpos (starEach [] X.env)=[]
end
theorem OV {t u:TS}{D:Ends}{σ:St}{H:Hp}(M:St->Hp->Prop)(h1:∀N:St->Hp->Prop,(∀σ' H',M σ' H'->N σ' H')->t { D with nx:=N } σ H)(h2:∀σ' H',M σ' H'->u D σ' H'):CB t u D σ H:=h1 (u D) h2
end L2
namespace L2
section
open PySem
open Sem (wp wp_bind' wp_mono)
def RL (o:Obj):Prop:=∃vs,o.data=.fields vs/\vs[2]?=some .none
def DictAt (h:Heap)(e:Addr)(d:Option Addr):Prop:=∃o,h.objs[e]?=some o/\o.dict=d/\RL o
variable {α β:Type}
end
end L2
namespace L2
open PySem PySem.Spec PyProof.Rows
structure Fly (P:Program) (w:World) (outer:List Env) (H:Hp) (s:Shared) (ea:Addr) (cls:Value) (H':Hp) (B:Heap) (a0:Value) (s':Shared):Prop where
 os:s'.os=s.os
 bare:AllBare s'.gens
 un:Un (NV outer) [] H H' s.heap s'.heap
 hok:Gg P w H' B
 fl:Heap.FlyingW B outer ea cls a0 s'.heap
 kp:∀b o,s.heap.get? b=some o->H b=none->b∉NV outer->B.get? b=some o
 th:∀b o,s.heap.get? b=some o->b∉NV outer->∃o',B.get? b=some o'
 dj:∃d,DictAt s'.heap ea d
abbrev Wg:List Value:=[.type "ValueError",.type "Exception",.type "BaseException",.type "object"]
mutual
theorem CY {F:Addr->Prop}{H H':Hp}(k:∀c o,H c=some o->((∃xs,o=.lst xs)\/∃xs,o=.tup xs)->H' c=some o):∀(t:Tr) (v:V),Rep F H t v->Rep F H' t v
 | .non,_,h=>h
 | .bl _,_,h=>h
 | .int _,_,h=>h
 | .str _,_,h=>h
 | .tup ts,_,⟨a,vs,e,ha,hr⟩=>⟨a,vs,e,k a _ ha (.inr ⟨vs,rfl⟩),HK k ts vs hr⟩
 | .lst ts,_,⟨a,vs,e,fa,ha,hr⟩=>⟨a,vs,e,fa,k a _ ha (.inl ⟨vs,rfl⟩),HK k ts vs hr⟩
theorem HK {F:Addr->Prop}{H H':Hp}(k:∀c o,H c=some o->((∃xs,o=.lst xs)\/∃xs,o=.tup xs)->H' c=some o):∀(ts:List Tr) (vs:List V),Aq F H ts vs->Aq F H' ts vs
 |[],_,h=>h
 |t::ts,_,⟨v,us,e,h1,h2⟩=>⟨v,us,e,CY k t v h1,HK k ts us h2⟩
end
theorem LG {F:Addr->Prop}{H:Hp}:∀{ts:List Tr} {vs:List V},vs.length=ts.length->(∀(i:Nat) t v,ts[i]?=some t->vs[i]?=some v->Rep F H t v)->Aq F H ts vs
 |[],[],_,_=>rfl
 |[],_::_,h,_=>by simp at h
 |_::_,[],h,_=>by simp at h
 |t::ts,v::vs,h,k=>⟨v,vs,rfl,k 0 t v rfl rfl,LG (by simpa using h) fun i t' v' h1 h2=>k (i+1) t' v' (by simpa using h1) (by simpa using h2)⟩
def Sz:R2:=fun x y H Q=>∃a b,x=.bl a/\y=.bl b/\Q (.bl (a != b)) H
theorem MC {X:Cx}:E1 X (compareOp .IsNot) Sz:=by
 intro pins s σ H x y v u Q I rx ry h;obtain⟨a,b,rfl,rfl,q⟩:=h;cases rx;cases ry;exact isnot_bool ⟨.bl _,H,I,rfl,q⟩
section
variable {M:Model}{A:Around}{E:Value->Shared->Prop}{s:Shared}{base:Heap}{env:Env}{outer l:List Env}{L e:Addr}{cls a0 fl:Value}
structure Retraced (base h h':Heap) (T:Addr) (ts:Array Value) (v:Value):Prop where
 here:∃o',h'.get? T=some o'/\o'.data=.fields (ts.setIfInBounds 3 v)
 rest:∀b o,b≠T->h.get? b=some o->h'.get? b=some o
 low:base.StaysIn h->base.StaysIn h'
 plain:∀b o,h.get? b=some o->(∀vs,o.data≠.fields vs)->h'.get? b=some o
end
end L2
namespace L2
section
open PySem PySem.Calls PyProof.Rows PySem.W Builtin Builtin.ObjectAttr Builtin.Getset_descriptor
section
variable {prog:Program}{w:World}{A:Around}{E:Value->Shared->Prop}{K:Frag}{e D:Addr}
structure IsExc (h:Heap) (e D:Addr):Prop where
 ob:∃o,h.get? e=some o/\o.cls=.ref D/\∃vs,o.data=.fields vs
structure ExcCls (K:Frag) (D:Addr):Prop where
 ga:findIn K (.ref D) "__getattribute__"=some (some (.builtin "BaseException.__getattribute__"))
 gg:findIn K (.ref D) "__getattr__"=some none
 cl:findIn K (.ref D) "__class__"=some (some (.builtin "object.__class__"))
 sp:specialIn K (.builtin "object.__class__") "__get__"=some (some (.builtin "getset_descriptor.__get__"))
 tk:takesIn K (.builtin "object.__class__")=some true
 mo:mroIn K D (.type "object")=some true
 mb:mroIn K D (.type "BaseException")=some true
end
end
open PySem PySem.Spec PyProof.Rows
section
variable {X:Cx}{pins:List (Addr×Obj)}{σ:St}{H:Hp}{s:Shared}
theorem Inv.know {e:Addr} {o:HO} (I:Inv X pins σ H s) (n0:e∉X.ex->X.s₀.heap.get? e=none) (nl:e≠X.env.locals) (nc:∀x c,X.env.cells.lookup x=some c->c≠e) (np:∀p∈X.pn++pins,p.1≠e) (hn:H e=none)
  (ho:AX X.prog X.w (upd H e o) s.heap e o):Inv X pins σ (upd H e o) s:=by
 have up:∀{b:Addr} {u:HO},H b=some u->upd H e o b=some u:=fun{b u} q=>by rw[Aj (B8 q hn)];exact q
 refine⟨I.ok,I.os,I.bare,⟨I.base.keep,I.base.slot,fun b ob q n x=>?_,I.base.there,fun b xs q=>up (I.base.tups b xs q),fun b ob u q=>up (I.base.frzs b ob u q),fun b ps q=>?_⟩,I.loc,I.cell,?_,fun x c q=>?_,fun p hp=>?_,fun b u q=>?_,I.len⟩
 ·rw[Aj (fun z=>by subst z;rw[n0 x] at q;cases q)];exact I.base.free b ob q n x
 ·obtain⟨more,z⟩:=I.base.tbls b ps q;exact⟨more,up z⟩
 ·rw[Aj nl.symm];exact I.free
 ·rw[Aj (nc x c q)];exact I.freeC x c q
 ·obtain⟨h1,h2,h3⟩:=I.pin p hp;exact⟨h1,by rw[Aj (np p hp)];exact h2,h3⟩
 ·by_cases hb:b=e
  ·subst hb;rw[Ad] at q;cases q;exact ho
  ·rw[Aj hb] at q;exact(I.hok b u q).stay (fun c v _ z=>z) (fun _ z=>up z) fun _ _ z=>up z
end
end L2
namespace L2
end L2
namespace L2
section
open PySem PySem.Calls PyProof.Rows PySem.W
structure IsExcD (h:Heap) (e D:Addr) (d:Option Addr):Prop where
 is:IsExc h e D
 dj:∃o,h.get? e=some o/\o.dict=d/\RL o
end
end L2
namespace L2
open PySem PySem.Spec PyProof.Rows
end L2
namespace L2
section
open PySem PySem.Calls PyProof.Rows PySem.W Builtin Builtin.ObjectAttr
def QQ:List Value->Bool
 | .ref _::r=>QQ r
 |l=>l == Wg
def WC (K:Frag)(C:Addr):Bool:=(clsIn K C).any fun cd=>QQ cd.mro
section
variable {prog:Program}{w:World}{A:Around}{E:Value->Shared->Prop}{s:Shared}{K:Frag}{x C:Addr}{vs:Array Value}{name:Str}{v:Value}
structure ExiCls (K:Frag) (C:Addr):Prop extends ExcCls K C where
 sa:findIn K (.ref C) "__setattr__"=some (some (.builtin "object.__setattr__"))
 ve:WC K C=true
 hd:hasDictIn K C=true
end
def V1 (K:Frag)(C:Addr):Bool:=(K.lookup C).any fun o=>match o with
 |⟨.type t,_,.cls cd,sl⟩=>t == "type" && !cd.hasDel&&(match cd.mro with | .ref D::tl=>D == C&&tailIn K Wg tl|_=>false)&&(match sl.toList with|[_,_,_,_,some (.builtin n),_]=>n == "ValueError.__new__"|_=>false)
 |_=>false
end
section
open PySem PySem.Spec PyProof.Rows
variable {X:Cx}{pins:List (Addr×Obj)}{σ:St}{H:Hp}{s:Shared}
structure MkX (K:PySem.W.Frag) (C f:Addr):Prop where
 ex:V1 K C=true
 init:PySem.W.findIn K (.ref C) "__init__"=some (some (.ref f))
 fn:PySem.W.isFn K (.ref f)=true
 kp:PySem.W.keepIn K (.ref C)=true
end
end L2
namespace L2
open PySem PySem.Calls PySem.Spec PyProof.Rows PySem.Builtin.Str
end L2
namespace L2
open PySem PySem.Spec PyProof.Rows
end L2
namespace L2
section
open PySem PySem.Spec PyProof.Rows
structure HeldS (X:Cx) (e:Addr) (oe:Obj):Prop where
 hd:X.A.handled=some (.ref e)
 at_:X.s₀.heap.get? e=some oe
 free:X.H₀ e=none
 nfs:e∉X.fs
 nex:e∉X.ex
 fl:RL oe
structure NowH (h:Heap) (e:Addr) (oe:Obj):Prop where
 at_:h.get? e=some oe
 fl:RL oe
structure TurnQ (P:Program) (w:World) (K:PySem.W.Frag) (tg:Expr) (J:It) (fp:List Addr) (it:Addr) (tn:Nat->Heap->Prop):Prop where
 mem:it∈fp
 obj:∀i h,tn i h->∀b∈fp,∃o,h.get? b=some o/\∀v,o.data≠.cell v
 keep:∀i h h',tn i h->(∀b∈fp,∀o,h.get? b=some o->h'.get? b=some o)->tn i h'
 item:∀(X:Cx),X.prog=P->X.w=w->X.K=K->∀(i:Nat) (pins:List (Addr×Obj)) (s:Shared) (σ:St) (H:Hp) (E:Value->Shared->Prop),Inv X pins σ H s->(∀b∈fp,Iu X pins H b)->tn i s.heap->J.go i H->
  wpAny (model P w) X.A (pyNext (.ref it)) (fun r s1=>∃u,r=some u/\
   wpAny (model P w) X.A (letOwnedTupleGo tg (.ref it) u) (fun _ s2=>∃x H',Inv X pins σ H' s2/\RelV x u/\J.yld i H x H'/\tn (i+1) s2.heap/\∀b∈fp,H' b=none) E s1) E s
 done:∀(X:Cx),X.prog=P->X.w=w->X.K=K->∀(eh:Addr) (oh:Obj),HeldS X eh oh->∀(i:Nat) (pins:List (Addr×Obj)) (s:Shared) (σ:St) (H:Hp) (E:Value->Shared->Prop),Inv X pins σ H s->(∀b∈fp,Iu X pins H b)->tn i s.heap->J.stop i H->
  wpAny (model P w) X.A (pyNext (.ref it)) (fun r s1=>r=none/\Inv X pins σ H s1) E s
 self:∀(A:Around) (i:Nat) (s:Shared) (Q:Value->Shared->Prop) (E:Value->Shared->Prop),tn i s.heap->Q (.ref it) s->wpAny (model P w) A (pyIter (.ref it)) Q E s
end
section
open PySem PySem.Spec PyProof.Rows
structure RoomH (k:Nat) (A:Around):Prop where
 dp:A.depth+3*k+5<recursionLimit
 un:A.units+16*k+200<cLine
structure FnOkH (P:Program) (w:World) (K:PySem.W.Frag) (mg:Str->Option Value) (base:Heap) (k:Nat) (f:Addr) (fd:FuncData) (ps:List Str) (sp:Sp):Prop where
 len:∀vs H Q E,sp vs H Q E->vs.length=ps.length
 run:∀(A:Around) (outer:List Env) (s:Shared) (H:Hp) (args:Args) (us:List Value) (vs:List V) (Q:VK) (E:XK) (eh:Addr) (oh:Obj),RoomH k A->Env0 P w K mg base A outer s H->A.handled=some (.ref eh)->s.heap.get? eh=some oh->H eh=none->eh∉NV outer->RL oh->BindsTo s fd args (ps.zip us)->AN vs us->sp vs H Q E->
  codeAny (model P w) A (.call (.ref f) args) (CR CP outer P w H s Q E) s
def VF (P:Program)(w:World)(K:PySem.W.Frag)(mg:Str->Option Value)(base:Heap)(k:Nat)(x:Str)(ps:List Str)(sp:Sp):Prop:=
 ∃(f:Addr) (fd:FuncData),FnOk P w K mg base CP k f fd ps sp/\FnOkH P w K mg base k f fd ps sp/\mg x=some (.ref f)/\PySem.W.keepIn K (.ref f)=true/\Binds K fd ps []
theorem VF.def {P:Program}{w:World}{K:PySem.W.Frag}{mg:Str->Option Value}{base:Heap}{k:Nat}{x:Str}{ps:List Str}{sp:Sp}(D:VF P w K mg base k x ps sp):Def P w K mg base k x ps sp:=by
 obtain⟨f,fd,F,_,r⟩:=D;exact⟨f,fd,F,r⟩
variable {X:Cx}{k:Nat}{x:Str}{ps:List Str}{sp:Sp}{e:Expr}{es:List Expr}{t:TA}{p pos:Pos}
end
end L2
namespace L2
section
open PySem PySem.Calls PyProof.Rows
variable {prog:Program}{w:World}{A:Around}{E:Value->Shared->Prop}{s:Shared}
theorem Hq (h:Heap):h.get? h.objs.size=none:=by
 cases e:h.get? h.objs.size with
 |none=>rfl
 |some o=>exact absurd (Heap.lt_size e) (Nat.lt_irrefl _)
def Os (Q:Value->Shared->Prop)(vs:List Value)(s1:Shared):Prop:=∃ss,StrsAre vs ss/\vs.length<64/\
 ∀h' p (out:List Value) ss' c,StrsAre out ss'->ss'.Perm ss->sortedS ss'=true->s1.heap.objs.size<=p->(∀b o,s1.heap.get? b=some o->h'.get? b=some o)->
  h'.get? p=some (seqObj "list" out.toArray c)->Q (.ref p) { s1 with heap:=h' }
theorem Gk {x:Value}{Q:Value->Shared->Prop}(hc:wpAny (model prog w) A.in1 (collect x) (Os Q) E s):wpAny (model prog w) A (call (.builtin "sorted") [x]) Q E s:=by
 refine Calls.call_function_entry kind_sorted plain_sorted entry_sorted (args_sorted1 x) ?_;unfold Builtin.«sorted»;refine wpAny_bind (m:=checkCount "sorted" 1 1 _) (wpAny_pure (wpAny_bind (wpAny_mono hc (fun vs s1 z=>?_) fun _ _ e=>e)));obtain⟨ss,hS,few,q⟩:=z;refine wpAny_bind (wpAny_newList ?_);have there:(s1.heap.push (seqObj "list" vs.toArray 0)).get? s1.heap.objs.size=some (seqObj "list" vs.toArray 0):=Heap.get?_push_size _ rfl;refine wpAny_bind (wpAny_holding (wpAny_call_entry slot_list_sort ⟨_,there,rfl⟩ entry_list_sort (list_sort_treeK strKind_oneLt there hS.keysOf (fun v₁ v₂ rest e=>keyKind_strs (by rw[<-e];exact hS)) few fun st' pm so=>⟨_,rfl,?_⟩) (args_list_sort _)));obtain⟨ss',y1,y2,y3⟩:=sorted_out_str hS pm so;obtain⟨c,hp⟩:=sortedHeap_at (out:=(arrOf st').map (·.2)) there;refine wpAny_pure ⟨_,rfl,q _ _ ((arrOf st').map (·.2)).toList ss' c y1 y2 y3 (Nat.le_refl _) (fun b o e=>?_) (by rw[Array.toArray_toList];exact hp)⟩;have lt:=Heap.lt_size e;show Heap.get? _ b=some o;rw[sortedHeap_old (Nat.ne_of_lt lt) (by rw[Heap.size_push];exact Nat.lt_succ_of_lt lt)];exact Heap.get?_push_of_some _ e
def U7 (S:Addr)(Q:List Value->Shared->Prop)(r:Result)(s':Shared):Prop:=∃acc c,r=.ok (.ret (.ref S))/\s'.heap.get? S=some { cls:=.type "list",dict:=none,data:=.seq acc c,slots:=#[] }/\Q acc.toList s'
theorem Ig {x:Value} {Q:List Value->Shared->Prop} (h:wpAny (model prog w) A.in1 (Builtin.List.listExtendWith (.ref s.heap.objs.size) x (.ref s.heap.objs.size))
   (fun fin s'=>match fin with | .done f=>U7 s.heap.objs.size Q (.ok f) s' | .again c'=>c'.quiet=true/\codeAny (model prog w) A c' (U7 s.heap.objs.size Q) s') (fun e s'=>U7 s.heap.objs.size Q (.error e) s')
   { s with heap:=s.heap.push { cls:=.type "list",data:=.seq #[] } }):wpAny (model prog w) A (collect x) Q E s:=by
 unfold collect;refine wpAny_bind (wpAny_runValue (codeAny_builtin PySem.F.entry_proto_collect ?_));rw[Around.under_plainId PySem.F.plain_proto_collect _];refine wpAny_bind (wpAny_newObj_type (wpAny_pure ⟨plainId_quiet PySem.F.plain_list_iadd _,codeAny_builtin PySem.F.entry_list_iadd ?_⟩));rw[Around.under_plainId PySem.F.plain_list_iadd _];refine wpAny_mono h (fun fin s' z=>?_) (fun e s' z=>?_)
 ·cases fin with
  |done f=>
   obtain⟨acc,c,e,hS,q⟩:=z;cases e;exact wpAny_bind (wpAny_load hS (wpAny_pure q))
  |again c'=>
   refine⟨z.1,codeAny_mono z.2 fun r s2 z2=>?_⟩;obtain⟨acc,c,rfl,hS,q⟩:=z2;exact wpAny_bind (wpAny_load hS (wpAny_pure q))
 ·obtain⟨acc,c,e,_⟩:=z;cases e
theorem Ik {T:String} {r d:Addr} {n:Nat} {P:Nat->Value->Prop} {OK:Heap->Prop} {Q:List Value->Shared->Prop} (S:PySem.W.KdlSrc prog w T r d n P OK) (hh:A.handled=none) (ok:OK s.heap) (hn:n<=sizeLine)
  (q:∀h' tk (vs:List Value),(∀b o,s.heap.get? b=some o->h'.get? b=some o)->vs.length=n->(∀j v,vs[j]?=some v->P j v)->Q vs { s with heap:=h',toks:=tk }):wpAny (model prog w) A (collect (.ref r)) Q E s:=by
 obtain⟨lr,ld⟩:=S.there _ ok;refine Ig (PySem.W.kdl_extend S hh (S.keep _ _ ok fun b _ o e=>Heap.get?_push_of_some _ e) s.heap.objs.size (Nat.ne_of_gt lr) (Nat.ne_of_gt ld) (.ref s.heap.objs.size) 0 (Heap.get?_push_size _ rfl) (fun h' tk acc c k hS it=>?_) hn);refine⟨acc,c,rfl,hS,q h' tk acc.toList (fun b o e=>k b o (Nat.ne_of_lt (Heap.lt_size e)) (Heap.get?_push_of_some _ e)) (by rw[Array.length_toList];exact it.1) fun j v e=>it.2 j v (by rw[<-Array.getElem?_toList];exact e)⟩
theorem Kv:Manifest.owners.lookup (String.ofList "rotareti_tes".toList.reverse)=some Manifest.sig_set_iterator:=by kernel_rfl
theorem DX:Slot "set_iterator" "__next__" "set_iterator.__next__":=
 .of (owner:="set_iterator") (n:="__next__") (by rw[typeLookup_type,builtinLookup_eq_fast];kernel_rfl) (by decide +kernel) (by decide +kernel) (by decide +kernel) (by first|exact .inl (by decide +kernel)|exact .inr (by decide +kernel)) (by rw[isSubtype_type];kernel_rfl)
theorem FW:entryFor table "set_iterator.__next__"=some Builtin.«set_iterator.__next__»:=entryFor_of_fast (by kernel_rfl)
theorem GV (a:Value):argsOk "set_iterator.__next__" ⟨[a],[]⟩:=by
 unfold argsOk;rw[signature?_of (id:="set_iterator.__next__") (n:="__txen__".toList) (o:="rotareti_tes".toList) (by kernel_rfl) Kv]
 kernel_rfl
theorem IR:entryFor table "set.__iter__"=some Builtin.«frozenset.__iter__»:=entryFor_alias (id':="frozenset.__iter__") (by kernel_rfl) rfl (by decide +kernel) (by kernel_rfl)
theorem Gm {it:Addr} {T id:String} {B:Builtin} {Q:Option Value->Shared->Prop} (slot:Slot T "__next__" id) (hT:s.TypeIs (.ref it) T) (entry:entryFor table id=some B) (args:argsOk id ⟨[.ref it],[]⟩)
  (h:wpAny (model prog w) A.in1 (B ⟨[.ref it],[]⟩) (fun fin s'=>∃v,fin=.done (.ret v)/\Q (some v) s') (fun _ _=>False) s):wpAny (model prog w) A (pyNext (.ref it)) Q E s:=by
 unfold pyNext;refine wpAny_bind (wpAny_attempt (wpAny_callSpecial?_slot (name:=Str.ofString "__next__") hT slot (wpAny_call_entry slot hT entry (wpAny_mono h (fun fin s' z=>?_) fun _ _ z=>z.elim) args)));obtain⟨v,rfl,q⟩:=z;exact⟨v,rfl,wpAny_pure q⟩
theorem GP {it:Addr} {T id:String} {B:Builtin} {Q:Option Value->Shared->Prop} (slot:Slot T "__next__" id) (hT:s.TypeIs (.ref it) T) (entry:entryFor table id=some B) (args:argsOk id ⟨[.ref it],[]⟩)
  (h:wpAny (model prog w) A.in1 (B ⟨[.ref it],[]⟩) (fun _ _=>False) (fun x s'=>∃a o,x=.ref a/\s'.heap.get? a=some o/\o.cls=.type "StopIteration"/\Q none s') s):wpAny (model prog w) A (pyNext (.ref it)) Q E s:=by
 unfold pyNext;refine wpAny_bind (wpAny_attempt (wpAny_callSpecial?_slot (name:=Str.ofString "__next__") hT slot (wpAny_call_entry slot hT entry (wpAny_mono h (fun _ _ z=>z.elim) fun x s' z=>?_) args)));obtain⟨a,o,rfl,e,c,q⟩:=z;exact wpAny_bind (wpAny_isInstance (T:="StopIteration") (b:=true) ⟨o,e,c⟩ isSubtype_stop (wpAny_pure q))
theorem HB {α:Type} {Q:α->Shared->Prop} (hh:A.handled=none)
  (q:∀h' x,(∀b o,s.heap.get? b=some o->h'.get? b=some o)->(∃o,h'.get? x=some o/\o.cls=.type "StopIteration")->E (.ref x) { s with heap:=h' }) :
  wpAny (model prog w) A (newExc (.type "StopIteration") [] >>= raiseNew:Sem α) Q E s:=by
 refine wpAny_bind ?_;simp only[newExc,newTuple];refine wpAny_bind (wpAny_newObj_type ?_ (by size_fits));refine wpAny_bind (m:=firstArgMember _ _) (wpAny_of_eq (a:=Value.none) (by simp only[firstArgMember];rfl) (wpAny_newObj_type ?_ (by size_fits)));unfold raiseNew;refine wpAny_bind (wpAny_handled ?_);rw[hh];exact wpAny_throw (q _ _ (fun b o z=>Heap.get?_push_of_some _ (Heap.get?_push_of_some _ z)) ⟨_,Heap.get?_push_size _ rfl,rfl⟩)
theorem Gj:Slot "set_iterator" "__iter__" "set_iterator.__iter__":=
 .of (owner:="set_iterator") (n:="__iter__") (by rw[typeLookup_type,builtinLookup_eq_fast];kernel_rfl) (by decide +kernel) (by decide +kernel) (by decide +kernel) (by first|exact .inl (by decide +kernel)|exact .inr (by decide +kernel)) (by rw[isSubtype_type];kernel_rfl)
theorem Js:entryFor table "set_iterator.__iter__"=some Builtin.«dict_keyiterator.__iter__»:=entryFor_alias (id':="dict_keyiterator.__iter__") (by kernel_rfl) rfl (by decide +kernel) (by kernel_rfl)
theorem J9 (a:Value):argsOk "set_iterator.__iter__" ⟨[a],[]⟩:=by
 unfold argsOk;rw[signature?_of (id:="set_iterator.__iter__") (n:="__reti__".toList) (o:="rotareti_tes".toList) (by kernel_rfl) Kv]
 kernel_rfl
def EB (h:Heap)(a:Addr)(es:Array (Int×Value))(ep:Nat)(t:SetTable):Prop:=∃o,h.get? a=some o/\o.cls=.type "set"/\o.data=.set es ep t
def GS (h:Heap)(it a:Addr)(first:Value)(i n ep:Nat):Prop:=∃o,h.get? it=some o/\o.cls=.type "set_iterator"/\o.data=.fields #[first,rawInt i,.ref a,rawInt n,rawInt ep]
theorem EB.keep {h h':Heap}{a:Addr}{es:Array (Int×Value)}{ep:Nat}{t:SetTable}(x:EB h a es ep t)(k:∀o,h.get? a=some o->h'.get? a=some o):EB h' a es ep t:=let⟨o,e,r⟩:=x;⟨o,k o e,r⟩
theorem GS.keep {h h':Heap}{it a:Addr}{f:Value}{i n ep:Nat}(x:GS h it a f i n ep)(k:∀o,h.get? it=some o->h'.get? it=some o):GS h' it a f i n ep:=let⟨o,e,r⟩:=x;⟨o,k o e,r⟩
theorem GS.typeIs {it a:Addr}{f:Value}{i n ep:Nat}(x:GS s.heap it a f i n ep):s.TypeIs (.ref it) "set_iterator":=let⟨o,e,c,_⟩:=x;⟨o,e,c⟩
theorem GS.self {it a:Addr}{f:Value}{i n ep:Nat}{Q:Value->Shared->Prop}(x:GS s.heap it a f i n ep)(q:Q (.ref it) s):wpAny (model prog w) A (pyIter (.ref it)) Q E s:=by
 refine wpAny_pyIter_slot x.typeIs Gj (wpAny_call_entry Gj x.typeIs Js ?_ (J9 _));exact wpAny_pure ⟨_,rfl,"set_iterator",_,x.typeIs,DX.lookup,q⟩
theorem Du {a:Addr}{es:Array (Int×Value)}{ep:Nat}{t:SetTable}{Q:Array (Int×Value)->Shared->Prop}(x:EB s.heap a es ep t)(f:t.fits es.size=true)(q:Q es s):wpAny (model prog w) A (setEntries a) Q E s:=
 let⟨_,e,_,d⟩:=x;wpAny_setEntries_of e d f q
end
end L2
namespace L2
section
open PySem PySem.Calls PyProof.Rows
variable {prog:Program}{w:World}{A:Around}{E:Value->Shared->Prop}{s:Shared}
theorem Df {it:Addr} {vs:Array Value} {k:Nat} {x:Value} {Q:Unit->Shared->Prop} {o:Obj} (ho:s.heap.get? it=some o) (hc:o.cls=.type "set_iterator") (hd:o.data=.fields vs) (hk:k<vs.size)
  (q:∀h' o',h'.get? it=some o'->o'.cls=.type "set_iterator"->o'.data=.fields (vs.setIfInBounds k x)->(∀b o,b∉[it]->s.heap.get? b=some o->h'.get? b=some o)->Q () { s with heap:=h' }):wpAny (model prog w) A (setField (.ref it) k x) Q E s:=
 wpAny_setField ho hd hk (q _ _ (Heap.get?_update_self _ ho (Obj.isFreed_of_fields (Obj.data_mapFields hd _))) ((Obj.cls_mapFields ..).trans hc) (Obj.data_mapFields hd _) fun b o hb e=>(Heap.get?_update_other _ _ (fun z=>hb (by simp[z]))).trans e)
theorem Kx (hh:A.handled=none) (I a:Addr) (hne:a≠I) (xs:List Value) (sl:Nat->Nat) (es:Array (Int×Value)) (ep:Nat) (t:SetTable) (f:t.fits es.size=true) (hn:es.size=xs.length)
  (nx:∀(i:Nat) (A:Around) (E:Value->Shared->Prop) (s:Shared) (Q:Option (Value×Nat)->Shared->Prop),i<=xs.length->EB s.heap a es ep t->Q (xs[i]?.map fun v=>(v,sl (i+1))) s->wpAny (model prog w) A (setNext a (sl i) i ep) Q E s) :
  Walks prog w A I [I,a] [I] xs.length (fun i v=>xs[i]?=some v) (fun i h=>GS h I a (rawInt (sl i)) i xs.length ep/\EB h a es ep t) where
 sub:=fun b z=>by simp at z;simp[z]
 frame:=fun _ _ _ st k=>⟨st.1.keep fun o e=>k I (by simp) o e,st.2.keep fun o e=>k a (by simp) o e⟩
 self:=fun _ _ _ _ st q=>st.1.self q
 item:=fun i s Q E hi st qq=>by
  refine Gm DX st.1.typeIs FW (GV _) ?_;obtain⟨o,ho,hc,hd⟩:=st.1;unfold Builtin.«set_iterator.__next__»;refine wpAny_bind (wpAny_pure ?_);dsimp only;refine wpAny_bind (wpAny_fieldsOf ho hd ?_);refine wpAny_bind (m:=setEntries a) (Du st.2 f ?_);rw[if_neg (by rw[hn];simp)];refine wpAny_bind (m:=setNext a (sl i) i ep) (nx i _ _ _ _ (Nat.le_of_lt hi) st.2 ?_);obtain⟨v,hv⟩:∃v,xs[i]?=some v:=⟨xs[i],by simp[hi]⟩
  rw[hv];dsimp only[Option.map];refine wpAny_bind (Df ho hc hd (by simp) fun h1 o1 e1 c1 d1 k1=>?_);refine wpAny_bind (Df e1 c1 d1 (by simp) fun h2 o2 e2 c2 d2 k2=>?_);exact wpAny_pure ⟨v,rfl,qq v h2 s.toks hv ⟨⟨o2,e2,c2,d2⟩,st.2.keep fun o e=>k2 a o (by simp[hne]) (k1 a o (by simp[hne]) e)⟩ fun b o hb e=>k2 b o hb (k1 b o hb e)⟩
 done:=fun s Q E st hQ=>by
  refine GP DX st.1.typeIs FW (GV _) ?_;obtain⟨o,ho,hc,hd⟩:=st.1;unfold Builtin.«set_iterator.__next__»;refine wpAny_bind (wpAny_pure ?_);dsimp only;refine wpAny_bind (wpAny_fieldsOf ho hd ?_);refine wpAny_bind (m:=setEntries a) (Du st.2 f ?_);rw[if_neg (by rw[hn];simp)];refine wpAny_bind (m:=setNext a (sl xs.length) xs.length ep) (nx xs.length _ _ _ _ (Nat.le_refl _) st.2 ?_);rw[List.getElem?_eq_none (Nat.le_refl _)];dsimp only[Option.map];refine wpAny_bind (Df ho hc hd (by simp) fun h1 o1 e1 c1 d1 k1=>?_);refine HB hh fun h2 x k2 ⟨ox,ex,cx⟩=>⟨x,ox,rfl,ex,cx,hQ h2 s.toks fun b o hb e=>k2 b o (k1 b o hb e)⟩
def TupAt (h:Heap)(tp:Addr)(vs:List Value):Prop:=∃o n,h.get? tp=some o/\o.data=.seq vs.toArray n
theorem TupAt.keep {h h':Heap}{tp:Addr}{vs:List Value}(x:TupAt h tp vs)(k:∀o,h.get? tp=some o->h'.get? tp=some o):TupAt h' tp vs:=let⟨o,n,e,r⟩:=x;⟨o,n,k o e,r⟩
theorem Og {a:Addr}{es:Array (Int×Value)}{ep p:Nat}{t:SetTable}{hx:Int}{v:Value}{Q:Value->Shared->Prop}(x:EB s.heap a es ep t)(f:t.fits es.size=true)(e:es[p]?=some (hx,v))(q:Q v s):wpAny (model prog w) A (setNextDrawn a p ep) Q E s:=by
 obtain⟨o,eo,_,d⟩:=x;unfold setNextDrawn;refine wpAny_bind (wpAny_setState_of eo d f ?_);dsimp only;rw[if_neg (by simp),e];exact wpAny_pure q
theorem NC (hh:A.handled=none) (I a tp:Addr) (hne:a≠I) (hnt:tp≠I) (xs:List Value) (ps:List Nat) (es:Array (Int×Value)) (ep:Nat) (t:SetTable) (f:t.fits es.size=true) (hn:es.size=xs.length) (hp:ps.length=xs.length)
  (at_:∀(i p:Nat),ps[i]?=some p->∃hx v,es[p]?=some (hx,v)/\xs[i]?=some v) :
  Walks prog w A I [I,a,tp] [I] xs.length (fun i v=>xs[i]?=some v) (fun i h=>GS h I a (.ref tp) i xs.length ep/\EB h a es ep t/\TupAt h tp (ps.map fun(p:Nat)=>rawInt p)) where
 sub:=fun b z=>by simp at z;simp[z]
 frame:=fun _ _ _ st k=>⟨st.1.keep fun o e=>k I (by simp) o e,st.2.1.keep fun o e=>k a (by simp) o e,st.2.2.keep fun o e=>k tp (by simp) o e⟩
 self:=fun _ _ _ _ st q=>st.1.self q
 item:=fun i s Q E hi st qq=>by
  refine Gm DX st.1.typeIs FW (GV _) ?_;obtain⟨o,ho,hc,hd⟩:=st.1;obtain⟨ot,nt,et,dt⟩:=st.2.2;unfold Builtin.«set_iterator.__next__»;refine wpAny_bind (wpAny_pure ?_);dsimp only;refine wpAny_bind (wpAny_fieldsOf ho hd ?_);refine wpAny_bind (m:=setEntries a) (Du st.2.1 f ?_);rw[if_neg (by rw[hn];simp)];obtain⟨p,hpi⟩:∃p,ps[i]?=some p:=⟨ps[i]'(by omega),by simp[hp,hi]⟩
  obtain⟨hx,v,ev,xv⟩:=at_ i p hpi;refine wpAny_bind (m:=seqItems? (.ref tp)) (wpAny_seqItems et dt ?_);have look:(ps.map fun(p:Nat)=>rawInt p).toArray[(i:Int).toNat]?=some (rawInt p):=by simp[hpi]
  dsimp only;rw[look];refine wpAny_bind (m:=setNextDrawn a p ep) (Og st.2.1 f ev ?_);refine wpAny_bind (Df ho hc hd (by simp) fun h1 o1 e1 c1 d1 k1=>?_);exact wpAny_pure ⟨v,rfl,qq v h1 s.toks xv ⟨⟨o1,e1,c1,d1⟩,st.2.1.keep fun o e=>k1 a o (by simp[hne]) e,st.2.2.keep fun o e=>k1 tp o (by simp[hnt]) e⟩ k1⟩
 done:=fun s Q E st hQ=>by
  refine GP DX st.1.typeIs FW (GV _) ?_;obtain⟨o,ho,hc,hd⟩:=st.1;obtain⟨ot,nt,et,dt⟩:=st.2.2;unfold Builtin.«set_iterator.__next__»;refine wpAny_bind (wpAny_pure ?_);dsimp only;refine wpAny_bind (wpAny_fieldsOf ho hd ?_);refine wpAny_bind (m:=setEntries a) (Du st.2.1 f ?_);rw[if_neg (by rw[hn];simp)];refine wpAny_bind (m:=seqItems? (.ref tp)) (wpAny_seqItems et dt ?_);have look:(ps.map fun(p:Nat)=>rawInt p).toArray[(xs.length:Int).toNat]?=none:=by simp[hp]
  dsimp only;rw[look];refine wpAny_bind (Df ho hc hd (by simp) fun h1 o1 e1 c1 d1 k1=>?_);refine wpAny_bind (Df e1 c1 d1 (by simp) fun h2 o2 e2 c2 d2 k2=>?_);refine HB hh fun h3 x k3 ⟨ox,ex,cx⟩=>⟨x,ox,rfl,ex,cx,hQ h3 s.toks fun b o hb e=>k3 b o (k2 b o hb (k1 b o hb e))⟩
theorem Nq {src:Source}{n:Nat}{Q:Nat->Shared->Prop}(h:n≠0)(q:∀i d,i<n->Q i { s with drawn:=d }):wpAny (model prog w) A (choose src n) Q E s:=by
 intro Γ p _;unfold choose;rw[Sem.wp_choose];exact⟨h,by rw[Sem.wp_pure];exact q _ _ (Nat.mod_lt _ (Nat.pos_of_ne_zero h))⟩
theorem JN {α:Type}:∀{l:List α} {i:Nat} (h:i<l.length),(l[i]::l.eraseIdx i).Perm l
 |x::r,0,_=>List.Perm.refl _
 |x::r,i+1,h=>by
  have z:=JN (l:=r) (i:=i) (by simpa using h);exact(List.Perm.swap ..).trans (List.Perm.cons x z)
theorem JI {α:Type}:∀(n:Nat) (xs:List α) (s:Shared) (Q:List α->Shared->Prop),n=xs.length->(∀ys d,ys.Perm xs->Q ys { s with drawn:=d })->wpAny (model prog w) A (drawOrder n xs) Q E s
 |0,xs,s,Q,h,q=>by
  have e:xs=[]:=List.length_eq_zero_iff.mp h.symm;subst e;exact wpAny_pure (q [] s.drawn (List.Perm.refl _))
 |n+1,[],s,Q,h,q=>nomatch h
 |n+1,x::r,s,Q,h,q=>by
  unfold drawOrder;refine wpAny_bind (Nq (by simp) fun i d hi=>?_);rw[List.getElem?_eq_getElem hi];dsimp only;refine wpAny_bind (JI n _ _ _ (by rw[List.length_eraseIdx_of_lt hi];simp at h ⊢;omega) fun ys d2 pm=>?_);exact wpAny_pure (q _ d2 ((List.Perm.cons _ pm).trans (JN hi)))
theorem O5 {α:Type}(next:Nat->Nat):∀(fuel k:Nat) (left:List α) (out:Array α),fuel=left.length->(pickOrder.go next fuel k left out).toList.Perm (out.toList++left)
 |0,k,left,out,h=>by
  have e:left=[]:=List.length_eq_zero_iff.mp h.symm;subst e;unfold pickOrder.go;rw[List.append_nil]
 |fuel+1,k,left,out,h=>by
  unfold pickOrder.go;have hi:next k%left.length<left.length:=Nat.mod_lt _ (by omega);rw[List.getElem?_eq_getElem hi];dsimp only;refine(O5 next fuel _ _ _ (by rw[List.length_eraseIdx_of_lt hi];omega)).trans ?_;rw[Array.toList_push,List.append_assoc];exact List.Perm.append_left _ (JN hi)
theorem KP {α:Type}(next:Nat->Nat)(xs:Array α):(pickOrder next xs).toList.Perm xs.toList:=by
 unfold pickOrder;exact O5 next _ _ _ _ (by simp)
def AD (w:World):Bool:=w.params.followText "set-order"
theorem P3 {a:Addr} {es:Array (Int×Value)} {ep i sl:Nat} {t:SetTable} {Q:Option (Value×Nat)->Shared->Prop} (bt:AD w=true) (x:EB s.heap a es ep t) (f:t.fits es.size=true)
  (q:Q (((pickOrder (w.params.setOrder a ep) es).toList.map (·.2))[i]?.map fun v=>(v,sl)) s):wpAny (model prog w) A (setNext a sl i ep) Q E s:=by
 obtain⟨o,eo,_,d⟩:=x;unfold setNext setsByText setWalk setsByText;refine wpAny_bind (wpAny_setState_of eo d f ?_);dsimp only;simp only[bind_assoc,pure_bind];refine wpAny_bind (wpAny_askSetting ?_);refine wpAny_ite_split (fun _=>?_) (fun c=>absurd bt c);rw[if_neg (by simp)];refine wpAny_bind (wpAny_setState_of eo d f ?_);dsimp only;refine wpAny_bind (wpAny_askSetting ?_);refine wpAny_bind (wpAny_ite_split (fun _=>?_) (fun c=>absurd bt c));refine wpAny_bind (wpAny_askSetting (wpAny_pure ?_));have e:((pickOrder (w.params.setOrder a ep) es).toList.map (·.2))[i]?=((pickOrder (w.params.setOrder a ep) es)[i]?).map (·.2):=by rw[List.getElem?_map,Array.getElem?_toList]
 rw[e,Option.map_map] at q;exact wpAny_pure q
theorem Sj {es:Array (Int×Value)}{t:SetTable}(f:t.fits es.size=true):t.place.size=es.size:=by
 simp only[SetTable.fits,Bool.and_eq_true,beq_iff_eq] at f;exact f.1
theorem Q4 {a:Addr} {es:Array (Int×Value)} {ep i:Nat} {t:SetTable} {Q:Option (Value×Nat)->Shared->Prop} (bt:AD w=false) (hl:t.led=true) (few:es.size<=1) (hi:i<=es.size) (x:EB s.heap a es ep t) (f:t.fits es.size=true)
  (q:Q ((es.toList.map (·.2))[i]?.map fun v=>(v,if i+1=0 then 0 else t.place.getD 0 0+1)) s):wpAny (model prog w) A (setNext a (if i=0 then 0 else t.place.getD 0 0+1) i ep) Q E s:=by
 obtain⟨o,eo,_,d⟩:=x;unfold setNext setsByText;refine wpAny_bind (wpAny_setState_of eo d f ?_);dsimp only;simp only[bind_assoc,pure_bind];refine wpAny_bind (wpAny_askSetting ?_);refine wpAny_ite_split (fun c=>absurd (bt.symm.trans c) (by decide)) (fun _=>?_);refine wpAny_ite_split (fun c=>absurd c ?_) (fun _=>?_)
 ·show ¬(!t.plain&&decide (es.size>1))=true;rw[decide_eq_false (by omega)];simp
 refine wpAny_bind (?_:wpAny _ _ (if(!t.led && !es.isEmpty)=true then unsupported "set:maker-not-led" else pure ()) _ _ _);rw[hl,if_neg (by simp)];refine wpAny_pure (wpAny_pure ?_);have pz:=Sj f
 clear f hl d
 revert q
 generalize t.place=pl at pz;obtain⟨l⟩:=es;obtain⟨m⟩:=pl
 match l,m,few,pz,hi with
 |[],[],_,_,hi=>
  have e:i=0:=by simpa using hi
  subst e;exact fun q=>q
 |[(hx,v)],[k],_,_,hi=>
  rcases(show i=0\/i=1 by simp at hi;omega) with rfl|rfl
  ·have b:SetTable.below #[k] (if 0=0 then 0 else(#[k]:Array Nat).getD 0 0+1)=0:=by simp[SetTable.below,SetTable.below.go]
   rw[b];exact fun q=>q
  ·have b:SetTable.below #[k] (if 1=0 then 0 else(#[k]:Array Nat).getD 0 0+1)=1:=by simp[SetTable.below,SetTable.below.go]
   rw[b];exact fun q=>q
 |_::_::_,_,few,_,_=>exact absurd few (by simp)
 |[],_::_,_,pz,_=>exact absurd pz (by simp)
 |[_],[],_,pz,_=>exact absurd pz (by simp)
 |[_],_::_::_,_,pz,_=>exact absurd pz (by simp)
theorem Sf {a:Addr} {es:Array (Int×Value)} {ep:Nat} {t:SetTable} {Q:Value->Shared->Prop} (x:EB s.heap a es ep t) (f:t.fits es.size=true) (hl:t.led = !AD w) (hp:1<es.size->t.plain=false) (hb:es.size<scanBound)
  (q:∀h' d I fp (xs:List Value) St,(∀b o,s.heap.get? b=some o->h'.get? b=some o)->xs.Perm (es.toList.map (·.2))->(∀A:Around,A.handled=none->Walks prog w A I fp [I] xs.length (fun i v=>xs[i]?=some v) St)->St 0 h'->
   (∀b∈fp,b=a\/s.heap.get? b=none)->s.heap.get? I=none->Q (.ref I) { s with heap:=h',drawn:=d }):wpAny (model prog w) A (pyIter (.ref a)) Q E s:=by
 obtain⟨o,eo,co,dd⟩:=id x;have hT:s.TypeIs (.ref a) "set":=⟨o,eo,co⟩
 have hlt:=Heap.lt_size eo;refine wpAny_pyIter_slot hT PySem.F.slot_set_iter (wpAny_call_entry PySem.F.slot_set_iter hT IR ?_ (PySem.F.args_set_iter_1 _));unfold Builtin.«frozenset.__iter__» Builtin.Frozenset.slot0 slotArgs;simp only[bind_assoc,bne_self_eq_false,List.isEmpty_nil,List.length_nil,Bool.not_true,Bool.false_eq_true,↓reduceIte];refine wpAny_bind (wpAny_pure ?_);dsimp only;refine wpAny_bind (m:=Builtin.Frozenset.addrOf (.ref a)) (wpAny_pure ?_);unfold Builtin.Frozenset.sizeOf;simp only[bind_assoc,pure_bind];refine wpAny_bind (Du x f ?_);unfold setDrawn setsByText;simp only[bind_assoc,pure_bind];refine wpAny_bind (wpAny_setState_of eo dd f ?_);dsimp only;refine wpAny_bind (wpAny_askSetting ?_)
 change wpAny _ _ (if(!AD w&&(!t.plain&&decide (es.size>1)))=true then _ else _) _ _ _
 refine wpAny_ite_split (fun c=>?_) (fun c=>?_)
 ·simp only[Bool.and_eq_true,Bool.not_eq_true',decide_eq_true_eq] at c;refine wpAny_bind (JI es.size _ _ _ (by simp) fun ps d pm=>?_);refine wpAny_bind (wpAny_newTuple ?_ (by rw[List.length_map,pm.length_eq,List.length_range];exact fits_of_scanBound hb));refine wpAny_bind (wpAny_setEpoch_of (Heap.get?_push_of_some _ eo) dd f ?_);refine wpAny_bind (wpAny_newObj_type (wpAny_pure ⟨_,rfl,"set_iterator",_,⟨_,Heap.get?_push_size _ rfl,rfl⟩,DX.lookup,?_⟩));have rg:∀p∈ps,p<es.size:=fun p hp=>List.mem_range.mp (pm.mem_iff.mp hp)
  have ex:(List.range es.size).map (fun p=>(es[p]?.map (·.2)).getD .none)=es.toList.map (·.2):=by
   refine List.ext_getElem (by simp) fun i h1 h2=>?_
   have hi:i<es.size:=by simpa using h1
   simp[hi]
  have nt:s.heap.objs.size≠(s.heap.push { cls:=.type "tuple",data:=.seq (ps.map fun(i:Nat)=>rawInt i).toArray }).objs.size:=by rw[Heap.size_push];exact Nat.ne_of_lt (Nat.lt_succ_self _)
  have na:a≠(s.heap.push { cls:=.type "tuple",data:=.seq (ps.map fun(i:Nat)=>rawInt i).toArray }).objs.size:=by rw[Heap.size_push];exact Nat.ne_of_lt (Nat.lt_succ_of_lt hlt)
  have ln:es.size=(ps.map (fun p=>(es[p]?.map (·.2)).getD Value.none)).length:=by rw[List.length_map,pm.length_eq,List.length_range]
  have above:s.heap.get? (s.heap.push { cls:=.type "tuple",data:=.seq (ps.map fun(i:Nat)=>rawInt i).toArray }).objs.size=none:=by
   cases z:s.heap.get? _ with
   |none=>rfl
   |some o=>exact absurd (Heap.lt_size z) (by rw[Heap.size_push];exact Nat.not_lt.mpr (Nat.le_succ _))
  refine q _ d _ _ _ _ (fun b o e=>Heap.get?_push_of_some _ (Heap.get?_push_of_some _ e)) ((pm.map (fun p=>(es[p]?.map (·.2)).getD Value.none)).trans (by rw[ex])) (fun A hh=>NC hh (s.heap.push { cls:=.type "tuple",data:=.seq (ps.map fun(i:Nat)=>rawInt i).toArray }).objs.size a s.heap.objs.size na nt _ ps es ep t f ln (by rw[List.length_map]) fun i p hi=>?_) ⟨⟨_,Heap.get?_push_size _ rfl,rfl,?_⟩,x.keep fun o e=>Heap.get?_push_of_some _ (Heap.get?_push_of_some _ e),⟨_,_,Heap.get?_push_of_some _ (Heap.get?_push_size _ rfl),rfl⟩⟩ (fun b hb=>?_) above
  ·have hp':=rg p (List.mem_of_getElem? hi);refine⟨es[p].1,es[p].2,by simp[hp'],?_⟩;rw[List.getElem?_map,hi];simp[hp']
  ·rw[<-ln];rfl
  ·simp only[List.mem_cons,List.not_mem_nil,or_false] at hb;rcases hb with rfl|rfl|rfl
   ·exact .inr above
   ·exact .inl rfl
   ·exact .inr (Hq _)
 ·refine wpAny_bind (wpAny_setEpoch_of eo dd f ?_);refine wpAny_bind (wpAny_newObj_type (wpAny_pure ⟨_,rfl,"set_iterator",_,⟨_,Heap.get?_push_size _ rfl,rfl⟩,DX.lookup,?_⟩));have kk:∀b o,s.heap.get? b=some o->(s.heap.push { cls:=.type "set_iterator",data:=.fields [rawInt 0,rawInt 0,.ref a,rawInt es.size,rawInt ep].toArray }).get? b=some o:=fun b o e=>Heap.get?_push_of_some _ e
  have fresh:∀b∈[s.heap.objs.size,a],b=a\/s.heap.get? b=none:=fun b hb=>by
   simp only[List.mem_cons,List.not_mem_nil,or_false] at hb;rcases hb with rfl|rfl
   ·exact .inr (Hq _)
   ·exact .inl rfl
  cases bt:AD w with
  |true=>
   have ln:es.size=((pickOrder (w.params.setOrder a ep) es).toList.map (·.2)).length:=by rw[List.length_map,(KP _ es).length_eq,Array.length_toList]
   refine q _ s.drawn s.heap.objs.size _ _ _ kk ((KP _ es).map _) (fun A hh=>Kx hh s.heap.objs.size a (Nat.ne_of_lt hlt) ((pickOrder (w.params.setOrder a ep) es).toList.map (·.2)) (fun _=>0) es ep t f ln fun i A E s Q _ x q=>P3 bt x f q) ⟨⟨_,Heap.get?_push_size _ rfl,rfl,?_⟩,x.keep fun o e=>kk a o e⟩ fresh (Hq _);rw[<-ln];rfl
  |false=>
   have few:es.size<=1:=by
    rw[bt] at c
    by_cases z:es.size<=1
    ·exact z
    ·rw[hp (by omega)] at c;simpa using c
   rw[bt] at hl;refine q _ s.drawn s.heap.objs.size _ _ _ kk (List.Perm.refl _) (fun A hh=>Kx hh s.heap.objs.size a (Nat.ne_of_lt hlt) (es.toList.map (·.2)) (fun i=>if i=0 then 0 else t.place.getD 0 0+1) es ep t f (by simp) fun i A E s Q li x q=>Q4 bt hl few (by simpa using li) x f q) ⟨⟨_,Heap.get?_push_size _ rfl,rfl,?_⟩,x.keep fun o e=>kk a o e⟩ fresh (Hq _);simp
theorem QY {a:Addr}{Q:Bool->Shared->Prop}(hT:s.TypeIs (.ref a) "set")(q:Q false s):wpAny (model prog w) A (Builtin.List.listLengthHint (.ref a)) Q E s:=by
 unfold Builtin.List.listLengthHint;refine wpAny_bind (wpAny_specialOf hT PySem.F.slot_set_len.lookup ?_);generalize e0:("set.__len__":String)=d0
 wp_delta
 rw[show splitId d0=some ("set","__len__") from by subst e0;decide +kernel];subst e0;refine wpAny_bind (wpAny_isInstance (T:="set") (b:=true) hT (by rw[isSubtype_type];kernel_rfl) ?_);refine wpAny_ite_split (fun c=>absurd c (by decide)) (fun _=>wpAny_ite_split (fun _=>?_) (fun c=>absurd (by decide +kernel) c));exact wpAny_bind (wpAny_typeOf hT (wpAny_pure q))
theorem NO {xs:List Value}{acc:Array Value}(z:ItemsOf (fun i v=>xs[i]?=some v) acc xs.length):acc.toList=xs:=by
 refine List.ext_getElem? fun i=>?_
 rw[Array.getElem?_toList];cases e:acc[i]? with
 |some v=>exact(z.2 i v e).symm
 |none=>
  have:acc.size<=i:=by simpa using e
  rw[z.1] at this;exact(List.getElem?_eq_none this).symm
theorem Ii {a:Addr} {es:Array (Int×Value)} {ep:Nat} {t:SetTable} {Q:List Value->Shared->Prop} (hh:A.handled=none) (x:EB s.heap a es ep t) (f:t.fits es.size=true) (hl:t.led = !AD w) (hp:1<es.size->t.plain=false) (hb:es.size<scanBound)
  (q:∀h' d tk (vs:List Value),(∀b o,s.heap.get? b=some o->h'.get? b=some o)->vs.Perm (es.toList.map (·.2))->Q vs { s with heap:=h',drawn:=d,toks:=tk }):wpAny (model prog w) A (collect (.ref a)) Q E s:=by
 refine Ig ?_;have x1:EB (s.heap.push { cls:=.type "list",data:=.seq #[] }) a es ep t:=x.keep fun o e=>Heap.get?_push_of_some _ e
 have lt:a<s.heap.objs.size:=let⟨_,e,_⟩:=x;Heap.lt_size e;unfold Builtin.List.listExtendWith;have hT:Shared.TypeIs { s with heap:=s.heap.push { cls:=.type "list",data:=.seq #[] } } (.ref a) "set":=let⟨o,e,c,_⟩:=x1;⟨o,e,c⟩;refine wpAny_bind (wpAny_typeOf hT ?_);have n1:Builtin.List.listSameRef (.ref s.heap.objs.size) (.ref a)=false:=by simp[Builtin.List.listSameRef,Nat.ne_of_gt lt]
 have n2:(Value.type "set" == Value.type "list")=false:=by decide
 have n3:(Value.type "set" == Value.type "tuple")=false:=by decide
 simp only[n1,n2,n3,Bool.or_false,Bool.false_eq_true,if_false];refine wpAny_bind (Sf x1 f hl hp hb fun h1 d I fp xs St k1 pm W st fr nI0=>?_);have hS1:h1.get? s.heap.objs.size=some { cls:=.type "list",data:=.seq #[] }:=k1 _ _ (Heap.get?_push_size _ rfl);have hSf:s.heap.objs.size∉fp:=fun hm=>by
  rcases fr _ hm with z|z
  ·exact absurd z (Nat.ne_of_gt lt)
  ·rw[show(s.heap.push { cls:=.type "list",data:=.seq #[] }).get? s.heap.objs.size=some { cls:=.type "list",data:=.seq #[] } from Heap.get?_push_size _ rfl] at z;cases z
 have nI:∀b o,s.heap.get? b=some o->b∉s.heap.objs.size::[I]:=fun b o e hm=>by
  rcases List.mem_cons.mp hm with z|z
  ·exact absurd (Heap.lt_size e) (by rw[z];exact Nat.lt_irrefl _)
  ·rw[List.mem_singleton] at z;subst z;rw[Heap.get?_push_of_some _ e] at nI0;cases nI0
 refine wpAny_bind (wpAny_holding (QY (let⟨o,e,c,_⟩:=x1;⟨o,k1 _ _ e,c⟩) ?_));refine wpAny_ite_split (fun _=>?_) (fun c=>absurd (by decide) c);refine wpAny_bind (wpAny_rule ?_);refine wpAny_bind ?_;show wpAny _ _ (updateSeq s.heap.objs.size (·.push .none) >>= fun _=>updateSeq s.heap.objs.size (·.pop)) _ _ _;refine wpAny_bind (wpAny_updateSeq hS1 rfl ?_);have hS2:=Heap.get?_update_self (Obj.mapSeq (·.push Value.none)) hS1 rfl;refine wpAny_updateSeq (hz:=by seq_fits) hS2 rfl ?_;have hS3:=Heap.get?_update_self (Obj.mapSeq (·.pop)) hS2 rfl;have oth:∀b o,b≠s.heap.objs.size->h1.get? b=some o->((h1.update s.heap.objs.size (Obj.mapSeq (·.push Value.none))).update s.heap.objs.size (Obj.mapSeq (·.pop))).get? b=some o:=
  fun b o n e=>(Heap.get?_update_other _ _ (Ne.symm n)).trans ((Heap.get?_update_other _ _ (Ne.symm n)).trans e)
 refine wpAny_pure ⟨plainId_quiet PySem.F.plain_extend_loop _,codeAny_extend_loopS (W A.in1 hh).toS (by rw[pm.length_eq,List.length_map,Array.length_toList];exact fits_of_scanBound hb) s.heap.objs.size hSf (.ref s.heap.objs.size) xs.length 0 _ #[] _ rfl (Nat.zero_le _) ((W A hh).frame 0 _ _ st fun b hb o e=>oth b o (fun z=>hSf (z▸hb)) e) hS3 (ItemsOf.nil _) fun s' acc c hm hS' it=>?_⟩;refine⟨acc,c,rfl,hS',?_⟩;rw[NO it,Moved.eq_with hm];exact q _ _ _ xs (fun b o e=>hm.heap b o (nI b o e) (oth b o (Nat.ne_of_lt (Heap.lt_size e)) (k1 b o (Heap.get?_push_of_some _ e)))) pm
end
end L2
namespace L2
section
open PySem PySem.Calls PyProof.Rows
variable {prog:Program}{w:World}{A:Around}{E:Value->Shared->Prop}{s:Shared}
theorem SR (t:SetTable)(es:Array (Int×Value))(h:Int)(x:Value):(layNew t es h x).2.1.led=t.led:=by
 unfold layNew
 split
 ·dsimp only[SetTable.put,SetTable.orStandIn]
  split<;>split<;>rfl
 ·rfl
theorem Pc (t:SetTable)(es:Array (Int×Value))(n:Nat):(relayAll t es n).2.1.led=t.led:=by
 unfold relayAll
 split
 ·rename_i t' order e
  unfold SetTable.relaid SetTable.laid at e;cases z:SetTable.layClean (SetTable.sizeAbove n-1) (es.map (·.1)) with
  |none=>rw[z] at e;cases e
  |some ow=>
   rw[z] at e;injection e with e
   injection e with e1 e2
   dsimp only
   split
   ·rw[<-e1]
   ·rfl
 ·rfl
theorem L7 (t:SetTable)(es:Array (Int×Value))(n:Nat)(p:t.plain=false):(relayAll t es n).2.1.plain=false:=by
 unfold relayAll
 split
 ·rename_i t' order e
  unfold SetTable.relaid SetTable.laid at e;cases z:SetTable.layClean (SetTable.sizeAbove n-1) (es.map (·.1)) with
  |none=>rw[z] at e;cases e
  |some ow=>
   rw[z] at e;injection e with e
   injection e with e1 e2
   dsimp only
   split
   ·rw[<-e1];exact p
   ·rfl
 ·rfl
def Dz (prog:Program)(w:World)(h:Heap)(a:Addr)(ks:List Str):Prop:=∃o es ep t ss,h.get? a=some o/\o.ExactSet/\o.data=.set es ep t/\ElemsOf (PySem.strKind prog w) es.toList/\t.fits es.size=true/\t.led=(!AD w)/\(es.size≠0->t.plain=false)/\
 StrsAre (es.toList.map (·.2)) ss/\ss.Perm ks
theorem U8 {k:Str}{v:Value}(h:Value.isStrOf k v=true):∃t,v=.str k t:=Value.isStrOf_shape h
theorem TK (led:Bool)(hl:led = !AD w){h:Heap}{a:Addr}(e:h.get? a=some { cls:=.type "set",dict:=none,data:=.set #[] 0 (.fresh 0 0 led) }):Dz prog w h a []:=
 ⟨_,#[],0,_,[],e,⟨rfl,rfl,rfl⟩,rfl,fun e he=>by simp at he,by rfl,hl,fun z=>absurd rfl z,.nil,List.Perm.refl _⟩
theorem HL {vs us:List Value}{ss:List Str}(h:StrsAre vs ss)(p:us.Perm vs):∃ts,StrsAre us ts/\ts.Perm ss:=by
 refine⟨us.map strOf,strsAre_map us fun v hv=>h.all v (p.mem_iff.mp hv),?_⟩;have:=p.map strOf;rw[h.strs] at this;exact this
theorem M6:∀{vs us:List Value} {ss ts:List Str},StrsAre vs ss->StrsAre us ts->StrsAre (vs++us) (ss++ts)
 |_,_,_,_,.nil,h=>h
 |_,_,_,_,.cons x t g,h=>.cons x t (M6 g h)
theorem MD {es:Array (Int×Value)}{ss:List Str}{k:Str}(hs:StrsAre (es.toList.map (·.2)) ss):k∈ss↔∃e∈es.toList,Value.isStrOf k e.2=true:=by
 rw[<-hs.strs,List.mem_map];constructor
 ·rintro⟨v,hv,rfl⟩
  obtain⟨e,he,rfl⟩:=List.mem_map.mp hv;obtain⟨x,t,ex⟩:=hs.all _ hv;refine⟨e,he,?_⟩;rw[ex];simp[Value.isStrOf,strOf]
 ·rintro⟨e,he,hk⟩
  obtain⟨t,ex⟩:=U8 hk;exact⟨e.2,List.mem_map.mpr ⟨e,he,rfl⟩,by rw[ex];rfl⟩
theorem Mz {g:Bool->Sem Unit} (hg:∀(b:Bool) (s₁:Shared) (Q':Unit->Shared->Prop),Q' () s₁->wpAny (model prog w) A (g b) Q' E s₁) {a:Addr} {o:Obj} {es es1:Array (Int×Value)} {ep:Nat} {t t2:SetTable} {wd:Bool} {R:Option Bool->Shared->Prop}
  (ho:s.heap.get? a=some o) (hd:o.data=.set es ep t) (hb:es1.size<scanBound) (hf:t2.fits es1.size=true) (hp:t2.plain=false)
  (q:∀h' es' ep' t',Heap.SameBut a s.heap h'->h'.get? a=some { o with data:=.set es' ep' t' }->es'.toList.Perm es1.toList->t'.fits es'.size=true->t'.led=t2.led->t'.plain=false->R (some true) { s with heap:=h' }) :
  wpAny (model prog w) A (storeSet a es1 t2 >>= fun _=>if(!wd&&t2.tooFull)=true then g (relayAll t2 es1 (SetTable.grown es1.size)).2.2 >>= fun _=>storeSet a (relayAll t2 es1 (SetTable.grown es1.size)).1 (relayAll t2 es1 (SetTable.grown es1.size)).2.1 >>= fun _=>pure (some true) else pure (some true)) R E s:=by
 have put:∀(h:Heap) (o:Obj) (es ep t es' t'),h.get? a=some o->o.data=.set es ep t->(h.update a (Obj.putSet es' t')).get? a=some { o with data:=.set es' (ep+1) t' }:=fun h o es ep t es' t' e d=>by
  have z:=Heap.get?_update_self (Obj.putSet es' t') e (by rw[putSet_of es' t' d];rfl);rw[putSet_of es' t' d] at z;exact z
 refine wpAny_bind (wpAny_storeSet_of ho hd ?_ (fits_of_scanBound hb));have h1:=put s.heap o es ep t es1 t2 ho hd;refine wpAny_ite_split (fun _=>?_) (fun _=>wpAny_pure (q _ es1 (ep+1) t2 (Heap.SameBut.update ..) h1 (List.Perm.refl _) hf rfl hp));have pm:=relayAll_perm t2 es1 (SetTable.grown es1.size);have sz:(relayAll t2 es1 (SetTable.grown es1.size)).1.size=es1.size:=by rw[<-Array.length_toList,pm.length_eq,Array.length_toList]
 refine wpAny_bind (hg _ _ _ (wpAny_bind (wpAny_storeSet_of h1 rfl ?_ (fits_of_scanBound (by rw[sz];exact hb)))));exact wpAny_pure (q _ _ (ep+1+1) _ ((Heap.SameBut.update ..).trans (Heap.SameBut.update ..)) (put _ { o with data:=.set es1 (ep+1) t2 } es1 (ep+1) t2 _ _ h1 rfl) pm (relayAll_fits ..) (Pc ..) (L7 _ _ _ hp))
theorem MP {a:Addr} {ks:List Str} {k:Str} {tk:Tok} {Q:Bool->Shared->Prop} (S:Dz prog w s.heap a ks) (room:ks.length+1<scanBound)
  (q:∀b h',Heap.SameBut a s.heap h'->Dz prog w h' a (if k∈ks then ks else ks++[k])->Q b { s with heap:=h',toks:=s.toks+1 }):wpAny (model prog w) A (setAdd a (.str k tk)) Q E s:=by
 obtain⟨o,es,ep,t,ss,ho,hex,hd,hel0,hf,hl,hp,hs,pm⟩:=S;have hel:ElemsOf (PySem.strKind prog w) es.toList:=hel0;have hkey:(PySem.strKind prog w).is k (.str k tk)=true:=by show Value.isStrOf k (.str k tk)=true;simp[Value.isStrOf]
 have ln:es.size=ks.length:=by rw[<-pm.length_eq,<-hs.length,List.length_map,Array.length_toList]
 have hb:es.size<scanBound:=by omega
 unfold setAdd;refine wpAny_holding (wpAny_bind ((PySem.strKind prog w).pyHash hkey ?_));unfold setAddHashed;unfold setAddHashedIn;refine wpAny_holding (wpAny_bind (wpAny_setState_of (s:={ s with toks:=s.toks+1 }) ho hd hf ?_));dsimp only;rw[byScan_of rfl hb hel];simp only[↓reduceIte];unfold setAddByScan;refine wpAny_bind (wpAny_bind (wpAny_rule (wpAny_bind (wpAny_setScan_of hkey ho hd hf hel ?_))));cases hr:List.findIdx? (fun e=>(PySem.strKind prog w).is k e.2) es.toList with
 |some j=>
  dsimp only;obtain⟨hj,hpj,_⟩:=List.findIdx?_eq_some_iff_getElem.mp hr;have hm:k∈ks:=pm.mem_iff.mp ((MD hs).mpr ⟨_,List.getElem_mem hj,hpj⟩);refine wpAny_pure (wpAny_pure (q false s.heap (Heap.SameBut.refl a s.heap) ?_));rw[if_pos hm];exact⟨o,es,ep,t,ss,ho,hex,hd,hel,hf,hl,hp,hs,pm⟩
 |none=>
  dsimp only;have hm:k∉ks:=fun z=>by
   obtain⟨e,he,hk⟩:=(MD hs).mp (pm.mem_iff.mpr z);have:=List.findIdx?_eq_none_iff.mp hr e he;exact absurd (hk.symm.trans this) (by decide)
  rw[if_neg hm] at q;have gw:∀(b:Bool) (s₁:Shared) (Q':Unit->Shared->Prop),Q' () s₁->wpAny (model prog w) A (match b with|true=>rule "set.scan.the-table-gave-way"|false=>pure ()) Q' E s₁:=fun b s₁ Q' hq=>by
   cases b
   ·exact wpAny_pure hq
   ·exact wpAny_rule hq
  have lp:=layNew_perm t es ((PySem.strKind prog w).hash k) (.str k tk);have lf:=layNew_fits t es ((PySem.strKind prog w).hash k) (.str k tk);have ll:=SR t es ((PySem.strKind prog w).hash k) (.str k tk);generalize layNew t es ((PySem.strKind prog w).hash k) (.str k tk)=L at lp lf ll;obtain⟨es1,t1,wd,gave⟩:=L;dsimp only at lp lf ll ⊢;rw[Array.toList_push] at lp;have hel1:ElemsOf (PySem.strKind prog w) es1.toList:=(hel.push hkey rfl).perm lp;have sz1:es1.size=es.size+1:=by rw[<-Array.length_toList,lp.length_eq,List.length_append,Array.length_toList];rfl
  have str1:∃ts,StrsAre (es1.toList.map (·.2)) ts/\ts.Perm (ks++[k]):=by
   have h0:StrsAre ((es.toList++[((PySem.strKind prog w).hash k,Value.str k tk)]).map (·.2)) (ss++[k]):=by
    rw[List.map_append];exact M6 hs (.cons k tk .nil)
   obtain⟨ts,y1,y2⟩:=HL h0 (lp.map (·.2));exact⟨ts,y1,y2.trans (pm.append_right _)⟩
  have fin:∀h' es' ep' t',Heap.SameBut a s.heap h'->h'.get? a=some { o with data:=.set es' ep' t' }->es'.toList.Perm es1.toList->t'.fits es'.size=true->t'.led=t.led->t'.plain=false->Dz prog w h' a (ks++[k]):=fun h' es' ep' t' _ e pe fe le pl=>by
   obtain⟨ts,y1,y2⟩:=str1;obtain⟨us,z1,z2⟩:=HL y1 (pe.map (·.2));exact⟨_,es',ep',t',us,e,hex,rfl,hel1.perm pe,fe,le.trans hl,fun _=>pl,z1,z2.trans y2⟩
  refine wpAny_bind (gw _ _ _ ?_);refine wpAny_ite_split (fun c=>?_) (fun c=>?_)
  ·rw[hashByValue_scannable 8 rfl];refine wpAny_bind (wpAny_pure ?_);refine Mz gw ho hd (by rw[sz1,ln];exact room) (SetTable.fits_plain_off lf) rfl fun h' es' ep' t' sb e pe fe le pl=>wpAny_pure (q true h' sb (fin h' es' ep' t' sb e pe fe (le.trans ll) pl))
  ·refine wpAny_bind (wpAny_pure ?_);have pl1:t1.plain=false:=by simpa using c
   refine Mz gw ho hd (by rw[sz1,ln];exact room) lf pl1 fun h' es' ep' t' sb e pe fe le pl=>wpAny_pure (q true h' sb (fin h' es' ep' t' sb e pe fe (le.trans ll) pl))
def CU (ss:List Str):List Str:=ss.foldl (fun ks k=>if k∈ks then ks else ks++[k]) []
theorem Jp (ss:List Str):(CU ss).length<=ss.length:=by
 have z:∀(l ks:List Str),(l.foldl (fun ks k=>if k∈ks then ks else ks++[k]) ks).length<=ks.length+l.length:=fun l=>by
  induction l with
  |nil=>intro ks;exact Nat.le_refl _
  |cons k r ih=>
   intro ks;refine Nat.le_trans (ih _) ?_;rw[List.length_cons];dsimp only
   split
   ·omega
   ·rw[List.length_append,List.length_singleton];omega
 have:=z ss [];rw[List.length_nil,Nat.zero_add] at this;exact this
theorem P5 {ss:List Str}{i:Nat}{k:Str}(h:ss[i]?=some k):CU (ss.take (i+1))=if k∈CU (ss.take i) then CU (ss.take i) else CU (ss.take i)++[k]:=by
 have e:ss.take (i+1)=ss.take i++[k]:=by rw[List.take_add_one,h];rfl
 unfold CU;rw[e,List.foldl_append];rfl
theorem Dz.keep {h h':Heap}{a:Addr}{ks:List Str}(S:Dz prog w h a ks)(k:∀o,h.get? a=some o->h'.get? a=some o):Dz prog w h' a ks:=let⟨o,es,ep,t,ss,e,r⟩:=S;⟨o,es,ep,t,ss,k o e,r⟩
theorem OR:∀{vs:List Value} {ss:List Str},StrsAre vs ss->∀(i:Nat) (v:Value),vs[i]?=some v->∃k t,v=.str k t/\ss[i]?=some k
 |_,_,.nil,i,v,h=>by simp at h
 |_,_,.cons x t r,0,v,h=>⟨x,t,by simpa using h.symm,rfl⟩
 |_,_,.cons x t r,i+1,v,h=>OR r i v h
theorem Pi {R:Result->Shared->Prop}{I S:Addr}{fp:List Addr}{vs:List Value}{ss:List Str}{St:Nat->Heap->Prop}(W:Walks prog w A.in1 I fp [I] vs.length (fun i v=>vs[i]?=some v) St)(nS:S∉fp)(hs:StrsAre vs ss)(hb:vs.length+1<scanBound) :
  ∀(k i:Nat) (s:Shared),vs.length-i=k->i<=vs.length->St i s.heap->Dz prog w s.heap S (CU (ss.take i))->
   (∀h' tk,(∀b o,b∉[S,I]->s.heap.get? b=some o->h'.get? b=some o)->Dz prog w h' S (CU ss)->R (.ok (.ret .none)) { s with heap:=h',toks:=tk })->codeAny (model prog w) A (.builtin "set.update.loop" ⟨[.ref S,.ref I],[]⟩) R s:=by
 have nI:S∉[I]:=fun z=>nS (W.sub _ z)
 have ln:vs.length=ss.length:=hs.length;intro k
 induction k with
 |zero=>
  intro i s hk hi st T q;have e:i=vs.length:=by omega
  subst e;refine codeAny_builtin PyProof.Rows.F.entry_set_update_loop ?_;rw[Around.under_plainId PyProof.Rows.F.plain_set_update_loop _];refine wpAny_bind (m:=pyNext (.ref I)) (W.done s _ _ st fun h' tk k'=>?_);rw[ln,List.take_length] at T;exact wpAny_pure (q h' tk (fun b o n e=>k' b o (fun z=>n (List.mem_cons_of_mem _ z)) e) (T.keep fun o e=>k' S o nI e))
 |succ k ih=>
  intro i s hk hi st T q;have lt:i<vs.length:=by omega
  refine codeAny_builtin PyProof.Rows.F.entry_set_update_loop ?_;rw[Around.under_plainId PyProof.Rows.F.plain_set_update_loop _];refine wpAny_bind (m:=pyNext (.ref I)) (W.item i s _ _ lt st fun v h' tk hv st' k'=>?_);obtain⟨x,t,rfl,hx⟩:=OR hs i v hv;refine wpAny_bind (m:=holding [Value.str x t] (setAdd S (.str x t))) (wpAny_holding (MP (T.keep fun o e=>k' S o nI e) ?_ fun b h2 sb T2=>?_))
  ·have:=Jp (ss.take i);rw[List.length_take] at this;omega
  rw[<-P5 hx] at T2;refine wpAny_pure ⟨plainId_quiet PyProof.Rows.F.plain_set_update_loop _,ih (i+1) _ (by omega) lt (W.frame _ _ _ st' fun b hb o e=>?_) T2 fun h3 tk3 k3 T3=>?_⟩
  ·rw[sb.2 b (fun z=>nS (z▸hb))];exact e
  ·refine q h3 tk3 (fun b o n e=>k3 b o n ?_) T3;rw[sb.2 b (fun z=>n (by simp[z]))];exact k' b o (fun z=>n (List.mem_cons_of_mem _ z)) e
theorem JP (x:Value){Q₁:Value->Shared->Prop}(q:Q₁ (.ref s.heap.objs.size) { s with heap:=s.heap.push { cls:=.type "set",dict:=none,data:=.set #[] 0 (.fresh 0 0 (!AD w)) } }) :
  codeAny (model prog w) A (.call (.builtin "set.__new__") ⟨[.type "set",x],[]⟩) (wants Q₁ E) s:=by
 refine codeAny_of_tree ?_;refine wpAny_bind (m:=checkBuiltinCall "set.__new__" ⟨[.type "set",x],[]⟩) (wpAny_of_eq (PySem.F.newCall_set_1 x) (wpAny_pure ⟨plainId_quiet PySem.F.plain_set_new _,codeAny_builtin PySem.F.entry_set_new ?_⟩));rw[Around.under_plainId PySem.F.plain_set_new _];unfold Builtin.«set.__new__»;unfold Builtin.Frozenset.newClass;have hsub:=sub_set_self;obtain⟨hp,g,d,tk,os⟩:=s;dsimp only
 wp_walk
 refine wpAny_askSetting (wpAny_pure ?_);dsimp only;simp only[newObj];exact wpAny_bind (wpAny_alloc (wpAny_pure (wpAny_pure q)))
end
end L2
namespace L2
section
open PySem PySem.Calls PyProof.Rows
variable {prog:Program}{w:World}{A:Around}{E:Value->Shared->Prop}{s:Shared}
theorem Qu {lq:Addr} {vs:List Value} {ss:List Str} {Q:Value->Shared->Prop} (hh:A.handled=none) (hl:s.heap.IsList lq vs.toArray) (hs:StrsAre vs ss) (hb:vs.length+1<scanBound)
  (q:∀h' tk,(∀b o,s.heap.get? b=some o->h'.get? b=some o)->Dz prog w h' s.heap.objs.size (CU ss)->Q (.ref s.heap.objs.size) { s with heap:=h',toks:=tk }):wpAny (model prog w) A (call (.type "set") [.ref lq]) Q E s:=by
 obtain⟨c,tl,hmro⟩:=PySem.F.called_set.mro;have hmade:=PySem.F.called_set.made;have hsub:=PySem.F.called_set.sub;refine wpAny_call (codeAny_of_tree (wpAny_pure ⟨Code.quiet_builtin _ (by decide +kernel),codeAny_builtin PySem.F.entry_type_call ?_⟩));rw[Around.under_plain (weight_type_call_type "set" [.ref lq] []) rfl];have h1:=PySem.F.called_set.notType;have h2:=PySem.F.called_set.canCreate;have hct:=PySem.F.typeCall_set_1 (.ref lq)
 repeat (any_goals (first|assumption|wp_step))
 refine codeAny_mono (JP (.ref lq) (E:=E) (Q₁:=fun obj s₁=>obj=.ref s.heap.objs.size/\s₁={ s with heap:=s.heap.push { cls:=.type "set",dict:=none,data:=.set #[] 0 (.fresh 0 0 (!AD w)) } }) ⟨rfl,rfl⟩) fun r s₁ hr=>?_
 match r,hr with
 | .error e,hr=>exact hr
 | .ok (.ret obj),hr=>
  obtain⟨rfl,rfl⟩:=hr;have hS:(s.heap.push { cls:=.type "set",dict:=none,data:=.set #[] 0 (.fresh 0 0 (!AD w)) }).get? s.heap.objs.size=some { cls:=.type "set",dict:=none,data:=.set #[] 0 (.fresh 0 0 (!AD w)) }:=Heap.get?_push_size _ rfl;have hT:Shared.TypeIs { s with heap:=s.heap.push { cls:=.type "set",dict:=none,data:=.set #[] 0 (.fresh 0 0 (!AD w)) } } (.ref s.heap.objs.size) "set":=⟨_,hS,rfl⟩
  have hli:=PySem.F.called_set.init.lookup;have hbi:=PySem.F.called_set.init.bind (.ref s.heap.objs.size)
  repeat (any_goals (first|assumption|wp_step))
  refine codeAny_mono (codeAny_call_builtin (R:=wants (fun r s₂=>r=.none/\∃h' tk,s₂={ s with heap:=h',toks:=tk }/\(∀b o,s.heap.get? b=some o->h'.get? b=some o)/\Dz prog w h' s.heap.objs.size (CU ss)) E) PySem.F.called_set.init.plain PySem.F.entry_set_init (check_set_init_1 hT ?_)) fun r₂ s₂ hr₂=>?_
  ·obtain⟨⟨cl,dl,tl,sl⟩,el,hcl,nl,hdl⟩:=hl;simp only at hcl hdl;subst hcl;subst hdl;have el':=Heap.get?_push_of_some ({ cls:=.type "set",dict:=none,data:=.set #[] 0 (.fresh 0 0 (!AD w)) }:Obj) el;have lt:lq<s.heap.objs.size:=Heap.lt_size el;have l1:(s.heap.push { cls:=.type "set",dict:=none,data:=.set #[] 0 (.fresh 0 0 (!AD w)) }).IsList lq vs.toArray:=⟨_,el',rfl,nl,rfl⟩
   have n1:=PySem.F.sub_list_set;have n2:=PySem.F.sub_list_frozenset;have n3:(Value.type "list" == Value.type "dict")=false:=by decide
   unfold Builtin.«set.__init__» Builtin.Frozenset.updateFrom noKeywords;generalize ePI:pyIter=PI
   wp_walk
   subst ePI;refine wpAny_pyIter_list l1 (wpAny_bind (wpAny_runValue ?_));have nI:lq≠(s.heap.push { cls:=.type "set",dict:=none,data:=.set #[] 0 (.fresh 0 0 (!AD w)) }).objs.size:=by rw[Heap.size_push];exact Nat.ne_of_lt (Nat.lt_succ_of_lt lt)
   have nS:s.heap.objs.size∉[(s.heap.push { cls:=.type "set",dict:=none,data:=.set #[] 0 (.fresh 0 0 (!AD w)) }).objs.size,lq]:=by
    rw[Heap.size_push];simp only[List.mem_cons,List.not_mem_nil,or_false,not_or];exact⟨Nat.ne_of_lt (Nat.lt_succ_self _),Nat.ne_of_gt lt⟩
   have hA:A.in1.in1.in1.handled=none:=by simp[hh]
   have W:=Walks.list (prog:=prog) (w:=w) hA (s.heap.push { cls:=.type "set",dict:=none,data:=.set #[] 0 (.fresh 0 0 (!AD w)) }).objs.size lq nI vs.toArray;have W2:Walks prog w A.in1.in1.in1 (s.heap.push { cls:=.type "set",dict:=none,data:=.set #[] 0 (.fresh 0 0 (!AD w)) }).objs.size [(s.heap.push { cls:=.type "set",dict:=none,data:=.set #[] 0 (.fresh 0 0 (!AD w)) }).objs.size,lq] [(s.heap.push { cls:=.type "set",dict:=none,data:=.set #[] 0 (.fresh 0 0 (!AD w)) }).objs.size] vs.length (fun i v=>vs[i]?=some v) (fun i h=>h.IsListIter (s.heap.push { cls:=.type "set",dict:=none,data:=.set #[] 0 (.fresh 0 0 (!AD w)) }).objs.size lq i/\h.IsList lq vs.toArray):=by
    simpa only [List.size_toArray,List.getElem?_toArray] using W
   refine Pi W2 nS hs hb vs.length 0 _ (by omega) (Nat.zero_le _) ⟨⟨_,Heap.get?_push_size _ rfl,rfl,rfl⟩,l1.push _⟩ (TK (!AD w) rfl (Heap.get?_push_of_some _ hS)) fun h' tk k' T=>?_
   refine wpAny_pure (wpAny_pure ⟨rfl,h',tk,rfl,fun b o e=>k' b o (fun z=>?_) (Heap.get?_push_of_some _ (Heap.get?_push_of_some _ e)),T⟩);have lb:=Heap.lt_size e;rw[Heap.size_push] at z;simp only[List.mem_cons,List.not_mem_nil,or_false] at z;rcases z with rfl|rfl
   ·exact absurd lb (Nat.lt_irrefl _)
   ·exact absurd lb (Nat.not_lt.mpr (Nat.le_succ _))
  ·match r₂,hr₂ with
   | .error e,hr₂=>exact hr₂
   | .ok (.ret r),hr₂=>
    obtain⟨rfl,h',tk,rfl,k',T⟩:=hr₂
    repeat (any_goals (first|assumption|wp_step))
    exact q _ _ k' T
   | .ok .next,hr₂=>exact hr₂.elim
end
end L2
namespace L2
section
open PySem PySem.Calls PyProof.Rows
variable {X:Cx}{pins:List (Addr×Obj)}{σ:St}{H:Hp}{s:Shared}
theorem Inv.drew {d':Drawn}(I:Inv X pins σ H s):Inv X pins σ H { s with drawn:=d' }:=⟨I.ok,I.os,I.bare,I.base,I.loc,I.cell,I.free,I.freeC,I.pin,I.hok,I.len⟩
theorem Hy:∀{ss:List Str} {AC:List Value},AN (ss.map V.str) AC->StrsAre AC ss
 |[],_,.nil=>.nil
 |x::r,_,.cons h t=>by
  obtain⟨k,rfl⟩:=h;exact .cons x k (Hy t)
theorem G5:∀{ss:List Str} {AC:List Value},StrsAre AC ss->AN (ss.map V.str) AC
 |_,_,.nil=>.nil
 |_,_,.cons x t h=>.cons ⟨t,rfl⟩ (G5 h)
theorem Oy:∀{us:List Value} {ss:List Str},us.length=ss.length->(∀(j:Nat) (v:Value),us[j]?=some v->∃k t,v=.str k t/\ss[j]?=some k)->StrsAre us ss
 |[],[],_,_=>.nil
 |[],_::_,h,_=>nomatch h
 |_::_,[],h,_=>nomatch h
 |u::us,k::ss,h,f=>by
  obtain⟨k',t,rfl,e⟩:=f 0 u rfl;cases e;exact .cons _ t (Oy (Nat.succ.inj h) fun j v e=>f (j+1) v e)
theorem OJ:∀{kvs:List (Key×V)} {vs:List (Key×Value)},KV kvs vs->vs.map (·.1)=kvs.map (·.1)
 |_,_,.nil=>rfl
 |_,_,.cons h t=>by rw[List.map_cons,List.map_cons,OJ t,h.1]
def PB (P:Program)(w:World)(p:Addr)(ks:List Str):HO:=.ext fun h=>Dz P w h p ks
def VY (P:Program)(w:World)(K:PySem.W.Frag):List V->Hp->VK->Prop:=fun xs H Q=>∃(a:Addr) (ss:List Str),xs=[.ref a]/\AR K H a (ss.map V.str)/\ss.length<=1000/\∀p,H p=none->Q (.ref p) (upd H p (PB P w p (CU ss)))
theorem KO {P:Program}{w:World}{K:PySem.W.Frag}(hP:X.prog=P)(hw:X.w=w)(hK:X.K=K)(hc:X.calm=true):Ct X (.type "set") (VY P w K):=by
 subst hP hw hK;intro pins s σ H xs us Q I r h;obtain⟨a,ss,rfl,h1,few,q⟩:=h;obtain⟨u,rfl,ru⟩:=vals1 r;cases ru;obtain⟨AC,r1,p1,_⟩:=I.list h1;have hs:=Hy r1;have ln:=hs.length;refine Qu (I.ok.hd hc) p1.isList hs (by rw[ln];unfold scanBound;omega) fun h' tk k T=>⟨.ref s.heap.objs.size,_,I.laid (t':=tk) k (Nat.le_refl _) (?_:AX X.prog X.w _ h' _ (PB X.prog X.w s.heap.objs.size (CU ss))),rfl,q _ (I.hok.fresh (Nat.le_refl _))⟩
 exact⟨T,let⟨o,_,_,_,_,e,_⟩:=T;⟨o,e⟩,fun h1 h2 T1 kk=>T1.keep kk⟩
def NZ (H:Hp)(ks:List Str)(Q:VK):Prop:=∀ts p,ts.Perm ks->sortedS ts=true->H p=none->Q (.ref p) (upd H p (.lst (ts.map V.str)))
theorem L4 {Q:VK}{ks:List Str}{d':Drawn}{tk:Nat}{h1:Heap}{vs:List Value}{ss:List Str}(I:Inv X pins σ H s)(k:∀b o,s.heap.get? b=some o->h1.get? b=some o)(hs:StrsAre vs ss)(pm:ss.Perm ks)(few:ks.length<64)(q:NZ H ks Q) :
  Os (EP X pins σ Q) vs { s with heap:=h1,drawn:=d',toks:=tk }:=by
 have I1:Inv X pins σ H { s with heap:=h1,drawn:=d',toks:=tk }:=(I.drew (d':=d')).kept (t':=tk) k;refine⟨ss,hs,by rw[hs.length,pm.length_eq];exact few,fun h' p out ss' c ho pe so lp k' e=>⟨.ref p,_,I1.laid (t':=tk) k' lp (?_:AX X.prog X.w _ h' p (.lst (ss'.map V.str))),rfl,q ss' p (pe.trans pm) so (I1.hok.fresh lp)⟩⟩;refine⟨?_,out,c,G5 ho,e⟩;rw[List.length_map,pe.length_eq,pm.length_eq,sizeLine_eq];omega
def U3 (P:Program)(w:World):List V->Hp->VK->Prop:=fun xs H Q=>∃(a:Addr) (ks:List Str),xs=[.ref a]/\H a=some (PB P w a ks)/\ks.length<64/\NZ H ks Q
theorem Jl {P:Program}{w:World}(hP:X.prog=P)(hw:X.w=w)(hc:X.calm=true):Ct X (.builtin "sorted") (U3 P w):=by
 subst hP hw;intro pins s σ H xs us Q I r h;obtain⟨a,ks,rfl,h1,few,q⟩:=h;obtain⟨u,rfl,ru⟩:=vals1 r;cases ru;obtain⟨T,_⟩:AX X.prog X.w H s.heap a (PB X.prog X.w a ks):=I.hok a _ h1;obtain⟨o,es,ep,t,ss,e,ex,d,el,f,hl,hp,hs,pm⟩:=T;have ln:es.size=ks.length:=by rw[<-pm.length_eq,<-hs.length,List.length_map,Array.length_toList]
 refine Gk (Ii (by simpa using I.ok.hd hc) ⟨o,e,ex.1,d⟩ f hl (fun z=>hp (by omega)) (by rw[ln];unfold scanBound;omega) fun h' d' tk vs k pv=>?_);obtain⟨ts,y1,y2⟩:=HL hs pv;exact L4 I k y1 (y2.trans pm) few q
def UX:List V->Hp->VK->Prop:=fun xs H Q=>∃(d:Addr) (kvs:List (Key×V)) (ss:List Str),xs=[.ref d]/\H d=some (.dK kvs)/\kvs.map (·.1)=ss.map .inr/\ss.length<64/\NZ H ss Q
theorem NN (hc:X.calm=true):Ct X (.builtin "sorted") UX:=by
 intro pins s σ H xs us Q I r h;obtain⟨d,kvs,ss,rfl,h1,hk,few,q⟩:=h;obtain⟨u,rfl,ru⟩:=vals1 r;cases ru;obtain⟨_,lo,vs,rv,o,es,ep,ho,h2,h3,h4⟩:AX X.prog X.w H s.heap d (.dK kvs):=I.hok d _ h1;have D:s.heap.DictAt (AY X.prog X.w) d vs ep:=⟨o,es,ho,h2,h3,h4⟩
 have ln:vs.length=ss.length:=by
  have:=congrArg List.length hk;rw[List.length_map,List.length_map] at this;rw[<-this];exact rv.length.symm
 refine Gk (Ik (PySem.W.kdl_dict (knd:=AY X.prog X.w) (kvs:=vs) (ep:=ep) lo) (by simpa using I.ok.hd hc) D (by rw[ln,sizeLine_eq];omega) fun h' tk us k lu it=>?_);have hs:StrsAre us ss:=by
  refine Oy (by rw[lu,ln]) fun j v e=>?_
  obtain⟨ky,x,e1,e2⟩:=it j v e;have e3:(kvs.map (·.1))[j]?=some ky:=by rw[<-OJ rv,List.getElem?_map,e1];rfl
  rw[hk,List.getElem?_map] at e3;cases z:ss[j]? with
  |none=>rw[z] at e3;cases e3
  |some y=>
   rw[z] at e3;injection e3 with e3
   subst e3;obtain⟨t,rfl⟩:=R0 e2;exact⟨_,t,rfl,rfl⟩
 exact L4 (d':=s.drawn) I k hs (List.Perm.refl _) few q
end
end L2
namespace L2
open PySem
end L2
namespace L2
open PySem PySem.Spec PyProof.Rows
section
variable {X:Cx}
def Rt (K:PySem.W.Frag)(neg:Bool):R2:=fun x y H Q=>∃a b xs,x=.ref a/\y=.ref b/\AE K H a xs/\AE K H b []/\Q (.bl (if neg then !decide (xs=[]) else decide (xs=[]))) H
theorem OX (b:Value)(l:List Value):(((List.range (min (b::l).toArray.size (#[]:Array Value).size)).all fun _=>true)&&(b::l).toArray.size == (#[]:Array Value).size)=false:=by simp
theorem Tf (hu:X.A.units+1<cLine):E1 X (compareOp .Eq) (Rt X.K false):=by
 intro pins s σ H x y v u Q I rx ry h;obtain⟨a,b,xs,rfl,rfl,h1,h2,q⟩:=h;cases rx;cases ry;obtain⟨AC,r1,p1,_⟩:=I.tuple h1;obtain⟨its2,r2,p2,_⟩:=I.tuple h2;cases r2;have key:=SeqAt.RcAt.tuples (A:=X.A) (s:=s) (e:=fun _=>true) p1 p2 (by omega) (fun j g1 g2=>absurd g2 (by simp));cases r1 with
 |nil=>exact key _ _ _ _ ⟨.bl _,H,I,rfl,q⟩
 |cons r rr=>
  rw[OX] at key;exact key _ _ _ _ ⟨.bl _,H,I,rfl,q⟩
theorem To (hu:X.A.units+1<cLine):E1 X (compareOp .NotEq) (Rt X.K true):=by
 intro pins s σ H x y v u Q I rx ry h;obtain⟨a,b,xs,rfl,rfl,h1,h2,q⟩:=h;cases rx;cases ry;obtain⟨AC,r1,p1,_⟩:=I.tuple h1;obtain⟨its2,r2,p2,_⟩:=I.tuple h2;cases r2;have key:=SeqAt.RcNeAt.tuples (A:=X.A) (s:=s) (e:=fun _=>true) p1 p2 (by omega) (fun j g1 g2=>absurd g2 (by simp));cases r1 with
 |nil=>exact key _ _ _ _ ⟨.bl _,H,I,rfl,q⟩
 |cons r rr=>
  rw[OX] at key;exact key _ _ _ _ ⟨.bl _,H,I,rfl,q⟩
end
theorem Hr:∀{ns:List Int} {AC:List Value},IntsAre AC ns->AN (ns.map V.int) AC
 |[],_,.nil=>.nil
 |_::_,_,.cons n t h=>.cons ⟨_,rfl⟩ (Hr h)
end L2
namespace L2
section
open PySem PySem.Calls PyProof.Rows
variable {prog:Program}{w:World}{A:Around}{E:Value->Shared->Prop}{s:Shared}{it d:Addr}{i ep:Nat}{es:Array DictEntry}
def Io (h:Heap)(d:Addr)(es:Array DictEntry)(ep:Nat):Prop:=∃o,h.get? d=some o/\o.ExactDict/\o.data=.dict es ep
theorem Io.ty (x:Io s.heap d es ep):s.TypeIs (.ref d) "dict":=let⟨o,ho,hc,_⟩:=x;⟨o,ho,hc.1⟩
theorem Io.at {h h':Heap}(x:Io h d es ep)(k:∀o,h.get? d=some o->h'.get? d=some o):Io h' d es ep:=let⟨o,ho,r⟩:=x;⟨o,k o ho,r⟩
theorem Ks {Q:Value->Shared->Prop} (hd:(d == sysModules)=false) (x:Io s.heap d es ep)
  (q:Q (.ref s.heap.objs.size) { s with heap:=s.heap.push { cls:=.type "dict_keyiterator",data:=.fields #[.ref d,.int 0 0,.int es.size 0,.int ep 0] } }):wpAny (model prog w) A (pyIter (.ref d)) Q E s:=by
 obtain⟨o,ho,_,hx⟩:=id x;refine wpAny_pyIter_slot x.ty PySem.F.slot_dict_iter (wpAny_call_entry PySem.F.slot_dict_iter x.ty PySem.F.entry_dict_iter ?_ (PySem.F.args_dict_iter_1 _));refine wpAny_bind (wpAny_bind (wpAny_notOrdered_dict x.ty (wpAny_pure ?_)));refine wpAny_bind (m:=Builtin.Dict.addrOf (.ref d)) (wpAny_pure (wpAny_bind (m:=Builtin.Dict.showsAll d) ?_));unfold Builtin.Dict.showsAll;rw[if_neg (fun z=>Bool.false_ne_true (hd.symm.trans z))];refine wpAny_pure (wpAny_bind (wpAny_dictEntries ho hx (wpAny_bind (wpAny_dictEpoch ho hx (wpAny_bind (wpAny_newObj_type (wpAny_pure ⟨_,rfl,"dict_keyiterator",_,⟨_,Heap.get?_push_size _ rfl,rfl⟩,PySem.F.slot_dict_keyiterator_next.lookup,?_⟩)))))));exact q
theorem Kb {vs:Array Value} {k:Nat} {x c:Value} {Q:Unit->Shared->Prop} {o:Obj} (ho:s.heap.get? it=some o) (hc:o.cls=c) (hd:o.data=.fields vs) (hk:k<vs.size)
  (q:∀h' o',h'.get? it=some o'->o'.cls=c->o'.data=.fields (vs.setIfInBounds k x)->(∀b o,b≠it->s.heap.get? b=some o->h'.get? b=some o)->Q () { s with heap:=h' }):wpAny (model prog w) A (setField (.ref it) k x) Q E s:=
 wpAny_setField ho hd hk (q _ _ (Heap.get?_update_self _ ho (Obj.isFreed_of_fields (Obj.data_mapFields hd _))) ((Obj.cls_mapFields ..).trans hc) (Obj.data_mapFields hd _) fun b o hb e=>(Heap.get?_update_other _ _ (Ne.symm hb)).trans e)
theorem K1 {Q:Option Value->Shared->Prop} (st:s.heap.IsKeyIter it d i es.size ep) (x:Io s.heap d es ep) (hi:i<es.size)
  (q:∀h',h'.IsKeyIter it d (i+1) es.size ep->(∀b o,b≠it->s.heap.get? b=some o->h'.get? b=some o)->Q (some es[i].key) { s with heap:=h' }):wpAny (model prog w) A (pyNext (.ref it)) Q E s:=by
 obtain⟨o,ho,hc,hf⟩:=id st;obtain⟨b,hb,_,hx⟩:=id x;refine Gm PySem.F.slot_dict_keyiterator_next st.typeIs PySem.F.entry_dict_keyiterator_next (PySem.F.args_dict_keyiterator_next_1 _) ?_;refine wpAny_bind (wpAny_pure (wpAny_bind (wpAny_bind (wpAny_bind (wpAny_typeNameOfWhole_keyiter st.typeIs (wpAny_pure (wpAny_bind (wpAny_fieldsOf ho hf ?_))))))));have own:Builtin.Dict_items.ownsTuple "dict_keyiterator"=false:=by decide
 simp only[own,Bool.false_eq_true,if_false]
 change wpAny _ _ (if(Value.ref d == Value.none)=true then _ else _) _ _ s
 rw[if_neg (show ¬((Value.ref d == Value.none)=true) from Bool.false_ne_true)];refine wpAny_bind (wpAny_pure (wpAny_bind (wpAny_dictEntries hb hx ?_)));rw[if_neg (by simp)];refine wpAny_bind (wpAny_pure (wpAny_bind (wpAny_dictEpoch hb hx ?_)));rw[if_neg (by simp)];refine wpAny_pure ?_;simp only[show ¬((i:Int)<0) from by omega,if_false,Int.toNat_natCast,Array.getElem?_eq_getElem hi];refine wpAny_bind (wpAny_bind (wpAny_typeNameOfWhole_keyiter st.typeIs (wpAny_pure (wpAny_bind (wpAny_isOneOf_keyiter st.typeIs ?_)))));refine wpAny_bind (m:=setField (.ref it) 1 (rawInt ((i:Int)+1))) (Kb ho hc hf (by simp) fun h1 o1 e1 c1 d1 k1=>?_);have st1:h1.IsKeyIter it d (i+1) es.size ep:=⟨o1,e1,c1,by rw[d1];simp[rawInt]⟩
 exact wpAny_bind (wpAny_holding (wpAny_bind (wpAny_isOneOf_keyiter (s:={ s with heap:=h1 }) st1.typeIs (wpAny_pure (wpAny_pure ⟨_,rfl,q h1 st1 k1⟩)))))
theorem MA {Q:Option Value->Shared->Prop} (hh:A.handled=none) (st:s.heap.IsKeyIter it d i es.size ep) (x:Io s.heap d es ep) (hi:es.size<=i)
  (q:∀h',(∀b o,b≠it->s.heap.get? b=some o->h'.get? b=some o)->Q none { s with heap:=h' }):wpAny (model prog w) A (pyNext (.ref it)) Q E s:=by
 obtain⟨o,ho,hc,hf⟩:=id st;obtain⟨b,hb,_,hx⟩:=id x;refine GP PySem.F.slot_dict_keyiterator_next st.typeIs PySem.F.entry_dict_keyiterator_next (PySem.F.args_dict_keyiterator_next_1 _) ?_;refine wpAny_bind (wpAny_pure (wpAny_bind (wpAny_bind (wpAny_bind (wpAny_typeNameOfWhole_keyiter st.typeIs (wpAny_pure (wpAny_bind (wpAny_fieldsOf ho hf ?_))))))));have own:Builtin.Dict_items.ownsTuple "dict_keyiterator"=false:=by decide
 simp only[own,Bool.false_eq_true,if_false]
 change wpAny _ _ (if(Value.ref d == Value.none)=true then _ else _) _ _ s
 rw[if_neg (show ¬((Value.ref d == Value.none)=true) from Bool.false_ne_true)];refine wpAny_bind (wpAny_pure (wpAny_bind (wpAny_dictEntries hb hx ?_)));rw[if_neg (by simp)];refine wpAny_bind (wpAny_pure (wpAny_bind (wpAny_dictEpoch hb hx ?_)));rw[if_neg (by simp)];refine wpAny_pure ?_;simp only[show ¬((i:Int)<0) from by omega,if_false,Int.toNat_natCast,Array.getElem?_eq_none hi];refine wpAny_bind (wpAny_bind (wpAny_typeNameOfWhole_keyiter st.typeIs (wpAny_pure ?_)));refine wpAny_bind (m:=setField (.ref it) 0 .none) (Kb ho hc hf (by simp) fun h1 o1 e1 c1 d1 k1=>?_);exact HB hh fun h2 y k2 ⟨oy,ey,cy⟩=>⟨y,oy,rfl,ey,cy,q h2 fun b o hb e=>k2 b o (k1 b o hb e)⟩
theorem Sb (lo:(d == sysModules)=false):PySem.W.KdlSrc prog w "dict" d d es.size (fun i v=>∃e,es[i]?=some e/\v=e.key) (fun h=>Io h d es ep) where
 type:=fun _ x=>x.ty
 there:=fun _ ⟨_,ho,_⟩=>⟨Heap.lt_size ho,Heap.lt_size ho⟩
 keep:=fun _ _ x k=>x.at fun o e=>k d (.inl rfl) o e
 notList:=by decide
 notTuple:=by decide
 hint:=fun _ _ _ _ x q=>PySem.W.kdl_hint_dict x.ty q
 iter:=fun A s hh x=>⟨_,fun i h=>h.IsKeyIter s.heap.objs.size d i es.size ep/\Io h d es ep,fun _ _ q=>Ks lo x q,{
  sub:=fun b hb=>by simp at hb;simp[hb]
  frame:=fun _ _ _ st k=>⟨st.1.at fun o e=>k _ (by simp) o e,st.2.at fun o e=>k d (by simp) o e⟩
  item:=fun i s1 Q E hi st q=>K1 st.1 st.2 hi fun h' st' k=>q _ h' s1.toks ⟨_,Array.getElem?_eq_getElem hi,rfl⟩ ⟨st',st.2.at fun o e=>k d o (let⟨_,ho,_⟩:=x;Nat.ne_of_lt (Heap.lt_size ho)) e⟩ fun b o hb e=>k b o (fun z=>hb (by simp[z])) e
  done:=fun s1 Q E st q=>MA hh st.1 st.2 (Nat.le_refl _) fun h' k=>q h' s1.toks fun b o hb e=>k b o (fun z=>hb (by simp[z])) e
  self:=fun _ _ _ _ st q=>wpAny_pyIter_keyiter st.1 q },⟨⟨_,Heap.get?_push_size _ rfl,rfl,rfl⟩,x.at fun o e=>Heap.get?_push_of_some _ e⟩⟩
end
section
open PySem PySem.Spec PyProof.Rows
def Vl (d:Addr)(o:Obj)(kvs:List (List Key×V)):It:=
 ⟨fun i H=>H d=some (.frz o (.dT kvs))/\i<kvs.length,fun i H x H'=>H'=H/\∃k v b,kvs[i]?=some (k,v)/\x=.ref b/\H b=some (.tup (k.map kV)),fun i H=>H d=some (.frz o (.dT kvs))/\kvs.length<=i⟩
def TQ (H:Hp)(kvs:List (List Key×V))(es:Array DictEntry):Prop:=es.size=kvs.length/\∀(i:Nat) (k:List Key) (v:V),kvs[i]?=some (k,v)->∃b e,es[i]?=some e/\e.key=.ref b/\H b=some (.tup (k.map kV))
theorem Nz {P:Program}{w:World}{H:Hp}{h:Heap}{d:Addr}{kvs:List (List Key×V)}(ok:AX P w H h d (.dT kvs)):(d == sysModules)=false/\kvs.length<=sizeLine/\∃es ep,Io h d es ep/\TQ H kvs es:=by
 obtain⟨z,y,xs,r,o,es,ep,h1,h2,h3,h4,h5⟩:=ok;refine⟨y,z,es,ep,⟨o,h1,h2,h3⟩,?_,fun i k v e=>?_⟩
 ·rw[<-Array.length_toList,h4,List.length_map];exact(Paired.length r).symm
 ·obtain⟨q,e2,g1,g2,_⟩:∃q,xs[i]?=some q/\(k,v).1=q.1/\H q.2.1=some (.tup ((k,v).1.map kV))/\True:=by
   clear h4 h5 z
   induction r generalizing i with
   |nil=>simp at e
   |@cons p q ps qs hq t ih=>
    cases i with
    |zero=>simp at e;subst e;exact⟨q,by simp,hq.1,hq.2.1,trivial⟩
    |succ i=>
     obtain⟨q',a,b⟩:=ih i (by simpa using e);exact⟨q',by simpa using a,b⟩
  exact⟨q.2.1,_,by rw[<-Array.getElem?_toList,h4,List.getElem?_map,e2];rfl,rfl,g2⟩
theorem Inv.freezeT {X:Cx}{pins:List (Addr×Obj)}{σ:St}{H:Hp}{s:Shared}{d:Addr}{o:Obj}{kvs:List (List Key×V)}(I:Inv X pins σ H s)(h:H d=some (.dT kvs))(ho:s.heap.get? d=some o):Inv X pins σ (upd H d (.frz o (.dT kvs))) s:=by
 have nd:∀b,H b=none->upd H d (.frz o (.dT kvs)) b=none:=fun b hb=>by
  rw[Aj (fun z=>by rw[z,h] at hb;cases hb)];exact hb
 refine⟨I.ok,I.os,I.bare,⟨I.base.keep,I.base.slot,fun b ob e1 e2 e3=>nd b (I.base.free b ob e1 e2 e3),I.base.there,fun b xs e=>?_,fun b o2 u e=>?_,fun b ps e=>?_⟩,I.loc,I.cell,nd _ I.free,fun x c e=>nd c (I.freeC x c e),fun p hp=>?_,fun b u e=>?_,I.len⟩
 ·have:=I.base.tups b xs e;rw[Aj (D2 this h (by intro z;cases z))];exact this
 ·have:=I.base.frzs b o2 u e;rw[Aj (D2 this h (by intro z;cases z))];exact this
 ·obtain⟨more,q⟩:=I.base.tbls b ps e;exact⟨more,by rw[Aj (D2 q h (by intro z;cases z))];exact q⟩
 ·obtain⟨p1,p2,p3⟩:=I.pin p hp;exact⟨p1,nd _ p2,p3⟩
 ·by_cases hb:b=d
  ·subst hb;rw[Ad] at e;cases e;exact⟨ho,(I.hok b _ h).stay (fun c v _ r=>r) (fun c r=>by rw[Aj (D2 r h (by intro z;cases z))];exact r) fun c xs r=>by rw[Aj (D2 r h (by intro z;cases z))];exact r⟩
  ·rw[Aj hb] at e;exact(I.hok b u e).stay (fun c v _ r=>r) (fun c r=>by rw[Aj (D2 r h (by intro z;cases z))];exact r) fun c xs r=>by rw[Aj (D2 r h (by intro z;cases z))];exact r
theorem Inv.thawT {X:Cx}{pins:List (Addr×Obj)}{σ:St}{H:Hp}{s:Shared}{d:Addr}{o:Obj}{kvs:List (List Key×V)}(I:Inv X pins σ H s)(h:H d=some (.frz o (.dT kvs)))(nf:∀o u,X.H₀ d≠some (.frz o u)):Inv X pins σ (upd H d (.dT kvs)) s:=by
 have nd:∀b,H b=none->upd H d (.dT kvs) b=none:=fun b hb=>by
  rw[Aj (fun z=>by rw[z,h] at hb;cases hb)];exact hb
 refine⟨I.ok,I.os,I.bare,⟨I.base.keep,I.base.slot,fun b ob e1 e2 e3=>nd b (I.base.free b ob e1 e2 e3),I.base.there,fun b xs e=>?_,fun b o2 u e=>?_,fun b ps e=>?_⟩,I.loc,I.cell,nd _ I.free,fun x c e=>nd c (I.freeC x c e),fun p hp=>?_,fun b u e=>?_,I.len⟩
 ·have:=I.base.tups b xs e;rw[Aj (D2 this h (by intro z;cases z))];exact this
 ·have:=I.base.frzs b o2 u e;rw[Aj (fun z=>nf o2 u (by rw[<-z];exact e))];exact this
 ·obtain⟨more,q⟩:=I.base.tbls b ps e;exact⟨more,by rw[Aj (D2 q h (by intro z;cases z))];exact q⟩
 ·obtain⟨p1,p2,p3⟩:=I.pin p hp;exact⟨p1,nd _ p2,p3⟩
 ·by_cases hb:b=d
  ·subst hb;rw[Ad] at e;cases e;obtain⟨_,q⟩:=I.hok b _ h;exact AX.stay (o:=.dT kvs) q (fun c v _ r=>r) (fun c r=>by rw[Aj (D2 r h (by intro z;cases z))];exact r) fun c xs r=>by rw[Aj (D2 r h (by intro z;cases z))];exact r
  ·rw[Aj hb] at e;exact(I.hok b u e).stay (fun c v _ r=>r) (fun c r=>by rw[Aj (D2 r h (by intro z;cases z))];exact r) fun c xs r=>by rw[Aj (D2 r h (by intro z;cases z))];exact r
variable {X:Cx}{tg:Expr}
theorem LI {pins:List (Addr×Obj)}{σ:St}{H:Hp}{s:Shared}{d:Addr}{o:Obj}{kvs:List (List Key×V)}{es:Array DictEntry}{ep:Nat}(I:Inv X pins σ H s)(h:H d=some (.frz o (.dT kvs)))(he:o.data=.dict es ep):Io s.heap d es ep/\TQ H kvs es:=by
 obtain⟨ho,q⟩:=I.hok d _ h;obtain⟨_,_,es',ep',x,k⟩:=Nz (kvs:=kvs) q;obtain⟨o',ho',hc,hx⟩:=id x;rw[ho] at ho';cases ho';rw[he] at hx;cases hx;exact⟨x,k⟩
theorem N4 {P:Program}{w:World}{K:PySem.W.Frag}{tg:Expr}(d it:Addr)(o:Obj)(kvs:List (List Key×V))(es:Array DictEntry)(ep:Nat)(he:o.data=.dict es ep):Turn P w K tg (Vl d o kvs) [it] it (fun i h=>h.IsKeyIter it d i kvs.length ep) where
 mem:=by simp
 obj:=fun i h st b hb=>by
  cases(show b=it by simpa using hb);obtain⟨q,e,c,x⟩:=st;exact⟨q,e,fun v z=>by rw[x] at z;cases z⟩
 keep:=fun i h h' st k=>st.at fun o e=>k it (by simp) o e
 item:=by
  intro X hP hw hK hc i pins s σ H E I hf st ⟨hq,hi⟩;subst hP hw hK;obtain⟨x,n,ks⟩:=LI I hq he;obtain⟨f0,f1,f2,f3,f4,f5⟩:=hf it (by simp);obtain⟨b,e,e1,e2,e3⟩:=ks i kvs[i].1 kvs[i].2 (List.getElem?_eq_getElem hi);rw[<-n] at st;refine K1 st x (by omega) fun h' st' k=>?_
  have I1:Inv X pins σ H { s with heap:=h' }:=I.turned (t':=s.toks) (fun b o hb e=>k b o hb e) f0 f1 f3 f4 f5;have ek:(es[i]'(by omega)).key=.ref b:=by rw[Array.getElem?_eq_getElem (by omega)] at e1;rw[Option.some.inj e1];exact e2
  rw[n] at st';obtain⟨o2,a1,a2,a3⟩:=id st';rw[ek];exact⟨_,rfl,JH (s:={ s with heap:=h' }) a1 a2 a3 (by decide) ⟨.ref b,H,I1,rfl,⟨rfl,kvs[i].1,kvs[i].2,b,List.getElem?_eq_getElem hi,rfl,e3⟩,st',fun b hb=>(hf b hb).1⟩⟩
 done:=by
  intro X hP hw hK hc i pins s σ H E I hf st ⟨hq,hi⟩;subst hP hw hK;obtain⟨x,n,_⟩:=LI I hq he;obtain⟨f0,f1,f2,f3,f4,f5⟩:=hf it (by simp);rw[<-n] at st;exact MA (I.ok.hd hc) st x (by omega) fun h' k=>⟨rfl,I.turned (t':=s.toks) (fun b o hb e=>k b o hb e) f0 f1 f3 f4 f5⟩
 self:=fun _ _ _ _ _ st h=>wpAny_pyIter_keyiter st h
def RB (tl:TE):TI:=fun σ H R=>tl σ H fun x H1=>∃d kvs,x=.ref d/\H1 d=some (.dT kvs)/\∀o,R (Vl d o kvs) (upd H1 d (.frz o (.dT kvs)))
theorem FF {l:Expr}{tl:TE}(hl:PE X l tl):PI X tg l (RB tl):=by
 intro pins s σ H R I h;refine Bw (hl pins s σ H _ I h) fun v s1 ⟨x,H1,I1,r1,d,kvs,e,hq,q⟩=>?_
 subst e;cases r1;obtain⟨lo,_,es,ep,⟨o,ho,hc,he⟩,_⟩:=Nz (kvs:=kvs) (I1.hok d _ hq);have I2:=I1.freezeT hq ho;obtain⟨x,n,_⟩:=LI I2 Ad he;refine Ks lo x ⟨s1.heap.objs.size,[s1.heap.objs.size],_,_,_,rfl,I2.kept (t':=s1.toks) fun b o e=>Heap.get?_push_of_some _ e,N4 d _ o kvs es ep he,⟨_,Heap.get?_push_size _ rfl,rfl,by rw[n];rfl⟩,fun b hb=>?_,q o⟩;cases(show b=s1.heap.objs.size by simpa using hb);exact I2.fpOk (Nat.le_refl _) (I2.hok.fresh (Nat.le_refl _))
def Jo (X:Cx)(D:Ends):Ends where
 nx:=fun σ H=>∃d o kvs,(∀o u,X.H₀ d≠some (.frz o u))/\H d=some (.frz o (.dT kvs))/\D.nx σ (upd H d (.dT kvs))
 rt:=fun v H=>∃d o kvs,(∀o u,X.H₀ d≠some (.frz o u))/\H d=some (.frz o (.dT kvs))/\D.rt v (upd H d (.dT kvs))
def VC (X:Cx)(tl:TE)(g:TG)(tb:TS):TS:=fun D σ H=>Vc (RB tl) g tb (Jo X D) σ H
theorem IE {tg l:Expr} {body:List Stmt} {tl:TE} {g:TG} {tb:TS} {pos:Pos} (hp:PassesOwn (model X.prog X.w) X.A X.env X.xe) (hc:X.calm=true) (hl:PE X l tl) (hg:PG X tg g) (hb:OI X body tb)
  (hs:∀x,foldedSetIterable l X.env x=pure x:=by intro _;rfl):PS X (.For tg l body [] pos) (VC X tl g tb):=by
 intro pins s σ H D I h;refine Bw (CA (pos:=pos) hp hc (FF hl) hg hb hs pins s σ H (Jo X D) I h) fun f s' q=>?_
 cases f with
 |next=>
  obtain⟨σ',H',I',d,o,kvs,nf,hd,q⟩:=q;exact⟨σ',_,I'.thawT hd nf,q⟩
 |brk=>obtain⟨σ',H',I',q⟩:=q;exact False.elim q
 |cont=>obtain⟨σ',H',I',q⟩:=q;exact False.elim q
 |ret v=>
  obtain⟨x,σ',H',I',r,d,o,kvs,nf,hd,q⟩:=q;exact⟨x,σ',_,I'.thawT hd nf,r,q⟩
theorem Ga {d:Addr} {o:Obj} {kvs:List (List Key×V)} {g:TG} {tb:TS} {D:Ends} {σ:St} {H:Hp} (nf:∀o u,X.H₀ d≠some (.frz o u)) (Pv:Nat->St->Hp->Prop) (h0:Pv 0 σ H) (hl:∀(i:Nat) (σ:St) (H:Hp),i<=kvs.length->Pv i σ H->H d=some (.frz o (.dT kvs)))
  (turn:∀(i:Nat) (k:List Key) (v:V) (b:Addr) (σ:St) (H:Hp),kvs[i]?=some (k,v)->Pv i σ H->H b=some (.tup (k.map kV))->g (.ref b) σ H fun σ2 H2=>tb { nx:=Pv (i+1),rt:=(Jo X D).rt,bk:=(Jo X D).nx,ct:=Pv (i+1) } σ2 H2)
  (done:∀(σ:St) (H:Hp),Pv kvs.length σ H->D.nx σ (upd H d (.dT kvs))) :
  ∃W:Nat->Nat->St->Hp->Prop,(∃m,W 0 m σ H)/\∀i m σ H,W i m σ H->
   ((Vl d o kvs).stop i H/\(Jo X D).nx σ H)\/((Vl d o kvs).go i H/\∃N:St->Hp->Prop,(∀σ' H',N σ' H'->∃m',m'<m/\W (i+1) m' σ' H')/\∀x H',(Vl d o kvs).yld i H x H'->g x σ H' fun σ2 H2=>tb { (Jo X D) with nx:=N,ct:=N,bk:=(Jo X D).nx } σ2 H2):=by
 refine⟨fun i m σ H=>m=kvs.length-i/\i<=kvs.length/\Pv i σ H,⟨_,rfl,Nat.zero_le _,h0⟩,?_⟩
 rintro i m σ H ⟨rfl,hi,hp⟩
 by_cases hlt:i<kvs.length
 ·refine .inr ⟨⟨hl i σ H hi hp,hlt⟩,Pv (i+1),fun σ' H' hn=>⟨kvs.length-(i+1),by omega,rfl,hlt,hn⟩,?_⟩
  rintro x H' ⟨rfl,k,v,b,e,rfl,hb⟩
  exact turn i k v b σ _ e hp hb
 ·obtain rfl:i=kvs.length:=by omega
  exact .inl ⟨⟨hl _ σ H hi hp,Nat.le_refl _⟩,d,o,kvs,nf,hl _ σ H hi hp,done σ H hp⟩
def Q5:Value->Addr
 | .ref b=>b
 |_=>0
theorem KQ:∀bs:List Addr,AN (bs.map V.ref) (bs.map Value.ref)
 |[]=>.nil
 |_::bs=>.cons rfl (KQ bs)
end
end L2
namespace L2
section
open PySem PyProof.Rows
variable {prog:Program}{w:World}{A:Around}{E:Value->Shared->Prop}{s:Shared}{a₀:Array Keyed}
theorem Kk:∀(fuel n r:Nat),minRun' fuel n r<=n+r
 |0,_,_=>Nat.le_refl _
 |fuel+1,n,r=>by
  rw[minRun'_succ]
  by_cases h:n<64
  ·rw[if_pos h];exact Nat.le_refl _
  ·rw[if_neg h];have:=Kk fuel (n/2) (max r (n%2));omega
theorem MN {st:SortSt}{Q:Option Nat->SortSt->Prop}(h0:IntKeys a₀)(h1:1<=a₀.size)(hB:SBase a₀ st)(up:SortedTo (arrOf st) a₀.size)(h:Q (some a₀.size) st) :
  wpS (model prog w) A E s (countRun' 0 a₀.size) Q st:=by
 rw[countRun0_eq];have one:SortedTo (arrOf st) 1:=fun i j hij hj=>by
  obtain rfl:i=j:=by omega
  exact Int.le_refl _
 refine wpS_bind (wpS_ascLoop h0 (Nat.le_refl _) (Nat.le_refl 1) h1 hB one fun n hn1 hn2 _ hor=>?_);have hn:n=a₀.size:=by
  rcases hor with e|lt
  ·exact e
  ·by_cases e:n=a₀.size
   ·exact e
   ·have:=up (n-1) n (by omega) (by omega);omega
 subst hn;dsimp only;rw[if_pos (by simp)];exact wpS_pure h
theorem N0 {st:SortSt} {Q:Unit->SortSt->Prop} (h0:IntKeys a₀) (hB:SBase a₀ st) (h2:2<=a₀.size) (up:SortedTo (arrOf st) a₀.size)
  (h:∀st',(arrOf st').Perm a₀->failedOf st'=none->SortedTo (arrOf st') a₀.size->Q () st'):wpS (model prog w) A E s sortRuns' Q st:=by
 rw[sortRuns'_eq];refine wpS_bind (wpS_get ?_);have hm:minRun' a₀.size a₀.size 0<=a₀.size:=Kk _ _ 0;simp only[hB.size];generalize minRun' a₀.size a₀.size 0=mr at hm;have D:=hB.done up;refine wpS_bind (wpS_mono (wpS_forRange (I:=fun x c st'=>(x=0/\c=(none,0)/\st'=st)\/(0<x/\c=(none,a₀.size)/\SDone a₀ st')) (Q:=fun c st'=>c=(none,a₀.size)/\SDone a₀ st') (fun x c st' _ hx hI=>?_) (fun c st' hI=>?_) (.inl ⟨rfl,rfl,rfl⟩)) fun c st' hc=>?_)
 ·rcases hI with⟨rfl,rfl,rfl⟩|⟨hx1,rfl,hD⟩
  ·dsimp only;rw[if_neg (by omega)];simp only[Nat.sub_zero,Nat.zero_add];refine wpS_bind (MN h0 (by omega) hB up ?_);dsimp only;rw[if_neg (by omega)];refine wpS_bind (wpS_get ?_);have hb:(pendingOf st').back?=none:=by rw[hB.pend];rfl
   rw[hb];dsimp only;exact wpS_bind (wpS_modify (wpS_pure (.inr ⟨by omega,rfl,D⟩)))
  ·dsimp only;rw[if_pos (Nat.le_refl _)];exact wpS_pure ⟨rfl,hD⟩
 ·rcases hI with⟨hx,_⟩|⟨_,hc,hD⟩
  ·omega
  ·exact⟨hc,hD⟩
 ·obtain⟨rfl,hD⟩:=hc;dsimp only;refine wpS_bind (wpS_mono (wpS_forRange (I:=fun _ c st2=>c=(none,())/\st2=st') (Q:=fun c st2=>c=(none,())/\st2=st') (fun x c st2 _ _ hI=>?_) (fun _ _ hh=>hh) ⟨rfl,rfl⟩) fun c st2 hc=>?_)
  ·obtain⟨rfl,rfl⟩:=hI;refine wpS_bind (wpS_get ?_);rw[if_pos (by rw[hD.2.2.1];exact Nat.le_refl 1)];exact wpS_pure ⟨rfl,rfl⟩
  ·obtain⟨rfl,rfl⟩:=hc;exact wpS_pure (h _ hD.1 hD.2.1 hD.2.2.2)
theorem Sg {vs:List Value}{ns:List Int}(hI:IntsAre vs ns)(up:ns.Pairwise (·<=·)):SortedTo (pairsOf vs) (pairsOf vs).size:=by
 have en:=hI.nums;intro i j hij hj;have hjv:j<vs.length:=by rw[pairsOf_size] at hj;exact hj
 have kk:∀k,(hk:k<vs.length)->K (pairsOf vs) k=(vs.map numOf)[k]'(by rw[List.length_map];exact hk):=fun k hk=>by
  rw[K_eq (by rw[pairsOf_size];exact hk)];simp[pairsOf]
 rw[kk i (by omega),kk j hjv];subst en
 by_cases e:i=j
 ·subst e;exact Int.le_refl _
 ·exact List.pairwise_iff_getElem.mp up i j _ _ (by omega)
theorem S6 {a:Addr} {vs:List Value} {ns:List Int} {n:Nat} {P:PySem.Fin->Shared->Prop} (ho:s.heap.get? a=some (seqObj "list" vs.toArray n)) (hI:IntsAre vs ns) (up:vs.length<64\/(vs.length<=sizeLine/\ns.Pairwise (·<=·)))
  (h:∀(out:Array Value) (ns':List Int),IntsAre out.toList ns'->ns'.Perm ns->ns'.Pairwise (·<=·)->P (.done (.ret .none)) { s with heap:=sortedHeap s.heap a vs out }) :
  wpAny (model prog w) A (Builtin.«list.sort» ⟨[.ref a],[]⟩) P E s:=by
 by_cases few:vs.length<64
 ·exact list_sort_tree ho hI few h
 have hz:=(up.resolve_left few).1;have up':=(up.resolve_left few).2;rw[list_sort_plain];have ha:a<s.heap.objs.size:=Heap.lt_size ho;refine wpAny_bind (listItems_at ho rfl (wpAny_bind (listUpdate_at ho rfl ?_)));obtain⟨e1,h1⟩:∃e,(s.heap.update a (Obj.mapSeq fun _=>#[])).get? a=some (seqObj "list" #[] e):=⟨_,get?_update_seq ho (fun _=>#[])⟩
 refine wpAny_bind (seqEpoch_at h1 rfl (wpAny_bind (wpAny_newTuple (wpAny_bind (wpAny_newList (wpAny_holding ?_))))));have n1:a≠(s.heap.update a (Obj.mapSeq fun _=>#[])).objs.size:=by rw[Heap.size_update];exact Nat.ne_of_lt ha
 have n2:a≠((s.heap.update a (Obj.mapSeq fun _=>#[])).push (seqObj "tuple" vs.toArray 0)).objs.size:=by rw[Heap.size_push,Heap.size_update];exact Nat.ne_of_lt (Nat.lt_succ_of_lt ha)
 have h2:(((s.heap.update a (Obj.mapSeq fun _=>#[])).push (seqObj "tuple" vs.toArray 0)).push (seqObj "list" #[] 0)).get? a=some (seqObj "list" #[] e1):=by
  rw[Heap.get?_push_ne _ _ _ n2,Heap.get?_push_ne _ _ _ n1];exact h1
 show wpAny (model prog w) A _ P E { s with heap:=((s.heap.update a (Obj.mapSeq fun _=>#[])).push (seqObj "tuple" vs.toArray 0)).push (seqObj "list" #[] 0) };dsimp only;have hs2:¬vs.toArray.size<2:=by simp;omega
 have ps:=pairsOf_size vs;rw[if_neg hs2,if_neg hs2];obtain⟨v1,v2,rest,rfl⟩:∃v1 v2 rest,vs=v1::v2::rest:=by
  match vs,few with
  |[],q=>exact absurd (by decide) q
  |[_],q=>exact absurd (by show 1<64;decide) q
  |v1::v2::rest,_=>exact⟨v1,v2,rest,rfl⟩
 rw[keyKind_ints hI];refine wpAny_bind (wpAny_pure (wpAny_bind (wpAny_mono (N0 (a₀:=pairsOf (v1::v2::rest)) (st:=SortSt.mk' oneType' ((v1::v2::rest).toArray.zip (v1::v2::rest).toArray) #[] 7 none)
  (Q:=fun _ st'=>(arrOf st').Perm (pairsOf (v1::v2::rest))/\failedOf st'=none/\SortedTo (arrOf st') (pairsOf (v1::v2::rest)).size)
  hI.intKeys ⟨Array.Perm.refl _,rfl,rfl,rfl⟩ (by rw[ps];simp) (Sg hI up') fun st' a1 a2 a3=>⟨a1,a2,a3⟩) (fun r s' hr=>?_) fun _ _ e=>e)))
 obtain⟨⟨⟩,st'⟩:=r;obtain⟨rfl,hp,hf,hs⟩:=hr;dsimp only;refine wpAny_bind (seqEpoch_at h2 rfl (wpAny_bind (listUpdate_at h2 rfl ?_ (hsz2:=?_))))
 ·rw[hf];simp only[bne_self_eq_false,Bool.false_eq_true,if_false];obtain⟨ns',g1,g2,g3⟩:=sorted_out hI hp hs;exact wpAny_pure (h _ ns' g1 g2 g3)
 ·rw[Array.size_map,hp.size_eq,ps];exact Nat.le_succ_of_le hz
end
end L2
namespace L2
section
open PySem PySem.Calls PyProof.Rows
variable {prog:Program}{w:World}{A:Around}{E:Value->Shared->Prop}{s:Shared}
def Rx (Q:Value->Shared->Prop)(vs:List Value)(s1:Shared):Prop:=∃ns,IntsAre vs ns/\(vs.length<64\/(vs.length<=sizeLine/\ns.Pairwise (·<=·)))/\
 ∀h' p (out:List Value) ns' c,IntsAre out ns'->ns'.Perm ns->ns'.Pairwise (·<=·)->s1.heap.objs.size<=p->(∀b o,s1.heap.get? b=some o->h'.get? b=some o)->
  h'.get? p=some (seqObj "list" out.toArray c)->Q (.ref p) { s1 with heap:=h' }
theorem JD {x:Value}{Q:Value->Shared->Prop}(hc:wpAny (model prog w) A.in1 (collect x) (Rx Q) E s):wpAny (model prog w) A (call (.builtin "sorted") [x]) Q E s:=by
 refine Calls.call_function_entry kind_sorted plain_sorted entry_sorted (args_sorted1 x) ?_;unfold Builtin.«sorted»;refine wpAny_bind (m:=checkCount "sorted" 1 1 _) (wpAny_pure (wpAny_bind (wpAny_mono hc (fun vs s1 z=>?_) fun _ _ e=>e)));obtain⟨ns,hI,few,q⟩:=z;have there:(s1.heap.push (seqObj "list" vs.toArray 0)).get? s1.heap.objs.size=some (seqObj "list" vs.toArray 0):=Heap.get?_push_size _ rfl;refine wpAny_bind (wpAny_newList (wpAny_bind (wpAny_holding (wpAny_call_entry slot_list_sort ⟨_,there,rfl⟩ entry_list_sort (S6 there hI few fun out ns' a1 a2 a3=>⟨_,rfl,?_⟩) (args_list_sort _)))));obtain⟨c,hp⟩:=sortedHeap_at (out:=out) there;refine wpAny_pure ⟨_,rfl,q _ _ out.toList ns' c a1 a2 a3 (Nat.le_refl _) (fun b o e=>?_) (by rw[Array.toArray_toList];exact hp)⟩;have lt:=Heap.lt_size e;show Heap.get? _ b=some o;rw[sortedHeap_old (Nat.ne_of_lt lt) (by rw[Heap.size_push];exact Nat.lt_succ_of_lt lt)];exact Heap.get?_push_of_some _ e
end
section
open PySem PySem.Calls PyProof.Rows
variable {prog:Program}{w:World}{A:Around}{E:Value->Shared->Prop}{I S:Addr}{fp wr:List Addr}{n:Nat}{P:Nat->Value->Prop}{St:Nat->Heap->Prop}{bt:Nat->Nat->Bool}{d:Value}{R:Result->Shared->Prop}
def U6 (P:Nat->Value->Prop)(bt:Nat->Nat->Bool)(i:Nat)(arr:List Value):Prop:=(arr=[]/\i=0)\/∃v,arr=[v,v]/\0<i/\P (argBest bt (i-1)) v
theorem P0 (W:Walks prog w A.in1 I fp wr n P St)(hcmp:CmpOf prog w A.in1 .Gt P bt)(hSf:S∉fp):∀(k i:Nat) (s:Shared) (arr:List Value) (c:Nat),i+k=n->St i s.heap->s.heap.get? S=some { cls:=.type "list",dict:=none,data:=.seq arr.toArray c,slots:=#[] }->U6 P bt i arr->
  (∀r h' tk,(n=0/\r=d\/0<n/\P (argBest bt (n-1)) r)->(∀b o,b∉wr->b≠S->s.heap.get? b=some o->h'.get? b=some o)->R (.ok (.ret r)) { s with heap:=h',toks:=tk })->
  codeAny (model prog w) A (.builtin "max.loop" ⟨[.ref I,.none,.ref S],[("default",d)]⟩) R s:=by
 have hSw:S∉wr:=fun h=>hSf (W.sub _ h)
 intro k
 induction k with
 |zero=>
  intro i s arr c hk hst hS hb hR;cases(show i=n by omega);refine codeAny_builtin PySem.F.entry_max_loop ?_;rw[Around.under_plainId PySem.F.plain_max_loop _];refine wpAny_bind (m:=seqItems? (.ref S)) (wpAny_seqItems hS rfl (wpAny_bind (wpAny_tryCatch (W.done s _ _ hst fun h' tk k'=>?_))));rcases hb with⟨rfl,i0⟩|⟨v,rfl,i0,hv⟩
  ·exact wpAny_bind (wpAny_rule (wpAny_pure (hR d h' tk (.inl ⟨i0,rfl⟩) fun b o hb _ e=>k' b o hb e)))
  ·exact wpAny_bind (wpAny_updateSeq (k' S _ hSw hS) rfl (wpAny_bind (wpAny_letGo (wpAny_pure (hR v _ tk (.inr ⟨i0,hv⟩) fun b o hb hS e=>(Heap.get?_update_other _ _ (Ne.symm hS)).trans (k' b o hb e))))))
 |succ k ih=>
  intro i s arr c hk hst hS hb hR;refine codeAny_builtin PySem.F.entry_max_loop ?_;rw[Around.under_plainId PySem.F.plain_max_loop _];refine wpAny_bind (m:=seqItems? (.ref S)) (wpAny_seqItems hS rfl (wpAny_bind (wpAny_tryCatch (W.item i s _ _ (by omega) hst fun x h' tk hP st' k'=>?_))));have hS':=k' S _ hSw hS;have nm:(toString "max"++toString ".loop":String)="max.loop":=by decide
  have la:arr.toArray.size<=sizeLine:=by
   rw[sizeLine_eq];rcases hb with⟨rfl,_⟩|⟨v,rfl,_⟩
   ·exact Nat.zero_le _
   ·show 2<=_;omega
  have put:∀(tk':Nat),P (argBest bt i) x->wpAny (model prog w) A.in1 (updateSeq S (fun _=>#[x,x])) (fun _ s'=>codeAny (model prog w) A (.builtin "max.loop" ⟨[.ref I,.none,.ref S],[("default",d)]⟩) R s') (fun e s'=>R (.error e) s') { s with heap:=h',toks:=tk' }:=fun tk' hx=>by
   refine wpAny_updateSeq (hz:=la) (s:={ s with heap:=h',toks:=tk' }) hS' rfl (ih (i+1) _ [x,x] _ (by omega) (W.frame _ _ _ st' fun b hb o e=>?_) (Heap.get?_update_self _ hS' rfl) (.inr ⟨x,rfl,Nat.succ_pos _,hx⟩) fun r h2 tk2 hr k2=>?_)
   ·exact(Heap.get?_update_other _ _ (fun z:S=b=>hSf (by rw[z];exact hb))).trans e
   ·exact hR r h2 tk2 hr fun b o hb hbS e=>k2 b o hb hbS ((Heap.get?_update_other _ _ (Ne.symm hbS)).trans (k' b o hb e))
  rcases hb with⟨rfl,i0⟩|⟨v,rfl,i0,hv⟩
  ·subst i0;refine wpAny_bind (wpAny_pure (wpAny_bind (wpAny_mono (put tk hP) (fun _ s' q=>?_) fun _ _ q=>q)));rw[nm];exact wpAny_pure ⟨plainId_quiet PySem.F.plain_max_loop _,q⟩
  ·refine wpAny_bind (wpAny_pure (wpAny_bind (wpAny_tryCatch (wpAny_holding (wpAny_bind (hcmp i (argBest bt (i-1)) x v _ _ _ hP hv (wpAny_bind (wpAny_holding (wpAny_truthy_bool (wpAny_bind (wpAny_letGo (wpAny_pure ?_))))))))))));have ea:argBest bt i=if bt i (argBest bt (i-1)) then i else argBest bt (i-1):=by
    obtain⟨j,rfl⟩:∃j,i=j+1:=⟨i-1,by omega⟩
    rfl
   cases q:bt i (argBest bt (i-1)) with
   |true=>
    rw[q,if_pos rfl] at ea;rw[if_pos rfl];refine wpAny_bind (wpAny_mono (put tk (by rw[ea];exact hP)) (fun _ s' z=>wpAny_bind (wpAny_letGo ?_)) fun _ _ z=>z);rw[nm];exact wpAny_pure ⟨plainId_quiet PySem.F.plain_max_loop _,z⟩
   |false=>
    rw[q,if_neg Bool.false_ne_true] at ea;rw[if_neg Bool.false_ne_true];refine wpAny_bind (wpAny_letGo ?_);rw[nm];refine wpAny_pure ⟨plainId_quiet PySem.F.plain_max_loop _,ih (i+1) _ [v,v] _ (by omega) st' hS' (.inr ⟨v,rfl,Nat.succ_pos _,?_⟩) fun r h2 tk2 hr k2=>hR r h2 tk2 hr fun b o hb hbS e=>k2 b o hb hbS (k' b o hb e)⟩;show P (argBest bt i) v;rw[ea];exact hv
theorem SQ (l:Addr)(d:Value):checkBuiltinCall "max" ⟨[.ref l],[("default",d)]⟩=pure ():=by kernel_rfl
theorem Pk {l:Addr} {items:Array Value} {Q:Value->Shared->Prop} {s:Shared} (hh:A.handled=none) (hl:s.heap.IsList l items) (val:Nat->Int) (hval:∀i v,items[i]?=some v->∃t,v=Value.int (val i) t)
  (q:∀r h' tk,(items.size=0/\r=d\/0<items.size/\items[argBest (fun i j=>decide (val j<val i)) (items.size-1)]?=some r)->(∀b o,s.heap.get? b=some o->h'.get? b=some o)->Q r { s with heap:=h',toks:=tk }):wpAny (model prog w) A (call (.builtin "max") [.ref l] [("default",d)]) Q E s:=by
 refine wpAny_call (codeAny_call_builtin PySem.F.plain_max PySem.F.entry_max ?_);rw[SQ];refine wpAny_pure ?_;have nm:(toString "max"++toString ".loop":String)="max.loop":=by decide
 change wpAny _ A.in1 (Builtin.Builtins.bindParams "max" ["key","default"] 0 ⟨[],[("default",d)]⟩ >>= _) _ _ s
 refine wpAny_bind (wpAny_of_eq (show Builtin.Builtins.bindParams "max" ["key","default"] 0 ⟨[],[("default",d)]⟩=pure [none,some d] from rfl) (wpAny_bind (wpAny_pure (wpAny_bind (wpAny_pyIter_list hl ?_)))));refine wpAny_bind (wpAny_newObj_type ?_);rw[nm];have ll:l<s.heap.objs.size:=let⟨_,ho,_⟩:=hl;Heap.lt_size ho;have sz:(s.heap.push { cls:=.type "list_iterator",data:=.fields #[.ref l,.int 0 0] }).objs.size=s.heap.objs.size+1:=Heap.size_push ..;refine wpAny_pure ⟨plainId_quiet PySem.F.plain_max_loop _,P0 (P:=fun i v=>items[i]?=some v) (Walks.list (A:=A.in1) (show A.in1.handled=none from hh) s.heap.objs.size l (Nat.ne_of_lt ll) items) (CmpOf.ints_gt val hval) (S:=(s.heap.push { cls:=.type "list_iterator",data:=.fields #[.ref l,.int 0 0] }).objs.size) ?_ items.size 0 _ [] 0 (Nat.zero_add _) ?_ ?_ (.inl ⟨rfl,rfl⟩) fun r h' tk hr k=>?_⟩
 ·rw[sz];intro z;rcases List.mem_cons.mp z with z|z
  ·exact Nat.succ_ne_self _ z
  ·exact Nat.ne_of_gt (Nat.lt_succ_of_lt ll) (List.mem_singleton.mp z)
 ·refine⟨⟨_,Heap.get?_push_of_some _ (Heap.get?_push_size _ rfl),rfl,rfl⟩,hl.at fun o e=>Heap.get?_push_of_some _ (Heap.get?_push_of_some _ e)⟩
 ·exact Heap.get?_push_size _ rfl
 ·refine q r h' tk hr fun b o e=>k b o ?_ ?_ (Heap.get?_push_of_some _ (Heap.get?_push_of_some _ e))
  ·exact fun z=>Nat.ne_of_lt (Heap.lt_size e) (List.mem_singleton.mp z)
  ·rw[sz];exact Nat.ne_of_lt (Nat.lt_succ_of_lt (Heap.lt_size e))
theorem JK {M:Model} {A:Around} {E:Value->Shared->Prop} {s:Shared} {pos:Pos} {id:String} {args:List (Bool×Sem Value)} {kws:List (Option Str×Sem Value)} {Q:Value->Shared->Prop} (hp:args.any (·.1)=false) (hk:kws.any (·.1.isNone)=false)
  (h:wpAny M A (evalArgs (.builtin id) true args kws) (fun z sz=>wpAny M A (call (.builtin id) z.pos z.kw) Q E sz) E s):wpAny M A (callWith pos (.builtin id) [] args kws) Q E s:=by
 unfold callWith;refine wpAny_bind (wpAny_holding (wpAny_mono h (fun z sz hz=>wpAny_bind (wpAny_standAt ?_)) fun _ _ y=>y));simp only[hp,hk,Bool.or_false];refine wpAny_bind (wpAny_pure (wpAny_bind (wpAny_mono hz (fun v sv hv=>wpAny_bind (wpAny_holding (wpAny_point (wpAny_pure hv)))) fun _ _ y=>y)))
end
section
open PySem PySem.Spec PyProof.Rows PySem.Calls
variable {X:Cx}
def Ls:List Int->Int
 |[]=>0
 |x::l=>l.foldl (fun a b=>if a<b then b else a) x
theorem PY {l:List Int}(h:l≠[])(x:Int):Ls (l++[x])=if Ls l<x then x else Ls l:=by
 cases l with
 |nil=>exact absurd rfl h
 |cons y l=>
  show(l++[x]).foldl (fun a b=>if a<b then b else a) y=_;rw[List.foldl_append];rfl
theorem Kd (ns:List Int):∀k,k<ns.length->argBest (fun i j=>decide (ns.getD j 0<ns.getD i 0)) k<ns.length/\Ls (ns.take (k+1))=ns.getD (argBest (fun i j=>decide (ns.getD j 0<ns.getD i 0)) k) 0
 |0,h=>by
  cases ns with
  |nil=>exact absurd h (Nat.not_lt_zero _)
  |cons x l=>exact⟨h,rfl⟩
 |k+1,h=>by
  obtain⟨h1,h2⟩:=Kd ns k (by omega);have e:ns.take (k+1+1)=ns.take (k+1)++[ns.getD (k+1) 0]:=by
   rw[List.take_add_one,List.getD_eq_getElem?_getD,List.getElem?_eq_getElem h];rfl
  have ne:ns.take (k+1)≠[]:=fun z=>by
   have:=congrArg List.length z;rw[List.length_take,List.length_nil] at this;omega
  rw[e,PY ne,h2];show(if decide (_<_)=true then k+1 else _)<_/\_=ns.getD (if decide (_<_)=true then k+1 else _) 0
  by_cases q:ns.getD (argBest (fun i j=>decide (ns.getD j 0<ns.getD i 0)) k) 0<ns.getD (k+1) 0
  ·rw[if_pos q,if_pos (decide_eq_true q)];exact⟨h,rfl⟩
  ·rw[if_neg q,if_neg (by rw[decide_eq_false q];exact Bool.false_ne_true)];exact⟨h1,rfl⟩
theorem Jg:∀{AC:List Value} {ns:List Int},IntsAre AC ns->∀{i:Nat} {v:Value},AC[i]?=some v->∃t,v=Value.int (ns.getD i 0) t
 |_,_,.nil,i,v,h=>by simp at h
 |_,_,.cons n t r,0,v,h=>by simp at h;exact⟨t,h.symm⟩
 |_,_,.cons n t r,i+1,v,h=>Jg r (by simpa using h)
end
end L2
namespace L2
section
open PySem PySem.Calls PyProof.Rows
variable {prog:Program}{w:World}{A:Around}{E:Value->Shared->Prop}{s:Shared}
theorem M7:entryFor table "dict.update.loop"=some Builtin.«dict.update.loop»:=entryFor_of_tree (by kernel_rfl)
theorem GY:plainId "dict.update.loop"=true:=by decide +kernel
theorem P4:typeLookup (.type "list") "keys"=pure none:=by rw[typeLookup_type,builtinLookup_eq_fast];kernel_rfl
theorem K7 {a:Addr} {xs:Array Value} {k:Nat} {sl:Array (Option Value)} {Q:Option Value->Shared->Prop} (hx:s.heap.get? a=some { cls:=.type "list",dict:=none,data:=.seq xs k,slots:=sl }) (hA:A.handled=none)
  (h:∀h' tk,(∀b o,s.heap.get? b=some o->h'.get? b=some o)->Q none { s with heap:=h',toks:=tk }):wpAny (model prog w) A (getAttr? (.ref a) "keys") Q E s:=by
 obtain⟨hp,g,d,tk,os⟩:=s;have hT:∀tk',(⟨hp,g,d,tk',os⟩:Shared).TypeIs (.ref a) "list":=fun _=>⟨_,hx,rfl⟩
 have f1:=sub_AttributeError;have f3:=F.slot_list_getattribute.lookup;have f4:=F.slot_list_getattribute.bind (.ref a);have f5:=am_list_getattr_none;unfold getAttr? getAttrBy? getAttrBy
 repeat (any_goals (first|assumption|exact hT _|((with_reducible show wpAny _ _ (call (Value.builtin "list.__getattribute__") _ _) _ _ _);refine call_meets F.slot_list_getattribute (hT _) am_entry_list_getattribute (F.args_list_getattribute_2 _ _) (meets_getattribute_miss_list a xs k sl "keys" _ P4 (by decide +kernel) (by decide +kernel)) ⟨hx,hA,fun h' tk' e hx'=>?_⟩)|wp_step))
 obtain⟨t',u',he⟩:=hx'.there;show wpAny _ _ (getattributeRaised _ _ _ _ _ _ _) _ _ _;unfold getattributeRaised
 repeat (any_goals (first|assumption|wp_step))
 exact h _ _ fun b o e=>hx'.keeps b o e
theorem pair_items {t:Addr}{k v:Value}{Q:List Value->Shared->Prop}(ht:IsTup s.heap t #[k,v])(h:Q [k,v] s):wpAny (model prog w) A (Builtin.Dict.pairItems (.ref t)) Q E s:=by
 obtain⟨o,ho,hc,n,hd⟩:=ht;have hT:s.TypeIs (.ref t) "tuple":=⟨o,ho,hc⟩
 unfold Builtin.Dict.pairItems;refine wpAny_bind (wpAny_typeOf hT ?_);rw[if_pos (by decide)];refine wpAny_bind (m:=seqItems? (.ref t)) ?_;unfold seqItems?;refine wpAny_bind (wpAny_load ho ?_);rw[hd];exact wpAny_pure (wpAny_pure h)
theorem Po {R:Result->Shared->Prop} {I d:Addr} {fp:List Addr} {vs:List Value} {St:Nat->Heap->Prop} {D:Nat->Heap->Prop} {h0:Heap} (W:Walks prog w A.in1 I fp [I] vs.length (fun i v=>vs[i]?=some v) St) (nd:d∉fp)
  (hI:h0.get? I=none) (hd0:h0.get? d=none) (keep:∀i h h',D i h->(∀o,h.get? d=some o->h'.get? d=some o)->D i h')
  (pr:∀i v,vs[i]?=some v->∃t x y,v=.ref t/\IsTup h0 t #[x,y]/\∀(s:Shared) (Q:Unit->Shared->Prop) (E:Value->Shared->Prop),(∀b o,h0.get? b=some o->s.heap.get? b=some o)->D i s.heap->(∀h' tk,D (i+1) h'->Heap.SameBut d s.heap h'->Q () { s with heap:=h',toks:=tk })->wpAny (model prog w) A.in1 (dictSet d x y) Q E s) :
  ∀(k i:Nat) (s:Shared),vs.length-i=k->i<=vs.length->(∀b o,h0.get? b=some o->s.heap.get? b=some o)->St i s.heap->D i s.heap->
   (∀h' tk,(∀b o,b∉[d,I]->s.heap.get? b=some o->h'.get? b=some o)->D vs.length h'->R (.ok (.ret .none)) { s with heap:=h',toks:=tk })->codeAny (model prog w) A (.builtin "dict.update.loop" ⟨[.ref d,.ref I,rawInt i,.none],[]⟩) R s:=by
 have nI:d∉[I]:=fun z=>nd (W.sub _ z)
 intro k
 induction k with
 |zero=>
  intro i s hk hi old st T q;have e:i=vs.length:=by omega
  subst e;refine codeAny_builtin M7 ?_;rw[Around.under_plainId GY _];refine wpAny_bind (m:=pyNext (.ref I)) (W.done s _ _ st fun h' tk k'=>?_);refine wpAny_bind (m:=Builtin.Dict.addKeywords d []) (wpAny_pure (wpAny_pure ?_));exact q h' tk (fun b o n e=>k' b o (fun z=>n (List.mem_cons_of_mem _ z)) e) (keep _ _ _ T fun o e=>k' d o nI e)
 |succ k ih=>
  intro i s hk hi old st T q;have lt:i<vs.length:=by omega
  refine codeAny_builtin M7 ?_;rw[Around.under_plainId GY _];refine wpAny_bind (m:=pyNext (.ref I)) (W.item i s _ _ lt st fun v h' tk hv st' k'=>?_);obtain⟨t,x,y,rfl,ht,step⟩:=pr i v hv;have old':∀b o,h0.get? b=some o->h'.get? b=some o:=fun b o e=>k' b o (fun z=>by rw[List.mem_singleton.mp z,hI] at e;cases e) (old b o e)
  refine wpAny_bind (wpAny_holding (wpAny_bind (wpAny_tryCatch (pair_items (s:={ s with heap:=h',toks:=tk }) (ht.keeps old') ?_))));refine wpAny_holding (step _ _ _ old' (keep _ _ _ T fun o e=>k' d o nI e) fun h2 tk2 T2 sb=>?_);refine wpAny_pure ⟨plainId_quiet GY _,ih (i+1) _ (by omega) lt (fun b o e=>?_) (W.frame _ _ _ st' fun b hb o e=>?_) T2 fun h3 tk3 k3 T3=>?_⟩
  ·rw[sb.2 b (fun z=>by rw[z,hd0] at e;cases e)];exact old' b o e
  ·rw[sb.2 b (fun z=>nd (z▸hb))];exact e
  ·refine q h3 tk3 (fun b o n e=>k3 b o n ?_) T3;rw[sb.2 b (fun z=>n (by simp[z]))];exact k' b o (fun z=>n (List.mem_cons_of_mem _ z)) e
theorem Kc {l:Addr} {vs:List Value} {D:Nat->Heap->Prop} {Q:Value->Shared->Prop} (hh:A.handled=none) (hl:∃n sl,s.heap.get? l=some { cls:=.type "list",dict:=none,data:=.seq vs.toArray n,slots:=sl })
  (keep:∀i h h',D i h->(∀o,h.get? s.heap.objs.size=some o->h'.get? s.heap.objs.size=some o)->D i h')
  (d0:∀h:Heap,h.get? s.heap.objs.size=some { cls:=.type "dict",data:=.dict #[] }->D 0 h)
  (pr:∀i v,vs[i]?=some v->∃t x y,v=.ref t/\IsTup s.heap t #[x,y]/\∀(s1:Shared) (Q:Unit->Shared->Prop) (E:Value->Shared->Prop),(∀b o,s.heap.get? b=some o->s1.heap.get? b=some o)->D i s1.heap->(∀h' tk,D (i+1) h'->Heap.SameBut s.heap.objs.size s1.heap h'->Q () { s1 with heap:=h',toks:=tk })->wpAny (model prog w) A.in1.in1 (dictSet s.heap.objs.size x y) Q E s1)
  (q:∀h' tk,(∀b o,s.heap.get? b=some o->h'.get? b=some o)->D vs.length h'->Q (.ref s.heap.objs.size) { s with heap:=h',toks:=tk }):wpAny (model prog w) A (call (.type "dict") [.ref l]) Q E s:=by
 obtain⟨n,sl,el⟩:=hl;have lt:l<s.heap.objs.size:=Heap.lt_size el;refine callType_codes (Q₁:=fun obj s₁=>obj=.ref s.heap.objs.size/\s₁={ s with heap:=s.heap.push { cls:=.type "dict",data:=.dict #[] } }) PySem.F.kt_called_dict (PySem.F.kt_typeCall_dict_1 _) PySem.F.entry_dict_init (kt_code_dict_new _ ⟨rfl,rfl⟩) ?_
 rintro obj s₁ ⟨rfl,rfl⟩
 have hS:(s.heap.push { cls:=.type "dict",data:=.dict #[] }).get? s.heap.objs.size=some { cls:=.type "dict",data:=.dict #[] }:=Heap.get?_push_size _ rfl;have hT:Shared.TypeIs { s with heap:=s.heap.push { cls:=.type "dict",data:=.dict #[] } } (.ref s.heap.objs.size) "dict":=⟨_,hS,rfl⟩
 have el':=Heap.get?_push_of_some ({ cls:=.type "dict",data:=.dict #[] }:Obj) el;refine⟨hT,PySem.F.args_dict_init_2 _ _,?_⟩;unfold Builtin.«dict.__init__»;refine wpAny_bind ?_;unfold Builtin.Dict.selfAndRest;refine wpAny_bind (wpAny_notOrdered_dict hT ?_);show wpAny _ _ (pure (s.heap.objs.size,[Value.ref l])) _ _ _;refine wpAny_pure ?_;show wpAny _ _ (Builtin.Dict.updateFrom "dict.__init__" s.heap.objs.size (.ref l) [] .none) _ _ _;unfold Builtin.Dict.updateFrom;refine wpAny_bind (wpAny_typeOf (T:="list") ⟨_,el',rfl⟩ ?_);rw[if_pos (by decide)];refine wpAny_bind (K7 (s:={ s with heap:=s.heap.push { cls:=.type "dict",data:=.dict #[] } }) el' (by simp[hh]) fun h1 tk1 k1=>?_);rw[if_pos (show(none:Option Value).isNone=true from rfl)];refine wpAny_bind (wpAny_rule ?_);have el1:=k1 _ _ el';have l1:h1.IsList l vs.toArray:=⟨_,el1,rfl,_,rfl⟩
 refine wpAny_bind (wpAny_pyIter_list (s:={ s with heap:=h1,toks:=tk1 }) l1 ?_);have g1:s.heap.objs.size+1<=h1.objs.size:=Heap.lt_size (k1 _ _ hS);have nI:l≠h1.objs.size:=Nat.ne_of_lt (Nat.lt_of_lt_of_le lt (Nat.le_of_succ_le g1));have W:=Walks.list (prog:=prog) (w:=w) (A:=A.in1.in1) (by simp[hh]) h1.objs.size l nI vs.toArray;have W2:Walks prog w A.in1.in1 h1.objs.size [h1.objs.size,l] [h1.objs.size] vs.length (fun i v=>vs[i]?=some v) (fun i h=>h.IsListIter h1.objs.size l i/\h.IsList l vs.toArray):=by
  simpa only [List.size_toArray,List.getElem?_toArray] using W
 have old1:∀b o,s.heap.get? b=some o->h1.get? b=some o:=fun b o e=>k1 b o (Heap.get?_push_of_some _ e)
 refine wpAny_pure ⟨plainId_quiet GY _,Po (h0:=s.heap) (D:=D) W2 ?_ (Heap.get?_none_of_le (by omega)) (Heap.get?_none_of_le (Nat.le_refl _)) keep pr vs.length 0 _ (by omega) (Nat.zero_le _) (fun b o e=>Heap.get?_push_of_some _ (old1 b o e)) ⟨⟨_,Heap.get?_push_size _ rfl,rfl,rfl⟩,l1.push _⟩ (d0 _ (Heap.get?_push_of_some _ (k1 _ _ hS))) fun h' tk k' T=>⟨rfl,q h' tk (fun b o e=>k' b o (fun z=>?_) (Heap.get?_push_of_some _ (old1 b o e))) T⟩⟩
 ·simp only[List.mem_cons,List.not_mem_nil,or_false,not_or];exact⟨Nat.ne_of_lt (by omega),Nat.ne_of_gt lt⟩
 ·have lb:=Heap.lt_size e;simp only[List.mem_cons,List.not_mem_nil,or_false] at z;rcases z with rfl|rfl
  ·exact absurd lb (Nat.lt_irrefl _)
  ·exact absurd lb (Nat.not_lt.mpr (Nat.le_of_succ_le g1))
open PySem.Spec
def Q8 (K:PySem.W.Frag):List V->Hp->VK->Prop:=fun xs H Q=>∃(a:Addr) (ps:List Addr) (kvs:List (List Key×V)),xs=[.ref a]/\AR K H a (ps.map V.ref)/\ps.length=kvs.length/\kvs.length<=100000/\(kvs.map (·.1)).Nodup/\
 (∀(i:Nat) t k v,ps[i]?=some t->kvs[i]?=some (k,v)->∃b,H t=some (.tup [.ref b,v])/\H b=some (.tup (k.map kV)))/\∀d,H d=none->Q (.ref d) (upd H d (.dT kvs))
theorem LB:∀{ps:List Addr} {AC:List Value},AN (ps.map V.ref) AC->∀(i:Nat) v,AC[i]?=some v->∃t,ps[i]?=some t/\v=.ref t
 |[],_,.nil,i,v,e=>by simp at e
 |t::ps,_,.cons r h,0,v,e=>⟨t,rfl,by cases r;simpa using e.symm⟩
 |t::ps,_,.cons r h,i+1,v,e=>by
  obtain⟨t',a,b⟩:=LB h i v (by simpa using e);exact⟨t',by simpa using a,b⟩
theorem GF {α β:Type}{F:α->β->Prop}:∀{l:List α} {m:List β},Paired F l m->∀{y:β},y∈m->∃x,x∈l/\F x y
 |_,_,.nil,_,h=>nomatch h
 |_,_,.cons r t,y,h=>by
  rcases List.mem_cons.mp h with rfl|h
  ·exact⟨_,List.mem_cons_self,r⟩
  ·obtain⟨x,a,b⟩:=GF t h;exact⟨x,List.mem_cons_of_mem _ a,b⟩
theorem Mm {X:Cx}{pins:List (Addr×Obj)}{σ:St}{H:Hp}{s:Shared}(I:Inv X pins σ H s):∀(ps:List Addr) (kvs:List (List Key×V)),ps.length=kvs.length->(∀(i:Nat) t k v,ps[i]?=some t->kvs[i]?=some (k,v)->∃b,H t=some (.tup [.ref b,v])/\H b=some (.tup (k.map kV)))->
  ∃xs:List (List Key×Addr×Value),Paired (fun(p:List Key×V) (q:List Key×Addr×Value)=>p.1=q.1/\H q.2.1=some (.tup (p.1.map kV))/\RelV p.2 q.2.2) kvs xs/\∀(i:Nat) t,ps[i]?=some t->∃q,xs[i]?=some q/\IsTup s.heap t #[.ref q.2.1,q.2.2]
 |[],[],_,_=>⟨[],.nil,fun i t h=>by simp at h⟩
 |[],_::_,h,_=>by cases h
 |_::_,[],h,_=>by cases h
 |t::ps,(k,v)::kvs,ln,hp=>by
  obtain⟨xs,r,a⟩:=Mm I ps kvs (by simpa using ln) fun i t k v e1 e2=>hp (i+1) t k v (by simpa using e1) (by simpa using e2)
  obtain⟨b,h1,h2⟩:=hp 0 t k v rfl rfl;obtain⟨_,AC,rv,it⟩:=(show AX X.prog X.w H s.heap t (.tup [.ref b,v]) from I.hok t _ h1)
  cases rv with
  |cons ra rb=>
   cases ra;cases rb with
   |@cons _ wv _ _ rb rc=>
    cases rc;refine⟨(k,b,wv)::xs,.cons ⟨rfl,h2,rb⟩ r,fun i t' e=>?_⟩;cases i with
    |zero=>simp only[List.getElem?_cons_zero,Option.some.injEq] at e;subst e;exact⟨_,rfl,it.is⟩
    |succ i=>exact a i t' (by simpa using e)
theorem Gp {X:Cx}{K:PySem.W.Frag}(hK:X.K=K)(hu:X.A.units+150<cLine)(hc:X.calm=true):Ct X (.type "dict") (Q8 K):=by
 subst hK;intro pins s σ H xs us Q I r h;obtain⟨a,ps,kvs,rfl,h1,ln,hz,nd,hp,q⟩:=h;obtain⟨u,rfl,ru⟩:=vals1 r;cases ru;obtain⟨AC,r1,⟨o1,n1,e1,c1,d1,s1⟩,_⟩:=I.list h1;obtain⟨xs,rx,tx⟩:=Mm I ps kvs ln hp;have lx:xs.length=kvs.length:=(Paired.length rx).symm;have kx:xs.map (·.1)=kvs.map (·.1):=by
  clear tx hp nd hz ln lx q
  induction rx with
  |nil=>rfl
  |cons hq _ ih=>rw[List.map_cons,List.map_cons,ih,hq.1]
 have ndx:(xs.map (·.1)).Nodup:=by rw[kx];exact nd
 have li:AC.length=ps.length:=by have:=r1.length;rw[List.length_map] at this;exact this.symm
 have ix:∀(i:Nat) v,AC[i]?=some v->∃t,ps[i]?=some t/\v=.ref t:=LB r1;obtain⟨c,dd,da,sl⟩:=o1;simp only at c1 d1 s1;subst c1 d1 s1;refine Kc (A:=X.A) (I.ok.hd hc) ⟨n1,_,e1⟩ (D:=fun i h=>∃o es ep,h.get? s.heap.objs.size=some o/\o.ExactDict/\o.data=.dict es ep/\es.toList=(xs.take i).map (entryOfKey (tupleKind (AY X.prog X.w)))) (fun i h h' ⟨o,es,ep,z1,z2⟩ k=>⟨o,es,ep,k o z1,z2⟩) (fun h e=>⟨_,#[],0,e,⟨rfl,rfl,rfl⟩,rfl,rfl⟩) (fun i v e=>?_) fun h' tk k' ⟨o,es,ep,z1,z2,z3,z4⟩=>?_
 ·obtain⟨t,et,rfl⟩:=ix i v e;obtain⟨⟨k,b,wv⟩,eq,ht⟩:=tx i t et;refine⟨t,.ref b,wv,rfl,ht,fun s2 Q2 E2 old ⟨o,es,ep,z1,z2,z3,z4⟩ hQ=>?_⟩;have ky:∀x∈xs,(tupleKind (AY X.prog X.w)).is s2.heap x.1 x.2.1:=fun x hx=>by
   obtain⟨p,hp,e1,e2,_⟩:=GF rx hx;rw[e1] at e2;obtain⟨o,AC,n,y1,y2⟩:=Gx I.hok e2;exact⟨o,AC,n,old _ _ y1,y2⟩
  have hm:s2.heap.DictOfH (tupleKind (AY X.prog X.w)) s.heap.objs.size (xs.take i):=⟨o,es,ep,z1,z2,z3,z4,fun x hx=>ky x (List.mem_of_mem_take hx),by rw[List.map_take];exact ndx.sublist (List.take_sublist _ _)⟩
  have no:atKey (xs.take i) k=none:=by
   unfold atKey;rw[Option.map_eq_none_iff,List.find?_eq_none];intro x hx z;have e:=of_decide_eq_true z;obtain⟨j,hj⟩:=List.getElem?_of_mem hx;rw[List.getElem?_take] at hj
   split at hj
   ·next lt=>
    have:=idxH_unique (k:=k) (p:=x.2) ndx (by rw[hj,<-e]) eq;omega
   ·cases hj
  have ts:xs.take (i+1)=xs.take i++[(k,b,wv)]:=by rw[List.take_add_one,eq];rfl
  refine wpAny_dictSet_heap (hsz:=?_) (k:=k) ?_ (ky _ (List.mem_of_getElem? eq)) hm fun h' hm' sb=>hQ _ _ ?_ sb
  ·show X.A.in1.in1.units<cLine;simp only[units_in1];omega
  ·rw[storedH_new no,<-ts] at hm';obtain⟨o,es,ep,y1,y2,y3,y4,_⟩:=hm';exact⟨o,es,ep,y1,y2,y3,y4⟩
  ·rw[List.length_take,sizeLine_eq];omega
 ·have hb:=I.big;rw[li,ln,<-lx,List.take_length] at z4;have nn:∀c ys,H c=some (.tup ys)->(upd H s.heap.objs.size (.dT kvs)) c=some (.tup ys):=fun c ys e=>by rw[Aj (fun z=>by rw[z,I.fresh] at e;cases e)];exact e
  refine⟨.ref s.heap.objs.size,_,I.laid (o:=.dT kvs) k' (Nat.le_refl _) ⟨by rw[sizeLine_eq];omega,?_,xs,Paired.mapP rx fun p q z=>⟨z.1,nn _ _ z.2.1,z.2.2⟩,o,es,ep,z1,z2,z3,z4,ndx⟩,rfl,q _ I.fresh⟩;rw[beq_eq_false_iff_ne];exact Nat.ne_of_gt hb
end
end L2
namespace L2
section
open PySem PySem.W PyProof.Rows
variable {n:Nat}{lt:Nat->Nat->Bool}{cmp:Nat->Nat->(Bool->Shared->Prop)->Shared->Prop}{s:Shared}
structure Ordr (n:Nat) (lt:Nat->Nat->Bool) (cmp:Nat->Nat->(Bool->Shared->Prop)->Shared->Prop) (s:Shared):Prop where
 ask:∀(i j:Nat) (C:Bool->Shared->Prop),i<n->j<n->i≠j->C (lt i j) s->cmp i j C s
 tr:∀i j k,i<n->j<n->k<n->lt i j=true->lt j k=true->lt i k=true
 tot:∀i j,i<n->j<n->i≠j->lt i j=false->lt j i=true
def IH (n:Nat)(p:Array Nat):Prop:=p.size=n/\p.toList.Perm (List.range n)
theorem IH.lo {p:Array Nat}(h:IH n p){i:Nat}(hi:i<n):p.getD i 0<n:=by
 have hs:i<p.size:=by rw[h.1];exact hi
 have e:p.getD i 0=p[i]:=by simp[Array.getD,hs]
 rw[e];exact List.mem_range.mp (h.2.mem_iff.mp (by simp))
theorem IH.ne {p:Array Nat}(h:IH n p){i j:Nat}(hi:i<n)(hj:j<n)(hij:i≠j):p.getD i 0≠p.getD j 0:=by
 have hs:i<p.size:=by rw[h.1];exact hi
 have ht:j<p.size:=by rw[h.1];exact hj
 have nd:p.toList.Nodup:=h.2.nodup_iff.mpr List.nodup_range;have e1:p.getD i 0=p.toList[i]'(by simpa using hs):=by simp[Array.getD,hs]
 have e2:p.getD j 0=p.toList[j]'(by simpa using ht):=by simp[Array.getD,ht]
 rw[e1,e2];intro z;have pw:=List.pairwise_iff_getElem.mp nd;rcases Nat.lt_or_gt_of_ne hij with g|g
 ·exact pw i j (by simpa using hs) (by simpa using ht) g z
 ·exact pw j i (by simpa using ht) (by simpa using hs) g z.symm
def GI (lt:Nat->Nat->Bool)(p:Array Nat)(k:Nat):Prop:=∀i j,i<j->j<k->lt (p.getD i 0) (p.getD j 0)=true
def UE (lt:Nat->Nat->Bool)(p:Array Nat)(k:Nat):Prop:=∀i j,i<j->j<k->lt (p.getD j 0) (p.getD i 0)=true
theorem Nl (O:Ordr n lt cmp s){p:Array Nat}(hp:IH n p){G:Nat->Shared->Prop}:∀(f m:Nat),1<=m->m+f<=n->GI lt p m->
  (∀m',m<=m'->m'<=m+f->GI lt p m'->(m'=m+f\/lt (p.getD m' 0) (p.getD (m'-1) 0)=true)->G m' s)->(kas_asc p f m).kasWp cmp G s
 |0,m,_,_,up,h=>h m (Nat.le_refl _) (Nat.le_refl _) up (.inl rfl)
 |f+1,m,h1,h2,up,h=>by
  refine O.ask _ _ _ (hp.lo (by omega)) (hp.lo (by omega)) (hp.ne (by omega) (by omega) (by omega)) ?_;cases hl:lt (p.getD m 0) (p.getD (m-1) 0) with
  |true=>exact h m (Nat.le_refl _) (by omega) up (.inr hl)
  |false=>
   have hl':=O.tot _ _ (hp.lo (by omega)) (hp.lo (by omega)) (hp.ne (by omega) (by omega) (by omega)) hl;show(kas_asc p f (m+1)).kasWp cmp G s;refine Nl O hp f (m+1) (by omega) (by omega) (fun i j hij hj=>?_) fun m' a b c d=>h m' (by omega) (by omega) c (d.imp (by omega) id)
   by_cases e:j=m
   ·subst e
    by_cases e2:i=j-1
    ·rw[e2];exact hl'
    ·exact O.tr _ _ _ (hp.lo (by omega)) (hp.lo (by omega)) (hp.lo (by omega)) (up i (j-1) (by omega) (by omega)) hl'
   ·exact up i j hij (by omega)
theorem Ou (O:Ordr n lt cmp s){p:Array Nat}(hp:IH n p){G:Array Nat×Nat×Nat->Shared->Prop}:∀(f m:Nat),1<=m->m+f<=n->UE lt p m->
  (∀m',m<=m'->m'<=m+f->UE lt p m'->G (p,m',0) s)->(kas_desc f p m 0).kasWp cmp G s
 |0,m,_,_,dn,h=>h m (Nat.le_refl _) (Nat.le_refl _) dn
 |f+1,m,h1,h2,dn,h=>by
  refine O.ask _ _ _ (hp.lo (by omega)) (hp.lo (by omega)) (hp.ne (by omega) (by omega) (by omega)) ?_;cases hl:lt (p.getD m 0) (p.getD (m-1) 0) with
  |true=>
   show(kas_desc f p (m+1) 0).kasWp cmp G s;refine Ou O hp f (m+1) (by omega) (by omega) (fun i j hij hj=>?_) fun m' a b c=>h m' (by omega) (by omega) c
   by_cases e:j=m
   ·subst e
    by_cases e2:i=j-1
    ·rw[e2];exact hl
    ·exact O.tr _ _ _ (hp.lo (by omega)) (hp.lo (by omega)) (hp.lo (by omega)) hl (dn i (j-1) (by omega) (by omega))
   ·exact dn i j hij (by omega)
  |false=>
   have hl':=O.tot _ _ (hp.lo (by omega)) (hp.lo (by omega)) (hp.ne (by omega) (by omega) (by omega)) hl;refine O.ask _ _ _ (hp.lo (by omega)) (hp.lo (by omega)) (hp.ne (by omega) (by omega) (by omega)) ?_;rw[hl'];exact h m (Nat.le_refl _) (by omega) dn
theorem D5 (p:Array Nat)(i:Nat):p.getD i 0=(p[i]?).getD 0:=by
 by_cases h:i<p.size
 ·simp[Array.getD,h]
 ·simp[Array.getD,h]
theorem R9 {p:Array Nat}{m:Nat}(hm:m<=p.size)(k:Nat):(kas_rev p 0 m).getD k 0=if k<m then p.getD (m-1-k) 0 else p.getD k 0:=by
 rw[D5];unfold kas_rev;rw[getElem?_mirror_all hm]
 by_cases h:k<m
 ·rw[if_pos ⟨Nat.zero_le _,h⟩,if_pos h,D5,Nat.zero_add]
 ·rw[if_neg (fun z=>h z.2),if_neg h,D5]
theorem SF {p:Array Nat}(hp:IH n p)(m:Nat):IH n (kas_rev p 0 m):=⟨(mirror_size ..).trans hp.1,(Array.perm_iff_toList_perm.mp (mirror_perm ..)).trans hp.2⟩
theorem Rz (O:Ordr n lt cmp s) {p:Array Nat} (hp:IH n p) {m:Nat} (h1:1<=m) (hm:m<=n) (dn:UE lt p m) {G:Nat×Array Nat->Shared->Prop}
  (h:∀m' p',IH n p'->GI lt p' m'->1<=m'->m'<=n->G (m',p') s):(kas_tail3 m n p).kasWp cmp G s:=by
 unfold kas_tail3;rw[KasT.kasWp_bind];have hr:=SF hp m;refine Nl O hr (n-m) m h1 (by omega) (fun i j hij hj=>?_) fun m' a b c _=>h m' _ hr c (by omega) (by omega)
 rw[R9 (by rw[hp.1];exact hm),R9 (by rw[hp.1];exact hm),if_pos (by omega),if_pos hj];exact dn _ _ (by omega) (by omega)
theorem Ro (O:Ordr n lt cmp s) (hn:1<=n) {p:Array Nat} (hp:IH n p) {G:Nat×Array Nat->Shared->Prop}
  (h:∀m' p',IH n p'->GI lt p' m'->1<=m'->m'<=n->G (m',p') s):(kas_count n p).kasWp cmp G s:=by
 unfold kas_count;rw[KasT.kasWp_bind];refine Nl O hp (n-1) 1 (Nat.le_refl _) (by omega) (fun i j hij hj=>by omega) fun m a b up d=>?_
 by_cases e:m=n
 ·subst e;rw[if_pos (by simp)];exact h _ _ hp up a (Nat.le_refl _)
 ·rw[if_neg (by simpa using e)]
  by_cases g:m>1
  ·rw[if_pos g];refine O.ask _ _ _ (hp.lo (by omega)) (hp.lo (by omega)) (hp.ne (by omega) (by omega) (by omega)) ?_;rw[up 0 (m-1) (by omega) (by omega)];exact h _ _ hp up a (by omega)
  ·rw[if_neg g];have e1:m=1:=by omega
   subst e1;have hl:=d.resolve_left (by omega);unfold kas_descPart;rw[KasT.kasWp_bind];refine Ou O hp (n-(1+1)) (1+1) (by omega) (by omega) (fun i j hij hj=>?_) fun m' a' b' dn=>?_
   ·obtain⟨rfl,rfl⟩:i=0/\j=1:=by omega
    exact hl
   ·rw[if_neg (by simp)];exact Rz O hp (by omega) (by omega) dn h
theorem Jx (O:Ordr n lt cmp s) {p:Array Nat} (hp:IH n p) {k:Nat} (hk:k<n) (up:GI lt p k) {G:Nat->Shared->Prop}
  (h:∀l,l<=k->(∀i,i<l->lt (p.getD i 0) (p.getD k 0)=true)->(∀i,l<=i->i<k->lt (p.getD k 0) (p.getD i 0)=true)->G l s) :
  ∀(f l r:Nat),l<=r->r<=k->r-l<=f->(∀i,i<l->lt (p.getD i 0) (p.getD k 0)=true)->(∀i,r<=i->i<k->lt (p.getD k 0) (p.getD i 0)=true)->(kas_place p k f l r).kasWp cmp G s
 |0,l,r,h1,h2,h3,a,b=>h l (by omega) a fun i hi=>b i (by omega)
 |f+1,l,r,h1,h2,h3,a,b=>by
  unfold kas_place
  by_cases g:l≥r
  ·rw[if_pos g];exact h l (by omega) a fun i hi=>b i (by omega)
  ·rw[if_neg g];refine O.ask _ _ _ (hp.lo hk) (hp.lo (by omega)) (hp.ne hk (by omega) (by omega)) ?_;cases hl:lt (p.getD k 0) (p.getD ((l+r)/2) 0) with
   |true=>
    show(kas_place p k f l ((l+r)/2)).kasWp cmp G s;refine Jx O hp hk up h f l ((l+r)/2) (by omega) (by omega) (by omega) a fun i hi hik=>?_
    by_cases e:i=(l+r)/2
    ·rw[e];exact hl
    ·exact O.tr _ _ _ (hp.lo hk) (hp.lo (by omega)) (hp.lo (by omega)) hl (up _ _ (by omega) hik)
   |false=>
    have hl':=O.tot _ _ (hp.lo hk) (hp.lo (by omega)) (hp.ne hk (by omega) (by omega)) hl;show(kas_place p k f ((l+r)/2+1) r).kasWp cmp G s;refine Jx O hp hk up h f ((l+r)/2+1) r (by omega) (by omega) (by omega) (fun i hi=>?_) b
    by_cases e:i=(l+r)/2
    ·rw[e];exact hl'
    ·exact O.tr _ _ _ (hp.lo (by omega)) (hp.lo (by omega)) (hp.lo hk) (up _ _ (by omega) (by omega)) hl'
theorem QA {p:Array Nat}{k l:Nat}(hk:k<p.size)(hl:l<=k)(i:Nat):(bubble p k (k-l)).getD i 0=if i=l then p.getD k 0 else if l<i/\i<=k then p.getD (i-1) 0 else p.getD i 0:=by
 rw[D5,getElem?_bubble hk _ (by omega),show k-(k-l)=l by omega]
 by_cases h:i=l
 ·rw[if_pos h,if_pos h,D5]
 ·rw[if_neg h,if_neg h]
  by_cases g:l<i/\i<=k
  ·rw[if_pos g,if_pos g,D5]
  ·rw[if_neg g,if_neg g,D5]
theorem Sl (O:Ordr n lt cmp s){G:Array Nat->Shared->Prop}(h:∀p,IH n p->GI lt p n->G p s):∀(f:Nat) (p:Array Nat) (k:Nat),k+f=n->IH n p->GI lt p k->(kas_bin f p k).kasWp cmp G s
 |0,p,k,e,hp,up=>h p hp (by rw[<-e];exact up)
 |f+1,p,k,e,hp,up=>by
  unfold kas_bin;rw[KasT.kasWp_bind];refine Jx O hp (by omega) up (fun l hl a b=>?_) k 0 k (Nat.zero_le _) (Nat.le_refl _) (by omega) (fun i hi=>by omega) (fun i h1 h2=>by omega);have hs:k<p.size:=by rw[hp.1];omega
  refine Sl O h f _ (k+1) (by omega) ⟨(bubble_size ..).trans hp.1,(Array.perm_iff_toList_perm.mp (bubble_perm ..)).trans hp.2⟩ fun i j hij hj=>?_
  rw[QA hs hl,QA hs hl]
  by_cases i1:i=l
  ·rw[if_pos i1,if_neg (by omega),if_pos (by omega)];exact b _ (by omega) (by omega)
  ·rw[if_neg i1]
   by_cases j1:j=l
   ·rw[if_neg (by omega),if_pos j1];exact a _ (by omega)
   ·rw[if_neg j1]
    by_cases i2:l<i/\i<=k
    ·rw[if_pos i2,if_pos (by omega)];exact up _ _ (by omega) (by omega)
    ·rw[if_neg i2]
     by_cases j2:l<j/\j<=k
     ·rw[if_pos j2];exact up _ _ (by omega) (by omega)
     ·rw[if_neg j2];exact up _ _ (by omega) (by omega)
theorem S7 (O:Ordr n lt cmp s)(hn:1<=n){G:Array Nat->Shared->Prop}(h:∀p,IH n p->GI lt p n->G p s):(kas_sort n).kasWp cmp G s:=by
 unfold kas_sort;rw[KasT.kasWp_bind];refine Ro O hn ⟨by simp,by simp⟩ fun m p hp up h1 h2=>?_
 by_cases e:m<n
 ·rw[if_pos e];exact Sl O h _ _ _ (by omega) hp (by rw[show max m 1=m by omega];exact up)
 ·rw[if_neg e];obtain rfl:m=n:=by omega
  exact h p hp up
end
end L2
namespace L2
section
open PySem PySem.W PySem.Calls PyProof.Rows
variable {prog:Program}{w:World}{A:Around}{E:Value->Shared->Prop}{s:Shared}
def Fn (vs:List Value)(p:Array Nat):List Value:=p.toList.map fun i=>vs.getD i Value.none
theorem ME (vs:List Value):Fn vs (List.range vs.length).toArray=vs:=by
 unfold Fn;refine List.ext_getElem? fun i=>?_
 rw[List.getElem?_map]
 by_cases h:i<vs.length
 ·simp[h]
 ·simp[h]
end
end L2
namespace L2
end L2
namespace L2
end L2
namespace L2
section
open PySem PySem.Calls PyProof.Rows
variable {prog:Program}{w:World}{A:Around}{E:Value->Shared->Prop}{s:Shared}
theorem OM:∀{vs:List Value} {ns:List Int},IntsAre vs ns->∀(i:Nat) (v:Value),vs[i]?=some v->∃n t,v=.int n t/\ns[i]?=some n
 |_,_,.nil,i,v,h=>by simp at h
 |_,_,.cons n t h,0,v,e=>by
  simp at e;exact⟨n,t,e.symm,rfl⟩
 |_,_,.cons n t h,i+1,v,e=>by
  obtain⟨m,u,h1,h2⟩:=OM h i v (by simpa using e);exact⟨m,u,h1,by simpa using h2⟩
theorem QC {led:Bool}{h:Heap}{a:Addr}{ns:List Int}(e:h.get? a=some { cls:=.type "set",dict:=none,data:=.set #[] 0 (.fresh 0 0 led) }):h.SetOf (intKind prog w) a (fun k=>decide (k∈ns.take 0)) 0:=
 ⟨_,#[],0,_,e,⟨rfl,rfl,rfl⟩,rfl,(fun _ hx=>nomatch hx),fun k=>by simp,by unfold scanBound;decide,rfl,rfl⟩
theorem RA {ns:List Int}(nd:ns.Nodup){i:Nat}{n:Int}(h:ns[i]?=some n):n∉ns.take i:=fun hm=>by
 obtain⟨j,hj,e⟩:=List.getElem_of_mem hm;have hi:=(List.getElem?_eq_some_iff.mp h).1;rw[List.length_take] at hj;rw[List.getElem_take] at e;have e2:ns[i]=n:=(List.getElem?_eq_some_iff.mp h).2;exact List.pairwise_iff_getElem.mp nd j i (by omega) hi (by omega) (e.trans e2.symm)
end
section
open PySem PySem.Calls PySem.Spec PyProof.Rows
variable {X:Cx}
theorem Mt:Ct X (.builtin "len") (fun xs H Q=>∃(a:Addr) (f:Int->Bool) (n:Nat),xs=[.ref a]/\H a=some (.set f n)/\Q (.int n) H):=by
 intro pins s σ H xs us Q I r h;obtain⟨a,f,n,rfl,h1,q⟩:=h;obtain⟨u,rfl,ru⟩:=vals1 r;cases ru;obtain⟨o,es,ep,t,ho,hex,hd,_,_,hb,hf,hn⟩:=(show AX X.prog X.w H s.heap a (.set f n) from I.hok a _ h1)
 have hb':es.size<4096:=hb;refine Calls.call_function_entry kind_len plain_len entry_len (args_len1 _) (wpAny_len_body_set ho hex hd hf (by omega) ?_);rw[hn];exact⟨.int n,H,(I.tok _),⟨_,rfl⟩,q⟩
end
end L2
namespace L2
end L2
namespace L2
open PySem PySem.Spec PyProof.Rows
def Wd:Bool->String
 |true=>"list_iterator"
 |false=>"tuple_iterator"
def Qw (k:Bool)(h:Heap)(it a:Addr)(i:Nat):Prop:=∃o,h.get? it=some o/\o.cls=.type (Wd k)/\o.data=.fields #[.ref a,.int i 0]
def Src:Bool->Heap->Addr->Array Value->Prop
 |true,h,a,AC=>h.IsList a AC
 |false,h,a,AC=>h.IsTuple a AC
def WU (K:PySem.W.Frag):Bool->Hp->Addr->List V->Prop
 |true,H,a,xs=>AR K H a xs
 |false,H,a,xs=>AE K H a xs
theorem Src.push {h:Heap}{a:Addr}{AC:Array Value}(o:Obj):(k:Bool)->Src k h a AC->Src k (h.push o) a AC
 |true,⟨x,e,r⟩=>⟨x,Heap.get?_push_of_some _ e,r⟩
 |false,⟨x,e,r⟩=>⟨x,Heap.get?_push_of_some _ e,r⟩
section
variable {X:Cx}{pins:List (Addr×Obj)}{σ:St}{H:Hp}{s:Shared}{a:Addr}{xs ys:List V}
theorem Inv.src (I:Inv X pins σ H s):(k:Bool)->WU X.K k H a xs->∃AC:List Value,AN xs AC/\Src k s.heap a AC.toArray
 |true,h=>let⟨AC,r,p,_⟩:=I.list h;⟨AC,r,p.isList⟩
 |false,h=>let⟨AC,r,p,_⟩:=I.tuple h;⟨AC,r,p⟩
theorem Ah.src {K:PySem.W.Frag}{H H':Hp}(e:Ah H H'):(k:Bool)->WU K k H a xs->WU K k H' a xs
 |true,h=>e.seq h
 |false,h=>by
  rcases h with(h|⟨o,h⟩)|h
  ·exact .inl (.inl (e _ _ h))
  ·exact .inl (.inr ⟨o,e _ _ h⟩)
  ·exact .inr h
end
theorem Qw.extBut {k:Bool}{h h':Heap}{a b l:Addr}{i:Nat}(x:Qw k h a l i)(hs:Heap.ExtBut b h h')(hab:a≠b):Qw k h' a l i:=let⟨o,e,r⟩:=x;⟨o,hs _ _ hab e,r⟩
end L2
namespace L2
section
open PySem PySem.Calls PySem.Spec PyProof.Rows
def WB (K:PySem.W.Frag)(a:Addr)(ks:List Str):Prop:=∃(o:Obj) (AC:Array Value) (n:Nat),K.lookup a=some o/\o.cls=.type "tuple"/\o.data=.seq AC n/\AC.size<=sizeLine/\AN (ks.map V.str) AC.toList
inductive TabRows (w:World) (K:PySem.W.Frag):List (Str×List Str)->List DictEntry->Prop
 |nil:TabRows w K [] []
 |cons {x:Str} {ks:List Str} {t:Tok} {hv:Int} {a:Addr} {tb:List (Str×List Str)} {es:List DictEntry}:hv=VI w (.inr x)->WB K a ks->TabRows w K tb es->TabRows w K ((x,ks)::tb) (⟨hv,.str x t,.ref a⟩::es)
variable {X:Cx}
end
end L2
namespace L2
end L2
namespace L2
end L2
namespace L2
section
open PySem PySem.W PySem.Calls PyProof.Rows
variable {prog:Program}{w:World}{A:Around}{E:Value->Shared->Prop}{s:Shared}{a kS:Addr}{vs ks:List Value}{P:PySem.Fin->Shared->Prop}
def WE (a b:Addr)(h h':Heap):Prop:=∀c o,c≠a->c≠b->h.get? c=some o->h'.get? c=some o
theorem M9 {st:SortSt} {keys:Array Value} {e e1:Nat} {out:List Value} (hk:s.heap.get? kS=some (seqObj "list" keys e)) (ha:s.heap.get? a=some (seqObj "list" #[] e1)) (ne:kS≠a) (zk:keys.size<=sizeLine) (hout:(arrOf st).map (·.2)=out.toArray) (zo:out.length<=sizeLine) (hf:failedOf st=none)
  (h:∀h' c,WE a kS s.heap h'->h'.get? a=some (seqObj "list" out.toArray c)->P (.done (.ret .none)) { s with heap:=h' }):wpAny (model prog w) A (ksk_tail a false e1 (.ref kS) st) P E s:=by
 have a1:(s.heap.update kS (Obj.mapSeq fun _=>(#[]:Array Value))).get? a=some (seqObj "list" #[] e1):=(Heap.get?_update_other _ _ ne).trans ha;unfold ksk_tail;dsimp only;refine wpAny_bind (listUpdate_at hk rfl ?_ zk (Nat.zero_le _));refine wpAny_bind (wpAny_letGo (wpAny_bind (seqEpoch_at a1 rfl (wpAny_bind (listUpdate_at a1 rfl ?_ (Nat.zero_le _) ?_)))))
 ·rw[hf];simp only[bne_self_eq_false,Bool.false_eq_true,if_false];refine wpAny_pure ?_;rw[hout];refine h _ _ (fun c o h1 h2 q=>?_) (get?_update_seq a1 fun _=>out.toArray);exact(Heap.get?_update_other _ _ (Ne.symm h1)).trans ((Heap.get?_update_other _ _ (Ne.symm h2)).trans q)
 ·rw[if_neg Bool.false_ne_true,hout,List.size_toArray];exact Nat.le_succ_of_le zo
theorem Tv {lt:Nat->Nat->Bool} {e e1:Nat} (hk:s.heap.get? kS=some (seqObj "list" ks.toArray e)) (ha:s.heap.get? a=some (seqObj "list" #[] e1)) (ne:kS≠a) (hl:ks.length=vs.length) (few:vs.length<64)
  (kind:2<=vs.length->wpAny (model prog w) A (keyKind' ks.toArray) (fun κ s'=>s'=s/\Ordr vs.length lt (kas_ask prog w A κ ks) s') (fun _ _=>False) s)
  (h:∀p h' c,IH vs.length p->GI lt p vs.length->WE a kS s.heap h'->h'.get? a=some (seqObj "list" (Fn vs p).toArray c)->P (.done (.ret .none)) { s with heap:=h' }) :
  wpAny (model prog w) A (ksk_end a false vs.toArray e1 (.ref kS) ks.toArray) P E s:=by
 have zk:ks.toArray.size<=sizeLine:=by rw[List.size_toArray,sizeLine_eq];omega
 unfold ksk_end;dsimp only;rw[if_neg Bool.false_ne_true,if_neg Bool.false_ne_true]
 by_cases h2:vs.toArray.size<2
 ·rw[if_pos h2,if_pos h2];refine wpAny_bind (wpAny_pure ?_);rw[StateT.run_pure];refine wpAny_bind (wpAny_pure ?_);dsimp only;rw[List.size_toArray] at h2;refine M9 (out:=vs) hk ha ne zk ?_ (by rw[sizeLine_eq];omega) rfl fun h' c k hc=>h (List.range vs.length).toArray h' c ⟨by simp,by simp⟩ (fun i j hij hj=>by omega) k (by rw[ME];exact hc)
  show(ks.toArray.zip vs.toArray).map (·.2)=vs.toArray;apply Array.toList_inj.mp;simp;exact List.map_snd_zip (by omega)
 ·rw[if_neg h2,if_neg h2];rw[List.size_toArray] at h2;refine wpAny_bind (wpAny_mono (kind (by omega)) (fun κ s' hs'=>?_) fun _ _ z=>z.elim);obtain⟨rfl,O⟩:=hs';refine wpAny_bind (wpAny_mono (kat_run (E:=E) (Q:=fun st' s2=>s2=s'/\∃p,IH vs.length p/\GI lt p vs.length/\(arrOf st').map (·.2)=(Fn vs p).toArray/\failedOf st'=none) (G:=fun p s2=>s2=s'/\IH vs.length p/\GI lt p vs.length) hl (by omega) few
   (fun p st' s2 _ ea ef hg=>⟨hg.1,p,hg.2.1,hg.2.2,kat_snds hl ea,ef⟩) (S7 O (by omega) fun p hp up=>⟨rfl,hp,up⟩)) (fun r s2 hr=>?_) fun _ _ z=>z)
  obtain⟨⟨⟩,st'⟩:=r;obtain⟨rfl,p,hp,up,ea,ef⟩:=hr;dsimp only;refine M9 hk ha ne zk ea ?_ ef fun h' c k hc=>h p h' c hp up k hc
  unfold Fn;rw[List.length_map,Array.length_toList,hp.1,sizeLine_eq];omega
def Oi (prog:Program)(w:World)(A:Around)(f:Value)(vs:List Value)(Ky:Nat->Value->Prop)(s:Shared)(a:Addr):Prop:=∀(i:Nat) (v:Value),vs[i]?=some v->∀(h:Heap) (tk:Nat),(∀b o,b≠a->s.heap.get? b=some o->h.get? b=some o)->
 wpAny (model prog w) A (call f [v]) (fun k s'=>Ky i k/\∃h' tk',s'={ s with heap:=h',toks:=tk' }/\∀b o,h.get? b=some o->h'.get? b=some o) (fun _ _=>False) { s with heap:=h,toks:=tk }
theorem Rl {f:Value} {lt:Nat->Nat->Bool} {Ky:Nat->Value->Prop} {e1:Nat} (hk:s.heap.get? kS=some (seqObj "list" #[] 0)) (ha:s.heap.get? a=some (seqObj "list" #[] e1)) (ne:kS≠a) (few:vs.length<64)
  (turn:Oi prog w A f vs Ky s kS)
  (kind:∀(ks:List Value) (h':Heap) (tk:Nat),ks.length=vs.length->(∀i k,ks[i]?=some k->Ky i k)->(∀b o,b≠kS->s.heap.get? b=some o->h'.get? b=some o)->2<=vs.length->
   wpAny (model prog w) A (keyKind' ks.toArray) (fun κ s'=>s'={ s with heap:=h',toks:=tk }/\Ordr vs.length lt (kas_ask prog w A κ ks) s') (fun _ _=>False) { s with heap:=h',toks:=tk })
  (h:∀p h' tk c,IH vs.length p->GI lt p vs.length->WE a kS s.heap h'->h'.get? a=some (seqObj "list" (Fn vs p).toArray c)->P (.done (.ret .none)) { s with heap:=h',toks:=tk }) :
  wpAny (model prog w) A (ksk_rest a f false vs.toArray e1 (.ref kS)) P E s:=by
 unfold ksk_rest;refine wpAny_bind (wpAny_rule ?_);rw[List.forIn_toArray];refine wpAny_bind (ksk_fold (fun i s'=>∃h' tk ks e,s'={ s with heap:=h',toks:=tk }/\(∀b o,b≠kS->s.heap.get? b=some o->h'.get? b=some o)/\h'.get? kS=some (seqObj "list" (List.toArray ks) e)/\ks.length=i/\∀j k,ks[j]?=some k->Ky j k) vs 0 s ⟨s.heap,s.toks,[],0,rfl,fun _ _ _ q=>q,hk,rfl,fun j k q=>by simp at q⟩ ?_ ?_)
 ·rintro j x s' hx ⟨h',tk,ks,e,rfl,k1,k2,hl,hK⟩
  rw[Nat.zero_add] at hl ⊢;have hj:j<vs.length:=(List.getElem?_eq_some_iff.mp hx).1;refine wpAny_bind (wpAny_attempt (wpAny_mono (turn j x hx h' tk k1) (fun v s2 hv=>?_) fun _ _ z=>z.elim));obtain⟨ky,h2,tk2,rfl,k3⟩:=hv;dsimp only;refine wpAny_bind (listUpdate_at (k3 _ _ k2) rfl ?_ (by rw[List.size_toArray,sizeLine_eq];omega) (by rw[Array.size_push,List.size_toArray,sizeLine_eq];omega));obtain⟨c9,e9⟩:∃c9,(h2.update kS (Obj.mapSeq (·.push v))).get? kS=some (seqObj "list" (ks.toArray.push v) c9):=⟨_,get?_update_seq (k3 _ _ k2) (·.push v)⟩
  refine wpAny_pure ⟨rfl,_,tk2,ks++[v],c9,rfl,fun b o nb q=>(Heap.get?_update_other _ _ (Ne.symm nb)).trans (k3 b o (k1 b o nb q)),?_,by rw[List.length_append,hl];rfl,fun i k q=>?_⟩
  ·rw[e9,List.push_toArray]
  ·by_cases hi:i<ks.length
   ·rw[List.getElem?_append_left hi] at q;exact hK i k q
   ·rw[List.getElem?_append_right (by omega)] at q;have hi2:i-ks.length=0:=by
     have:=(List.getElem?_eq_some_iff.mp q).1;simp at this;omega
    rw[hi2] at q;cases q;rw[show i=j by omega];exact ky
 ·rintro s' ⟨h',tk,ks,e,rfl,k1,k2,hl,hK⟩
  rw[Nat.zero_add] at hl;refine wpAny_bind (listItems_at k2 rfl ?_);refine Tv (s:={ s with heap:=h',toks:=tk }) k2 (k1 _ _ (Ne.symm ne) ha) ne hl few (kind ks h' tk hl hK k1) fun p h3 c hp up k3 hc=>h p h3 tk c hp up (fun b o n1 n2 q=>k3 b o n1 n2 (k1 b o n2 q)) hc
theorem Mx {f:Value} {lt:Nat->Nat->Bool} {Ky:Nat->Value->Prop} {n:Nat} (ho:s.heap.get? a=some (seqObj "list" vs.toArray n)) (few:vs.length<64)
  (turn:Oi prog w A f vs Ky s a)
  (kind:∀(ks:List Value) (h':Heap) (tk:Nat),ks.length=vs.length->(∀i k,ks[i]?=some k->Ky i k)->(∀b o,b≠a->s.heap.get? b=some o->h'.get? b=some o)->2<=vs.length->
   wpAny (model prog w) A (keyKind' ks.toArray) (fun κ s'=>s'={ s with heap:=h',toks:=tk }/\Ordr vs.length lt (kas_ask prog w A κ ks) s') (fun _ _=>False) { s with heap:=h',toks:=tk })
  (h:∀p h' tk c,IH vs.length p->GI lt p vs.length->(∀b o,b≠a->s.heap.get? b=some o->h'.get? b=some o)->h'.get? a=some (seqObj "list" (Fn vs p).toArray c)->P (.done (.ret .none)) { s with heap:=h',toks:=tk }) :
  wpAny (model prog w) A (ksk_tree a f false) P E s:=by
 have ha:a<s.heap.objs.size:=Heap.lt_size ho;unfold ksk_tree;refine wpAny_bind (listItems_at ho rfl (wpAny_bind (listUpdate_at ho rfl ?_ (by rw[List.size_toArray,sizeLine_eq];omega) (Nat.zero_le _))));obtain⟨e1,h1⟩:∃e,(s.heap.update a (Obj.mapSeq fun _=>#[])).get? a=some (seqObj "list" #[] e):=⟨_,get?_update_seq ho (fun _=>#[])⟩
 refine wpAny_bind (seqEpoch_at h1 rfl (wpAny_bind (wpAny_newTuple (wpAny_bind (wpAny_newList (wpAny_holding ?_) (Nat.zero_le _))) (by show vs.length<=_;rw[sizeLine_eq];omega))));have old:∀b o,b≠a->s.heap.get? b=some o->(((s.heap.update a (Obj.mapSeq fun _=>#[])).push (seqObj "tuple" vs.toArray 0)).push (seqObj "list" #[] 0)).get? b=some o:=fun b o nb e=>
  Heap.get?_push_of_some _ (Heap.get?_push_of_some _ ((Heap.get?_update_other _ _ (Ne.symm nb)).trans e))
 have sz:((s.heap.update a (Obj.mapSeq fun _=>#[])).push (seqObj "tuple" vs.toArray 0)).objs.size=s.heap.objs.size+1:=by rw[Heap.size_push,Heap.size_update]
 have hk:(((s.heap.update a (Obj.mapSeq fun _=>#[])).push (seqObj "tuple" vs.toArray 0)).push (seqObj "list" #[] 0)).get? ((s.heap.update a (Obj.mapSeq fun _=>#[])).push (seqObj "tuple" vs.toArray 0)).objs.size=some (seqObj "list" #[] 0):=Heap.get?_push_size _ rfl;have h2:(((s.heap.update a (Obj.mapSeq fun _=>#[])).push (seqObj "tuple" vs.toArray 0)).push (seqObj "list" #[] 0)).get? a=some (seqObj "list" #[] e1):=Heap.get?_push_of_some _ (Heap.get?_push_of_some _ h1);rw[sz] at hk;show wpAny (model prog w) A (ksk_rest a f false vs.toArray e1 (.ref ((s.heap.update a (Obj.mapSeq fun _=>#[])).push (seqObj "tuple" vs.toArray 0)).objs.size)) P E { s with heap:=((s.heap.update a (Obj.mapSeq fun _=>#[])).push (seqObj "tuple" vs.toArray 0)).push (seqObj "list" #[] 0) };rw[sz];generalize ((s.heap.update a (Obj.mapSeq fun _=>#[])).push (seqObj "tuple" vs.toArray 0)).push (seqObj "list" #[] 0)=h0 at old hk h2;have nk:∀b o,s.heap.get? b=some o->b≠s.heap.objs.size+1:=fun b o q=>Nat.ne_of_lt (Nat.lt_succ_of_lt (Heap.lt_size q))
 refine Rl (s:={ s with heap:=h0 }) (Ky:=Ky) (lt:=lt) hk h2 (Nat.ne_of_gt (Nat.lt_succ_of_lt ha)) few (fun i v hv h3 tk k3=>?_) (fun ks h3 tk hl hK k3 l2=>?_) fun p h3 tk c hp up k3 hc=>?_
 ·exact turn i v hv h3 tk fun b o nb q=>k3 b o (nk b o q) (old b o nb q)
 ·exact kind ks h3 tk hl hK (fun b o nb q=>k3 b o (nk b o q) (old b o nb q)) l2
 ·exact h p h3 tk c hp up (fun b o nb q=>k3 b o nb (nk b o q) (old b o nb q)) hc
theorem N5 {l f:Addr} {lt:Nat->Nat->Bool} {Ky:Nat->Value->Prop} {Q:Value->Shared->Prop} (hl:s.heap.IsList l vs.toArray) (few:vs.length<64)
  (turn:∀(i:Nat) (v:Value),vs[i]?=some v->∀(h:Heap) (tk:Nat),(∀b o,s.heap.get? b=some o->h.get? b=some o)->
   wpAny (model prog w) A.in1.in1 (call (.ref f) [v]) (fun k s'=>Ky i k/\∃h' tk',s'={ s with heap:=h',toks:=tk' }/\∀b o,h.get? b=some o->h'.get? b=some o) (fun _ _=>False) { s with heap:=h,toks:=tk })
  (kind:∀(ks:List Value) (h':Heap) (tk:Nat),ks.length=vs.length->(∀i k,ks[i]?=some k->Ky i k)->(∀b o,s.heap.get? b=some o->h'.get? b=some o)->2<=vs.length->
   wpAny (model prog w) A.in1.in1 (keyKind' ks.toArray) (fun κ s'=>s'={ s with heap:=h',toks:=tk }/\Ordr vs.length lt (kas_ask prog w A.in1.in1 κ ks) s') (fun _ _=>False) { s with heap:=h',toks:=tk })
  (q:∀h' tk p idx c,IH vs.length idx->GI lt idx vs.length->s.heap.objs.size<=p->(∀b o,s.heap.get? b=some o->h'.get? b=some o)->h'.get? p=some (seqObj "list" (Fn vs idx).toArray c)->Q (.ref p) { s with heap:=h',toks:=tk }) :
  wpAny (model prog w) A (call (.builtin "sorted") [.ref l] [(Str.ofString "key",.ref f)]) Q E s:=by
 refine call_function_entry_kw kind_sorted plain_sorted entry_sorted (ksk_s1 _ _) ?_;unfold Builtin.«sorted»;refine wpAny_bind (m:=checkCount "sorted" 1 1 _) (wpAny_pure (wpAny_bind (collect_list hl ?_ (by rw[sizeLine_eq];omega))));refine wpAny_bind (wpAny_newList ?_ (by rw[sizeLine_eq];omega));have old:∀b o,s.heap.get? b=some o->((s.heap.push (seqObj "list" #[] 0)).update s.heap.objs.size (Obj.mapSeq fun x=>x++vs.toArray)).get? b=some o:=fun b o e=>(Heap.get?_update_other _ _ (Nat.ne_of_gt (Heap.lt_size e))).trans (Heap.get?_push_of_some _ e)
 have hsz:s.heap.objs.size<=((s.heap.push (seqObj "list" #[] 0)).update s.heap.objs.size (Obj.mapSeq fun x=>x++vs.toArray)).objs.size:=by rw[Heap.size_update,Heap.size_push];exact Nat.le_succ _
 generalize (s.heap.push (seqObj "list" #[] 0)).update s.heap.objs.size (Obj.mapSeq fun x=>x++vs.toArray)=h1 at old hsz ⊢;have there:(h1.push (seqObj "list" vs.toArray 0)).get? h1.objs.size=some (seqObj "list" vs.toArray 0):=Heap.get?_push_size _ rfl;have old2:∀b o,s.heap.get? b=some o->b≠h1.objs.size/\(h1.push (seqObj "list" vs.toArray 0)).get? b=some o:=fun b o e=>⟨Nat.ne_of_lt (Nat.lt_of_lt_of_le (Heap.lt_size e) hsz),Heap.get?_push_of_some _ (old b o e)⟩
 generalize h1.push (seqObj "list" vs.toArray 0)=h2 at there old2 ⊢;refine wpAny_bind (wpAny_holding (wpAny_call_entry_kw (s:={ s with heap:=h2 }) slot_list_sort ⟨_,there,rfl⟩ entry_list_sort ?_ (ksk_l1 _ _)));rw[ksk_t1];refine Mx (s:={ s with heap:=h2 }) (lt:=lt) (Ky:=Ky) there few (fun i v hv h3 tk k3=>?_) (fun ks h3 tk hl hK k3 l2=>?_) fun p h3 tk c hp up k3 hc=>?_
 ·exact turn i v hv h3 tk fun b o e=>k3 b o (old2 b o e).1 (old2 b o e).2
 ·exact kind ks h3 tk hl hK (fun b o e=>k3 b o (old2 b o e).1 (old2 b o e).2) l2
 ·refine⟨_,rfl,?_⟩;exact wpAny_pure ⟨_,rfl,q h3 tk _ p c hp up hsz (fun b o e=>k3 b o (old2 b o e).1 (old2 b o e).2) hc⟩
end
end L2
namespace L2
section
open PySem PySem.W PySem.Calls PyProof.Rows
variable {prog:Program}{w:World}{A:Around}{s:Shared}
abbrev Lq (qual:Str)(params:Arguments)(body:Expr)(scope:Scope)(cl:List (Str×Addr))(pm cv ctv:Value):Obj:={ cls:=.type "function",data:=.func (kla_fn "<lambda>" qual params body scope cl pm cv ctv) }
theorem Rg {f a c':Addr} {qual x:Str} {params:Arguments} {scope:Scope} {pm ctv:Value} {j:Nat} {p1 p2 p3:Pos} {items:Array Value} {v:Value} (ho:s.heap.get? f=some (Lq qual params (.Subscript (.Name x p1) (.Constant (.int j) 0 p2) p3) scope [] pm (.ref c') ctv)) (hcd:s.heap.CodeRec (.ref c') qual) (nl:s.heap.NoLimit) (room:A.depth<recursionLimit)
  (hb:∀u,bindArgs (kla_fn "<lambda>" qual params (.Subscript (.Name x p1) (.Constant (.int j) 0 p2) p3) scope [] pm (.ref c') ctv) ⟨[u],[]⟩=pure [(x,u)]) (hx:scope.names.lookup x=some .local) (hk:scope.kind=.function) (hco:scope.isCoroutine=false) (hge:scope.isGenerator=false) (hce:∀y∈scope.names,y.2≠.cell)
  (hd:(x == ("__debug__":Str))=false) (hj:j<1000) (ht:IsTup s.heap a items) (hi:items[j]?=some v) :
  wpAny (model prog w) A (call (.ref f) [.ref a]) (fun k s'=>k=v/\∃h' tk',s'={ s with heap:=h',toks:=tk' }/\∀b o,s.heap.get? b=some o->h'.get? b=some o) (fun _ _=>False) s:=by
 refine wpAny_call (kla_callFunE room ho rfl hco hge rfl hcd ?_);rw[hb];refine wpAny_pure (wpAny_newFunctionEnv hce (fun y hy=>by rw[List.mem_singleton.mp hy];exact hx) (fun h₁ hns hsb=>⟨nl.fresh _ hsb,?_⟩) hk);have k1:∀b o,s.heap.get? b=some o->h₁.get? b=some o:=fun b o e=>hsb.extBut b o (Nat.ne_of_lt (Heap.lt_size e)) (Heap.get?_push_of_some _ e)
 show codeAny _ _ (.expr _ (envX qual scope s.heap.objs.size f (.ref c') [])) _ _;have hv:[(x,Value.ref a)].reverse.lookup x=some (.ref a):=by simp
 have ht':=ht.keeps k1;have l1:j<items.size:=(Array.getElem?_eq_some_iff.mp hi).1;refine kla_codeExpr (Subscript_ (wpAny_Name (wpAny_loadName_local (v:=.ref a) (m:=fun y=>[(x,Value.ref a)].reverse.lookup y) hk hx hns hv ?_) hd));refine wpAny_Constant_int ?_;exact subscriptTail_builtinR (x:=v) ht'.typeIs slot_tuple_getitem.lookup (getItem_tuple (j:=j) ht' (by omega) (by omega) (by rw[seqIndex_of (by omega) (by omega)];simp) hi ⟨rfl,rfl,_,_,rfl,k1⟩)
end
end L2
namespace L2
section
open PySem PySem.Spec PyProof.Rows
variable {X:Cx}{pins:List (Addr×Obj)}{σ:St}{H:Hp}{s:Shared}
def OH (c:Addr)(qual:Str):HO:=.ext fun h=>h.CodeRec (.ref c) qual
theorem QI {P:Program}{w:World}{h:Heap}{c:Addr}{qual:Str}(e:h.CodeRec (.ref c) qual):AX P w H h c (OH c qual):=by
 obtain⟨c2,o,vs,t,e1,e2,e3⟩:=id e;cases e1;exact⟨e,⟨o,e2⟩,fun h1 h2 ⟨c3,o3,vs3,t3,z1,z2,z3⟩ k=>by cases z1;exact⟨_,o3,vs3,t3,rfl,k o3 z2,z3⟩⟩
def BJ (P:Addr)(qual:Str)(pos:Pos)(H:Hp):Prop:=H P=some (.tbl #[])\/∃c,H P=some (.tbl #[rawInt pos.line,rawInt pos.col,.ref c])/\H c=some (OH c qual)
def Bh (P:Addr)(H H':Hp):Prop:=∀b o,b≠P->H b=some o->H' b=some o
theorem Bh.refl (P:Addr)(H:Hp):Bh P H H:=fun _ _ _ h=>h
theorem Bh.trans {P:Addr}{H H1 H2:Hp}(a:Bh P H H1)(b:Bh P H1 H2):Bh P H H2:=fun c o n h=>b c o n (a c o n h)
theorem Ah.t {H H':Hp}(a:Ah H H')(P:Addr):Bh P H H':=fun b o _ h=>a b o h
theorem BJ.some {P:Addr}{qual:Str}{pos:Pos}{H:Hp}(t:BJ P qual pos H):∃ps,H P=some (.tbl ps):=by
 rcases t with h|⟨c,h,_⟩
 ·exact⟨_,h⟩
 ·exact⟨_,h⟩
theorem BJ.same {P:Addr}{qual:Str}{pos:Pos}{H H':Hp}(t:BJ P qual pos H)(e:Ah H H'):BJ P qual pos H':=by
 rcases t with h|⟨c,h,h2⟩
 ·exact .inl (e _ _ h)
 ·exact .inr ⟨c,e _ _ h,e _ _ h2⟩
theorem Bh.free {P:Addr}{qual:Str}{pos:Pos}{H H':Hp}(e:Bh P H H')(t:BJ P qual pos H'){l:Addr}(h:H' l=none):H l=none:=by
 cases q:H l with
 |none=>rfl
 |some o=>
  by_cases z:l=P
  ·obtain⟨ps,hp⟩:=t.some;rw[z,hp] at h;cases h
  ·rw[e l o z q] at h;cases h
theorem Bh.get {P:Addr}{qual:Str}{pos:Pos}{H H':Hp}(e:Bh P H H')(t:BJ P qual pos H){b:Addr}{o:HO}(h:H b=some o)(n:∀ps,o≠.tbl ps):H' b=some o:=by
 refine e b o (fun z=>?_) h;obtain⟨ps,hp⟩:=t.some;rw[z,hp] at h;exact n ps (Option.some.inj h).symm
theorem Bh.sqT {P:Addr}{qual:Str}{pos:Pos}{K:PySem.W.Frag}{H H':Hp}{a:Addr}{xs:List V}(e:Bh P H H')(t:BJ P qual pos H)(h:AE K H a xs):AE K H' a xs:=by
 rcases h with(h|⟨o,h⟩)|h
 ·exact .inl (.inl (e.get t h (by intro _ z;cases z)))
 ·exact .inl (.inr ⟨o,e.get t h (by intro _ z;cases z)⟩)
 ·exact .inr h
theorem Bh.sqL {P:Addr}{qual:Str}{pos:Pos}{K:PySem.W.Frag}{H H':Hp}{a:Addr}{xs:List V}(e:Bh P H H')(t:BJ P qual pos H)(h:AR K H a xs):AR K H' a xs:=by
 rcases h with(h|⟨o,h⟩)|h
 ·exact .inl (.inl (e.get t h (by intro _ z;cases z)))
 ·exact .inl (.inr ⟨o,e.get t h (by intro _ z;cases z)⟩)
 ·exact .inr h
theorem Inv.tabled {P:Addr}{ps more:Array Value}{h':Heap}{t':Nat}(I:Inv X pins σ H s)(hP:H P=some (.tbl ps))(k:∀b o,b≠P->s.heap.get? b=some o->h'.get? b=some o)(hP':h'.get? P=some { cls:=.none,data:=.fields (ps++more) }) :
  Inv X pins σ (upd H P (.tbl (ps++more))) { s with heap:=h',toks:=t' }:=by
 have nP:∀b,H b=none->b≠P:=fun b e z=>by rw[z,hP] at e;cases e
 have nt:∀{b:Addr} {u:HO},H b=some u->(∀ps,u≠.tbl ps)->upd H P (.tbl (ps++more)) b=some u:=fun{b u} e n=>by
  rw[Aj fun z=>by rw[z,hP] at e;exact n _ (Option.some.inj e).symm];exact e
 refine I.step (g':=s.gens) (d':=s.drawn) (ch:=[]) (fun _ z=>nomatch z) (fun b o _ _ _ e n=>k b o (nP b n) e) (fun b o _ _ _ e n=>⟨o.slots,k b o (nP b n) e⟩) (fun b o _ _ n=>by rw[Aj (nP b n)];exact n) (fun b o _ e=>?_)
  (fun b xs e=>nt e (by intro _ z;cases z)) (fun b o u e=>nt e (by intro _ z;cases z)) (fun b qs e=>?_) (fun m hm=>?_) (fun b u e=>?_) I.bare
 ·by_cases z:b=P
  ·exact⟨_,by rw[z];exact hP'⟩
  ·exact⟨o,k b o z e⟩
 ·by_cases z:b=P
  ·rw[z,hP] at e;cases e;exact⟨more,by rw[z,Ad]⟩
  ·exact⟨#[],by rw[Aj z,e];simp⟩
 ·obtain⟨o,es,ep,ho,r⟩:=hm;exact⟨o,es,ep,k _ o (nP _ I.free) ho,r⟩
 ·by_cases z:b=P
  ·rw[z,Ad] at e;cases e;rw[z];exact hP'
  ·rw[Aj z] at e;refine(I.hok b u e).stay (fun c v hc q=>k c v ?_ q) (fun c q=>nt q (by intro _ z;cases z)) fun c xs q=>nt q (by intro _ z;cases z)
   rcases hc with rfl|hc
   ·exact z
   ·intro y;rw[y,hP] at hc;cases hc
theorem KA {α:Type}:∀{ts:List (Addr×α)} {AC:List Value},AN (ts.map fun t=>V.ref t.1) AC->AC=ts.map fun t=>Value.ref t.1
 |[],_,.nil=>rfl
 |t::ts,_,.cons r h=>by
  cases r;rw[List.map_cons,KA h]
theorem IT {α:Type}:∀(ts:List (Addr×α)),AN (ts.map fun t=>V.ref t.1) (ts.map fun t=>Value.ref t.1)
 |[]=>.nil
 |t::ts=>.cons rfl (IT ts)
theorem UC {α:Type}(d:α)(ts:List (Addr×α)){idx:Array Nat}{lt:Nat->Nat->Bool}{R:α->α->Prop}(hp:IH ts.length idx)(up:GI lt idx ts.length)(hR:∀i j,i<ts.length->j<ts.length->lt i j=true->R (ts.getD i (0,d)).2 (ts.getD j (0,d)).2) :
  ∃us:List (Addr×α),us.Perm ts/\Fn (ts.map fun t=>Value.ref t.1) idx=us.map (fun t=>Value.ref t.1)/\us.Pairwise fun x y=>R x.2 y.2:=by
 have lt':∀i∈idx.toList,i<ts.length:=fun i hi=>List.mem_range.mp (hp.2.mem_iff.mp hi)
 refine⟨idx.toList.map fun i=>ts.getD i (0,d),?_,?_,?_⟩
 ·have h3:=hp.2.map fun i=>ts.getD i (0,d)
  have e3:(List.range ts.length).map (fun i=>ts.getD i (0,d))=ts:=by
   refine List.ext_getElem? fun i=>?_
   rw[List.getElem?_map]
   by_cases hi:i<ts.length
   ·simp[hi]
   ·simp[hi]
  rw[e3] at h3;exact h3
 ·unfold Fn;rw[List.map_map];refine List.map_congr_left fun i hi=>?_
  have hl:=lt' i hi;simp[hl]
 ·rw[List.pairwise_iff_getElem];intro i j hi hj hij;have hi':i<idx.size:=by simpa using hi
  have hj':j<idx.size:=by simpa using hj
  have h4:=up i j hij (by rw[<-hp.1];exact hj');have e5:idx.getD i 0=idx[i]:=by simp[Array.getD,hi']
  have e6:idx.getD j 0=idx[j]:=by simp[Array.getD,hj']
  rw[e5,e6] at h4;simp only[List.getElem_map,Array.getElem_toList];exact hR _ _ (lt' _ (by simp)) (lt' _ (by simp)) h4
theorem N3 {α:Type}{d:α}{l:List α}(nd:l.Nodup){i j:Nat}(hi:i<l.length)(hj:j<l.length)(hij:i≠j):l.getD i d≠l.getD j d:=by
 have e1:l.getD i d=l[i]:=by simp[hi]
 have e2:l.getD j d=l[j]:=by simp[hj]
 rw[e1,e2];have pw:=List.pairwise_iff_getElem.mp nd;intro z;rcases Nat.lt_or_gt_of_ne hij with q|q
 ·exact pw i j hi hj q z
 ·exact pw j i hj hi q z.symm
theorem Mp:∀{ks:List Value} {kz:List Int},ks.length=kz.length->(∀(i:Nat) k,ks[i]?=some k->∃t,k=.int (kz.getD i 0) t)->IntsAre ks kz
 |[],[],_,_=>.nil
 |[],_::_,h,_=>by cases h
 |_::_,[],h,_=>by cases h
 |k::ks,z::kz,h,hk=>by
  obtain⟨t,e⟩:=hk 0 k rfl;rw[show k=Value.int z t from e];exact .cons z t (Mp (by simpa using h) fun i k' q=>by
   have:=hk (i+1) k' (by simpa using q);simpa using this)
theorem Pf {prog:Program}{w:World}{A:Around}{ks:List Value}{kz:List Int}(nd:kz.Nodup)(hl:ks.length=kz.length)(hk:∀(i:Nat) k,ks[i]?=some k->∃t,k=.int (kz.getD i 0) t) :
  Ordr ks.length (fun i j=>decide (kz.getD i 0<kz.getD j 0)) (PySem.W.kas_ask prog w A oneType' ks) s:=by
 refine⟨fun i j C hi hj hij hC=>?_,fun i j k _ _ _ h1 h2=>?_,fun i j hi hj hij h1=>?_⟩
 ·obtain⟨t,e⟩:=hk i _ (List.getElem?_eq_getElem hi);obtain⟨u,e'⟩:=hk j _ (List.getElem?_eq_getElem hj);unfold PySem.W.kas_ask;rw[show ks.getD i Value.none=.int (kz.getD i 0) t by rw[<-e];simp[hi],show ks.getD j Value.none=.int (kz.getD j 0) u by rw[<-e'];simp[hj]];exact PySem.W.kat_lt_int hC
 ·rw[decide_eq_true_eq] at *;omega
 ·rw[decide_eq_false_iff_not] at h1;rw[decide_eq_true_eq];have:=N3 (d:=0) nd (by omega:i<kz.length) (by omega:j<kz.length) hij;omega
end
end L2
namespace L2
section
open PySem PySem.Spec PyProof.Rows PySem.Calls
variable {X:Cx}
structure LamAt (K:PySem.W.Frag) (mg:Str->Option Value) (base:Heap) (cdv:Value) (P:Addr):Prop where
 code:∃c,cdv=.ref c/\PySem.W.codeHdIn K c P=true
 bm:∃bm ob,mg "__builtins__"=some (.ref bm)/\bm≠builtinsNs/\bm≠mainGlobals/\base.get? bm=some ob/\ob.cls=.type "module"/\ob.dict=some builtinsNs/\ob.data=.plain
structure LamTx (x:Str) (params:Arguments) (scope:Scope):Prop where
 bind:∀(qual:Str) (body:Expr) (pm cv ctv u:Value),bindArgs (PySem.W.kla_fn "<lambda>" qual params body scope [] pm cv ctv) ⟨[u],[]⟩=pure [(x,u)]
 dflt:∀env,defaultsOf params env=([],[])
 clos:∀env,closureFor scope env=pure []
 loc:scope.names.lookup x=some .local
 kind:scope.kind=.function
 co:scope.isCoroutine=false
 ge:scope.isGenerator=false
 ce:∀y∈scope.names,y.2≠.cell
 db:(x == ("__debug__":Str))=false
theorem Mq {params:Arguments} {body:Expr} {scope:Scope} {cl:List (Str×Addr)} {lp:Pos} {P:Addr} {pins:List (Addr×Obj)} {σ:St} {H:Hp} {s:Shared} {Q:Value->Shared->Prop} {E:Value->Shared->Prop} (dfl:∀env,defaultsOf params env=([],[])) (hcl:closureFor scope X.env=pure cl) (at_:LamAt X.K X.mg X.base X.env.code P) (I:Inv X pins σ H s) (tb:BJ P (X.env.qual++"<lambda>") lp H)
  (h:∀f c' pm ctv H2 s2,Inv X pins σ H2 s2->Bh P H H2->BJ P (X.env.qual++"<lambda>") lp H2->s2.heap.get? f=some (Lq (X.env.qual++"<lambda>") params body scope cl pm (.ref c') ctv)->s2.heap.CodeRec (.ref c') (X.env.qual++"<lambda>")->Q (.ref f) s2) :
  wpAny (model X.prog X.w) X.A (eval (.Lambda params body scope lp) X.env) Q E s:=by
 obtain⟨⟨c,hc,hcd⟩,bm,ob,b1,b2,b3,b4,b5,b6,b7⟩:=at_;have C:=PySem.W.codeHd_of_K I.kIn hcd;have hg:s.heap.Ns mainGlobals X.mg:=I.mod.glob.keeps I.bk;have atP:∀{ps:Array Value},H P=some (.tbl ps)->s.heap.get? P=some (PySem.W.tabObj ps):=fun{ps} e=>I.hok P _ e
 have hgP:∀{ps:Array Value},H P=some (.tbl ps)->mainGlobals≠P:=fun{ps} e q=>by
  obtain⟨o,es,ep,e1,hd,_⟩:=hg;rw[q,atP e] at e1;cases e1;cases hd
 have bb:∀{ps:Array Value},H P=some (.tbl ps)->s.heap.BuiltinsAt X.mg P:=fun{ps} e=>⟨bm,ob,b1,b2,b3,(fun q=>by
  have e1:=I.bk _ _ b4;rw[q,atP e] at e1;cases e1;cases b5),I.bk _ _ b4,b5,b6,b7⟩
 refine PySem.W.kla_eval (dfl _) ?_;rcases tb with e|⟨c',e,e2⟩
 ·refine PySem.W.kla_makeFunction (ps:=#[]) (mg:=X.mg) hcl I.ok.glob hg hc C (atP e) trivial rfl (hgP e) (bb e) fun c' ctv h' tk hx hge hlt hrec htb=>?_
  have k1:∀b o,b≠P->s.heap.get? b=some o->(h'.push (PySem.W.kla_obj "<lambda>" (X.env.qual++"<lambda>") params body scope cl ((X.mg "__name__").getD .none) c' ctv)).get? b=some o:=fun b o nb q=>Heap.get?_push_of_some _ (hx b o nb q)
  have I2:=I.tabled (t':=tk) (more:=#[rawInt lp.line,rawInt lp.col,.ref c']) e k1 (Heap.get?_push_of_some _ htb);have hr2:(h'.push (PySem.W.kla_obj "<lambda>" (X.env.qual++"<lambda>") params body scope cl ((X.mg "__name__").getD .none) c' ctv)).CodeRec (.ref c') (X.env.qual++"<lambda>"):=by
   obtain⟨c2,o,vs,t,z1,z2,z3⟩:=hrec;exact⟨c2,o,vs,t,z1,Heap.get?_push_of_some _ z2,z3⟩
  have n0:s.heap.get? c'=none:=Heap.get?_none_of_le hge;have nP:c'≠P:=fun z=>by rw[z,atP e] at n0;cases n0
  have nH:H c'=none:=I.hok.fresh hge;have n2:upd H P (.tbl (#[] ++ #[rawInt lp.line,rawInt lp.col,.ref c'])) c'=none:=by rw[Aj nP];exact nH
  obtain⟨m,hn,_⟩:=id I.loc;obtain⟨oL,_,_,hoL,_⟩:=id hn;have I3:=I2.know (e:=c') (o:=OH c' (X.env.qual++"<lambda>")) (fun xx=>by
   cases q:X.s₀.heap.get? c' with
   |none=>rfl
   |some o=>
    obtain⟨o',z⟩:=I.base.there c' o q xx;rw[n0] at z;cases z) (fun z=>by rw[<-z,n0] at hoL;cases hoL) (fun x c q z=>by
    obtain⟨w',oc,e1,_⟩:=I.cell x c q;rw[z,n0] at e1;cases e1) (fun p hp z=>by
    have:=(I.pin p hp).1;rw[z,n0] at this;cases this) n2 (QI hr2)
  refine h _ c' _ ctv _ _ I3 (fun b o nb q=>?_) (.inr ⟨c',?_,Ad⟩) (Heap.get?_push_size _ rfl) hr2
  ·rw[Aj (fun z=>by rw[z,nH] at q;cases q),Aj nb];exact q
  ·rw[Aj (Ne.symm nP),Ad];rfl
 ·obtain⟨hr,_,_⟩:AX X.prog X.w H s.heap c' (OH c' (X.env.qual++"<lambda>")):=I.hok c' _ e2;refine PySem.W.kla_makeFunctionHit (cv:=.ref c') (mg:=X.mg) hcl I.ok.glob hg hc C (atP e) ?_ ?_ (bb e) fun ctv h' tk k hsz=>?_
  ·exact(TriplesOk_snoc lp.line lp.col (.ref c') [] trivial:TriplesOk ([]++[rawInt lp.line,rawInt lp.col,.ref c']))
  ·exact(codeAmong_snoc (pos:=lp) (c:=.ref c') [] trivial rfl:codeAmong lp ([]++[rawInt lp.line,rawInt lp.col,.ref c'])=some (.ref c'))
  ·have k1:∀b o,s.heap.get? b=some o->(h'.push (Lq (X.env.qual++"<lambda>") params body scope cl ((X.mg "__name__").getD .none) (.ref c') ctv)).get? b=some o:=fun b o q=>Heap.get?_push_of_some _ (k b o q)
   refine h _ c' _ ctv H _ (I.kept (t':=tk) k1) (.refl P H) (.inr ⟨c',e,e2⟩) (Heap.get?_push_size _ rfl) ?_;obtain⟨c2,o,vs,t,z1,z2,z3⟩:=hr;exact⟨c2,o,vs,t,z1,k1 _ _ z2,z3⟩
end
end L2
namespace L2
section
open PySem PySem.Spec PyProof.Rows PySem.Calls
variable {X:Cx}
def Va (K:PySem.W.Frag)(P:Addr)(qual:Str)(lp:Pos)(j:Nat)(ta:TA):TE:=fun σ H Q=>ta σ H fun vs H1=>∃(a:Addr) (ts:List (Addr×Int)),vs=[.ref a]/\AR K H1 a (ts.map fun t=>V.ref t.1)/\ts.length<64/\(∀t∈ts,∃xs,AE K H1 t.1 xs/\xs[j]?=some (.int t.2))/\(ts.map (·.2)).Nodup/\BJ P qual lp H1/\
 ∀(us:List (Addr×Int)) p H2,us.Perm ts->us.Pairwise (fun x y=>x.2<y.2)->Bh P H1 H2->BJ P qual lp H2->H2 p=none->Q (.ref p) (upd H2 p (.lst (us.map fun t=>V.ref t.1)))
theorem RF {e:Expr} {ta:TA} {x:Str} {params:Arguments} {scope:Scope} {j:Nat} {P:Addr} {k:Nat} {p pos kp lp p1 p2 p3:Pos} {qual:Str} (hr:Room k X.A) (L:LamTx x params scope) (at_:LamAt X.K X.mg X.base X.env.code P) (hj:j<1000) (hq:X.env.qual++"<lambda>"=qual) (hg:Gl X "sorted") (hm:X.mg "sorted"=none) (ha:PA X [e] ta)
  (he:backTo pos (starEach [e] X.env)=(false,eval e X.env)::backTo pos (starEach [] X.env):=by rfl)
  (hpl:(backTo pos (starEach [e] X.env)).any (·.1)=false:=by rfl) :
  PE X (.Call (.Name "sorted" p) [e] [⟨some "key",.Lambda params (.Subscript (.Name x p1) (.Constant (.int j) 0 p2) p3) scope lp,kp⟩] pos) (Va X.K P qual lp j ta):=by
 subst hq;intro pins s σ H Q I h;refine wpAny_Call_Name_kw (FP I hg hm DT (JK hpl rfl ?_));have hsp:=ha pos pins s σ H _ I h;rw[he] at hsp ⊢;refine evalArgs_kwB rfl (Bw hsp fun us s1 ⟨vs,H1,I1,r1,q1⟩=>?_);obtain⟨a,ts,rfl,hl,few,ht,nd,tb,q⟩:=q1;obtain⟨u,rfl,ru⟩:=vals1 r1;cases ru;refine kws_cons (Mq L.dflt (L.clos _) at_ I1 tb fun f c' pm ctv H2 s2 I2 st tb2 hf hcr=>kws_nil ?_);obtain⟨AC,rv,p1',hz⟩:=I2.list (st.sqL tb hl);have ei:=KA rv;have li:AC.length=ts.length:=by rw[ei,List.length_map]
 have gk:∀i,i<ts.length->(ts.map (·.2)).getD i 0=(ts.getD i (0,0)).2:=fun i hi=>by simp[hi]
 refine N5 (vs:=AC) (Ky:=fun i k=>∃t,k=Value.int ((ts.map (·.2)).getD i 0) t) (lt:=fun i j=>decide ((ts.map (·.2)).getD i 0<(ts.map (·.2)).getD j 0)) p1'.isList (by rw[li];exact few) (fun i v hv h' tk k=>?_) (fun ks h' tk hlk hK k l2=>?_) fun h' tk pp idx c hp up lp' k hc=>?_
 ·have il:i<ts.length:=by rw[<-li];exact(List.getElem?_eq_some_iff.mp hv).1
  have ev:v=.ref (ts[i]).1:=by
   rw[ei,List.getElem?_map,List.getElem?_eq_getElem il] at hv;exact(Option.some.inj hv).symm
  subst ev;obtain⟨xs,hx,hxj⟩:=ht _ (List.getElem_mem il);obtain⟨ys,r2,hy,_⟩:=I2.tuple (st.sqT tb hx);obtain⟨y,hyj,ry⟩:=r2.get hxj;obtain⟨t,rfl⟩:=ry;have cr:h'.CodeRec (.ref c') (X.env.qual++"<lambda>"):=by
   obtain⟨c2,o,vs,t,z1,z2,z3⟩:=hcr;exact⟨c2,o,vs,t,z1,k _ _ z2,z3⟩
  refine wpAny_mono (Rg (s:={ s2 with heap:=h',toks:=tk }) (A:=X.A.in1.in1) (items:=ys.toArray) (j:=j) (v:=.int (ts[i]).2 t) (k _ _ hf) cr (I2.nolimit.keeps k) hr.depth (fun u=>L.bind _ _ _ _ _ u) L.loc L.kind L.co L.ge L.ce L.db hj (hy.keeps k) (by simpa using hyj)) (fun kv s' z=>?_) fun _ _ z=>z
  obtain⟨rfl,h3,tk3,rfl,k3⟩:=z;exact⟨⟨t,by rw[gk i il];simp[il]⟩,h3,tk3,rfl,k3⟩
 ·have hl2:ks.length=(ts.map (·.2)).length:=by rw[hlk,li,List.length_map]
  rw[ksk_kind (kz:=ts.map (·.2)) (by simpa using Mp hl2 hK) (by rw[List.size_toArray];omega)];refine wpAny_pure ⟨rfl,?_⟩;have:=Pf (prog:=X.prog) (w:=X.w) (A:=X.A.in1.in1) (s:={ s2 with heap:=h',toks:=tk }) nd hl2 hK;rw[hlk] at this;exact this
 ·rw[li] at hp up;obtain⟨us,u1,u2,u3⟩:=UC (0:Int) ts (R:=fun a b=>a<b) hp up fun i j hi hj hlt=>by
   rw[decide_eq_true_eq,gk i hi,gk j hj] at hlt;exact hlt
  rw[ei,u2] at hc;refine⟨.ref pp,_,I2.laid (t':=tk) (o:=.lst (us.map fun t=>V.ref t.1)) k lp' ?_,rfl,q us pp H2 u1 u3 st tb2 (I2.hok.fresh lp')⟩;refine⟨?_,_,c,IT us,hc⟩;rw[List.length_map,u1.length_eq,sizeLine_eq];omega
end
end L2
namespace L2
section
open PySem PySem.Spec PyProof.Rows
def Nx (mg:Str->Option Value)(base:Heap):Prop:=∃bm ob,mg "__builtins__"=some (.ref bm)/\bm≠builtinsNs/\bm≠mainGlobals/\base.get? bm=some ob/\ob.cls=.type "module"/\ob.dict=some builtinsNs/\ob.data=.plain
def R7 (Ts:List Addr)(H:Hp):Prop:=(∀P∈Ts,H P=some (.tbl #[]))/\∀b,H b=none\/(∃o xs,H b=some (.frz o (.lst xs)))\/(b∈Ts/\H b=some (.tbl #[]))
def C3 (own:Hp)(Ts:List Addr):Hp:=fun b=>if b∈Ts then some (.tbl #[]) else own b
theorem Pb {P:Program} {w:World} {K:PySem.W.Frag} {mg mb:Str->Option Value} {CX:Qb} {k:Nat} {fa a:Addr} {fd:FuncData} {x:Str} {sp:Sp} {s₁:Shared} {vs:List Value} {ns:List Int} {Ts:List Addr}
  (KX:K.In s₁.heap) (hns:s₁.heap.Ns mainGlobals mg) (hb:s₁.heap.Ns builtinsNs mb) (hbb:∀x:Str,x≠"__name__"->mb x=bootBuiltins x) (hlim:s₁.heap.NoLimit) (hbm:Nx mg s₁.heap) (hg:s₁.gens = #[])
  (tabs:∀T∈Ts,s₁.heap.get? T=some (PySem.W.tabObj #[])/\K.lookup T=none/\∃c,PySem.W.codeHdIn K c T=true)
  (ha:s₁.heap.get? a=some { cls:=.type "list",data:=.seq vs.toArray }) (hi:IntsAre vs ns) (hl:ns.length<=sizeLine) (hr:Room k callerA)
  (F:∀base:Heap,K.In base->base.Ns mainGlobals mg->Nx mg base->FnOk P w K mg base CX k fa fd [x] sp) (hbind:∀(s:Shared) (u:Value),BindsTo s fd ⟨[u],[]⟩ [(x,u)])
  (hsp:∀H:Hp,R7 Ts H->AR K H a (ns.map V.int)->sp [.ref a] H (fun v _=>v=.bl true) fun _ _ _=>False)
  (hCX:∀H e s',CX [] H s₁ (fun _ _ _=>False) e s'->False) :
  codeAny (model P w) callerA (.call (.ref fa) ⟨[.ref a],[]⟩) (fun r s'=>r=.ok (.ret (.bool true))/\OldK s₁.heap s'.heap/\s'.os=s₁.os/\AllBare s'.gens) s₁:=by
 have aT:a∉Ts:=fun z=>by
  have:=(tabs a z).1;rw[ha] at this;cases this
 have core:∀own:Hp,(∀b,own b=none\/∃o xs,own b=some (.frz o (.lst xs)))->AR K own a (ns.map V.int)->Gg P w own s₁.heap->(∀b,own b≠none->b=a)->(own a≠none->K.lookup a=none)->
   codeAny (model P w) callerA (.call (.ref fa) ⟨[.ref a],[]⟩) (fun r s'=>r=.ok (.ret (.bool true))/\OldK s₁.heap s'.heap/\s'.os=s₁.os/\AllBare s'.gens) s₁:=by
  intro own hO hS hok hA hK;have inT:∀{b},b∈Ts->C3 own Ts b=some (.tbl #[]):=fun{b} h=>if_pos h
  have notT:∀{b},b∉Ts->C3 own Ts b=own b:=fun{b} h=>if_neg h
  have only:R7 Ts (C3 own Ts):=⟨fun T hT=>inT hT,fun b=>by
   by_cases z:b∈Ts
   ·exact .inr (.inr ⟨z,inT z⟩)
   ·rw[notT z];exact(hO b).imp id .inl⟩
  have hok':Gg P w (C3 own Ts) s₁.heap:=fun b u e=>by
   by_cases z:b∈Ts
   ·rw[inT z] at e;cases e;exact(tabs b z).1
   ·rw[notT z] at e;rcases hO b with q|⟨o,xs,q⟩
    ·rw[q] at e;cases e
    ·rw[q] at e;cases e;obtain⟨e1,e2⟩:=hok b _ q;exact⟨e1,e2⟩
  have free:∀{b:Addr} {o:Obj},s₁.heap.get? b=some o->o.cls≠.none->b≠a->C3 own Ts b=none:=fun{b o} e hc na=>by
   have z:b∉Ts:=fun z=>by
    have:=(tabs b z).1;rw[e] at this;cases this;exact hc rfl
   rw[notT z];cases q:own b with
   |none=>rfl
   |some u=>exact absurd (hA b (by rw[q];simp)) na
  have freeN:∀{b:Addr} {o:Obj} {es:Array DictEntry} {ep:Nat},s₁.heap.get? b=some o->o.data=.dict es ep->C3 own Ts b=none:=fun{b o es ep} e d=>by
   have z:b∉Ts:=fun z=>by
    have:=(tabs b z).1;rw[e] at this;cases this;cases d
   rw[notT z];cases q:own b with
   |none=>rfl
   |some u=>
    have:=hA b (by rw[q];simp);subst this;rw[ha] at e;cases e;cases d
  have nsK:∀{b:Addr} {m:Str->Option Value},s₁.heap.Ns b m->(L1 s₁.heap (C3 own Ts)).Ns b m:=fun{b m} ⟨o,es,ep,e,d,r⟩=>⟨o,es,ep,Jf e (freeN e d),d,r⟩
  have hKb:K.In (L1 s₁.heap (C3 own Ts)):=fun b o e=>Jf (KX b o e) (by
   have z:b∉Ts:=fun z=>by rw[(tabs b z).2.1] at e;cases e
   rw[notT z];cases q:own b with
   |none=>rfl
   |some u=>
    have e':b=a:=hA b (by rw[q];simp);subst e';rw[hK (by rw[q];simp)] at e;cases e)
  have hM:Mod K mg (L1 s₁.heap (C3 own Ts)):=⟨hKb,nsK hns,⟨mb,nsK hb,hbb⟩,let⟨mc,h1,h2⟩:=hlim;⟨mc,nsK h1,h2⟩⟩
  have hB:Nx mg (L1 s₁.heap (C3 own Ts)):=by
   obtain⟨bm,ob,b1,b2,b3,b4,b5,b6⟩:=hbm;refine⟨bm,ob,b1,b2,b3,Jf b4 (free b4 (by rw[b5];intro z;cases z) fun z=>?_),b5,b6⟩;rw[z,ha] at b4;cases b4;exact absurd b5 (by intro y;injection y with y;exact absurd y (by decide))
  have e0:Env0 P w K mg (L1 s₁.heap (C3 own Ts)) callerA [] s₁ (C3 own Ts):=⟨rfl,hM,fun b o e=>TN e,Nat.le_of_eq (Pg _ _),trivial,fun b hb=>absurd (show b∈([]:List Addr) from hb) (by simp),hok',.of_eq hg⟩
  have hS':AR K (C3 own Ts) a (ns.map V.int):=by
   rcases hS with(h|⟨o,h⟩)|h
   ·exact .inl (.inl (by rw[notT aT];exact h))
   ·exact .inl (.inr ⟨o,by rw[notT aT];exact h⟩)
   ·exact .inr h
  refine codeAny_mono ((F _ hKb (nsK hns) hB).run callerA [] s₁ (C3 own Ts) ⟨[.ref a],[]⟩ [.ref a] [.ref a] _ _ hr e0 (hbind s₁ (.ref a)) (.cons rfl .nil) (hsp _ only hS')) fun r s' h=>?_
  match r,h with
  | .error e,h=>exact(hCX _ e s' h).elim
  | .ok (.ret u),h=>
   obtain⟨v,H',os,bare,un,hok2,r',q⟩:=h;have q':v=.bl true:=q;subst q';obtain rfl:u=Value.bool true:=r';refine⟨rfl,⟨fun b o e=>?_,fun b o e=>?_⟩,os,bare⟩
   ·rcases only.2 b with z|⟨ob,xs,z⟩|⟨zT,z⟩
    ·exact .inl (un.keep b o e z (by intro y;exact absurd (show b∈([]:List Addr) from y) (by simp)) (by simp))
    ·obtain⟨e1,_⟩:=hok' b _ z;obtain⟨e2,_⟩:=hok2 b _ (un.frzs b ob _ z);rw[e] at e1;cases e1;exact .inl e2
    ·obtain⟨t1,_,c,t3⟩:=tabs b zT;obtain⟨more,m1⟩:=un.tbls b _ z;have m2:s'.heap.get? b=some { cls:=.none,data:=.fields (#[]++more) }:=hok2 b _ m1;rw[e] at t1;cases t1;exact .inr (.inl ⟨((PySem.W.codeHd_of_K KX t3).tab e).isCodeTable,rfl,#[],more,rfl,m2⟩)
   ·exact un.there b o e (by simp)
 cases hk:K.lookup a with
 |some o=>
  have e:=KX a o hk;rw[ha] at e;cases e;refine core (fun _=>none) (fun _=>.inl rfl) (.inr ⟨_,vs.toArray,_,hk,rfl,rfl,rfl,by rw[List.size_toArray,hi.length];exact hl,by simpa using HS hi⟩) (fun b u z=>by cases(show(none:Option HO)=some u from z)) (fun b z=>absurd rfl z) fun z=>absurd rfl z
 |none=>
  refine core (fun b=>if b=a then some (.frz { cls:=.type "list",data:=.seq vs.toArray } (.lst (ns.map V.int))) else none) (fun b=>?_) (.inl (.inr ⟨{ cls:=.type "list",data:=.seq vs.toArray },if_pos rfl⟩)) (fun b u z=>?_) (fun b z=>?_) fun _=>hk
  ·by_cases hb:b=a
   ·exact .inr ⟨_,_,if_pos hb⟩
   ·exact .inl (if_neg hb)
  ·by_cases hb:b=a
   ·cases(if_pos hb).symm.trans z;subst hb;exact⟨ha,by rw[List.length_map];exact hl,vs,_,HS hi,ha⟩
   ·cases(if_neg hb).symm.trans z
  ·by_cases hb:b=a
   ·exact hb
   ·exact absurd (if_neg hb) z
theorem Rp {l:PySem.W.OpenLaw} {n k:Nat} {q:Program} {loose:List Str} {XP:(Str->Option Value)->Heap->Prop} {YP:World->Heap->Prop} {d:DefRec} {K:Params->PySem.W.Frag} {CX:World->Qb} {sp:World->Sp} {x:Str} {Ts:List Addr}
  (hn:l.most=some n) (hn2:n<=sizeLine) (hdf:d.params.defaults=[]) (hr:Room k callerA)
  (hY:∀(w:World) (h:Heap),YP w h->(K w.params).In h) (hT:∀(w:World) (h:Heap),YP w h->∀T∈Ts,h.get? T=some (PySem.W.tabObj #[]))
  (F:∀(w:World) (mg:Str->Option Value) (fa:Addr) (h:Heap),(K w.params).In h->h.Ns mainGlobals mg->mg d.name=some (.ref fa)->
   ∃fd:FuncData,(∀(s:Shared) (u:Value),BindsTo s fd ⟨[u],[]⟩ [(x,u)])/\(∀T∈Ts,(K w.params).lookup T=none/\∃c,PySem.W.codeHdIn (K w.params) c T=true)/\
    ∀base:Heap,(K w.params).In base->base.Ns mainGlobals mg->Nx mg base->FnOk l.prog w (K w.params) mg base (CX w) k fa fd [x] (sp w))
  (hsp:∀(w:World) (H:Hp) (a:Addr) (ns:List Int),ns.length<=n->R7 Ts H->AR (K w.params) H a (ns.map V.int)->sp w [.ref a] H (fun v _=>v=.bl true) fun _ _ _=>False)
  (hCX:∀(w:World) (H:Hp) (s:Shared) (e:Value) (s':Shared),CX w [] H s (fun _ _ _=>False) e s'->False) :
  PySem.W.WalkO q loose XP YP l.row.toRowW d [] (fun f vs=>PySem.call f vs):=by
 refine Att.Ma hn hdf fun w s₀ s₁ mg mb fa o pm cd doc a vs ns G Y ho hd hcd hmg hobj hints hlen hg=>?_
 have KX:=hY w _ Y;obtain⟨fd,hb,ht,hF⟩:=F w mg fa _ KX G.T.g hmg;have bm:Nx mg s₁.heap:=by
  obtain⟨bm,ob,b1,b2,b3,b4,b5,b6⟩:=G.T.bmain;refine⟨bm,ob,b1,b2,fun z=>?_,b3,b4,b5,b6⟩;obtain⟨o,es,ep,e,hd,_⟩:=G.T.g;rw[z,e] at b3;cases b3;rw[hd] at b6;cases b6
 exact Pb KX G.T.g G.T.b G.T.builtins G.T.nolimit bm hg (fun T h=>⟨hT w _ Y T h,ht T h⟩) hobj hints (Nat.le_trans hlen hn2) hr hF hb (fun H hO hS=>hsp w H a ns hlen hO hS) fun H e s'=>hCX w H s₁ e s'
theorem Fun.okC {P:Program} {w:World} {K:PySem.W.Frag} {mg:Str->Option Value} {base:Heap} {x qual:Str} {st:Stmt} {f:Addr} {fd:FuncData} {N ps:List Str} {k:Nat} {sp:Sp} (F:Fun K x qual st f fd) (S:FnScope N ps (Af st)) (len:∀vs H Q E,sp vs H Q E->vs.length=ps.length)
  (hbody:∀(cdv:Value) (A:Around) (outer:List Env) (s:Shared) (H:Hp) (vs:List V) (Q:VK) (E:XK),fd.code=cdv->Room k (A.deeper (PyProof.Rows.envOfC qual (Af st) s.heap.objs.size f cdv))->sp vs H Q E->
   ∃t,OI (Cg CP P w K mg base N qual (Af st) f cdv A outer s H E).nox (Ay st) t/\t { nx:=fun _ H'=>Q .non H',rt:=Q } (start N vs) H):FnOk P w K mg base CP (k+1) f fd ps sp:=by
 obtain⟨oc,od,kV,doc,pm,an,cdv,ct,osl,rfl,lk,hcd⟩:=F.ex;refine TU lk hcd S len fun A outer s H vs Q E hr hsp=>?_
 obtain⟨t,h,q⟩:=hbody cdv A outer s H vs Q E rfl hr hsp;exact⟨t,h.nox,q⟩
end
end L2
namespace L2
end L2
namespace L2
section
open PySem
variable {α:Type}
theorem Kf {J:It} {ps:List α} {g:α->V} {fr:List (Option Nat)} {k:Nat} {tt:TT} {te:TE} {Q:VK} {σ:St} {H:Hp} (p:α->Bool) (P:α->V->Hp->Prop) (hP:∀x y H1 H2,P x y H1->Ah H1 H2->P x y H2)
  (hU:∀x y H1 l us us',P x y H1->H1 l=some (.lst us)->P x y (upd H1 l (.lst us'))) (hJ:Hm J H (ps.map g)) (hn:ps.length<=1000000)
  (htest:∀x∈ps,∀(H':Hp) (R:Bool->Hp->Prop),Ah H H'->(∀H'',Ah H' H''->R (p x) H'')->tt ((stC fr σ).set k (some (g x))) H' R)
  (helt:∀x∈ps,p x=true->∀(H':Hp) (R:VK),Ah H H'->(∀y H'',Ah H' H''->P x y H''->R y H'')->te ((stC fr σ).set k (some (g x))) H' R)
  (hQ:∀l H' (ys:List (α×V)),H l=none->Ah H H'->H' l=some (.lst (ys.map (·.2)))->ys.map (·.1)=ps.filter p->(∀q∈ys,P q.1 q.2 H')->Q (.ref l) H'):Dd fr (A4 k) tt te σ Q J H:=by
 intro l hl;refine⟨fun i m σ' H'=>m=ps.length-i/\i<=ps.length/\(∀y,σ'.set k y=(stC fr σ).set k y)/\Ah H H'/\∃ys:List (α×V),H' l=some (.lst (ys.map (·.2)))/\ys.map (·.1)=(ps.take i).filter p/\∀q∈ys,P q.1 q.2 H',
  ⟨ps.length,by simp,Nat.zero_le _,fun _=>rfl,Ai hl _,[],by rw[Ad];rfl,rfl,fun _ h=>nomatch h⟩,?_⟩
 rintro i m σ' H' ⟨rfl,hi,hσ,hs,ys,hl',e1,hys⟩
 obtain⟨h1,h2,h3⟩:=hJ H' hs i;rw[List.length_map] at h1 h2 h3
 by_cases hlt:i<ps.length
 ·refine .inr ⟨h1 hlt,fun x H'' y=>?_⟩;obtain⟨rfl,hx⟩:=h2 x H'' y;have hx:=hx hlt;rw[List.getElem?_map,List.getElem?_eq_getElem hlt] at hx;cases hx;have hm:ps[i]∈ps:=List.getElem_mem hlt;have et:(ps.take (i+1)).filter p=(ps.take i).filter p++(if p ps[i]=true then[ps[i]] else[]):=by
   rw[List.take_add_one,List.getElem?_eq_getElem hlt,List.filter_append];cases q:p ps[i]<;>simp[q]
  have le:ys.length<=i:=by
   have a:=congrArg List.length e1;have b:=List.length_filter_le p (ps.take i);rw[List.length_map] at a;rw[List.length_take] at b;omega
  show tt (σ'.set k (some (g ps[i]))) H'' _;rw[hσ];refine htest _ hm H'' _ hs fun H0 s0=>?_
  have hs0:=hs.trans s0;refine DH (fun c=>?_) (fun c=>?_)
  ·refine helt _ hm c H0 _ hs0 fun v H4 s4' hv=>?_
   have s4:=s0.trans s4';have hl4:=s4.get hl';refine⟨_,hl4,CV (by rw[List.length_map];omega),ps.length-(i+1),by omega,rfl,hlt,fun y=>by rw[List.set_set],B4 (hs.trans s4) hl _,ys++[(ps[i],v)],?_,?_,fun q hq=>?_⟩
   ·rw[Ad,List.map_append];rfl
   ·rw[et,if_pos c,List.map_append,e1];rfl
   ·rcases List.mem_append.mp hq with h|h
    ·exact hU _ _ _ _ _ _ (hP _ _ _ _ (hys q h) s4) hl4
    ·rw[List.mem_singleton.mp h];exact hU _ _ _ _ _ _ hv hl4
  ·exact⟨ps.length-(i+1),by omega,rfl,hlt,fun y=>by rw[List.set_set],hs0,ys,s0.get hl',by rw[et,if_neg c,List.append_nil];exact e1,fun q hq=>hP _ _ _ _ (hys q hq) s0⟩
 ·have e:i=ps.length:=by omega
  subst e;exact .inl ⟨h3 (Nat.le_refl _),hQ l H' ys hl hs hl' (by rw[e1,List.take_of_length_le (Nat.le_refl _)]) hys⟩
theorem Mg {J:It} {ps:List α} {g:α->V} {fr:List (Option Nat)} {k:Nat} {tt:TT} {te:TE} {Q:VK} {σ:St} {H:Hp} (p:α->Bool) (P:α->V->Hp->Prop) (hP:∀x y H1 H2,P x y H1->Ah H1 H2->P x y H2)
  (hU:∀x y H1 l us us',P x y H1->H1 l=some (.lst us)->P x y (upd H1 l (.lst us'))) (hJ:Hm J H (ps.map g)) (hn:ps.length<=1000000)
  (htest:∀x∈ps,∀(H':Hp) (R:Bool->Hp->Prop),Ah H H'->R (p x) H'->tt ((stC fr σ).set k (some (g x))) H' R)
  (helt:∀x∈ps,p x=true->∀(H':Hp) (R:VK),Ah H H'->(∀y H'',Ah H' H''->P x y H''->R y H'')->te ((stC fr σ).set k (some (g x))) H' R)
  (hQ:∀l H' (ys:List (α×V)),H l=none->Ah H H'->H' l=some (.lst (ys.map (·.2)))->ys.map (·.1)=ps.filter p->(∀q∈ys,P q.1 q.2 H')->Q (.ref l) H'):Dd fr (A4 k) tt te σ Q J H:=
 Kf p P hP hU hJ hn (fun x hx H' R s' hR=>htest x hx H' R s' (hR H' (Ah.refl _))) helt hQ
theorem Tu {ys:List (α×V)}{f:α->V}(h:∀q∈ys,q.2=f q.1):ys.map (·.2)=(ys.map (·.1)).map f:=by
 rw[List.map_map];exact List.map_congr_left fun q hq=>h q hq
theorem HG {J:It} {ps:List α} {g:α->V} {fr:List (Option Nat)} {k:Nat} {tt:TT} {te:TE} {Q:VK} {σ:St} {H:Hp} (p:α->Bool) (f:α->V) (hJ:Hm J H (ps.map g)) (hn:ps.length<=1000000)
  (htest:∀x∈ps,∀(H':Hp) (R:Bool->Hp->Prop),Ah H H'->(∀H'',Ah H' H''->R (p x) H'')->tt ((stC fr σ).set k (some (g x))) H' R)
  (helt:∀x∈ps,p x=true->∀(H':Hp) (R:VK),Ah H H'->(∀H'',Ah H' H''->R (f x) H'')->te ((stC fr σ).set k (some (g x))) H' R)
  (hQ:∀l H',H l=none->Ah H H'->H' l=some (.lst ((ps.filter p).map f))->Q (.ref l) H'):Dd fr (A4 k) tt te σ Q J H:=by
 refine Kf p (fun x y _=>y=f x) (fun _ _ _ _ h _=>h) (fun _ _ _ _ _ _ h _=>h) hJ hn htest (fun x hx hp H' R s' hR=>helt x hx hp H' R s' fun H'' s''=>hR _ H'' s'' rfl) fun l H' ys nl s' h' e hq=>hQ l H' nl s' ?_
 rw[<-e,<-Tu hq];exact h'
theorem Bv {J:It} {ps:List α} {g:α->V} {fr:List (Option Nat)} {k:Nat} {tt:TT} {te:TE} {Q:VK} {σ:St} {H:Hp} (p:α->Bool) (f:α->V) (hJ:Hm J H (ps.map g)) (hn:ps.length<=1000000)
  (htest:∀x∈ps,∀(H':Hp) (R:Bool->Hp->Prop),Ah H H'->R (p x) H'->tt ((stC fr σ).set k (some (g x))) H' R)
  (helt:∀x∈ps,p x=true->∀(H':Hp) (R:VK),Ah H H'->(∀H'',Ah H' H''->R (f x) H'')->te ((stC fr σ).set k (some (g x))) H' R)
  (hQ:∀l H',H l=none->Ah H H'->H' l=some (.lst ((ps.filter p).map f))->Q (.ref l) H'):Dd fr (A4 k) tt te σ Q J H:=
 HG p f hJ hn (fun x hx H' R s' hR=>htest x hx H' R s' (hR H' (Ah.refl _))) helt hQ
end
end L2
namespace L2
section
open PySem
variable {X:Cx}{K:PySem.W.Frag}
theorem NU (h:X.K=K):E1 X (compareOp .In) (Xh K false):=by subst h;exact PJ
end
end L2
namespace L2
end L2
namespace L2
end L2
namespace L2
end L2
namespace L2
section
open PySem PySem.W PySem.Calls PyProof.Rows
variable {s:Shared}
abbrev Sm (a b:Str):Prop:=a.cps.toList<b.cps.toList
theorem Ue {a b:Str}(h:¬Sm a b)(ne:a≠b):Sm b a:=by
 rcases Classical.em (Sm b a) with z|z
 ·exact z
 ·exact absurd (show a=b by
   cases a;cases b;exact congrArg Str.mk (Array.toList_inj.mp (List.le_antisymm (List.not_lt.mp z) (List.not_lt.mp h)))) ne
end
end L2
namespace L2
end L2
namespace L2
end L2
namespace L2
section
open PySem PySem.Calls PyProof.Rows PySem.Spec
def R6 (K:PySem.W.Frag):List V->Hp->VK->Prop:=fun xs H Q=>∃(a:Addr) (ps:List Addr) (kvs:List (Key×V)),xs=[.ref a]/\AR K H a (ps.map V.ref)/\ps.length=kvs.length/\kvs.length<=100000/\(kvs.map (·.1)).Nodup/\
 (∀(i:Nat) t k v,ps[i]?=some t->kvs[i]?=some (k,v)->H t=some (.tup [kV k,v]))/\∀d,H d=none->Q (.ref d) (upd H d (.dK kvs))
abbrev W1 (p:Key×V)(q:Key×Value×Value):Prop:=p.1=q.1/\RelV (kV p.1) q.2.1/\RelV p.2 q.2.2
theorem Kg {X:Cx}{pins:List (Addr×Obj)}{σ:St}{H:Hp}{s:Shared}(I:Inv X pins σ H s):∀(ps:List Addr) (kvs:List (Key×V)),ps.length=kvs.length->(∀(i:Nat) t k v,ps[i]?=some t->kvs[i]?=some (k,v)->H t=some (.tup [kV k,v]))->
  ∃xs:List (Key×Value×Value),Paired W1 kvs xs/\∀(i:Nat) t,ps[i]?=some t->∃q,xs[i]?=some q/\IsTup s.heap t #[q.2.1,q.2.2]
 |[],[],_,_=>⟨[],.nil,fun i t h=>by simp at h⟩
 |[],_::_,h,_=>by cases h
 |_::_,[],h,_=>by cases h
 |t::ps,(k,v)::kvs,ln,hp=>by
  obtain⟨xs,r,a⟩:=Kg I ps kvs (by simpa using ln) fun i t k v e1 e2=>hp (i+1) t k v (by simpa using e1) (by simpa using e2)
  obtain⟨_,AC,rv,it⟩:=(show AX X.prog X.w H s.heap t (.tup [kV k,v]) from I.hok t _ (hp 0 t k v rfl rfl))
  cases rv with
  |@cons _ wk _ _ ra rb=>
   cases rb with
   |@cons _ wv _ _ rb rc=>
    cases rc;refine⟨(k,wk,wv)::xs,.cons ⟨rfl,ra,rb⟩ r,fun i t' e=>?_⟩;cases i with
    |zero=>simp only[List.getElem?_cons_zero,Option.some.injEq] at e;subst e;exact⟨_,rfl,it.is⟩
    |succ i=>exact a i t' (by simpa using e)
theorem Wi {kvs:List (Key×V)}{xs:List (Key×Value×Value)}(h:Paired W1 kvs xs):KV kvs (xs.map fun q=>(q.1,q.2.2)):=by
 induction h with
 |nil=>exact .nil
 |cons r _ ih=>exact .cons ⟨r.1,r.2.2⟩ ih
theorem Tq {kvs:List (Key×V)}{xs:List (Key×Value×Value)}(h:Paired W1 kvs xs):xs.map (·.1)=kvs.map (·.1):=by
 induction h with
 |nil=>rfl
 |cons r _ ih=>rw[List.map_cons,List.map_cons,ih,r.1]
theorem Jn {X:Cx}{K:PySem.W.Frag}(hK:X.K=K)(hc:X.calm=true):Ct X (.type "dict") (R6 K):=by
 subst hK;intro pins s σ H xs us Q I r h;obtain⟨a,ps,kvs,rfl,h1,ln,hz,nd,hp,q⟩:=h;obtain⟨u,rfl,ru⟩:=vals1 r;cases ru;obtain⟨AC,r1,⟨o1,n1,e1,c1,d1,s1⟩,_⟩:=I.list h1;obtain⟨xs,rx,tx⟩:=Kg I ps kvs ln hp;have lx:xs.length=kvs.length:=(Paired.length rx).symm;have ndx:(xs.map (·.1)).Nodup:=by rw[Tq rx];exact nd
 have li:AC.length=ps.length:=by have:=r1.length;rw[List.length_map] at this;exact this.symm
 obtain⟨c,dd,da,sl⟩:=o1;simp only at c1 d1 s1;subst c1 d1 s1;refine Kc (A:=X.A) (I.ok.hd hc) ⟨n1,_,e1⟩ (D:=fun i h=>h.DictOf (AY X.prog X.w) s.heap.objs.size ((xs.take i).map fun q:Key×Value×Value=>(q.1,q.2.2))) (fun i h h' ⟨o,es,ep,z1,z2⟩ k=>⟨o,es,ep,k o z1,z2⟩) (fun h e=>?_) (fun i v e=>?_) fun h' tk k' z=>?_
 ·obtain⟨o,es,ep,z1,z2⟩:=(Heap.DictOf.new (knd:=AY X.prog X.w) s.heap)
  have e2:(s.heap.push { cls:=.type "dict",data:=.dict #[] }).get? s.heap.objs.size=some { cls:=.type "dict",data:=.dict #[] }:=Heap.get?_push_size _ rfl;rw[e2] at z1;cases z1;exact⟨_,es,ep,e,z2⟩
 ·obtain⟨t,et,rfl⟩:=LB r1 i v e;obtain⟨⟨k,wk,wv⟩,eq,ht⟩:=tx i t et;refine⟨t,wk,wv,rfl,ht,fun s2 Q2 E2 old hm hQ=>?_⟩;have rk:RelV (kV k) wk:=by
   obtain⟨p,_,e1,e2,_⟩:=GF rx (List.mem_of_getElem? eq);rw[e1] at e2;exact e2
  have ts:xs.take (i+1)=xs.take i++[(k,wk,wv)]:=by rw[List.take_add_one,eq];rfl
  have no:valueAt ((xs.take i).map fun q:Key×Value×Value=>(q.1,q.2.2)) k=none:=by
   unfold valueAt;rw[Option.map_eq_none_iff,List.find?_eq_none];intro x hx z;have e:=of_decide_eq_true z;obtain⟨y,hy,rfl⟩:=List.mem_map.mp hx;have:=ndx.sublist ((List.take_sublist (i+1) xs).map _);rw[ts,List.map_append,List.nodup_append] at this;exact this.2.2 _ (List.mem_map.mpr ⟨y,hy,rfl⟩) k (by simp) e
  refine wpAny_dictSet_pairs (hsz:=?_) (k:=k) (G8 rk) hm fun h' hm' sb=>hQ _ _ ?_ sb
  ·rw[stored_absent no] at hm';rw[ts,List.map_append];exact hm'
  ·rw[List.length_map,List.length_take,sizeLine_eq];omega
 ·have hb:=I.big;rw[li,ln,<-lx,List.take_length] at z;refine⟨.ref s.heap.objs.size,_,I.laid (o:=.dK kvs) k' (Nat.le_refl _) (RP (by rw[sizeLine_eq];omega) ?_ (Wi rx) z),rfl,q _ I.fresh⟩;rw[beq_eq_false_iff_ne];exact Nat.ne_of_gt hb
end
end L2
namespace L2
section
open PySem PySem.Calls PyProof.Rows
variable {prog:Program}{w:World}{A:Around}{E:Value->Shared->Prop}{s:Shared}
def cI (ns:List Int):Nat->Nat
 |0=>0
 |i+1=>match ns[i]? with
  |some x=>if decide (x∈ns.take i)=true then cI ns i else cI ns i+1
  |none=>cI ns i
theorem IM {ns:List Int}{i:Nat}{x:Int}(h:ns[i]?=some x):cI ns (i+1)=if decide (x∈ns.take i)=true then cI ns i else cI ns i+1:=by
 show(match ns[i]? with|some x=>if decide (x∈ns.take i)=true then cI ns i else cI ns i+1|none=>cI ns i)=_;rw[h]
theorem R8 (ns:List Int):∀i,cI ns i<=i
 |0=>Nat.le_refl _
 |i+1=>by
  have:=R8 ns i;cases h:ns[i]? with
  |none=>show(match ns[i]? with|some x=>if decide (x∈ns.take i)=true then cI ns i else cI ns i+1|none=>cI ns i)<=_;rw[h];dsimp only;omega
  |some x=>rw[IM h];split<;>omega
theorem RZ {ns:List Int}(nd:ns.Nodup):∀i,i<=ns.length->cI ns i=i
 |0,_=>rfl
 |i+1,hi=>by
  have h:ns[i]?=some ns[i]:=List.getElem?_eq_getElem (by omega);rw[IM h,if_neg (by simpa using RA nd h),RZ nd i (by omega)]
theorem TX {ns:List Int}{i j:Nat}{x:Int}(hi:ns[i]?=some x)(hj:ns[j]?=some x)(ij:i<j):∀m,j<m->m<=ns.length->cI ns m<m
 |0,h,_=>by omega
 |m+1,h,hm=>by
  have hx:ns[m]?=some ns[m]:=List.getElem?_eq_getElem (by omega);rw[IM hx]
  by_cases e:m=j
  ·subst e;have:ns[m]=x:=by rw[hx] at hj;exact Option.some.inj hj
   rw[this,if_pos (decide_eq_true (List.mem_of_getElem? (i:=i) (by rw[List.getElem?_take,if_pos ij];exact hi)))];have:=R8 ns m;omega
  ·have:=TX hi hj ij m (by omega) (by omega)
   split<;>omega
theorem Nk {R:Result->Shared->Prop}{I S:Addr}{fp:List Addr}{vs:List Value}{ns:List Int}{St:Nat->Heap->Prop}(W:Walks prog w A.in1 I fp [I] vs.length (fun i v=>vs[i]?=some v) St)(nS:S∉fp)(hs:IntsAre vs ns)(hb:vs.length+1<scanBound) :
  ∀(k i:Nat) (s:Shared),vs.length-i=k->i<=vs.length->St i s.heap->s.heap.SetOf (intKind prog w) S (fun k=>decide (k∈ns.take i)) (cI ns i)->
   (∀h' tk,(∀b o,b∉[S,I]->s.heap.get? b=some o->h'.get? b=some o)->h'.SetOf (intKind prog w) S (fun k=>decide (k∈ns)) (cI ns ns.length)->R (.ok (.ret .none)) { s with heap:=h',toks:=tk })->codeAny (model prog w) A (.builtin "set.update.loop" ⟨[.ref S,.ref I],[]⟩) R s:=by
 have nI:S∉[I]:=fun z=>nS (W.sub _ z)
 have ln:vs.length=ns.length:=IntsAre.length hs;have keep:∀{f:Int->Bool} {n:Nat} {h h':Heap},h.SetOf (intKind prog w) S f n->(∀o,h.get? S=some o->h'.get? S=some o)->h'.SetOf (intKind prog w) S f n:=fun{f n h h'} ⟨o,es,ep,t,ho,r⟩ k=>⟨o,es,ep,t,k o ho,r⟩
 intro k
 induction k with
 |zero=>
  intro i s hk hi st T q;have e:i=vs.length:=by omega
  subst e;refine codeAny_builtin PyProof.Rows.F.entry_set_update_loop ?_;rw[Around.under_plainId PyProof.Rows.F.plain_set_update_loop _];refine wpAny_bind (m:=pyNext (.ref I)) (W.done s _ _ st fun h' tk k'=>?_);rw[ln,List.take_length] at T;exact wpAny_pure (q h' tk (fun b o n e=>k' b o (fun z=>n (List.mem_cons_of_mem _ z)) e) (keep T fun o e=>k' S o nI e))
 |succ k ih=>
  intro i s hk hi st T q;have lt:i<vs.length:=by omega
  refine codeAny_builtin PyProof.Rows.F.entry_set_update_loop ?_;rw[Around.under_plainId PyProof.Rows.F.plain_set_update_loop _];refine wpAny_bind (m:=pyNext (.ref I)) (W.item i s _ _ lt st fun v h' tk hv st' k'=>?_);obtain⟨x,t,rfl,hx⟩:=OM hs i v hv;have hkey:(intKind prog w).is x (.int x t)=true:=by show Value.isInt x (.int x t)=true;simp[Value.isInt]
  refine wpAny_bind (m:=holding [Value.int x t] (setAdd S (.int x t))) (wpAny_holding ?_);unfold setAdd;refine wpAny_holding (wpAny_bind ((intKind prog w).pyHash hkey ?_));refine wpAny_setAddHashed_of hkey rfl (keep T fun o e=>k' S o nI e) (by have:=R8 ns i;omega) fun h2 sb T2=>?_
  rw[<-IM hx] at T2;have e2:(fun k'=>decide (k'∈ns.take i)||decide (k'=x))=fun k'=>decide (k'∈ns.take (i+1)):=by
   funext k'
   rw[List.take_add_one,hx,Bool.eq_iff_iff];simp
  rw[e2] at T2;refine wpAny_pure ⟨plainId_quiet PyProof.Rows.F.plain_set_update_loop _,ih (i+1) _ (by omega) lt (W.frame _ _ _ st' fun b hb o e=>?_) T2 fun h3 tk3 k3 T3=>?_⟩
  ·rw[sb.2 b (fun z=>nS (z▸hb))];exact e
  ·refine q h3 tk3 (fun b o n e=>k3 b o n ?_) T3;rw[sb.2 b (fun z=>n (by simp[z]))];exact k' b o (fun z=>n (List.mem_cons_of_mem _ z)) e
theorem Pu {lq:Addr} {vs:List Value} {ns:List Int} {Q:Value->Shared->Prop} (hh:A.handled=none) (hl:s.heap.IsList lq vs.toArray) (hs:IntsAre vs ns) (hb:vs.length+1<scanBound)
  (q:∀h' tk,(∀b o,s.heap.get? b=some o->h'.get? b=some o)->h'.SetOf (intKind prog w) s.heap.objs.size (fun k=>decide (k∈ns)) (cI ns ns.length)->Q (.ref s.heap.objs.size) { s with heap:=h',toks:=tk }):wpAny (model prog w) A (call (.type "set") [.ref lq]) Q E s:=by
 obtain⟨c,tl,hmro⟩:=PySem.F.called_set.mro;have hmade:=PySem.F.called_set.made;have hsub:=PySem.F.called_set.sub;refine wpAny_call (codeAny_of_tree (wpAny_pure ⟨Code.quiet_builtin _ (by decide +kernel),codeAny_builtin PySem.F.entry_type_call ?_⟩));rw[Around.under_plain (weight_type_call_type "set" [.ref lq] []) rfl];have h1:=PySem.F.called_set.notType;have h2:=PySem.F.called_set.canCreate;have hct:=PySem.F.typeCall_set_1 (.ref lq)
 repeat (any_goals (first|assumption|wp_step))
 refine codeAny_mono (JP (.ref lq) (E:=E) (Q₁:=fun obj s₁=>obj=.ref s.heap.objs.size/\s₁={ s with heap:=s.heap.push { cls:=.type "set",dict:=none,data:=.set #[] 0 (.fresh 0 0 (!AD w)) } }) ⟨rfl,rfl⟩) fun r s₁ hr=>?_
 match r,hr with
 | .error e,hr=>exact hr
 | .ok (.ret obj),hr=>
  obtain⟨rfl,rfl⟩:=hr;have hS:(s.heap.push { cls:=.type "set",dict:=none,data:=.set #[] 0 (.fresh 0 0 (!AD w)) }).get? s.heap.objs.size=some { cls:=.type "set",dict:=none,data:=.set #[] 0 (.fresh 0 0 (!AD w)) }:=Heap.get?_push_size _ rfl;have hT:Shared.TypeIs { s with heap:=s.heap.push { cls:=.type "set",dict:=none,data:=.set #[] 0 (.fresh 0 0 (!AD w)) } } (.ref s.heap.objs.size) "set":=⟨_,hS,rfl⟩
  have hli:=PySem.F.called_set.init.lookup;have hbi:=PySem.F.called_set.init.bind (.ref s.heap.objs.size)
  repeat (any_goals (first|assumption|wp_step))
  refine codeAny_mono (codeAny_call_builtin (R:=wants (fun r s₂=>r=.none/\∃h' tk,s₂={ s with heap:=h',toks:=tk }/\(∀b o,s.heap.get? b=some o->h'.get? b=some o)/\h'.SetOf (intKind prog w) s.heap.objs.size (fun k=>decide (k∈ns)) (cI ns ns.length)) E) PySem.F.called_set.init.plain PySem.F.entry_set_init (check_set_init_1 hT ?_)) fun r₂ s₂ hr₂=>?_
  ·obtain⟨⟨cl,dl,tl,sl⟩,el,hcl,nl,hdl⟩:=hl;simp only at hcl hdl;subst hcl;subst hdl;have el':=Heap.get?_push_of_some ({ cls:=.type "set",dict:=none,data:=.set #[] 0 (.fresh 0 0 (!AD w)) }:Obj) el;have lt:lq<s.heap.objs.size:=Heap.lt_size el;have l1:(s.heap.push { cls:=.type "set",dict:=none,data:=.set #[] 0 (.fresh 0 0 (!AD w)) }).IsList lq vs.toArray:=⟨_,el',rfl,nl,rfl⟩
   have n1:=PySem.F.sub_list_set;have n2:=PySem.F.sub_list_frozenset;have n3:(Value.type "list" == Value.type "dict")=false:=by decide
   unfold Builtin.«set.__init__» Builtin.Frozenset.updateFrom noKeywords;generalize ePI:pyIter=PI
   wp_walk
   subst ePI;refine wpAny_pyIter_list l1 (wpAny_bind (wpAny_runValue ?_));have nI:lq≠(s.heap.push { cls:=.type "set",dict:=none,data:=.set #[] 0 (.fresh 0 0 (!AD w)) }).objs.size:=by rw[Heap.size_push];exact Nat.ne_of_lt (Nat.lt_succ_of_lt lt)
   have nS:s.heap.objs.size∉[(s.heap.push { cls:=.type "set",dict:=none,data:=.set #[] 0 (.fresh 0 0 (!AD w)) }).objs.size,lq]:=by
    rw[Heap.size_push];simp only[List.mem_cons,List.not_mem_nil,or_false,not_or];exact⟨Nat.ne_of_lt (Nat.lt_succ_self _),Nat.ne_of_gt lt⟩
   have hA:A.in1.in1.in1.handled=none:=by simp[hh]
   have W:=Walks.list (prog:=prog) (w:=w) hA (s.heap.push { cls:=.type "set",dict:=none,data:=.set #[] 0 (.fresh 0 0 (!AD w)) }).objs.size lq nI vs.toArray;have W2:Walks prog w A.in1.in1.in1 (s.heap.push { cls:=.type "set",dict:=none,data:=.set #[] 0 (.fresh 0 0 (!AD w)) }).objs.size [(s.heap.push { cls:=.type "set",dict:=none,data:=.set #[] 0 (.fresh 0 0 (!AD w)) }).objs.size,lq] [(s.heap.push { cls:=.type "set",dict:=none,data:=.set #[] 0 (.fresh 0 0 (!AD w)) }).objs.size] vs.length (fun i v=>vs[i]?=some v) (fun i h=>h.IsListIter (s.heap.push { cls:=.type "set",dict:=none,data:=.set #[] 0 (.fresh 0 0 (!AD w)) }).objs.size lq i/\h.IsList lq vs.toArray):=by
    simpa only [List.size_toArray,List.getElem?_toArray] using W
   refine Nk W2 nS hs hb vs.length 0 _ (by omega) (Nat.zero_le _) ⟨⟨_,Heap.get?_push_size _ rfl,rfl,rfl⟩,l1.push _⟩ (QC (Heap.get?_push_of_some _ hS)) fun h' tk k' T=>?_
   refine wpAny_pure (wpAny_pure ⟨rfl,h',tk,rfl,fun b o e=>k' b o (fun z=>?_) (Heap.get?_push_of_some _ (Heap.get?_push_of_some _ e)),T⟩);have lb:=Heap.lt_size e;rw[Heap.size_push] at z;simp only[List.mem_cons,List.not_mem_nil,or_false] at z;rcases z with rfl|rfl
   ·exact absurd lb (Nat.lt_irrefl _)
   ·exact absurd lb (Nat.not_lt.mpr (Nat.le_succ _))
  ·match r₂,hr₂ with
   | .error e,hr₂=>exact hr₂
   | .ok (.ret r),hr₂=>
    obtain⟨rfl,h',tk,rfl,k',T⟩:=hr₂
    repeat (any_goals (first|assumption|wp_step))
    exact q _ _ k' T
   | .ok .next,hr₂=>exact hr₂.elim
end
section
open PySem PySem.Calls PySem.Spec PyProof.Rows
variable {X:Cx}
def Wc (K:PySem.W.Frag):List V->Hp->VK->Prop:=fun xs H Q=>∃(a:Addr) (ns:List Int),xs=[.ref a]/\AR K H a (ns.map V.int)/\ns.length<=1000/\∀p,H p=none->Q (.ref p) (upd H p (.set (fun k=>decide (k∈ns)) (cI ns ns.length)))
theorem PQ {K:PySem.W.Frag}(hK:X.K=K)(hc:X.calm=true):Ct X (.type "set") (Wc K):=by
 subst hK;intro pins s σ H xs us Q I r h;obtain⟨a,ns,rfl,h1,few,q⟩:=h;obtain⟨u,rfl,ru⟩:=vals1 r;cases ru;obtain⟨AC,r1,p1,_⟩:=I.list h1;have hs:=intsAre_of r1;have ln:=IntsAre.length hs;refine Pu (I.ok.hd hc) p1.isList hs (by rw[ln];unfold scanBound;omega) fun h' tk k T=>⟨.ref s.heap.objs.size,_,I.laid (t':=tk) k (Nat.le_refl _) (?_:AX X.prog X.w _ h' _ (.set (fun k=>decide (k∈ns)) (cI ns ns.length))),rfl,q _ (I.hok.fresh (Nat.le_refl _))⟩
 exact T
end
end L2
namespace L2
open PySem
end L2
namespace L2
end L2
namespace L2
end L2
namespace L2
section
open PySem PySem.Spec PyProof.Rows
variable {X:Cx}
theorem MG:bootBuiltins "reversed"=some (.type "reversed"):=by kernel_rfl
end
end L2
namespace L2
end L2
namespace L2
section
open PySem PySem.Calls PyProof.Rows
variable {X:Cx}
theorem II {e:Expr}:PE X e (fun _ _ _=>False):=fun _ _ _ _ _ _ h=>h.elim
theorem DG {st:Stmt}:PS X st (fun _ _ _=>False):=fun _ _ _ _ _ _ h=>h.elim
theorem S3 {e:Expr}:PT X e (fun _ _ _=>False):=fun _ _ _ _ _ _ h=>h.elim
def VU (K:PySem.W.Frag):List V->Hp->VK->Prop:=fun xs H Q=>∃(x:V) (tp:Addr) (cs:List String),xs=[x,.ref tp]/\H tp=some (.tup (cs.map V.ty))/\Ok H x/\(∀c∈cs,c∈["bool","int","str","list","tuple"])/\Q (.bl (cs.any (isA (Eg H x)))) H
theorem L5 {t:String}(K:PySem.W.Frag)(ht:t∈["NoneType","bool","int","str","list","tuple"]):∀cs:List String,(∀c∈cs,c∈["bool","int","str","list","tuple"])->PySem.W.kitAny K (.type t) (cs.map Value.type)=some (cs.any (isA t))
 |[],_=>rfl
 |c::cs,h=>by
  have e:=OQ K ht (h c (List.mem_cons_self ..));have r:=L5 K ht cs fun x hx=>h x (List.mem_cons_of_mem _ hx)
  rw[List.map_cons,PySem.W.kitAny,e,List.any_cons];cases isA t c
  ·exact r
  ·rfl
theorem O9:∀(cs:List String) (us:List Value),AN (cs.map V.ty) us->us=cs.map Value.type
 |[],us,h=>by cases h;rfl
 |c::cs,us,h=>by
  cases h with
  |cons r rs=>rw[O9 cs _ rs];cases r;rfl
theorem Hu {K:PySem.W.Frag}(hK:X.K=K):Ct X (.builtin "isinstance") (VU K):=by
 subst hK;intro pins s σ H xs us Q I r h;obtain⟨x,tp,cs,rfl,ht,ok,hc,q⟩:=h;obtain⟨u,v,rfl,ru,rv⟩:=vals2 r;cases(show v=Value.ref tp from rv);obtain⟨_,us,r1,⟨oc,od,oda,osl⟩,g1,g2,n,g3,_⟩:AX X.prog X.w H s.heap tp (.tup (cs.map V.ty)):=I.hok tp _ ht;dsimp only at g2 g3;subst g2 g3;cases O9 cs us r1;have e:=L5 X.K ok.tyMem cs hc;have fin:∀tk,(EP X pins σ Q) (.bool (cs.any (isA (Eg H x)))) { s with toks:=tk }:=fun tk=>⟨.bl _,H,I.tok _,rfl,q⟩
 have ty:=ok.ty X.K;generalize Value.type (Eg H x)=T at ty e;cases ty with
 |non=>cases(show u=Value.none from ru);exact PySem.W.kia_tup PySem.W.kitx_none I.kIn True.intro g1 e (fun z=>nomatch z) fin
 |bl y=>cases(show u=Value.bool y from ru);exact PySem.W.kia_tup PySem.W.kitx_bool I.kIn True.intro g1 e (fun z=>nomatch z) fin
 |int i=>obtain⟨t,q⟩:=(show ∃t,u=Value.int i t from ru);cases q;exact PySem.W.kia_tup PySem.W.kitx_int I.kIn True.intro g1 e (fun z=>nomatch z) fin
 |str y=>obtain⟨t,q⟩:=(show ∃t,u=Value.str y t from ru);cases q;exact PySem.W.kia_tup PySem.W.kitx_str I.kIn True.intro g1 e (fun z=>nomatch z) fin
 |flt y=>exact(show False from ok).elim
 |@lst a xs ea=>
  cases(show u=Value.ref a from ru);obtain⟨_,_,n,_,h1⟩:=(show AX X.prog X.w H s.heap a (.lst xs) from I.hok a _ ea)
  exact PySem.W.kia_tup PySem.W.kitx_list I.kIn ⟨_,h1,rfl⟩ g1 e (fun z=>nomatch z) fin
 |@frz a ob xs ea=>rcases ok with⟨_,z⟩|⟨_,z⟩<;>(rw[ea] at z;cases z)
 |@tup a xs ea=>
  cases(show u=Value.ref a from ru);obtain⟨_,_,_,p⟩:=(show AX X.prog X.w H s.heap a (.tup xs) from I.hok a _ ea)
  obtain⟨o,h1,h2,_⟩:=p;exact PySem.W.kia_tup PySem.W.kitx_tuple I.kIn ⟨o,h1,h2⟩ g1 e (fun z=>nomatch z) fin
 |@dK a kvs ea=>rcases ok with⟨_,z⟩|⟨_,z⟩<;>(rw[ea] at z;cases z)
 |@dT a kvs ea=>rcases ok with⟨_,z⟩|⟨_,z⟩<;>(rw[ea] at z;cases z)
 |@ins a C dx fs ea cl ha hn htk hm=>rcases ok with⟨_,z⟩|⟨_,z⟩<;>(rw[ea] at z;cases z)
def WT (K:PySem.W.Frag):R2:=fun x y H Q=>∃p xs i v,x=.ref p/\y=.int i/\(AR K H p xs\/AE K H p xs)/\Hz xs i=some v/\Q v H
theorem Rv {K:PySem.W.Frag}(hK:X.K=K):VB X (WT K):=by
 intro value slice pins s σ H x y v u Q I rx ry h hs;obtain⟨p,xs,i,z,e1,e2,h3|h3,h4,q⟩:=h
 ·exact QU hK value slice pins s σ H x y v u Q I rx ry ⟨p,xs,i,z,e1,e2,h3,h4,q⟩ hs
 ·exact AQ hK value slice pins s σ H x y v u Q I rx ry ⟨p,xs,i,z,e1,e2,h3,h4,q⟩ hs
theorem QZ {K:PySem.W.Frag}(hK:X.K=K)(hu:X.A.units+1<cLine):E1 X (compareOp .NotEq) (Rt K true):=by subst hK;exact To hu
def Us:Tr->Tr->Bool
 | .non,.non=>true
 | .bl a,.bl b=>a == b
 | .int a,.int b=>a == b
 | .str a,.str b=>a == b
 |_,_=>false
def Sn:Tr->Bool
 | .tup _=>false
 | .lst _=>false
 |_=>true
def HX:Tr->Bool
 | .bl _=>true
 |_=>false
def WJ:R2:=fun x y H Q=>∃t u,Rep (fun _=>True) H t x/\Rep (fun _=>True) H u y/\Sn t=true/\HX t=HX u/\Q (.bl (Us t u)) H
theorem QB (hu9:X.A.units+150<cLine):E1 X (compareOp .Eq) WJ:=by
 intro pins s σ H x y v u Q I rx ry h;obtain⟨t,w,h1,h2,sc,bb,q⟩:=h;have fin:∀b:Bool,Us t w=b->SeqAt.RcAt X.A s v u b->wpAny (model X.prog X.w) X.A (compareOp .Eq v u) (EP X pins σ Q) X.xe s:=fun b e r=>by
  rw[e] at q;exact r _ _ _ _ ⟨.bl _,H,I,rfl,q⟩
 have hu:X.A.units<cLine:=by omega
 cases t with
 |tup _=>cases sc
 |lst _=>cases sc
 |non=>
  cases(show x=V.non from h1);cases(show v=Value.none from rx);cases w with
  |non=>cases(show y=V.non from h2);cases(show u=Value.none from ry);exact fin true rfl SeqAt.RcAt.none_none
  |bl b=>cases bb
  |int j=>cases(show y=V.int j from h2);obtain⟨t2,rfl⟩:=ry;exact fin false rfl (SeqAt.RcAt.none_int j t2)
  |str z=>cases(show y=V.str z from h2);obtain⟨t2,rfl⟩:=ry;exact fin false rfl (SeqAt.RcAt.none_str z t2)
  |tup us=>obtain⟨b,ws,rfl,hb,_⟩:=h2;cases ry;obtain⟨AC,_,p,_⟩:=I.tuple (AE.of (K:=X.K) hb);exact fin false rfl (SeqAt.RcAt.none_tuple p hu)
  |lst us=>obtain⟨b,ws,rfl,_,hb,_⟩:=h2;cases ry;obtain⟨AC,_,p,_⟩:=I.list (AR.of (K:=X.K) hb);exact fin false rfl (SeqAt.RcAt.none_list p.isList hu)
 |bl a=>
  cases(show x=V.bl a from h1);cases(show v=Value.bool a from rx);cases w with
  |bl b=>cases(show y=V.bl b from h2);cases(show u=Value.bool b from ry);exact fin (a == b) rfl (SeqAt.RcAt.bool_bool a b)
  |_=>cases bb
 |int i=>
  cases(show x=V.int i from h1);obtain⟨t1,rfl⟩:=rx;cases w with
  |non=>cases(show y=V.non from h2);cases(show u=Value.none from ry);exact fin false rfl (SeqAt.RcAt.int_none i t1)
  |bl b=>cases bb
  |int j=>cases(show y=V.int j from h2);obtain⟨t2,rfl⟩:=ry;exact fin (i == j) rfl (SeqAt.RcAt.int_int i t1 j t2)
  |str z=>cases(show y=V.str z from h2);obtain⟨t2,rfl⟩:=ry;exact fin false rfl (SeqAt.RcAt.int_str i t1 z t2)
  |tup us=>obtain⟨b,ws,rfl,hb,_⟩:=h2;cases ry;obtain⟨AC,_,p,_⟩:=I.tuple (AE.of (K:=X.K) hb);exact fin false rfl (SeqAt.RcAt.int_tuple i t1 p hu)
  |lst us=>obtain⟨b,ws,rfl,_,hb,_⟩:=h2;cases ry;obtain⟨AC,_,p,_⟩:=I.list (AR.of (K:=X.K) hb);exact fin false rfl (SeqAt.RcAt.int_list i t1 p.isList hu)
 |str a=>
  cases(show x=V.str a from h1);obtain⟨t1,rfl⟩:=rx;cases w with
  |non=>cases(show y=V.non from h2);cases(show u=Value.none from ry);exact fin false rfl (SeqAt.RcAt.str_none a t1)
  |bl b=>cases bb
  |int j=>cases(show y=V.int j from h2);obtain⟨t2,rfl⟩:=ry;exact fin false rfl (SeqAt.RcAt.str_int a t1 j t2)
  |str z=>cases(show y=V.str z from h2);obtain⟨t2,rfl⟩:=ry;exact fin (a == z) rfl (SeqAt.RcAt.str_str a t1 z t2)
  |tup us=>obtain⟨b,ws,rfl,hb,_⟩:=h2;cases ry;obtain⟨AC,_,p,_⟩:=I.tuple (AE.of (K:=X.K) hb);exact fin false rfl (SeqAt.RcAt.str_tuple a t1 p hu)
  |lst us=>obtain⟨b,ws,rfl,_,hb,_⟩:=h2;cases ry;obtain⟨AC,_,p,_⟩:=I.list (AR.of (K:=X.K) hb);exact fin false rfl (SeqAt.RcAt.str_list a t1 p.isList hu)
def FI (z:Str):Tr->Bool
 | .tup [.str y]=>y == z
 |_=>false
def eqZ (z:Str):Tr->Bool
 | .str y=>y == z
 |_=>false
def WK:R2:=fun x y H Q=>∃t z b,Rep (fun _=>True) H t x/\y=.ref b/\H b=some (.tup [.str z])/\Q (.bl (FI z t)) H
theorem UM {pins:List (Addr×Obj)}{σ:St}{H:Hp}{s:Shared}(I:Inv X pins σ H s){A:Around}(hu:A.units<cLine){t:Tr}{x:V}{v:Value}(z:Str)(tk:Tok)(h:Rep (fun _=>True) H t x)(r:RelV x v):SeqAt.EqAt A s v (.str z tk) (eqZ z t):=by
 cases t with
 |non=>cases(show x=V.non from h);cases(show v=Value.none from r);exact SeqAt.EqAt.none_str z tk
 |bl a=>cases(show x=V.bl a from h);cases(show v=Value.bool a from r);exact SeqAt.EqAt.bool_str a z tk
 |int i=>cases(show x=V.int i from h);obtain⟨t1,rfl⟩:=r;exact SeqAt.EqAt.int_str i t1 z tk
 |str y=>cases(show x=V.str y from h);obtain⟨t1,rfl⟩:=r;exact SeqAt.EqAt.str_str y t1 z tk
 |tup us=>obtain⟨b,ws,rfl,hb,_⟩:=h;cases r;obtain⟨AC,_,p,_⟩:=I.tuple (AE.of (K:=X.K) hb);exact SeqAt.EqAt.tuple_str z tk p hu
 |lst us=>obtain⟨b,ws,rfl,_,hb,_⟩:=h;cases r;obtain⟨AC,_,p,_⟩:=I.list (AR.of (K:=X.K) hb);exact SeqAt.EqAt.list_str z tk p.isList hu
theorem Vt (hu9:X.A.units+150<cLine):E1 X (compareOp .Eq) WK:=by
 intro pins s σ H x y v u Q I rx ry h;obtain⟨t,z,b,h1,rfl,hb,q⟩:=h;cases ry;have fin:∀k:Bool,FI z t=k->SeqAt.RcAt X.A s v (.ref b) k->wpAny (model X.prog X.w) X.A (compareOp .Eq v (.ref b)) (EP X pins σ Q) X.xe s:=fun k e r=>by
  rw[e] at q;exact r _ _ _ _ ⟨.bl _,H,I,rfl,q⟩
 have hu:X.A.units<cLine:=by omega
 obtain⟨its2,rv2,p2,_⟩:=I.tuple (AE.of (K:=X.K) hb);obtain⟨tk,rfl⟩:∃tk,its2=[Value.str z tk]:=by
  cases rv2 with
  |cons r rs=>cases rs;obtain⟨tk,rfl⟩:=r;exact⟨tk,rfl⟩
 cases t with
 |non=>cases(show x=V.non from h1);cases(show v=Value.none from rx);exact fin false rfl (SeqAt.RcAt.none_tuple p2 hu)
 |bl a=>cases(show x=V.bl a from h1);cases(show v=Value.bool a from rx);exact fin false rfl (SeqAt.RcAt.bool_tuple a p2 hu)
 |int i=>cases(show x=V.int i from h1);obtain⟨t1,rfl⟩:=rx;exact fin false rfl (SeqAt.RcAt.int_tuple i t1 p2 hu)
 |str y=>cases(show x=V.str y from h1);obtain⟨t1,rfl⟩:=rx;exact fin false rfl (SeqAt.RcAt.str_tuple y t1 p2 hu)
 |lst us=>obtain⟨a,ws,rfl,_,ha,_⟩:=h1;cases rx;obtain⟨AC,_,p,_⟩:=I.list (AR.of (K:=X.K) ha);exact fin false rfl (SeqAt.RcAt.list_tuple p.isList p2 hu)
 |tup us=>
  obtain⟨a,ws,rfl,ha,hr⟩:=h1;cases rx;obtain⟨AC,rv1,p1,_⟩:=I.tuple (AE.of (K:=X.K) ha);have l1:=rv1.length.symm.trans (Aq.len us ws hr);have r:=SeqAt.RcAt.tuples (A:=X.A) (s:=s) (e:=fun j=>eqZ z (us.getD j .non)) p1 p2 hu (fun j g1 g2=>by
   have g1':j<AC.length:=by simpa using g1
   have j0:j=0:=by have:=g2;simp at this;exact this
   subst j0;have lv1:=rv1.length;obtain⟨x1,hx1⟩:∃x1,ws[0]?=some x1:=⟨ws[0]'(by omega),List.getElem?_eq_getElem _⟩
   obtain⟨y1,hy1,ry1⟩:=rv1.get hx1;obtain⟨t1,e1,p1'⟩:=Aq.get hr hx1;have:=UM I (A:=X.A.in1) (by show X.A.units+1<cLine;omega) z tk p1' ry1;rw[List.getElem?_eq_getElem g1'] at hy1;cases hy1;simp only[List.getD,e1,Option.getD_some];simpa using this)
  simp only[List.size_toArray,l1] at r;refine fin _ ?_ r
  match us with
  |[]=>rfl
  |[.str y]=>simp[FI,eqZ,List.range_succ]
  |[.non]|[.bl _]|[.int _]|[.tup _]|[.lst _]=>simp[FI,eqZ,List.range_succ]
  |_::_::_=>simp[FI]
end
end L2
namespace L2
section
open PySem PySem.Calls PyProof.Rows
variable {X:Cx}
def hT:Nat->Tr->Bool
 |_+1,.int _=>true
 |_+1,.str _=>true
 |n+1,.tup ts=>ts.all (hT n)
 |_,_=>false
theorem KN {pins:List (Addr×Obj)}{σ:St}{H:Hp}{s:Shared}(I:Inv X pins σ H s):∀(n:Nat) (t:Tr) (A:Around) (v:V) (vv:Value),hT n t=true->A.units+n<cLine->Rep (fun _=>True) H t v->RelV v vv->
  ∀(tk:Nat) (E:Value->Shared->Prop) (Q:Int->Shared->Prop),(∀hx tk',Q hx { s with toks:=tk' })->wpAny (model X.prog X.w) A (pyHash vv) Q E { s with toks:=tk }
 |0,t,_,_,_,h,_,_,_,_,_,_,_=>by cases t<;>cases h
 |n+1,.int i,A,v,vv,_,_,h,r,tk,E,Q,q=>by
  cases(show v=V.int i from h);exact(AY X.prog X.w).pyHash (k:=.inl i) (G8 (k:=.inl i) r) (q _ _)
 |n+1,.str z,A,v,vv,_,_,h,r,tk,E,Q,q=>by
  cases(show v=V.str z from h);exact(AY X.prog X.w).pyHash (k:=.inr z) (G8 (k:=.inr z) r) (q _ _)
 |n+1,.tup ts,A,v,vv,ht,hu,h,r,tk,E,Q,q=>by
  obtain⟨a,vs,rfl,ha,hr⟩:=h;cases r;obtain⟨AC,rv,p,_⟩:=I.tuple (AE.of (K:=X.K) ha);obtain⟨o,ho,hc,m,hd⟩:=p;have hT':Shared.TypeIs { s with toks:=tk } (.ref a) "tuple":=⟨o,ho,hc⟩
  have tt:∀x∈ts,hT n x=true:=fun x hx=>List.all_eq_true.mp (show ts.all (hT n)=true from ht) x hx
  unfold pyHash
  first|unfold pyHashByItsType|skip
  first|refine wpAny_bind (wpAny_cRoomFor_or (.inr (by omega)) ?_)|skip
  refine wpAny_bind (wpAny_specialOf hT' F.slot_tuple_hash.lookup ?_);show wpAny _ _ (if(some (Value.builtin "tuple.__hash__") == some Value.none)=true then _ else _) Q E _;rw[if_neg (by rw[beq_builtin_none];exact Bool.false_ne_true)];refine wpAny_bind (wpAny_specialOf hT' F.slot_tuple_hash.lookup ?_);show wpAny _ _ (callSpecialIfBoundUnlessNone? (.ref a) "__hash__" _ >>= _) Q E _;refine wpAny_bind (wpAny_callSpecialIfBoundUnlessNone?_slot hT' F.slot_tuple_hash (wpAny_call_entry F.slot_tuple_hash hT' F.entry_tuple_hash ?_ (F.args_tuple_hash_1 _)));show wpAny _ _ (Builtin.Tuple.tupleItemsOf (.ref a) >>= _) _ _ _;refine wpAny_bind (wpAny_tupleItemsOf (s:={ s with toks:=tk }) ho hd ?_);refine wpAny_bind ?_;rw[<-Array.forIn_toList];refine wpAny_forIn_list _ (fun rest (b:Array Int) s'=>(∀x∈rest,x∈AC)/\∃tk',s'={ s with toks:=tk' }) _ ?_ ?_ _ _ ⟨fun x hx=>by simpa using hx,tk,rfl⟩
  ·rintro x rest b s' ⟨hm,tk',rfl⟩
   obtain⟨i,hi,e⟩:=List.getElem_of_mem (hm x (List.mem_cons_self ..));have lv:=rv.length;obtain⟨y,hy⟩:∃y,vs[i]?=some y:=⟨vs[i]'(by omega),List.getElem?_eq_getElem _⟩
   obtain⟨z,hz,rz⟩:=rv.get hy;rw[List.getElem?_eq_getElem hi,e] at hz;cases hz;obtain⟨t1,e1,r1⟩:=Aq.get hr hy;refine wpAny_bind (KN I n t1 _ y x (tt t1 (List.mem_of_getElem? e1)) ?_ r1 rz tk' _ _ fun hx tk2=>?_)
   ·show A.units+1+n<cLine;omega
   ·have fin:(∀x∈rest,x∈AC)/\∃tk',({ s with toks:=tk2 }:Shared)={ s with toks:=tk' }:=⟨fun x hx=>hm x (List.mem_cons_of_mem _ hx),tk2,rfl⟩
    first
     |exact wpAny_pure fin
     |exact wpAny_bind (wpAny_pure (wpAny_pure fin))
  ·rintro b s' ⟨_,tk',rfl⟩
   show wpAny _ _ (retInt (Builtin.Tuple.tupleHashOf b.toList)) _ _ _;refine wpAny_ret_mkInt ?_;show wpAny _ _ (if(decide (-(2:Int)^63<=Builtin.Tuple.tupleHashOf b.toList)&&decide (Builtin.Tuple.tupleHashOf b.toList<2^63))=true then _ else _) Q E _;refine wpAny_ite_split (fun _=>wpAny_pure (q _ _)) (fun _=>wpAny_bind (wpAny_rule (wpAny_pure (q _ _))))
 |n+1,.non,_,_,_,h,_,_,_,_,_,_,_=>nomatch h
 |n+1,.bl _,_,_,_,h,_,_,_,_,_,_,_=>nomatch h
 |n+1,.lst _,_,_,_,h,_,_,_,_,_,_,_=>nomatch h
theorem MH {pins:List (Addr×Obj)}{σ:St}{H:Hp}{s:Shared}(I:Inv X pins σ H s):∀(n:Nat) (fuel:Nat) (t:Tr) (A:Around) (v:V) (vv:Value),hT n t=true->Rep (fun _=>True) H t v->RelV v vv->
  ∀(tk:Nat) (E:Value->Shared->Prop) (Q:Bool->Shared->Prop),(∀b,Q b { s with toks:=tk })->wpAny (model X.prog X.w) A (hashByValue fuel vv) Q E { s with toks:=tk }
 |0,_,t,_,_,_,h,_,_,_,_,_,_=>by cases t<;>cases h
 |n+1,fuel,.int i,A,v,vv,_,h,r,tk,E,Q,q=>by
  cases(show v=V.int i from h);obtain⟨t1,rfl⟩:=r;rw[hashByValue_scannable fuel rfl];exact wpAny_pure (q _)
 |n+1,fuel,.str z,A,v,vv,_,h,r,tk,E,Q,q=>by
  cases(show v=V.str z from h);obtain⟨t1,rfl⟩:=r;rw[hashByValue_scannable fuel rfl];exact wpAny_pure (q _)
 |n+1,0,.tup ts,A,v,vv,ht,h,r,tk,E,Q,q=>by
  obtain⟨a,vs,rfl,ha,hr⟩:=h;cases r;unfold hashByValue;exact wpAny_pure (q _)
 |n+1,fuel+1,.tup ts,A,v,vv,ht,h,r,tk,E,Q,q=>by
  obtain⟨a,vs,rfl,ha,hr⟩:=h;cases r;obtain⟨AC,rv,p,_⟩:=I.tuple (AE.of (K:=X.K) ha);obtain⟨o,ho,hc,m,hd⟩:=p;have hT':Shared.TypeIs { s with toks:=tk } (.ref a) "tuple":=⟨o,ho,hc⟩
  have tt:∀x∈ts,hT n x=true:=fun x hx=>List.all_eq_true.mp (show ts.all (hT n)=true from ht) x hx
  unfold hashByValue;refine wpAny_bind (wpAny_specialOf hT' F.slot_tuple_hash.lookup ?_);simp only[];refine wpAny_bind (wpAny_seqItems (s:={ s with toks:=tk }) ho hd ?_);refine wpAny_bind ?_;rw[show(some AC.toArray).getD #[Value.ellipsis]=AC.toArray from rfl,<-Array.forIn_toList];refine wpAny_forIn_list _ (fun rest (b:Option Bool×Unit) s'=>(∀x∈rest,x∈AC)/\s'={ s with toks:=tk }) _ ?_ ?_ _ _ ⟨fun x hx=>by simpa using hx,rfl⟩
  ·rintro x rest b s' ⟨hm,rfl⟩
   obtain⟨i,hi,e⟩:=List.getElem_of_mem (hm x (List.mem_cons_self ..));have lv:=rv.length;obtain⟨y,hy⟩:∃y,vs[i]?=some y:=⟨vs[i]'(by omega),List.getElem?_eq_getElem _⟩
   obtain⟨z,hz,rz⟩:=rv.get hy;rw[List.getElem?_eq_getElem hi,e] at hz;cases hz;obtain⟨t1,e1,r1⟩:=Aq.get hr hy;refine wpAny_bind (MH I n fuel t1 _ y x (tt t1 (List.mem_of_getElem? e1)) r1 rz tk _ _ fun b2=>?_);refine wpAny_ite_split (fun _=>wpAny_pure ?_) (fun _=>wpAny_pure ?_)
   ·exact wpAny_pure (q _)
   ·exact⟨fun x hx=>hm x (List.mem_cons_of_mem _ hx),rfl⟩
  ·rintro⟨b,_⟩ s' ⟨_,rfl⟩
   cases b
   ·exact wpAny_pure (q _)
   ·exact wpAny_pure (q _)
 |n+1,_,.non,_,_,_,h,_,_,_,_,_,_=>nomatch h
 |n+1,_,.bl _,_,_,_,h,_,_,_,_,_,_=>nomatch h
 |n+1,_,.lst _,_,_,_,h,_,_,_,_,_,_=>nomatch h
end
section
open PySem PySem.Calls PyProof.Rows
variable {prog:Program}{w:World}{A:Around}{E:Value->Shared->Prop}{s:Shared}
def CT (w:World)(h:Heap)(a:Addr)(us:List Value):Prop:=∃o es ep t,h.get? a=some o/\o.ExactSet/\o.data=.set es ep t/\t.fits es.size=true/\t.led=(!AD w)/\es.toList.map (·.2)=us
theorem CT.keep {h h':Heap}{a:Addr}{us:List Value}(S:CT w h a us)(k:∀o,h.get? a=some o->h'.get? a=some o):CT w h' a us:=let⟨o,es,ep,t,e,r⟩:=S;⟨o,es,ep,t,k o e,r⟩
theorem Im (led:Bool)(f:Nat->Int)(h:Int)(p:SetTable.Probe):(SetTable.fresh 0 0 led).probe f h p=some (.empty p.j p.dummy):=by
 rfl
abbrev GG (j:Nat)(led plain:Bool):SetTable:={ mask:=7,place:=#[j],dummies:=#[],finger:=0,led:=led,moves:=0,plain:=plain }
theorem Kz (led:Bool)(j:Nat):(SetTable.fresh 0 0 led).put j=(GG j led true,0):=by
 simp[SetTable.put,SetTable.fresh,SetTable.below,SetTable.below.go,SetTable.has,SetTable.insertAt]
theorem OS {a:Addr}{o:Obj}{ep:Nat}{t0:SetTable}{es0:Array (Int×Value)}{hx:Int}{v:Value}{j:Nat}{led plain:Bool}(hl:led = !AD w)(e:s.heap.get? a=some o)(ex:o.ExactSet)(d:o.data=.set es0 ep t0) :
  CT w (s.heap.update a (Obj.putSet #[(hx,v)] (GG j led plain))) a [v]:=by
 have z:=Heap.get?_update_self (Obj.putSet #[(hx,v)] (GG j led plain)) e (by rw[putSet_of _ _ d];rfl);rw[putSet_of _ _ d] at z;refine⟨_,#[(hx,v)],ep+1,GG j led plain,z,ex,rfl,?_,hl,rfl⟩;simp[SetTable.fits,SetTable.fill]
theorem Sw {a:Addr} {x:Addr} {Q:Bool->Shared->Prop} {led:Bool} (hl:led = !AD w)
  (e:s.heap.get? a=some { cls:=.type "set",dict:=none,data:=.set #[] 0 (.fresh 0 0 led) })
  (hh:∀(E:Value->Shared->Prop) (Q:Int->Shared->Prop),(∀hx tk',Q hx { s with toks:=tk' })->wpAny (model prog w) A (pyHash (.ref x)) Q E s)
  (hv:∀(tk:Nat) (E:Value->Shared->Prop) (Q:Bool->Shared->Prop),(∀b,Q b { s with toks:=tk })->wpAny (model prog w) A (hashByValue 8 (.ref x)) Q E { s with toks:=tk })
  (q:∀b h' tk,Heap.SameBut a s.heap h'->CT w h' a [.ref x]->Q b { s with heap:=h',toks:=tk }):wpAny (model prog w) A (setAdd a (.ref x)) Q E s:=by
 unfold setAdd;refine wpAny_holding (wpAny_bind (hh _ _ fun hx tk=>?_));unfold setAddHashed;unfold setAddHashedIn;have f0:(SetTable.fresh 0 0 led).fits (#[]:Array (Int×Value)).size=true:=rfl;refine wpAny_holding (wpAny_bind (wpAny_setState_of (s:={ s with toks:=tk }) e rfl f0 ?_));dsimp only;rw[show byScan (.ref x) #[]=false from rfl];simp only[Bool.false_eq_true,↓reduceIte];unfold setSearch;unfold setSearchFrom;refine wpAny_bind (wpAny_bind (wpAny_setState_of (s:={ s with toks:=tk }) e rfl f0 ?_));dsimp only;rw[show(SetTable.fresh 0 0 led).gaveWay=false by simp[SetTable.gaveWay,SetTable.fresh]];simp only[Bool.false_eq_true,↓reduceIte];rw[Im];refine wpAny_pure ?_;refine wpAny_bind (wpAny_setState_of (s:={ s with toks:=tk }) e rfl f0 ?_);generalize (none.getD ((SetTable.fresh 0 0 led).probeStart hx)).j=j;dsimp only;rw[Kz];dsimp only;rw[if_pos rfl];refine wpAny_bind (hv _ _ _ fun b=>?_);have ee:(if b=true then GG j led true else GG j led false)=GG j led b:=by cases b<;>rfl
 have ei:SetTable.insertAt (#[]:Array (Int×Value)) 0 (hx,Value.ref x) = #[(hx,Value.ref x)]:=by simp[SetTable.insertAt]
 rw[ei];have ex:Obj.ExactSet { cls:=.type "set",dict:=none,data:=.set #[] 0 (.fresh 0 0 led) }:=⟨rfl,rfl,rfl⟩
 change wpAny _ _ (storeSet a #[(hx,Value.ref x)] (if b=true then GG j led true else GG j led false) >>= fun _=>if(!false&&(if b=true then GG j led true else GG j led false).tooFull)=true then setRelay a (SetTable.grown ((#[]:Array (Int×Value)).size+1)) >>= fun _=>pure true else pure true) _ _ _
 rw[ee];refine wpAny_bind (wpAny_storeSet_of (s:={ s with toks:=tk }) e rfl ?_ (by show 1<=sizeLine;rw[sizeLine_eq];decide));rw[if_neg (by simp[SetTable.tooFull,SetTable.fill])];exact wpAny_pure (q true _ tk (Heap.SameBut.update ..) (OS hl e ex rfl))
theorem Pm (led:Bool)(hx:Int)(v:Value):∃j,layNew (SetTable.fresh 0 0 led) #[] hx v=(#[(hx,v)],GG j led true,false,false):=by
 unfold layNew SetTable.freeSlot;rw[Im];refine⟨((SetTable.fresh 0 0 led).probeStart hx).j,?_⟩;have ei:SetTable.insertAt (#[]:Array (Int×Value)) 0 (hx,v) = #[(hx,v)]:=by simp[SetTable.insertAt]
 have f1:(GG ((SetTable.fresh 0 0 led).probeStart hx).j led true).fits 1=true:=by simp[SetTable.fits,SetTable.fill]
 simp only[show((SetTable.fresh 0 0 led).probeStart hx).dummy=none from rfl,Option.getD_none,Option.isSome_none,Kz,ei];show(_,SetTable.orStandIn _ 1,false,!SetTable.fits _ 1)=_;rw[SetTable.orStandIn,if_pos f1,f1];rfl
theorem add_int {a:Addr} {i:Int} {ti:Tok} {Q:Bool->Shared->Prop} {led:Bool} (hl:led = !AD w)
  (e:s.heap.get? a=some { cls:=.type "set",dict:=none,data:=.set #[] 0 (.fresh 0 0 led) })
  (q:∀b h' tk,Heap.SameBut a s.heap h'->CT w h' a [.int i ti]->Q b { s with heap:=h',toks:=tk }):wpAny (model prog w) A (setAdd a (.int i ti)) Q E s:=by
 have f0:(SetTable.fresh 0 0 led).fits (#[]:Array (Int×Value)).size=true:=rfl;have ex:Obj.ExactSet { cls:=.type "set",dict:=none,data:=.set #[] 0 (.fresh 0 0 led) }:=⟨rfl,rfl,rfl⟩
 unfold setAdd;refine wpAny_holding (wpAny_bind ((AY prog w).pyHash (k:=.inl i) (G8 (k:=.inl i) ⟨ti,rfl⟩) ?_));generalize (AY prog w).hash (.inl i)=hx;unfold setAddHashed;unfold setAddHashedIn;refine wpAny_holding (wpAny_bind (wpAny_setState_of (s:={ s with toks:=s.toks+1 }) e rfl f0 ?_));dsimp only;rw[show byScan (.int i ti) #[]=true by simp[byScan,Value.scannable,scanBound]];simp only[↓reduceIte];unfold setAddByScan;refine wpAny_bind (wpAny_bind (wpAny_rule (wpAny_bind (m:=setScan a (.int i ti) hx true #[]) (wpAny_of_eq (show setScan a (.int i ti) hx true #[]=pure .absent from rfl) ?_))));obtain⟨j,el⟩:=Pm led hx (.int i ti);dsimp only;rw[el];dsimp only;refine wpAny_bind (wpAny_pure ?_);rw[if_pos rfl,hashByValue_scannable 8 rfl];refine wpAny_bind (wpAny_pure ?_)
 change wpAny _ _ (storeSet a #[(hx,Value.int i ti)] (GG j led true) >>= fun _=>if(!false&&(GG j led true).tooFull)=true then _ else pure (some true)) _ _ _
 refine wpAny_bind (wpAny_storeSet_of (s:={ s with toks:=s.toks+1 }) e rfl ?_ (by show 1<=sizeLine;rw[sizeLine_eq];decide));rw[if_neg (by simp[SetTable.tooFull,SetTable.fill])];exact wpAny_pure (wpAny_pure (q true _ _ (Heap.SameBut.update ..) (OS hl e ex rfl)))
theorem Tt (led:Bool)(hl:led = !AD w){h:Heap}{a:Addr}(e:h.get? a=some { cls:=.type "set",dict:=none,data:=.set #[] 0 (.fresh 0 0 led) }):CT w h a []:=
 ⟨_,#[],0,.fresh 0 0 led,e,⟨rfl,rfl,rfl⟩,rfl,rfl,hl,rfl⟩
theorem Me {R:Result->Shared->Prop} {I S:Addr} {fp:List Addr} {vs:List Value} {St:Nat->Heap->Prop} (W:Walks prog w A.in1 I fp [I] vs.length (fun i v=>vs[i]?=some v) St) (nS:S∉fp) {us:List Value}
  (st:St vs.length s.heap) (T:CT w s.heap S us) (q:∀h' tk,(∀b o,b∉[S,I]->s.heap.get? b=some o->h'.get? b=some o)->CT w h' S us->R (.ok (.ret .none)) { s with heap:=h',toks:=tk }):codeAny (model prog w) A (.builtin "set.update.loop" ⟨[.ref S,.ref I],[]⟩) R s:=by
 have nI:S∉[I]:=fun z=>nS (W.sub _ z)
 refine codeAny_builtin PyProof.Rows.F.entry_set_update_loop ?_;rw[Around.under_plainId PyProof.Rows.F.plain_set_update_loop _];refine wpAny_bind (m:=pyNext (.ref I)) (W.done s _ _ st fun h' tk k'=>?_);exact wpAny_pure (q h' tk (fun b o n e=>k' b o (fun z=>n (List.mem_cons_of_mem _ z)) e) (T.keep fun o e=>k' S o nI e))
def Wm (prog:Program)(w:World)(A:Around)(s:Shared)(v:Value):Prop:=∀(S:Addr) (h':Heap) (tk:Nat) (E:Value->Shared->Prop) (Q:Bool->Shared->Prop),(∀b o,s.heap.get? b=some o->h'.get? b=some o)->
 h'.get? S=some { cls:=.type "set",dict:=none,data:=.set #[] 0 (.fresh 0 0 (!AD w)) }->(∀b h2 tk2,Heap.SameBut S h' h2->CT w h2 S [v]->Q b { s with heap:=h2,toks:=tk2 })->wpAny (model prog w) A (setAdd S v) Q E { s with heap:=h',toks:=tk }
theorem Qq {R:Result->Shared->Prop} {I S:Addr} {fp:List Addr} {vs:List Value} {St:Nat->Heap->Prop} (W:Walks prog w A.in1 I fp [I] vs.length (fun i v=>vs[i]?=some v) St) (nS:S∉fp) (few:vs.length<=1) {s0:Shared} {h:Heap}
  (k0:∀b o,s0.heap.get? b=some o->h.get? b=some o) (n0:s0.heap.get? I=none) (st:St 0 h) (hS:h.get? S=some { cls:=.type "set",dict:=none,data:=.set #[] 0 (.fresh 0 0 (!AD w)) }) (add:∀v∈vs,Wm prog w A.in1 s0 v)
  (q:∀h' tk,(∀b o,b∉[S,I]->h.get? b=some o->h'.get? b=some o)->CT w h' S vs->R (.ok (.ret .none)) { s0 with heap:=h',toks:=tk }):codeAny (model prog w) A (.builtin "set.update.loop" ⟨[.ref S,.ref I],[]⟩) R { s0 with heap:=h }:=by
 have nI:S∉[I]:=fun z=>nS (W.sub _ z)
 match vs,few with
 |[],_=>exact Me (s:={ s0 with heap:=h }) W nS st (Tt _ rfl hS) q
 |[v],_=>
  refine codeAny_builtin PyProof.Rows.F.entry_set_update_loop ?_;rw[Around.under_plainId PyProof.Rows.F.plain_set_update_loop _];refine wpAny_bind (m:=pyNext (.ref I)) (W.item 0 { s0 with heap:=h } _ _ (by simp) st fun v' h' tk hv st' k'=>?_);cases(show v'=v by simpa using hv.symm);refine wpAny_bind (m:=holding [v] (setAdd S v)) (wpAny_holding (add v (by simp) S h' tk _ _ (fun b o e=>k' b o (fun z=>?_) (k0 b o e)) (k' S _ nI hS) fun b h2 tk2 sb T=>?_))
  ·rw[List.mem_singleton] at z;rw[z,n0] at e;cases e
  refine wpAny_pure ⟨plainId_quiet PyProof.Rows.F.plain_set_update_loop _,Me (s:={ s0 with heap:=h2,toks:=tk2 }) W nS (W.frame _ _ _ st' fun b hb o e=>?_) T fun h3 tk3 k3 T3=>?_⟩
  ·rw[sb.2 b (fun z=>nS (z▸hb))];exact e
  ·refine q h3 tk3 (fun b o n e=>k3 b o n ?_) T3;rw[sb.2 b (fun z=>n (by simp[z]))];exact k' b o (fun z=>n (List.mem_cons_of_mem _ z)) e
theorem SB {lq:Addr} {vs:List Value} {Q:Value->Shared->Prop} (hh:A.handled=none) (hl:s.heap.IsList lq vs.toArray) (few:vs.length<=1) (add:∀v∈vs,∀B:Around,B.units<=A.units+12->Wm prog w B s v)
  (q:∀h' tk,(∀b o,s.heap.get? b=some o->h'.get? b=some o)->CT w h' s.heap.objs.size vs->Q (.ref s.heap.objs.size) { s with heap:=h',toks:=tk }):wpAny (model prog w) A (call (.type "set") [.ref lq]) Q E s:=by
 obtain⟨c,tl,hmro⟩:=PySem.F.called_set.mro;have hmade:=PySem.F.called_set.made;have hsub:=PySem.F.called_set.sub;refine wpAny_call (codeAny_of_tree (wpAny_pure ⟨Code.quiet_builtin _ (by decide +kernel),codeAny_builtin PySem.F.entry_type_call ?_⟩));rw[Around.under_plain (weight_type_call_type "set" [.ref lq] []) rfl];have h1:=PySem.F.called_set.notType;have h2:=PySem.F.called_set.canCreate;have hct:=PySem.F.typeCall_set_1 (.ref lq)
 repeat (any_goals (first|assumption|wp_step))
 refine codeAny_mono (JP (.ref lq) (E:=E) (Q₁:=fun obj s₁=>obj=.ref s.heap.objs.size/\s₁={ s with heap:=s.heap.push { cls:=.type "set",dict:=none,data:=.set #[] 0 (.fresh 0 0 (!AD w)) } }) ⟨rfl,rfl⟩) fun r s₁ hr=>?_
 match r,hr with
 | .error e,hr=>exact hr
 | .ok (.ret obj),hr=>
  obtain⟨rfl,rfl⟩:=hr;have hS:(s.heap.push { cls:=.type "set",dict:=none,data:=.set #[] 0 (.fresh 0 0 (!AD w)) }).get? s.heap.objs.size=some { cls:=.type "set",dict:=none,data:=.set #[] 0 (.fresh 0 0 (!AD w)) }:=Heap.get?_push_size _ rfl;have hT:Shared.TypeIs { s with heap:=s.heap.push { cls:=.type "set",dict:=none,data:=.set #[] 0 (.fresh 0 0 (!AD w)) } } (.ref s.heap.objs.size) "set":=⟨_,hS,rfl⟩
  have hli:=PySem.F.called_set.init.lookup;have hbi:=PySem.F.called_set.init.bind (.ref s.heap.objs.size)
  repeat (any_goals (first|assumption|wp_step))
  refine codeAny_mono (codeAny_call_builtin (R:=wants (fun r s₂=>r=.none/\∃h' tk,s₂={ s with heap:=h',toks:=tk }/\(∀b o,s.heap.get? b=some o->h'.get? b=some o)/\CT w h' s.heap.objs.size vs) E) PySem.F.called_set.init.plain PySem.F.entry_set_init (check_set_init_1 hT ?_)) fun r₂ s₂ hr₂=>?_
  ·obtain⟨⟨cl,dl,tl,sl⟩,el,hcl,nl,hdl⟩:=hl;simp only at hcl hdl;subst hcl;subst hdl;have el':=Heap.get?_push_of_some ({ cls:=.type "set",dict:=none,data:=.set #[] 0 (.fresh 0 0 (!AD w)) }:Obj) el;have lt:lq<s.heap.objs.size:=Heap.lt_size el;have l1:(s.heap.push { cls:=.type "set",dict:=none,data:=.set #[] 0 (.fresh 0 0 (!AD w)) }).IsList lq vs.toArray:=⟨_,el',rfl,nl,rfl⟩
   have n1:=PySem.F.sub_list_set;have n2:=PySem.F.sub_list_frozenset;have n3:(Value.type "list" == Value.type "dict")=false:=by decide
   unfold Builtin.«set.__init__» Builtin.Frozenset.updateFrom noKeywords;generalize ePI:pyIter=PI
   wp_walk
   subst ePI;refine wpAny_pyIter_list l1 (wpAny_bind (wpAny_runValue ?_));have nI:lq≠(s.heap.push { cls:=.type "set",dict:=none,data:=.set #[] 0 (.fresh 0 0 (!AD w)) }).objs.size:=by rw[Heap.size_push];exact Nat.ne_of_lt (Nat.lt_succ_of_lt lt)
   have nS:s.heap.objs.size∉[(s.heap.push { cls:=.type "set",dict:=none,data:=.set #[] 0 (.fresh 0 0 (!AD w)) }).objs.size,lq]:=by
    rw[Heap.size_push];simp only[List.mem_cons,List.not_mem_nil,or_false,not_or];exact⟨Nat.ne_of_lt (Nat.lt_succ_self _),Nat.ne_of_gt lt⟩
   have hA:A.in1.in1.in1.handled=none:=by simp[hh]
   have W:=Walks.list (prog:=prog) (w:=w) hA (s.heap.push { cls:=.type "set",dict:=none,data:=.set #[] 0 (.fresh 0 0 (!AD w)) }).objs.size lq nI vs.toArray;have W2:Walks prog w A.in1.in1.in1 (s.heap.push { cls:=.type "set",dict:=none,data:=.set #[] 0 (.fresh 0 0 (!AD w)) }).objs.size [(s.heap.push { cls:=.type "set",dict:=none,data:=.set #[] 0 (.fresh 0 0 (!AD w)) }).objs.size,lq] [(s.heap.push { cls:=.type "set",dict:=none,data:=.set #[] 0 (.fresh 0 0 (!AD w)) }).objs.size] vs.length (fun i v=>vs[i]?=some v) (fun i h=>h.IsListIter (s.heap.push { cls:=.type "set",dict:=none,data:=.set #[] 0 (.fresh 0 0 (!AD w)) }).objs.size lq i/\h.IsList lq vs.toArray):=by
    simpa only [List.size_toArray,List.getElem?_toArray] using W
   refine Qq (s0:=s) W2 nS few (fun b o e=>Heap.get?_push_of_some _ (Heap.get?_push_of_some _ e)) ?_ ⟨⟨_,Heap.get?_push_size _ rfl,rfl,rfl⟩,l1.push _⟩ (Heap.get?_push_of_some _ hS) (fun v hv=>add v hv _ (by have z:∀B:Around,B.in1.units=B.units+1:=fun _=>rfl;simp only[z];omega)) fun h' tk k' T=>?_
   ·cases z:s.heap.get? _ with
    |none=>rfl
    |some o=>exact absurd (Heap.lt_size z) (by rw[Heap.size_push];exact Nat.not_lt.mpr (Nat.le_succ _))
   refine wpAny_pure (wpAny_pure ⟨rfl,h',tk,rfl,fun b o e=>k' b o (fun z=>?_) (Heap.get?_push_of_some _ (Heap.get?_push_of_some _ e)),T⟩);have lb:=Heap.lt_size e;rw[Heap.size_push] at z;simp only[List.mem_cons,List.not_mem_nil,or_false] at z;rcases z with rfl|rfl
   ·exact absurd lb (Nat.lt_irrefl _)
   ·exact absurd lb (Nat.not_lt.mpr (Nat.le_succ _))
  ·match r₂,hr₂ with
   | .error e,hr₂=>exact hr₂
   | .ok (.ret r),hr₂=>
    obtain⟨rfl,h',tk,rfl,k',T⟩:=hr₂
    repeat (any_goals (first|assumption|wp_step))
    exact q _ _ k' T
   | .ok .next,hr₂=>exact hr₂.elim
end
end L2
namespace L2
section
open PySem PySem.Calls PyProof.Rows
variable {X:Cx}
def Mu (w:World)(p:Addr)(xs:List V):HO:=.ext fun h=>∃us,AN xs us/\CT w h p us
def Goes (H:Hp)(y:V):Prop:=(∃i,y=.int i)\/∃ts,hT 20 (.tup ts)=true/\Rep (fun _=>True) H (.tup ts) y
def V2 (w:World)(K:PySem.W.Frag):List V->Hp->VK->Prop:=fun xs H Q=>∃(a:Addr) (ys:List V),xs=[.ref a]/\AR K H a ys/\ys.length<=1/\(∀y∈ys,Goes H y)/\∀p,H p=none->Q (.ref p) (upd H p (Mu w p ys))
theorem KC {w:World}{K:PySem.W.Frag}(hw:X.w=w)(hK:X.K=K)(hc:X.calm=true)(hu9:X.A.units+150<cLine):Ct X (.type "set") (V2 w K):=by
 subst hw hK;intro pins s σ H xs us Q I r h;obtain⟨a,ys,rfl,h1,few,go,q⟩:=h;obtain⟨u,rfl,ru⟩:=vals1 r;cases ru;obtain⟨AC,r1,p1,_⟩:=I.list h1;have ln:=r1.length;refine SB (I.ok.hd hc) p1.isList (by omega) (fun v hv B hB S h' tk E Q k hS q=>?_) fun h' tk k T=>⟨.ref s.heap.objs.size,_,I.laid (t':=tk) k (Nat.le_refl _) (?_:AX X.prog X.w _ h' _ (Mu X.w s.heap.objs.size ys)),rfl,q _ (I.hok.fresh (Nat.le_refl _))⟩
 ·obtain⟨i,hi,e⟩:=List.getElem_of_mem hv;obtain⟨y,hy⟩:∃y,ys[i]?=some y:=⟨ys[i]'(by omega),List.getElem?_eq_getElem _⟩
  obtain⟨z,hz,rz⟩:=r1.get hy;rw[List.getElem?_eq_getElem hi,e] at hz;cases hz;rcases go y (List.mem_of_getElem? hy) with⟨n,rfl⟩|⟨ts,ht,hr⟩
  ·obtain⟨t,rfl⟩:=rz;exact add_int (s:={ s with heap:=h',toks:=tk }) rfl hS fun b h2 tk2 sb T=>q b h2 tk2 sb T
  ·have I':Inv X pins σ H { s with heap:=h',toks:=tk }:=I.kept k;obtain⟨x,vs,rfl,hx,hrs⟩:=id hr;cases rz;exact Sw (s:={ s with heap:=h',toks:=tk }) rfl hS (fun E Q q=>KN I' 20 _ B _ _ ht (by omega) hr rfl tk E Q q) (fun tk2 E Q q=>MH I' 20 8 _ B _ _ ht hr rfl tk2 E Q q) fun b h2 tk2 sb T=>q b h2 tk2 sb T
 ·exact⟨⟨AC,r1,T⟩,let⟨o,_,_,_,e,_⟩:=T;⟨o,e⟩,fun h1 h2 ⟨us,z1,z2⟩ kk=>⟨us,z1,z2.keep kk⟩⟩
def Wl (w:World):List V->Hp->VK->Prop:=fun xs H Q=>∃(a:Addr) (ys:List V),xs=[.ref a]/\H a=some (Mu w a ys)/\ys.length<=1/\Q (.int ys.length) H
theorem PH {w:World}(hw:X.w=w):Ct X (.builtin "len") (Wl w):=by
 subst hw;intro pins s σ H xs us Q I r h;obtain⟨a,ys,rfl,h1,few,q⟩:=h;obtain⟨u,rfl,ru⟩:=vals1 r;cases ru;obtain⟨⟨us,rv,o,es,ep,t,ho,hex,hd,hf,hl,hm⟩,_⟩:AX X.prog X.w H s.heap a (Mu X.w a ys):=I.hok a _ h1;have sz:es.size=ys.length:=by
  have:=congrArg List.length hm;rw[List.length_map,Array.length_toList] at this;rw[this];exact rv.length.symm
 refine Calls.call_function_entry kind_len plain_len entry_len (args_len1 _) (wpAny_len_body_set ho hex hd hf (by omega) ?_);rw[sz];exact⟨.int ys.length,H,(I.tok _),⟨_,rfl⟩,q⟩
def Vs (w:World):List V->Hp->VK->Prop:=fun xs H Q=>∃(a:Addr) (ns:List Int),xs=[.ref a]/\H a=some (Mu w a (ns.map V.int))/\ns.length<=1/\∀p,H p=none->Q (.ref p) (upd H p (.lst (ns.map V.int)))
theorem Nr {w:World}(hw:X.w=w)(hc:X.calm=true):Ct X (.builtin "sorted") (Vs w):=by
 subst hw;intro pins s σ H xs us Q I r h;obtain⟨a,ns,rfl,h1,few,q⟩:=h;obtain⟨u,rfl,ru⟩:=vals1 r;cases ru;obtain⟨⟨us,rv,o,es,ep,t,ho,hex,hd,hf,hl,hm⟩,_⟩:AX X.prog X.w H s.heap a (Mu X.w a (ns.map V.int)):=I.hok a _ h1;have sz:es.size=ns.length:=by
  have:=congrArg List.length hm;rw[List.length_map,Array.length_toList] at this;have:=rv.length;rw[List.length_map] at this;omega
 refine JD (Ii (by simpa using I.ok.hd hc) ⟨o,ho,hex.1,hd⟩ hf hl (fun z=>by omega) (by rw[sz];unfold scanBound;omega) fun h' d' tk vs k pv=>?_);rw[hm] at pv;have ev:vs=us:=by
  have lu:=rv.length;rw[List.length_map] at lu;have lv:=pv.length_eq
  match us,lu with
  |[],_=>exact List.perm_nil.mp pv
  |[u],_=>exact List.perm_singleton.mp pv
  |_::_::_,lu=>simp at lu;omega
 subst ev;have hs:=intsAre_of rv;have I1:Inv X pins σ H { s with heap:=h',drawn:=d',toks:=tk }:=(I.drew (d':=d')).kept (t':=tk) k;refine⟨ns,hs,.inl (by have:=hs.length;omega),fun h2 p out ns' c ho pe so lp k' e=>⟨.ref p,_,I1.laid (t':=tk) k' lp (?_:AX X.prog X.w _ h2 p (.lst (ns'.map V.int))),rfl,?_⟩⟩
 ·refine⟨?_,out,c,Hr ho,e⟩;rw[List.length_map,pe.length_eq,sizeLine_eq];omega
 ·have en:ns'=ns:=by
   match ns,few with
   |[],_=>exact List.perm_nil.mp pe
   |[n],_=>exact List.perm_singleton.mp pe
   |_::_::_,f=>simp at f
  rw[en];exact q p (I1.hok.fresh lp)
end
end L2
namespace L2
section
open PySem PySem.W PySem.Calls PyProof.Rows
variable {prog:Program}{w:World}{A:Around}{E:Value->Shared->Prop}{s:Shared}
theorem SU {vs:List Value}{p:Array Nat}(few:vs.length<=1)(hp:IH vs.length p):Fn vs p=vs:=by
 have h2:=hp.2;unfold Fn
 match vs,few,h2 with
 |[],_,h2=>rw[List.perm_nil.mp h2];rfl
 |[v],_,h2=>rw[List.perm_singleton.mp h2];rfl
 |_::_::_,few,_=>simp at few
theorem My {x:Value} {f:Addr} {Q:Value->Shared->Prop} (hc:wpAny (model prog w) A.in1 (collect x) (fun vs s1=>vs.length<=1/\
   (∀v∈vs,∀(h:Heap) (tk:Nat),(∀b o,s1.heap.get? b=some o->h.get? b=some o)->wpAny (model prog w) A.in1.in1 (call (.ref f) [v]) (fun _ s'=>∃h' tk',s'={ s1 with heap:=h',toks:=tk' }/\∀b o,h.get? b=some o->h'.get? b=some o) (fun _ _=>False) { s1 with heap:=h,toks:=tk })/\
   ∀h' tk p c,s1.heap.objs.size<=p->(∀b o,s1.heap.get? b=some o->h'.get? b=some o)->h'.get? p=some (seqObj "list" vs.toArray c)->Q (.ref p) { s1 with heap:=h',toks:=tk }) E s) :
  wpAny (model prog w) A (call (.builtin "sorted") [x] [(Str.ofString "key",.ref f)]) Q E s:=by
 refine call_function_entry_kw kind_sorted plain_sorted entry_sorted (ksk_s1 _ _) ?_;unfold Builtin.«sorted»;refine wpAny_bind (m:=checkCount "sorted" 1 1 _) (wpAny_pure (wpAny_bind (wpAny_mono hc (fun vs s1 z=>?_) fun _ _ e=>e)));obtain⟨few,turn,q⟩:=z;refine wpAny_bind (wpAny_newList ?_ (by rw[sizeLine_eq];omega));have there:(s1.heap.push (seqObj "list" vs.toArray 0)).get? s1.heap.objs.size=some (seqObj "list" vs.toArray 0):=Heap.get?_push_size _ rfl;have old2:∀b o,s1.heap.get? b=some o->b≠s1.heap.objs.size/\(s1.heap.push (seqObj "list" vs.toArray 0)).get? b=some o:=fun b o e=>⟨Nat.ne_of_lt (Heap.lt_size e),Heap.get?_push_of_some _ e⟩
 generalize s1.heap.push (seqObj "list" vs.toArray 0)=h2 at there old2 ⊢;refine wpAny_bind (wpAny_holding (wpAny_call_entry_kw (s:={ s1 with heap:=h2 }) slot_list_sort ⟨_,there,rfl⟩ entry_list_sort ?_ (ksk_l1 _ _)));rw[ksk_t1];refine Mx (s:={ s1 with heap:=h2 }) (lt:=fun _ _=>false) (Ky:=fun _ _=>True) there (by omega) (fun i v hv h3 tk k3=>?_) (fun ks h3 tk hl hK k3 l2=>absurd l2 (by omega)) fun p h3 tk c hp up k3 hc=>?_
 ·exact wpAny_mono (turn v (List.mem_of_getElem? hv) h3 tk fun b o e=>k3 b o (old2 b o e).1 (old2 b o e).2) (fun _ _ z=>⟨trivial,z⟩) fun _ _ z=>z
 ·rw[SU few hp] at hc;refine⟨_,rfl,?_⟩;exact wpAny_pure ⟨_,rfl,q h3 tk _ c (Nat.le_refl _) (fun b o e=>k3 b o (old2 b o e).1 (old2 b o e).2) hc⟩
end
section
open PySem PySem.Spec PyProof.Rows PySem.Calls
structure LamTc (x y:Str) (params:Arguments) (scope:Scope):Prop where
 bind:∀(qual:Str) (body:Expr) (cl:List (Str×Addr)) (pm cv ctv u:Value),bindArgs (PySem.W.kla_fn "<lambda>" qual params body scope cl pm cv ctv) ⟨[u],[]⟩=pure [(x,u)]
 dflt:∀env,defaultsOf params env=([],[])
 names:scope.names=[(x,.local),(y,.free)]
 kind:scope.kind=.function
 co:scope.isCoroutine=false
 ge:scope.isGenerator=false
 dx:(x == ("__debug__":Str))=false
 dy:(y == ("__debug__":Str))=false
 cy:(y == ("__classdict__":Str))=false
 ne:(y == x)=false
theorem LamTc.loc {x y:Str}{params:Arguments}{scope:Scope}(L:LamTc x y params scope):scope.names.lookup x=some .local:=by rw[L.names];simp[List.lookup]
theorem LamTc.free {x y:Str}{params:Arguments}{scope:Scope}(L:LamTc x y params scope):scope.names.lookup y=some .free:=by rw[L.names];simp[List.lookup,L.ne]
theorem LamTc.clos {x y:Str}{params:Arguments}{scope:Scope}(L:LamTc x y params scope){env:Env}{c:Addr}(h:env.cells.lookup y=some c):closureFor scope env=pure [(y,c)]:=by
 unfold closureFor;rw[L.names];simp[cellOf,h]
variable {X:Cx}{pins:List (Addr×Obj)}{σ:St}{H:Hp}{s:Shared}{A:Around}
theorem Qt {f b c c' d e:Addr} {qual x y:Str} {params:Arguments} {scope:Scope} {pm ctv:Value} {j:Nat} {q1 q2 q3 p2 p3:Pos} {kvs:List (List Key×V)} {k:List Key} {r:List V} {z:V} (L:LamTc x y params scope) (I:Inv X pins σ H s)
  (ho:s.heap.get? f=some (Lq qual params (.Subscript (.Subscript (.Name y q1) (.Name x q2) q3) (.Constant (.int j) 0 p2) p3) scope [(y,c)] pm (.ref c') ctv)) (hcd:s.heap.CodeRec (.ref c') qual) (room:A.depth<recursionLimit) (hu:A.units+20<cLine)
  (hc:s.heap.IsCell c (some (.ref d))) (hd:H d=some (.dT kvs)) (hb:H b=some (.tup (k.map kV))) (hv:BK kvs k=some (.ref e)) (he:H e=some (.tup r)) (hj:j<1000) (hz:r[j]?=some z) :
  wpAny (model X.prog X.w) A (call (.ref f) [.ref b]) (fun _ s'=>∃h' tk',s'={ s with heap:=h',toks:=tk' }/\∀b o,s.heap.get? b=some o->h'.get? b=some o) (fun _ _=>False) s:=by
 refine wpAny_call (PySem.W.kla_callFunE room ho rfl L.co L.ge rfl hcd ?_);rw[L.bind];refine wpAny_pure (wpAny_newFunctionEnv (fun y hy=>by rw[L.names] at hy;simp at hy;rcases hy with rfl|rfl<;>(intro z;cases z)) (fun y hy=>by rw[List.mem_singleton.mp hy];exact L.loc) (fun h₁ hns hsb=>⟨I.nolimit.fresh _ hsb,?_⟩) L.kind);have k1:∀b o,s.heap.get? b=some o->h₁.get? b=some o:=fun b o e=>hsb.extBut b o (Nat.ne_of_lt (Heap.lt_size e)) (Heap.get?_push_of_some _ e)
 show codeAny _ _ (.expr _ (PySem.W.envX qual scope s.heap.objs.size f (.ref c') [(y,c)])) _ _;have hcl:h₁.IsCell c (some (.ref d)):=let⟨o,e1,e2⟩:=hc;⟨o,k1 _ _ e1,e2⟩;have hvx:[(x,Value.ref b)].reverse.lookup x=some (.ref b):=by simp
 have I1:Inv X pins σ H { s with heap:=h₁,toks:=s.toks+1 }:=I.kept (t':=s.toks+1) k1;obtain⟨_,lo,xs,rel,dd⟩:=Uc I1.hok hd;obtain⟨w',hw,rw'⟩:=Hv.some_of (v:=.ref e) (o:=(atKey xs k).map (·.2)) (by rw[<-hv];exact rel.val k);obtain⟨p,hp,hp2⟩:=Option.map_eq_some_iff.mp hw;obtain⟨ys,r2,hy,_⟩:=I1.tuple (AE.of (K:=X.K) he);obtain⟨yv,hyj,_⟩:=r2.get hz;have l1:j<ys.toArray.size:=by
  have:=(List.getElem?_eq_some_iff.mp hyj).1;simpa using this
 cases(show w'=Value.ref e from rw');refine PySem.W.kla_codeExpr (Subscript_ (Subscript_ (wpAny_Name (wpAny_loadName_free (v:=.ref d) L.kind L.free (by simp) hcl ?_ L.cy) L.dy)));refine wpAny_Name (wpAny_loadName_local (v:=.ref b) (m:=fun y=>[(x,Value.ref b)].reverse.lookup y) L.kind L.loc hns hvx ?_) L.dx;refine subscriptTail_builtin dd.typeIs PySem.F.slot_dict_getitem.lookup (wpAny_getItem_heap (tupleKind_room_in1 (by rw[units_deeper];omega)) (Gx I1.hok hb) dd hp ?_);rw[hp2];refine wpAny_Constant_int ?_;exact subscriptTail_builtinR (x:=yv) hy.typeIs slot_tuple_getitem.lookup (getItem_tuple (j:=j) hy (by omega) (by omega) (by rw[seqIndex_of (by omega) (by omega)];simp) (by simpa using hyj) ⟨rfl,_,_,rfl,k1⟩)
def SZ (i:Nat)(P:Addr)(qual:Str)(lp:Pos)(j:Nat)(ta:TA):TE:=fun σ H Q=>ta σ H fun vs H1=>∃(d:Addr) (kvs:List (List Key×V)),vs=[.ref d]/\σ[i]?=some (some (.ref d))/\H1 d=some (.dT kvs)/\kvs.length<=1/\(∀kv∈kvs,BK kvs kv.1=some kv.2/\∃e r z,kv.2=.ref e/\H1 e=some (.tup r)/\r[j]?=some z)/\BJ P qual lp H1/\
 ∀(bs:List Addr) p H2,bs.length=kvs.length->(∀(i:Nat) k v b,kvs[i]?=some (k,v)->bs[i]?=some b->H2 b=some (.tup (k.map kV)))->Bh P H1 H2->BJ P qual lp H2->H2 p=none->Q (.ref p) (upd H2 p (.lst (bs.map V.ref)))
theorem PV {e:Expr} {ta:TA} {x y:Str} {params:Arguments} {scope:Scope} {i j:Nat} {P:Addr} {k:Nat} {p pos kp lp q1 q2 q3 p2 p3:Pos} {qual:Str} (hr:Room k X.A) (L:LamTc x y params scope) (hi:X.N[i]?=some y) (hcy:X.env.scope.names.lookup y=some .cell) (at_:LamAt X.K X.mg X.base X.env.code P) (hj:j<1000) (hq:X.env.qual++"<lambda>"=qual) (hc:X.calm=true) (hg:Gl X "sorted") (hm:X.mg "sorted"=none) (ha:PA X [e] ta)
  (he:backTo pos (starEach [e] X.env)=(false,eval e X.env)::backTo pos (starEach [] X.env):=by rfl)
  (hpl:(backTo pos (starEach [e] X.env)).any (·.1)=false:=by rfl) :
  PE X (.Call (.Name "sorted" p) [e] [⟨some "key",.Lambda params (.Subscript (.Subscript (.Name y q1) (.Name x q2) q3) (.Constant (.int j) 0 p2) p3) scope lp,kp⟩] pos) (SZ i P qual lp j ta):=by
 subst hq;intro pins s σ H Q I h;refine wpAny_Call_Name_kw (FP I hg hm DT (JK hpl rfl ?_));have hsp:=ha pos pins s σ H _ I h;rw[he] at hsp ⊢;refine evalArgs_kwB rfl (Bw hsp fun us s1 ⟨vs,H1,I1,r1,q1⟩=>?_);obtain⟨d,kvs,rfl,hs,hd,few,hk,tb,q⟩:=q1;obtain⟨u,rfl,ru⟩:=vals1 r1;cases ru;obtain⟨c,hcc⟩:=I1.ok.has y (.inl hcy);refine kws_cons (Mq L.dflt (L.clos hcc) at_ I1 tb fun f c' pm ctv H2 s2 I2 st tb2 hf hcr=>kws_nil ?_);have hd2:H2 d=some (.dT kvs):=st.get tb hd (by intro _ z;cases z);obtain⟨lo,hz,es,ep,x0,n,ks⟩:=Nz (kvs:=kvs) (I2.hok d _ hd2);have hcell:s2.heap.IsCell c (some (.ref d)):=by
  obtain⟨m,_,hl⟩:=I2.loc;obtain⟨u,ru,z⟩:=hl i y (.ref d) hi hs (.inr (.inl hcy));cases(show u=Value.ref d from ru);rcases z with⟨z,_⟩|⟨_,c2,z1,z2⟩
  ·rw[show X.env.kindOf y=some .cell from hcy] at z;cases z
  ·rw[hcc] at z1;cases z1;exact z2
 have tupT:∀b ys,H1 b=some (.tup ys)->H2 b=some (.tup ys):=fun b ys z=>st.get tb z (by intro _ z;cases z)
 refine My (Ik (Sb lo) (by simpa using I2.ok.hd hc) x0 (by rw[n];exact hz) fun h' tk us k lu it=>?_);have all:∀(i:Nat) (v:Value),us[i]?=some v->∃b k vv,v=.ref b/\kvs[i]?=some (k,vv)/\H2 b=some (.tup (k.map kV)):=fun i v e=>by
  obtain⟨e1,a1,rfl⟩:=it i v e;have lt:i<kvs.length:=by rw[<-n];exact(Array.getElem?_eq_some_iff.mp a1).1
  obtain⟨b,e2,a2,a3,a4⟩:=ks i kvs[i].1 kvs[i].2 (List.getElem?_eq_getElem lt);rw[a1] at a2;cases a2;exact⟨b,_,_,a3,List.getElem?_eq_getElem lt,a4⟩
 have eb:us=(us.map Q5).map Value.ref:=by
  rw[List.map_map];refine(List.map_id'' (fun v=>rfl) us).symm.trans (List.map_congr_left fun v hv=>?_);obtain⟨i,hi⟩:=List.getElem?_of_mem hv;obtain⟨b,_,_,rfl,_⟩:=all i v hi;rfl
 have ln:(us.map Q5).length=kvs.length:=by rw[List.length_map,lu,n]
 have I3:Inv X pins σ H2 { s2 with heap:=h',toks:=tk }:=I2.kept (t':=tk) k;refine⟨by rw[lu,n];exact few,fun v hv h4 tk4 k4=>?_,fun h4 tk4 p4 c4 l4 k4 hp4=>?_⟩
 ·obtain⟨i,hi⟩:=List.getElem?_of_mem hv;obtain⟨b,ky,vv,rfl,a2,a3⟩:=all i v hi;obtain⟨g1,e5,r5,z5,g2,g3,g4⟩:=hk _ (List.mem_of_getElem? a2);dsimp only at g1 g2;subst g2;have I4:Inv X pins σ H2 { s2 with heap:=h4,toks:=tk4 }:=I3.kept (t':=tk4) k4;have kk:∀b o,s2.heap.get? b=some o->h4.get? b=some o:=fun b o e=>k4 b o (k b o e)
  have cr:h4.CodeRec (.ref c') (X.env.qual++"<lambda>"):=by
   obtain⟨c2,o,vs,t,z1,z2,z3⟩:=hcr;exact⟨c2,o,vs,t,z1,kk _ _ z2,z3⟩
  have un:=hr.un;have hcell4:h4.IsCell c (some (.ref d)):=let⟨o,e1,e2⟩:=hcell;⟨o,kk _ _ e1,e2⟩;exact Qt (A:=X.A.in1.in1) L I4 (kk _ _ hf) cr hr.depth (by rw[units_in1,units_in1];omega) hcell4 hd2 a3 g1 (tupT _ _ g3) hj g4
 ·refine⟨.ref p4,_,I3.laid (t':=tk4) (o:=.lst ((us.map Q5).map V.ref)) k4 l4 ?_,rfl,q (us.map Q5) p4 H2 ln (fun i k v b e1 e2=>?_) st tb2 (I3.hok.fresh l4)⟩
  ·refine⟨?_,us,c4,?_,hp4⟩
   ·rw[List.length_map,ln];exact hz
   ·have:=KQ (us.map Q5);rw[<-eb] at this;exact this
  ·rw[List.getElem?_map] at e2;cases e3:us[i]? with
   |none=>rw[e3] at e2;cases e2
   |some u=>
    rw[e3] at e2;obtain⟨b',k',vv,rfl,a2,a3⟩:=all i u e3;rw[e1] at a2;cases a2;cases(show b'=b from Option.some.inj e2);exact a3
def Wk (X:Cx)(t:TE):TE:=fun σ H Q=>t σ H fun x H'=>∃d o kvs,(∀o u,X.H₀ d≠some (.frz o u))/\H' d=some (.frz o (.dT kvs))/\Q x (upd H' d (.dT kvs))
theorem IL {e:Expr}{t:TE}(h:PE X e t):PE X e (Wk X t):=by
 intro pins s σ H Q I q;refine Bw (h pins s σ H _ I q) fun v s' ⟨x,H',I',r,d,o,kvs,nf,hd,q⟩=>?_
 exact⟨x,_,I'.thawT hd nf,r,q⟩
def VL (K:PySem.W.Frag)(ta:TA)(te:TE):TE:=fun σ H Q=>ta σ H fun vs H1=>te σ H1 fun y H2=>∃(a:Addr) (ns:List Int) (n:Int),vs=[.ref a]/\y=.int n/\AR K H2 a (ns.map V.int)/\Q (.int (if ns=[] then n else Ls ns)) H2
theorem SE {l e:Expr} {ta:TA} {te:TE} {p pos kp:Pos} (hc:X.calm=true) (hg:Gl X "max") (hm:X.mg "max"=none) (ha:PA X [l] ta) (hE:PE X e te)
  (he:backTo pos (starEach [l] X.env)=(false,eval l X.env)::backTo pos (starEach [] X.env):=by rfl)
  (hpl:(backTo pos (starEach [l] X.env)).any (·.1)=false:=by rfl) :
  PE X (.Call (.Name "max" p) [l] [⟨some "default",e,kp⟩] pos) (VL X.K ta te):=by
 intro pins s σ H Q I h;refine wpAny_Call_Name_kw (FP I hg hm UP (JK hpl rfl ?_));have hsp:=ha pos pins s σ H _ I h;rw[he] at hsp ⊢;refine evalArgs_kwB rfl (Bw hsp fun us s1 ⟨vs,H1,I1,r1,q1⟩=>?_);refine kws_cons (Bw (hE pins s1 σ H1 _ I1 q1) fun dv s2 ⟨y,H2,I2,ry,q2⟩=>kws_nil ?_);obtain⟨a,ns,n,rfl,rfl,hq,q⟩:=q2;obtain⟨u,rfl,ru⟩:=vals1 r1;cases ru;obtain⟨tn,rfl⟩:=ry;obtain⟨AC,rv,p1,hz⟩:=I2.list hq;have hi:=intsAre_of rv;have ln:AC.length=ns.length:=IntsAre.length hi;refine Pk (items:=AC.toArray) (d:=.int n tn) (I2.ok.hd hc) p1.isList (fun i=>ns.getD i 0) (fun i v e=>Jg hi (by simpa using e)) fun r h' tk hr k=>?_
 obtain⟨t,rfl⟩:∃t,r=Value.int (if ns=[] then n else Ls ns) t:=by
  rcases hr with⟨h0,rfl⟩|⟨h0,h1⟩
  ·have:ns=[]:=List.eq_nil_of_length_eq_zero (by rw[<-ln];simpa using h0);subst this;exact⟨_,rfl⟩
  ·have h2:0<ns.length:=by rw[<-ln];simpa using h0
   obtain⟨t,e⟩:=Jg hi (i:=argBest (fun i j=>decide (ns.getD j 0<ns.getD i 0)) (ns.length-1)) (v:=r) (by rw[<-ln];simpa using h1);have:=(Kd ns (ns.length-1) (by omega)).2;rw[show ns.length-1+1=ns.length by omega,List.take_length] at this;refine⟨t,?_⟩;rw[if_neg (fun z=>by rw[z] at h2;exact absurd h2 (Nat.lt_irrefl 0)),e,this]
 exact⟨.int (if ns=[] then n else Ls ns),H2,I2.kept (t':=tk) k,⟨t,rfl⟩,q⟩
def Vz (K:PySem.W.Frag)(a:Addr)(xs:List V):It:=⟨fun i H=>AR K H a xs/\i<xs.length,fun i H x H'=>H'=H/\xs[xs.length-1-i]?=some x,fun i H=>AR K H a xs/\xs.length=i⟩
theorem Rq {P:Program}{w:World}{K:PySem.W.Frag}{tg:Expr}(a it:Addr)(xs:List V):Turn P w K tg (Vz K a xs) [it] it (fun i h=>h.IsRevIter it a ((xs.length:Int)-1-(i:Int))) where
 mem:=by simp
 obj:=fun i h st b hb=>by
  have e:b=it:=by simpa using hb
  subst e;obtain⟨o,e,c,d⟩:=st;exact⟨o,e,fun v z=>by rw[d] at z;cases z⟩
 keep:=fun i h h' st k=>st.at fun o e=>k it (by simp) o e
 item:=by
  intro X hP hw hK hc i pins s σ H E I hf st hg;subst hP hw hK;obtain⟨hq,hi⟩:=hg;obtain⟨AC,rv,p,hz⟩:=I.list hq;have hx:xs[xs.length-1-i]?=some (xs[xs.length-1-i]'(by omega)):=List.getElem?_eq_getElem (by omega);obtain⟨u,hu,ru⟩:=rv.get hx;obtain⟨f0,f1,f2,f3,f4,f5⟩:=hf it (by simp);rw[show(xs.length:Int)-1-(i:Int)=((xs.length-1-i:Nat):Int) by omega] at st;refine wpAny_pyNext_rev_item st p.isList (x:=u) (by simpa using hu) fun h' st' sb=>?_
  rw[show((xs.length-1-i:Nat):Int)-1=(xs.length:Int)-1-((i+1:Nat):Int) by omega] at st';have I1:Inv X pins σ H { s with heap:=h' }:=I.turned (t':=s.toks) (fun b o hb e=>(sb.2 b hb).trans e) f0 f1 f3 f4 f5;obtain⟨o,e,c,d⟩:=id st';exact⟨u,rfl,JH (s:={ s with heap:=h' }) e c d (by decide) ⟨_,H,I1,ru,⟨rfl,hx⟩,st',fun b hb=>(hf b hb).1⟩⟩
 done:=by
  intro X hP hw hK hc i pins s σ H E I hf st hg;subst hP hw hK;obtain⟨hq,hx⟩:=hg;obtain⟨f0,f1,f2,f3,f4,f5⟩:=hf it (by simp);rw[show(xs.length:Int)-1-(i:Int) = -1 by omega] at st;exact wpAny_pyNext_rev_end (I.ok.hd hc) st fun h' eb=>⟨rfl,I.turned (t':=s.toks) (fun b o hb e=>eb b o hb e) f0 f1 f3 f4 f5⟩
 self:=fun _ _ _ _ _ st h=>wpAny_pyIter_revIter st h
def WN (K:PySem.W.Frag)(ta:TA):TI:=fun σ H R=>ta σ H fun vs H1=>∃a xs,vs=[.ref a]/\AR K H1 a xs/\R (Vz K a xs) H1
theorem Vd {tg l:Expr}{ta:TA}{p pos:Pos}(hg:Gl X "reversed")(hm:X.mg "reversed"=none)(ha:PA X [l] ta)(hs:starEach [l] X.env=[(false,eval l X.env)]:=by rfl):PI X tg (.Call (.Name "reversed" p) [l] [] pos) (WN X.K ta):=by
 intro pins s σ H R I h;refine Call_ (FP I hg hm MG (PyProof.Rows.callWith_type1 (Bw (ha pos pins s σ H _ I h) fun us s1 ⟨vs,H1,I1,r1,q1⟩=>?_) hs rfl));obtain⟨a,xs,rfl,hq,q⟩:=q1;obtain⟨u,rfl,ru⟩:=vals1 r1;cases ru;obtain⟨AC,rv,pl,hz⟩:=I1.list hq;have ln:=rv.length;refine call_reversed_list pl.isList ?_;have hit:(s1.heap.push (revObj a ((AC.toArray.size:Int)-1))).IsRevIter s1.heap.objs.size a ((xs.length:Int)-1-((0:Nat):Int)):=⟨_,Heap.get?_push_size _ rfl,rfl,by rw[ln];simp[revObj]⟩
 refine wpAny_pyIter_revIter hit ?_;refine⟨s1.heap.objs.size,[s1.heap.objs.size],_,Vz X.K a xs,H1,rfl,I1.kept (t':=s1.toks) fun b o e=>Heap.get?_push_of_some _ e,Rq a _ xs,hit,fun b hb=>?_,q⟩;have e:b=s1.heap.objs.size:=by simpa using hb
 subst e;exact I1.fpOk (Nat.le_refl _) (I1.hok.fresh (Nat.le_refl _))
theorem TL {K:PySem.W.Frag} {a:Addr} {xs:List V} {g:TG} {tb:TS} {D:Ends} {σ:St} {H:Hp} (Pv:Nat->St->Hp->Prop) (h0:Pv 0 σ H) (hl:∀(i:Nat) (σ:St) (H:Hp),i<=xs.length->Pv i σ H->AR K H a xs)
  (turn:∀(i:Nat) (x:V) (σ:St) (H:Hp),xs[xs.length-1-i]?=some x->Pv i σ H->g x σ H fun σ2 H2=>tb { nx:=Pv (i+1),rt:=D.rt,bk:=D.nx,ct:=Pv (i+1) } σ2 H2)
  (done:∀(σ:St) (H:Hp),Pv xs.length σ H->D.nx σ H) :
  ∃W:Nat->Nat->St->Hp->Prop,(∃m,W 0 m σ H)/\∀i m σ H,W i m σ H->
   ((Vz K a xs).stop i H/\D.nx σ H)\/((Vz K a xs).go i H/\∃N:St->Hp->Prop,(∀σ' H',N σ' H'->∃m',m'<m/\W (i+1) m' σ' H')/\∀x H',(Vz K a xs).yld i H x H'->g x σ H' fun σ2 H2=>tb { D with nx:=N,ct:=N,bk:=D.nx } σ2 H2):=by
 refine⟨fun i m σ H=>m=xs.length-i/\i<=xs.length/\Pv i σ H,⟨_,rfl,Nat.zero_le _,h0⟩,?_⟩
 rintro i m σ H ⟨rfl,hi,hp⟩
 by_cases hlt:i<xs.length
 ·refine .inr ⟨⟨hl i σ H hi hp,hlt⟩,Pv (i+1),fun σ' H' hn=>⟨xs.length-(i+1),by omega,rfl,hlt,hn⟩,?_⟩
  rintro x H' ⟨rfl,hx⟩
  exact turn i x σ _ hx hp
 ·have e:i=xs.length:=by omega
  subst e;exact .inl ⟨⟨hl _ σ H hi hp,rfl⟩,done σ H hp⟩
theorem NP {d:Addr} {o:Obj} {kvs:List (List Key×V)} {fr:List (Option Nat)} {k:Nat} {te:TE} {Q:VK} {σ:St} {H:Hp} (hd:H d=some (.frz o (.dT kvs))) (few:kvs.length<=1) (nil:kvs=[]->∀l,H l=none->Q (.ref l) (upd H l (.lst [])))
  (one:∀ky v b l (R:VK),kvs=[(ky,v)]->H l=none->H b=some (.tup (ky.map kV))->(∀y H4,H4 l=some (.lst [])->H4 d=some (.frz o (.dT kvs))->Q (.ref l) (upd H4 l (.lst [y]))->R y H4)->te ((stC fr σ).set k (some (.ref b))) (upd H l (.lst [])) R):Dd fr (A4 k) MV te σ Q (Vl d o kvs) H:=by
 intro l hl;have nl:d≠l:=fun z=>by rw[z,hl] at hd;cases hd
 have hd1:(upd H l (.lst [])) d=some (.frz o (.dT kvs)):=by rw[Aj nl];exact hd
 refine⟨fun i m σ' H'=>(i=0/\m=1/\σ'=stC fr σ/\H'=upd H l (.lst []))\/(i=1/\m=0/\kvs.length=1/\Q (.ref l) H'/\H' d=some (.frz o (.dT kvs))),⟨1,.inl ⟨rfl,rfl,rfl,rfl⟩⟩,?_⟩
 rintro i m σ' H' (⟨rfl,rfl,rfl,rfl⟩|⟨rfl,rfl,e,q,hd'⟩)
 ·by_cases e0:kvs.length=0
  ·exact .inl ⟨⟨hd1,Nat.le_of_eq e0⟩,nil (List.length_eq_zero_iff.mp e0) l hl⟩
  ·have e1:kvs.length=1:=by omega
   refine .inr ⟨⟨hd1,by omega⟩,fun x H' y=>?_⟩;obtain⟨rfl,ky,v,b,ek,rfl,hb⟩:=y;have ekv:kvs=[(ky,v)]:=by
    match kvs,e1,ek with
    |[p],_,ek=>cases(show p=(ky,v) from by simpa using ek);rfl
   have hb0:H b=some (.tup (ky.map kV)):=by
    rw[Aj fun z=>by rw[z,Ad] at hb;cases hb] at hb;exact hb
   show te ((stC fr σ).set k (some (.ref b))) _ _;exact one ky v b l _ ekv hl hb0 fun y H4 h1 h2 h3=>⟨[],h1,CV (by show 0+1<=1000000;decide),0,Nat.one_pos,.inr ⟨rfl,rfl,e1,h3,by rw[Aj nl];exact h2⟩⟩
 ·exact .inl ⟨⟨hd',by omega⟩,q⟩
def Vo (K:PySem.W.Frag):List V->Hp->VK->Prop:=fun xs H Q=>∃p ys,xs=[.ref p]/\((AR K H p ys/\∀l,H l=none->Q (.ref l) (upd H l (.tup ys)))\/(AE K H p ys/\Q (.ref p) H))
theorem Jv {K:PySem.W.Frag}(hK:X.K=K):Ct X (.type "tuple") (Vo K):=by subst hK;exact Cv
end
end L2
set_option maxHeartbeats 4000000
namespace K67
local macro_rules | `(!$x) => do
  let (f, a) ← match x with | `($f:ident $a*) => pure (f, a) | `($f:ident) => pure (f, #[]) | _ => Lean.Macro.throwUnsupported
  let some (n, m, t) := ([([`Ab, `Aw, `AB, `Ho, `FY], 1, 0, ""), ([`S3, `II, `DG, `Ht], 2, 0, ""), ([`Ag, `AH, `Et, `Vb, `Gd, `IL], 3, 0, ""), ([`Vj, `Al, `AI, `Bs, `A1, `LH, `Ac, `B5, `Bb, `Bf, `IK, `C0, `FF], 4, 0, ""), ([`Ec], 4, 2, "r"), ([`Jr, `AG], 4, 3, "d"), ([`BS], 4, 5, "dd"), ([`Bq, `Ae, `Av, `LZ], 5, 0, ""), ([`Aa, `BF], 5, 3, "r"), ([`LF, `DI, `T6], 6, 0, ""), ([`HP, `Vd], 6, 4, "r"), ([`NA], 6, 4, "rr"), ([`A8, `BO, `Am, `Qf, `K3], 7, 0, ""), ([`AU, `AK, `AO, `CA, `IE], 8, 0, ""), ([`A5], 8, 4, "f"), ([`SE], 8, 7, "rr"), ([`Q6], 9, 0, ""), ([`Sv], 9, 5, "f"), ([`Ak, `A9], 9, 9, "ddrr"), ([`EG], 10, 0, ""), ([`Au], 10, 7, "drr"), ([`TH], 11, 0, ""), ([`Qg, `IU], 12, 0, ""), ([`GX], 12, 11, "rrrrr")] : List (List Lean.Name × Nat × Nat × String)).findSome? (fun (l, n) => if l.contains f.getId then some n else none) | Lean.Macro.throwUnsupported
  let u ← `(_)
  let us := Array.replicate n u
  let mut p := #[]
  for c in t.toList.drop (t.length + a.size - m) do
    let v ← if c == 'r' then `(by rfl) else if c == 'd' then `(by decide) else if c == 'f' then `(rfl) else `(by trivial)
    p := p.push v
  `(@$f $us* $a* $p*)
set_option hygiene false
local macro_rules | `(tactic| exists $t) => `(tactic| refine F.ok $t (fun vs H Q E h => ?_) (fun cdv A outer s H vs Q E hr h => ?_))
set_option hygiene true
local macro_rules | `(tactic| trivial) => `(tactic| first | exact .inl rfl | exact .inr rfl | assumption | exact ⟨rfl, rfl, rfl, by decide +kernel, rfl, by decide +kernel, by decide +kernel⟩ | exact L2.Room.mono (by assumption) (by decide))
open PySem L2
theorem Nj : 0 <= sizeLine := small (by decide)
theorem V8 : 1 <= sizeLine := small (by decide)
theorem Ms : 2 <= sizeLine := small (by decide)
theorem Vh : 3 <= sizeLine := small (by decide)
theorem W9 : 4 <= sizeLine := small (by decide)
theorem WV : 6 <= sizeLine := small (by decide)
def top (i:Nat):Stmt:=PySem.Challenge.pw_stemshelf_k67_anything_looked_at.main.body.getD i (.Pass ⟨0,0,0,0⟩)
abbrev Dn:Stmt:=top 1
theorem MS:FnScope ["thing"] ["thing"] (Af Dn):=by trivial
abbrev Cb:Stmt:=top 2
theorem J6:FnScope ["thing","least","most"] ["thing","least","most"] (Af Cb):=by trivial
abbrev BW:Stmt:=top 3
theorem JM:FnScope ["thing","many"] ["thing","many"] (Af BW):=by trivial
abbrev CG:Stmt:=top 6
theorem Ly:FnScope ["sign"] ["sign"] (Af CG):=by trivial
abbrev DL:Stmt:=top 7
theorem N8:FnScope ["thing","least","most"] ["thing","least","most"] (Af DL):=by trivial
abbrev DJ:Stmt:=top 30
theorem Nw:FnScope ["thing"] ["thing"] (Af DJ):=by trivial
abbrev EH:Stmt:=top 31
theorem Pj:FnScope ["thing"] ["thing"] (Af EH):=by trivial
abbrev Dm:Stmt:=top 32
theorem Mr:FnScope ["thing"] ["thing"] (Af Dm):=by trivial
abbrev BI:Stmt:=top 33
theorem Iz:FnScope ["thing","level"] ["thing","level"] (Af BI):=by trivial
abbrev B0:Stmt:=top 34
theorem FO:FnScope ["thing","names"] ["thing"] (Af B0):=by trivial
abbrev Di:Stmt:=top 35
theorem MB:FnScope ["thing"] ["thing"] (Af Di):=by trivial
abbrev EA:Stmt:=top 36
theorem FX:FnScope ["block","total","number"] ["block"] (Af EA):=by trivial
abbrev BL:Stmt:=top 37
theorem BR:FnScope ["block","told","name","kind","tag"] ["block"] (Af BL):=by trivial
abbrev Pr:Stmt:=top 38
theorem U2:FnScope ["block"] ["block"] (Af Pr):=by trivial
abbrev DP:Stmt:=top 39
theorem NG:FnScope ["block"] ["block"] (Af DP):=by trivial
abbrev DK:Stmt:=top 49
theorem N7:FnScope ["thing"] ["thing"] (Af DK):=by trivial
abbrev BY:Stmt:=top 50
theorem Jz:FnScope ["thing"] ["thing"] (Af BY):=by trivial
abbrev CI:Stmt:=top 51
theorem LR:FnScope ["thing"] ["thing"] (Af CI):=by trivial
abbrev Cd:Stmt:=top 52
theorem Gh:FnScope ["named","names"] ["named"] (Af Cd):=by trivial
abbrev CH:Stmt:=top 53
theorem Lu:FnScope ["thing"] ["thing"] (Af CH):=by trivial
abbrev DN:Stmt:=top 54
theorem NX:FnScope ["thing"] ["thing"] (Af DN):=by trivial
abbrev DS:Stmt:=top 55
theorem N2:FnScope ["thing"] ["thing"] (Af DS):=by trivial
abbrev Ci:Stmt:=top 56
theorem BX:FnScope ["keepers","names","stems","seals","called","turns","begins"] ["keepers","names"] (Af Ci):=by trivial
abbrev Dc:Stmt:=top 58
theorem Mf:FnScope ["head"] ["head"] (Af Dc):=by trivial
abbrev Do:Stmt:=top 59
theorem Ie:FnScope ["head","stem","seals"] ["head","stem"] (Af Do):=by trivial
abbrev CN:Stmt:=top 60
theorem E9:FnScope ["head","keeper","tags","stem"] ["head","keeper"] (Af CN):=by trivial
abbrev DQ:Stmt:=top 64
theorem GB:FnScope ["account","head","cells"] ["account"] (Af DQ):=by trivial
abbrev CL:Stmt:=top 65
theorem Hg:FnScope ["thing","numbers"] ["thing"] (Af CL):=by trivial
abbrev DR:Stmt:=top 66
theorem Od:FnScope ["thing"] ["thing"] (Af DR):=by trivial
abbrev CF:Stmt:=top 67
theorem G0:FnScope ["head","cells","tag"] ["head","cells"] (Af CF):=by trivial
abbrev Dh:Stmt:=top 68
theorem MX:FnScope ["cells","tag"] ["cells","tag"] (Af Dh):=by trivial
abbrev BV:Stmt:=top 69
theorem D4:FnScope ["cells","tag","beneath"] ["cells"] (Af BV):=by trivial
abbrev Ck:Stmt:=top 70
theorem J2:FnScope ["cells"] ["cells"] (Af Ck):=by trivial
abbrev CK:Stmt:=top 71
theorem Fg:FnScope ["cells","tag","block"] ["cells"] (Af CK):=by trivial
abbrev Cj:Stmt:=top 74
theorem Cw:FnScope ["head","cells","counts","tag","named"] ["head","cells"] (Af Cj):=by trivial
abbrev BU:Stmt:=top 75
theorem Bo:FnScope ["head","cells","due","keeper","bound","tag","named"] ["head","cells"] (Af BU):=by trivial
abbrev Cn:Stmt:=top 76
theorem J1:FnScope ["head","cells","shares"] ["head","cells","shares"] (Af Cn):=by trivial
abbrev CD:Stmt:=top 79
theorem C6:FnScope ["head","cells","entries","steps","tag","name","kind","named","roots"] ["head","cells"] (Af CD):=by trivial
abbrev BH:Stmt:=top 80
theorem Dx:FnScope ["cells","signs","tag","block","files"] ["cells"] (Af BH):=by trivial
abbrev Dk:Stmt:=top 83
theorem Ds:FnScope ["_law_cell","_law_many","_law_found","_law_k","_law_number"] ["_law_cell","_law_many"] (Af Dk):=by trivial
abbrev By:Stmt:=top 84
theorem Dq:FnScope ["_law_row_here","_law_at","_law_deep","_law_way","_law_some"] ["_law_row_here","_law_at","_law_deep"] (Af By):=by trivial
abbrev BN:Stmt:=top 85
theorem Hx:FnScope ["_law_thing_here"] ["_law_thing_here"] (Af BN):=by trivial
abbrev BM:Stmt:=top 86
theorem GT:FnScope ["_law_one","_law_other"] ["_law_one","_law_other"] (Af BM):=by trivial
abbrev Bt:Stmt:=top 87
theorem HR:FnScope ["_law_thing_here"] ["_law_thing_here"] (Af Bt):=by trivial
abbrev Hj:Stmt:=top 88
theorem CS:FnScope ["_law_script","_law_cell","_law_row_here","_law_odd","_law_age","_law_some","_law_cells","_law_names","_law_at","_law_thing_here","_law_handed","_law_found"] ["_law_script"] (Af Hj):=by trivial
structure Txt (K:W.Frag) (mg:Str->Option Value):Prop where
 b_all:mg "all"=none
 b_bool:mg "bool"=none
 b_dict:mg "dict"=none
 b_int:mg "int"=none
 b_isinstance:mg "isinstance"=none
 b_len:mg "len"=none
 b_list:mg "list"=none
 b_max:mg "max"=none
 b_min:mg "min"=none
 b_range:mg "range"=none
 b_reversed:mg "reversed"=none
 b_set:mg "set"=none
 b_sorted:mg "sorted"=none
 b_str:mg "str"=none
 b_sum:mg "sum"=none
 b_tuple:mg "tuple"=none
 c_SIGNS:∃t,mg "SIGNS"=some (.str (PySem.Str.ofString " !\"#$&'()*+,-./0123456789:;<=>?@ABCDEFGHIJKLMNOPQRSTUVWXYZ[\\]^_`abcdefghijklmnopqrstuvwxyz{|}~") t)
 c_MOST_NUMBER:∃t,mg "MOST_NUMBER"=some (.int 999999999 t)
 c_MOST_SIGNS:∃t,mg "MOST_SIGNS"=some (.int 400 t)
 c_PIECE:∃t,mg "PIECE"=some (.int 0 t)
 c_ROW:∃t,mg "ROW"=some (.int 1 t)
 c_FOLDER:∃t,mg "FOLDER"=some (.int 2 t)
 c_FILE_ENTRY:∃t,mg "FILE_ENTRY"=some (.int 1 t)
 c_FOLDER_ENTRY:∃t,mg "FOLDER_ENTRY"=some (.int 2 t)
 c_NAME_SIGNS:∃t,mg "NAME_SIGNS"=some (.str (PySem.Str.ofString "0123456789abcdefghijklmnopqrstuvwxyz") t)
 c_MOST_NAME_SIGNS:∃t,mg "MOST_NAME_SIGNS"=some (.int 8 t)
 c_MOST_CELL:∃t,mg "MOST_CELL"=some (.int 999999 t)
 c_MOST_BIRTH:∃t,mg "MOST_BIRTH"=some (.int 999999999 t)
 c_SUM_RESTS:∃t,mg "SUM_RESTS"=some (.int 997 t)
 c_MOST_PIECE_SIGNS:∃t,mg "MOST_PIECE_SIGNS"=some (.int 8 t)
 c_MOST_LEVEL:∃t,mg "MOST_LEVEL"=some (.int 9 t)
 c_MOST_TAGS:∃t,mg "MOST_TAGS"=some (.int 8 t)
 c_MOST_ENTRIES:∃t,mg "MOST_ENTRIES"=some (.int 16 t)
 c_STEM:∃t,mg "STEM"=some (.int 1 t)
 c_SEAL:∃t,mg "SEAL"=some (.int 2 t)
 c_MOST_KEEPERS:∃t,mg "MOST_KEEPERS"=some (.int 8 t)
 c_MOST_NAMES:∃t,mg "MOST_NAMES"=some (.int 24 t)
 c_MOST_TREE_ENTRIES:∃t,mg "MOST_TREE_ENTRIES"=some (.int 60 t)
 c_MOST_TREE_DEEP:∃t,mg "MOST_TREE_DEEP"=some (.int 8 t)
abbrev EM:Str:=PySem.Str.ofString ""
abbrev WH:Str:=PySem.Str.ofString ""
abbrev SG:Str:=PySem.Str.ofString " !\"#$&'()*+,-./0123456789:;<=>?@ABCDEFGHIJKLMNOPQRSTUVWXYZ[\\]^_`abcdefghijklmnopqrstuvwxyz{|}~"
theorem Vm:SG.cps.toList.length=94:=by decide +kernel
theorem SX:∀k:Nat,k<94->PySem.Txt.find SG ⟨#[SG.cps.toList.getD k 0]⟩=(k:Int):=by decide +kernel
section
variable {P:Program}{w:World}{K:W.Frag}{mg:Str->Option Value}{base:Heap}{f:Addr}{fd:FuncData}
def Dr (K:W.Frag):Sp:=fun vs H Q _=>∃v,vs=[v]/\Ok H v/\Q (.bl (E5 H v)) H
theorem L9 (T:Txt K mg)(F:Fun K "is_whole" "is_whole" Dn f fd):FnOk P w K mg base CP 1 f fd ["thing"] (Dr K):=by
 exists MS
 ·obtain⟨c,rfl,_⟩:=h;rfl
 obtain⟨v,rfl,ok,q⟩:=h;refine⟨_,(!Ag (!Al (!A8 (!Ak AJ (by rfl) T.b_isinstance Ax (!Aa (pv 0) (!Aa (!BS rfl T.b_int RQ) (!Ab)))) (!Bq (!Vj (!Ak AJ (by rfl) T.b_isinstance Ax (!Aa (pv 0) (!Aa (!BS rfl T.b_bool Hs) (!Ab))))))))),?_⟩;exact Gb _ _ (fun R q=>⟨_,rfl,_,_,_,_,rfl,ok.ty K,ok.kit K,q⟩) (fun _ R q=>⟨_,rfl,_,_,_,_,rfl,ok.ty K,ok.kit K,_,rfl,q⟩) q
def Bc (K:W.Frag):Sp:=fun vs H Q _=>∃v a b,vs=[v,.int a,.int b]/\Ok H v/\Q (.bl (BD a b v)) H
theorem J0 (T:Txt K mg)(F:Fun K "is_between" "is_between" Cb f fd)(BA:Def P w K mg base 1 "is_whole" ["thing"] (Dr K)):FnOk P w K mg base CP 2 f fd ["thing","least","most"] (Bc K):=by
 exists J6
 ·obtain⟨v,a,b,rfl,_⟩:=h;rfl
 obtain⟨v,a,b,rfl,ok,q⟩:=h;refine⟨_,(!Ag (!Al (!A8 (!Au BA (by trivial) rfl (!Aa (pv 0) (!Ab))) (!Bq (!Qg IY IY (pv 1) (pv 0) (pv 2) (by with_unfolding_all rfl)))))),?_⟩;refine Gb (E5 H v) (BD a b v) (fun R q=>⟨_,rfl,v,rfl,ok,q⟩) (fun hw R q=>?_) ?_
 ·obtain⟨i,rfl⟩:=Q1 ok hw;refine⟨_,rfl,_,rfl,_,_,rfl,rfl,_,rfl,?_⟩;refine DH (fun c=>?_) (fun c=>?_)
  ·have e:BD a b (.int i)=decide (i<=b):=by show(decide (a<=i)&&decide (i<=b))=_;rw[c];rfl
   rw[e] at q;exact⟨_,rfl,_,_,rfl,rfl,q⟩
  ·have e:BD a b (.int i)=false:=by show(decide (a<=i)&&decide (i<=b))=_;rw[Bool.eq_false_iff.mpr c];rfl
   rw[e] at q;exact q
 ·cases hw:E5 H v with
  |true=>exact q
  |false=>rw[S2 hw] at q;exact q
def B9 (t:Str)(z:Str):Bool:=(Iq z).all fun c=>decide (c∈Iq t)
def Fm (a b:Int):V->Bool
 | .str z=>decide (a<=(z.length:Int))&&decide ((z.length:Int)<=b)&&B9 SG z
 |_=>false
theorem Rr {H:Hp}{v:V}{a b:Int}(h:isA (Eg H v) "str"=false):Fm a b v=false:=by
 cases v with
 |str z=>exact absurd (show isA "str" "str"=false from h) (by decide)
 |_=>rfl
def E7 (K:W.Frag):Sp:=fun vs H Q _=>∃v a b,vs=[v,.int a,.int b]/\Ok H v/\∀H',Ah H H'->Q (.bl (Fm a b v)) H'
theorem Kh (t z:Str):((Iq z).map fun c=>V.str ⟨#[c]⟩).map (fun v=>match v with|V.str y=>V.bl (!(Builtin.Str.occurrences t y 0 t.length 1).isEmpty)|_=>V.non)=((Iq z).map fun c=>decide (c∈Iq t)).map V.bl:=by
 rw[List.map_map,List.map_map];refine List.map_congr_left fun c _=>?_
 show V.bl (!(Builtin.Str.occurrences t ⟨#[c]⟩ 0 t.length 1).isEmpty)=V.bl (decide (c∈Iq t));rw[PySem.StrLaws.found_one]
theorem Of (T:Txt K mg)(F:Fun K "is_text" "is_text" DL f fd):FnOk P w K mg base CP 1 f fd ["thing","least","most"] (E7 K):=by
 exists N8
 ·obtain⟨v,a,b,rfl,_⟩:=h;rfl
 obtain⟨v,a,b,rfl,ok,q⟩:=h;refine⟨_,(!Ae (!AU (@PW.pt _ _ _ (!BO (!AI (!AH (!Ak AJ (by rfl) T.b_isinstance Ax (!Aa (pv 0) (!Aa (!BS rfl T.b_str UU) (!Ab)))) (by intro _;rfl))) (!Bs (!AI (!IU IY IY (pv 1) (!Ak LV (by rfl) T.b_len BG (!Aa (pv 0) (!Ab))) (pv 2) (by with_unfolding_all rfl)))))) (!Ag (!Al (!A1))) (!Aw)) (!Ag (!Al (!Ak (Bd rfl) (by rfl) T.b_all Ca (!Aa (@AV _ ["sign"] _ _ _ _ _ _ _ _ _ _ rfl (!LH (pv 0)) (by decide +kernel) (fun C s H fp=>⟨(@An _ _ (0) _ (show(["sign"]:List Str).Nodup by decide +kernel) rfl (by trivial) (by trivial)),(!AB),(!A5 KW (pv 0) (!Jr rfl T.c_SIGNS))⟩) (by intro _;rfl)) (!Ab)))))),?_⟩;refine⟨_,rfl,_,_,_,_,rfl,ok.ty K,ok.kit K,_,rfl,?_⟩;cases hw:isA (Eg H v) "str" with
 |false=>
  refine Ao rfl ?_;have:=q H (Ah.refl _);rw[Rr hw] at this;exact this
 |true=>
  refine As rfl ?_;obtain⟨z,rfl,hz⟩:=UH ok hw;have zl:=Fj z;refine⟨_,rfl,_,rfl,_,rfl,small (by omega),_,_,rfl,rfl,_,rfl,?_⟩;refine DH (fun c=>?_) (fun c=>?_)
  ·refine⟨_,rfl,_,_,rfl,rfl,_,rfl,?_⟩;refine DH (fun d=>?_) (fun d=>?_)
   ·have d':decide ((z.length:Int)<=b)=false:=by simpa using d
    have e:Fm a b (.str z)=false:=by show(decide (a<=(z.length:Int))&&decide ((z.length:Int)<=b)&&B9 SG z)=_;rw[d',Bool.and_false];rfl
    have:=q H (Ah.refl _);rw[e] at this;exact this
   ·have d':decide ((z.length:Int)<=b)=true:=by simpa using d
    refine⟨_,rfl,z,rfl,?_⟩;refine comp_map (fun v=>match v with | .str y=>.bl (!(Builtin.Str.occurrences SG y 0 SG.length 1).isEmpty)|_=>.non) GU (by rw[List.length_map];exact Nat.le_trans (Nat.le_of_eq zl) (by omega)) (fun x H' R hx s' hR=>?_) fun l H7 n7 s7 h7=>?_
    ·obtain⟨u,_,rfl⟩:=List.mem_map.mp hx;exact⟨_,rfl,_,_,rfl,rfl,hR H' (Ah.refl _)⟩
    rw[Kh] at h7;refine⟨l,_,rfl,AR.of h7,?_⟩;have e:Fm a b (.str z)=((Iq z).map fun c=>decide (c∈Iq SG)).all id:=by
     show(decide (a<=(z.length:Int))&&decide ((z.length:Int)<=b)&&B9 SG z)=_;unfold B9;rw[c,d',List.all_map];rfl
    have:=q H7 s7;rw[e] at this;exact this
  ·have c':decide (a<=(z.length:Int))=false:=Bool.eq_false_iff.mpr c;have e:Fm a b (.str z)=false:=by show(decide (a<=(z.length:Int))&&decide ((z.length:Int)<=b)&&B9 SG z)=_;rw[c',Bool.false_and];rfl
   have:=q H (Ah.refl _);rw[e] at this;exact⟨_,rfl,this⟩
abbrev NS:Str:=PySem.Str.ofString "0123456789abcdefghijklmnopqrstuvwxyz"
abbrev LN:Str:=PySem.Str.ofString "abcdefghijklmnopqrstuvwxyz0123456789"
theorem Sd:(∀c∈Iq NS,c∈Iq LN)/\∀c∈Iq LN,c∈Iq NS/\c∈Iq SG:=by decide +kernel
def BB:V->Bool
 | .str z=>decide ((1:Int)<=z.length)&&decide ((z.length:Int)<=8)&&B9 LN z
 |_=>false
theorem KU (z:Str):(B9 SG z&&B9 NS z)=B9 LN z:=by
 unfold B9;rw[Bool.eq_iff_iff,Bool.and_eq_true,List.all_eq_true,List.all_eq_true,List.all_eq_true];simp only[decide_eq_true_eq];exact⟨fun h c hc=>Sd.1 c (h.2 c hc),fun h=>⟨fun c hc=>(Sd.2 c (h c hc)).2,fun c hc=>(Sd.2 c (h c hc)).1⟩⟩
theorem P9 (v:V):BB v=match v with | .str z=>Fm 1 8 v&&B9 NS z|_=>false:=by
 cases v with
 |str z=>
  show(decide ((1:Int)<=z.length)&&decide ((z.length:Int)<=8)&&B9 LN z)=((decide ((1:Int)<=(z.length:Int))&&decide ((z.length:Int)<=8)&&B9 SG z)&&B9 NS z);rw[<-KU z];simp only[Bool.and_assoc]
 |_=>rfl
def Da (K:W.Frag):Sp:=fun vs H Q _=>∃v,vs=[v]/\Ok H v/\∀H',Ah H H'->Q (.bl (BB v)) H'
theorem Nm (T:Txt K mg)(F:Fun K "is_name" "is_name" DJ f fd)(DO:Def P w K mg base 1 "is_text" ["thing","least","most"] (E7 K)):FnOk P w K mg base CP 2 f fd ["thing"] (Da K):=by
 exists Nw
 ·obtain⟨v,rfl,_⟩:=h;rfl
 obtain⟨v,rfl,ok,q⟩:=h;refine⟨_,(!Ag (!Al (!A8 (!Au DO (by trivial) rfl (!Aa (pv 0) (!Aa (!Ac) (!Aa (!AG rfl T.c_MOST_NAME_SIGNS) (!Ab))))) (!Bq (!Ak (Bd rfl) (by rfl) T.b_all Ca (!Aa (@AV _ ["sign"] _ _ _ _ _ _ _ _ _ _ rfl (!LH (pv 0)) (by decide +kernel) (fun C s H fp=>⟨(@An _ _ (0) _ (show(["sign"]:List Str).Nodup by decide +kernel) rfl (by trivial) (by trivial)),(!AB),(!A5 KW (pv 0) (!Jr rfl T.c_NAME_SIGNS))⟩) (by intro _;rfl)) (!Ab))))))),?_⟩;refine⟨_,rfl,v,1,8,rfl,ok,fun H1 s1=>⟨_,rfl,?_⟩⟩;have en:=P9 v;refine DH (fun c=>?_) (fun c=>?_)
 ·cases v with
  |str z=>
   have hz:z.length<=1000:=ok;have zl:=Fj z;refine⟨_,rfl,z,rfl,?_⟩;refine comp_map (fun v=>match v with | .str y=>.bl (!(Builtin.Str.occurrences NS y 0 NS.length 1).isEmpty)|_=>.non) GU (by rw[List.length_map];exact Nat.le_trans (Nat.le_of_eq zl) (by omega)) (fun x H' R hx s' hR=>?_) fun l H7 n7 s7 h7=>?_
   ·obtain⟨u,_,rfl⟩:=List.mem_map.mp hx;exact⟨_,rfl,_,_,rfl,rfl,hR H' (Ah.refl _)⟩
   rw[Kh] at h7;refine⟨l,_,rfl,AR.of h7,?_⟩;have e:BB (.str z)=((Iq z).map fun c=>decide (c∈Iq NS)).all id:=by
    rw[en];show(Fm 1 8 (.str z)&&B9 NS z)=_;rw[c];unfold B9;rw[List.all_map];rfl
   have:=q H7 (s1.trans s7);rw[e] at this;exact this
  |_=>exact absurd (show false=true from c) Bool.false_ne_true
 ·have e:BB v=false:=by
   rw[en];cases v with
   |str z=>show(Fm 1 8 (.str z)&&B9 NS z)=false;rw[Bool.eq_false_iff.mpr c];rfl
   |_=>rfl
  have:=q H1 s1;rw[e] at this;exact this
def Es (H:Hp)(v:V)(n:Int):Bool:=match v with
 | .ref a=>match H a with
  |some (.tup xs)=>decide ((xs.length:Int)=n)
  |_=>false
 |_=>false
theorem Bx {H:Hp}{a:Addr}{xs:List V}{n:Int}(h:H a=some (.tup xs)):Es H (.ref a) n=decide ((xs.length:Int)=n):=by simp only[Es,h]
theorem SW {H:Hp}{v:V}{n:Int}(ok:Ok H v)(h:isA (Eg H v) "tuple"=false):Es H v n=false:=by
 refine ok.elim (fun e _=>?_) (fun _ e _=>?_) (fun _ e _=>?_) (fun _ e _ _=>?_) (fun a xs e e2 _=>?_) (fun _ _ _ _ e=>?_)
 ·rw[e];rfl
 ·rw[e];rfl
 ·rw[e];rfl
 ·rw[e];rfl
 ·rw[e];simp only[Es,e2]
 ·rw[e] at h;exact absurd h (by decide)
theorem SL {H:Hp}{v:V}{n:Int}(h:Es H v n=true):∃a xs,v=.ref a/\H a=some (.tup xs)/\(xs.length:Int)=n:=by
 unfold Es at h
 split at h
 ·split at h
  ·rename_i a _ xs e
   exact⟨a,xs,rfl,e,of_decide_eq_true h⟩
  ·cases h
 ·cases h
def AW (K:W.Frag):Sp:=fun vs H Q _=>∃v n,vs=[v,.int n]/\Ok H v/\Q (.bl (Es H v n)) H
theorem Jt (T:Txt K mg)(F:Fun K "is_tuple_of" "is_tuple_of" BW f fd):FnOk P w K mg base CP 1 f fd ["thing","many"] (AW K):=by
 exists JM
 ·obtain⟨v,n,rfl,_⟩:=h;rfl
 obtain⟨v,n,rfl,ok,q⟩:=h;refine⟨_,(!Ag (!Al (!A8 (!Ak AJ (by rfl) T.b_isinstance Ax (!Aa (pv 0) (!Aa (!BS rfl T.b_tuple Be) (!Ab)))) (!Bq (!A5 Br (!Ak AM (by rfl) T.b_len BG (!Aa (pv 0) (!Ab))) (pv 1) (AF _)))))),?_⟩;refine Gb (isA (Eg H v) "tuple") (Es H v n) (fun R q=>⟨_,rfl,_,_,_,_,rfl,ok.ty K,ok.kit K,q⟩) (fun hw R q=>?_) ?_
 ·obtain⟨a,xs,rfl,e⟩:=Qe ok hw;rw[Bx e] at q;refine⟨_,rfl,a,xs,rfl,.inr (AE.of e),_,rfl,rfl,?_⟩;rw[EW,Bool.beq_eq_decide_eq];exact q
 ·cases hw:isA (Eg H v) "tuple" with
  |true=>exact q
  |false=>rw[SW ok hw] at q;exact q
def itemsOk (H:Hp)(v:V):Prop:=∀a xs,v=.ref a->H a=some (.tup xs)->∀x∈xs,Ok H x
def Lk (H:Hp)(v:V):Bool:=match v with
 | .ref a=>match H a with
  |some (.tup [x,y,z])=>BD 1 999999 x&&BD 0 999999999 y&&BD 0 996 z
  |_=>false
 |_=>false
theorem QD {xs:List V}(h:(xs.length:Int)=3):∃x y z,xs=[x,y,z]:=by
 match xs,h with
 |[x,y,z],_=>exact⟨x,y,z,rfl⟩
 |[],h=>simp at h
 |[_],h=>simp at h
 |[_,_],h=>simp at h
 |_::_::_::_::_,h=>simp at h;omega
theorem K9 {H:Hp}{v:V}(h:Es H v 3=false):Lk H v=false:=by
 unfold Lk
 split
 ·rename_i a
  split
  ·rename_i x y z e
   rw[Bx e] at h;exact absurd h (by simp)
  ·rfl
 ·rfl
theorem Gv {H:Hp}{a:Addr}{x y z:V}(e:H a=some (.tup [x,y,z])):Lk H (.ref a)=(BD 1 999999 x&&BD 0 999999999 y&&BD 0 996 z):=by simp only[Lk,e]
theorem VA {x y z:V}:Hz [x,y,z] 0=some x/\Hz [x,y,z] 1=some y/\Hz [x,y,z] 2=some z:=⟨rfl,rfl,rfl⟩
def Dg (K:W.Frag):Sp:=fun vs H Q _=>∃v,vs=[v]/\Ok H v/\itemsOk H v/\Q (.bl (Lk H v)) H
theorem Pl (T:Txt K mg)(F:Fun K "is_tag" "is_tag" EH f fd)(AA:Def P w K mg base 2 "is_between" ["thing","least","most"] (Bc K))(Ar:Def P w K mg base 1 "is_tuple_of" ["thing","many"] (AW K)):FnOk P w K mg base CP 3 f fd ["thing"] (Dg K):=by
 exists Pj
 ·obtain⟨v,rfl,_⟩:=h;rfl
 obtain⟨v,rfl,ok,iok,q⟩:=h;refine⟨_,(!Ae (!AU (!AI (!AH (!Au Ar (by trivial) rfl (!Aa (pv 0) (!Aa (!Ac) (!Ab)))) (by intro _;rfl))) (!Ag (!Al (!A1))) (!Aw)) (!Ae (!AU (@PW.pt _ _ _ (!BO (!AI (!AH (!Au AA (by trivial) rfl (!Aa (!Am Ap (pv 0) (!Ac) (fun _ _=>rfl)) (!Aa (!Ac) (!Aa (!AG rfl T.c_MOST_CELL) (!Ab))))) (by intro _;rfl))) (!Bs (!AI (!AH (!Au AA (by trivial) rfl (!Aa (!Am Ap (pv 0) (!Ac) (fun _ _=>rfl)) (!Aa (!Ac) (!Aa (!AG rfl T.c_MOST_BIRTH) (!Ab))))) (by intro _;rfl)))))) (!Ag (!Al (!A1))) (!Aw)) (!Ag (!Al (!Au AA (by trivial) rfl (!Aa (!Am Ap (pv 0) (!Ac) (fun _ _=>rfl)) (!Aa (!Ac) (!Aa (!AK LL (!AG rfl T.c_SUM_RESTS) (!Ac)) (!Ab))))))))),?_⟩;refine⟨_,rfl,v,3,rfl,ok,_,rfl,?_⟩;cases hw:Es H v 3 with
 |false=>
  refine Ao rfl ?_;rw[K9 hw] at q;exact q
 |true=>
  refine As rfl ?_;obtain⟨a,xs,rfl,e,hl⟩:=SL hw;obtain⟨x,y,z,rfl⟩:=QD hl;have i1:=iok a _ rfl e;have ox:Ok H x:=i1 x (by simp);have oy:Ok H y:=i1 y (by simp);have oz:Ok H z:=i1 z (by simp);rw[Gv e] at q;dsimp only[Eb,CB,DE];refine I0 (!BD 1 999999 x) (!BD 0 999999999 y) (fun R q=>⟨_,rfl,a,_,_,_,rfl,rfl,AE.of e,VA.1,x,1,999999,rfl,ox,_,rfl,q⟩) (fun _ R q=>⟨_,rfl,a,_,_,_,rfl,rfl,AE.of e,VA.2.1,y,0,999999999,rfl,oy,_,rfl,q⟩) ?_;refine DH (fun c=>?_) (fun c=>?_)
  ·have:(BD 1 999999 x&&BD 0 999999999 y&&BD 0 996 z)=false:=by
    cases h1:BD 1 999999 x<;>cases h2:BD 0 999999999 y<;>simp_all
   rw[this] at q;exact q
  ·have:(BD 1 999999 x&&BD 0 999999999 y&&BD 0 996 z)=BD 0 996 z:=by
    cases h1:BD 1 999999 x<;>cases h2:BD 0 999999999 y<;>simp_all
   rw[this] at q;exact⟨_,rfl,a,_,_,_,rfl,rfl,AE.of e,VA.2.2,_,_,rfl,rfl,z,0,996,rfl,oz,q⟩
end
theorem Q9 {F:Addr->Prop}{H:Hp}{ts:List Tr}{vs:List V}(h:Aq F H ts vs){v:V}(hv:v∈vs):∃t∈ts,Rep F H t v:=by
 obtain⟨i,hi,e⟩:=List.getElem_of_mem hv;obtain⟨t,ht,r⟩:=Aq.get h (show vs[i]?=some v by rw[List.getElem?_eq_getElem hi,e]);exact⟨t,List.mem_of_getElem? ht,r⟩
def sh:Nat->Tr->Bool
 |_,.str z=>decide (z.length<=1000)
 |n+1,.tup ts=>ts.all (sh n)
 |_,_=>true
theorem T4:∀{n m:Nat} {t:Tr},n<=m->sh m t=true->sh n t=true
 |0,_,.non,_,_=>rfl
 |0,_,.bl _,_,_=>rfl
 |0,_,.int _,_,_=>rfl
 |0,0,.str _,_,h=>h
 |0,_+1,.str _,_,h=>h
 |0,_,.tup _,_,_=>rfl
 |0,_,.lst _,_,_=>rfl
 |n+1,0,_,h,_=>absurd h (by omega)
 |n+1,m+1,.non,_,_=>rfl
 |n+1,m+1,.bl _,_,_=>rfl
 |n+1,m+1,.int _,_,_=>rfl
 |n+1,m+1,.str _,_,h=>h
 |n+1,m+1,.lst _,_,_=>rfl
 |n+1,m+1,.tup ts,h,s=>List.all_eq_true.mpr fun t ht=>T4 (by omega) (List.all_eq_true.mp s t ht)
def sN:Tr->Bool
 | .str z=>BB (.str z)
 |_=>false
def sB (a b:Int):Tr->Bool
 | .int i=>decide (a<=i)&&decide (i<=b)
 |_=>false
def CC (n:Nat):Tr->Bool
 | .tup ts=>decide (ts.length=n)
 |_=>false
def CO:Tr->Bool
 | .tup [x,y,z]=>sB 1 999999 x&&sB 0 999999999 y&&sB 0 996 z
 |_=>false
def BE:Tr->Bool
 | .tup [x,y]=>sN x&&sB 0 999999999 y
 |_=>false
def P8:Tr->Bool
 | .str z=>decide (z=EM)||BB (.str z)
 |_=>false
def C9:Tr->Bool
 | .tup [a,b,c,d,e]=>sB 1 1 b&&(sN a&&(sN c&&(P8 d&&CO e)))
 |_=>false
def Dt:Tr->Bool
 | .tup [a,b,c,d,e]=>sB 2 2 b&&(sN a&&(sN c&&(sB 1 999999999 d&&CO e)))
 |_=>false
def isTup:Tr->Bool
 | .tup _=>true
 |_=>false
abbrev Eu:Addr->Prop:=fun _=>True
theorem Bg {H:Hp}{v:V}{n:Nat}:∀{t:Tr},Rep Eu H t v->sh n t=true->Ok H v
 | .non,h,_=>by rw[show v=.non from h];trivial
 | .bl b,h,_=>by rw[show v=.bl b from h];trivial
 | .int i,h,_=>by rw[show v=.int i from h];trivial
 | .str z,h,s=>by
  rw[show v=.str z from h];show z.length<=1000;cases n<;>exact of_decide_eq_true s
 | .tup ts,h,_=>by
  obtain⟨a,vs,rfl,e,_⟩:=h;exact .inr ⟨_,e⟩
 | .lst ts,h,_=>by
  obtain⟨a,vs,rfl,_,e,_⟩:=h;exact .inl ⟨_,e⟩
theorem B1 {n:Nat}{ts:List Tr}(h:sh (n+1) (.tup ts)=true){t:Tr}(m:t∈ts):sh n t=true:=List.all_eq_true.mp h t m
theorem JS {H:Hp}{v:V}{n:Nat}:∀{t:Tr},Rep Eu H t v->Es H v n=CC n t
 | .non,h=>by rw[show v=.non from h];rfl
 | .bl b,h=>by rw[show v=.bl b from h];rfl
 | .int i,h=>by rw[show v=.int i from h];rfl
 | .str z,h=>by rw[show v=.str z from h];rfl
 | .tup ts,h=>by
  obtain⟨a,vs,rfl,e,r⟩:=h;rw[Bx e];show decide ((vs.length:Int)=(n:Int))=decide (ts.length=n);rw[Aq.len ts vs r,Bool.eq_iff_iff,decide_eq_true_eq,decide_eq_true_eq];omega
 | .lst ts,h=>by
  obtain⟨a,vs,rfl,_,e,_⟩:=h;simp only[Es,e,CC]
theorem FK {H:Hp}{v:V}{a b:Int}:∀{t:Tr},Rep Eu H t v->BD a b v=sB a b t
 | .non,h=>by rw[show v=.non from h];rfl
 | .bl c,h=>by rw[show v=.bl c from h];rfl
 | .int i,h=>by rw[show v=.int i from h];rfl
 | .str z,h=>by rw[show v=.str z from h];rfl
 | .tup ts,h=>by obtain⟨a,vs,rfl,e,r⟩:=h;rfl
 | .lst ts,h=>by obtain⟨a,vs,rfl,_,e,_⟩:=h;rfl
theorem GE {H:Hp}{v:V}:∀{t:Tr},Rep Eu H t v->BB v=sN t
 | .non,h=>by rw[show v=.non from h];rfl
 | .bl c,h=>by rw[show v=.bl c from h];rfl
 | .int i,h=>by rw[show v=.int i from h];rfl
 | .str z,h=>by rw[show v=.str z from h];rfl
 | .tup ts,h=>by obtain⟨a,vs,rfl,e,r⟩:=h;rfl
 | .lst ts,h=>by obtain⟨a,vs,rfl,_,e,_⟩:=h;rfl
theorem WY {t:Tr}(h:CC 2 t=true):∃x y,t=.tup [x,y]:=by
 match t,h with
 | .tup [x,y],_=>exact⟨x,y,rfl⟩
 | .tup [],h=>exact absurd h (by simp[CC])
 | .tup [_],h=>exact absurd h (by simp[CC])
 | .tup (_::_::_::_),h=>exact absurd h (by simp[CC])
theorem Wh {t:Tr}(h:CC 3 t=true):∃x y z,t=.tup [x,y,z]:=by
 match t,h with
 | .tup [x,y,z],_=>exact⟨x,y,z,rfl⟩
 | .tup [],h=>exact absurd h (by simp[CC])
 | .tup [_],h=>exact absurd h (by simp[CC])
 | .tup [_,_],h=>exact absurd h (by simp[CC])
 | .tup (_::_::_::_::_),h=>exact absurd h (by simp[CC])
theorem VO {t:Tr}(h:CC 5 t=true):∃a b c d e,t=.tup [a,b,c,d,e]:=by
 match t,h with
 | .tup [a,b,c,d,e],_=>exact⟨a,b,c,d,e,rfl⟩
 | .tup [],h=>exact absurd h (by simp[CC])
 | .tup [_],h=>exact absurd h (by simp[CC])
 | .tup [_,_],h=>exact absurd h (by simp[CC])
 | .tup [_,_,_],h=>exact absurd h (by simp[CC])
 | .tup [_,_,_,_],h=>exact absurd h (by simp[CC])
 | .tup (_::_::_::_::_::_::_),h=>exact absurd h (by simp[CC])
theorem P6 {t:Tr}(h:CC 2 t=false):BE t=false:=by
 unfold BE
 split
 ·exact absurd h (by simp[CC])
 ·rfl
theorem Ta {t:Tr}(h:CC 5 t=false):C9 t=false:=by
 unfold C9
 split
 ·exact absurd h (by simp[CC])
 ·rfl
theorem S8 {t:Tr}(h:CC 5 t=false):Dt t=false:=by
 unfold Dt
 split
 ·exact absurd h (by simp[CC])
 ·rfl
theorem Ua {H:Hp}{v:V}{t:Tr}(h:Rep Eu H t v):Lk H v=CO t:=by
 cases c:CC 3 t with
 |false=>
  rw[K9 (by rw[show(3:Int)=((3:Nat):Int) from rfl,JS h];exact c)];unfold CO
  split
  ·exact absurd c (by simp[CC])
  ·rfl
 |true=>
  obtain⟨x,y,z,rfl⟩:=Wh c;obtain⟨a,vs,rfl,e,v1,vs1,rfl,r1,v2,vs2,rfl,r2,v3,vs3,rfl,r3,rfl⟩:=h;rw[Gv e,FK r1,FK r2,FK r3];rfl
theorem Ow {H:Hp}{v:V}{t:Tr}{n:Nat}(h:Rep Eu H t v)(s:sh (n+1) t=true):itemsOk H v:=by
 rintro a xs rfl e x hx
 cases t with
 |tup ts=>
  obtain⟨a',vs,q,e',r⟩:=h;cases q;rw[e] at e';cases e';obtain⟨t,ht,rt⟩:=Q9 r hx;exact Bg rt (B1 s ht)
 |lst ts=>
  obtain⟨a',vs,q,_,e',r⟩:=h;cases q;rw[e] at e';cases e'
 |non=>cases h
 |bl _=>cases h
 |int _=>cases h
 |str _=>cases h
section
variable {P:Program}{w:World}{K:W.Frag}{mg:Str->Option Value}{base:Heap}{f:Addr}{fd:FuncData}
def EX (K:W.Frag):Sp:=fun vs H Q _=>∃v t,vs=[v]/\Rep Eu H t v/\sh 1 t=true/\∀H',Ah H H'->Q (.bl (BE t)) H'
theorem LX (T:Txt K mg)(F:Fun K "is_keeper" "is_keeper" CI f fd)(Ar:Def P w K mg base 1 "is_tuple_of" ["thing","many"] (AW K))(Ba:Def P w K mg base 2 "is_name" ["thing"] (Da K))(AA:Def P w K mg base 2 "is_between" ["thing","least","most"] (Bc K)):FnOk P w K mg base CP 3 f fd ["thing"] (EX K):=by
 exists LR
 ·obtain⟨v,t,rfl,_⟩:=h;rfl
 obtain⟨v,t,rfl,hv,hs,q⟩:=h;have okv:=Bg hv hs;refine⟨_,(!Ag (!Al (!A8 (!Au Ar (by trivial) rfl (!Aa (pv 0) (!Aa (!Ac) (!Ab)))) (!A8 (!Au Ba (by trivial) rfl (!Aa (!Am Ap (pv 0) (!Ac) (fun _ _=>rfl)) (!Ab))) (!Bq (!Au AA (by trivial) rfl (!Aa (!Am Ap (pv 0) (!Ac) (fun _ _=>rfl)) (!Aa (!Ac) (!Aa (!AG rfl T.c_MOST_NUMBER) (!Ab)))))))))),?_⟩;refine⟨_,rfl,_,2,rfl,okv,_,rfl,?_⟩;rw[show(2:Int)=((2:Nat):Int) from rfl,JS hv];cases c:CC 2 t with
 |false=>
  rw[P6 c] at q;exact As rfl (q H (Ah.refl _))
 |true=>
  obtain⟨x,y,rfl⟩:=WY c;obtain⟨a,us,rfl,e,v1,us1,rfl,r1,v2,us2,rfl,r2,rfl⟩:=hv
  replace q:∀H',Ah H H'->Q (.bl (sN x&&sB 0 999999999 y)) H':=q
  refine Ao rfl ⟨_,rfl,a,_,_,_,rfl,rfl,AE.of e,rfl,_,rfl,Bg r1 (B1 hs (by simp)),fun H1 s1=>⟨_,rfl,?_⟩⟩;rw[GE r1];cases c1:sN x with
  |false=>rw[c1] at q;exact As rfl (q H1 s1)
  |true=>
   rw[c1] at q;have r2':=Rep.same s1 _ _ r2;refine Ao rfl ⟨_,rfl,a,_,_,_,rfl,rfl,AE.of (s1.get e),rfl,_,0,999999999,rfl,Bg r2' (B1 hs (by simp)),?_⟩;rw[FK r2'];exact q H1 s1
def RD:Tr->Bool
 | .tup _=>false
 | .lst _=>false
 |_=>true
def Ed:Tr->Bool
 | .tup [_,.int 1,_,d,_]=>RD d
 |_=>true
theorem Tw {H:Hp}{v:V}:∀{t:Tr},Rep Eu H t v->RD t=true->∀{Q:VK},(Q (.bl (match t with | .str z=>decide (z=EM)|_=>false)) H)->Xm v (.str EM) H Q
 | .non,h,_,Q,q=>by rw[show v=.non from h];exact⟨rfl,q⟩
 | .bl b,h,_,Q,q=>by rw[show v=.bl b from h];exact⟨rfl,q⟩
 | .int i,h,_,Q,q=>by rw[show v=.int i from h];exact⟨rfl,q⟩
 | .str z,h,_,Q,q=>by
  rw[show v=.str z from h];refine⟨rfl,?_⟩;have e:decide (V.str z=V.str EM)=decide (z=EM):=by
   by_cases c:z=EM
   ·rw[decide_eq_true c,decide_eq_true (by rw[c])]
   ·rw[decide_eq_false c,decide_eq_false fun y=>c (V.str.inj y)]
  rw[e];exact q
 | .tup _,_,h,_,_=>by cases h
 | .lst _,_,h,_,_=>by cases h
def Gw (K:W.Frag):Sp:=fun vs H Q _=>∃v t,vs=[v]/\Rep Eu H t v/\sh 2 t=true/\Ed t=true/\∀H',Ah H H'->Q (.bl (C9 t)) H'
theorem ND {n:Int}{t:Tr}:sB n n t=true->t=.int n:=by
 intro h;cases t with
 |int i=>
  have:(decide (n<=i)&&decide (i<=n))=true:=h;rw[Bool.and_eq_true,decide_eq_true_eq,decide_eq_true_eq] at this;rw[show i=n by omega]
 |_=>cases h
theorem NR (T:Txt K mg)(F:Fun K "is_stem" "is_stem" DN f fd)(Ba:Def P w K mg base 2 "is_name" ["thing"] (Da K))(Bp:Def P w K mg base 3 "is_tag" ["thing"] (Dg K))(Ar:Def P w K mg base 1 "is_tuple_of" ["thing","many"] (AW K))(AA:Def P w K mg base 2 "is_between" ["thing","least","most"] (Bc K)):FnOk P w K mg base CP 4 f fd ["thing"] (Gw K):=by
 exists NX
 ·obtain⟨v,t,rfl,_⟩:=h;rfl
 obtain⟨v,t,rfl,hv,hs,th,q⟩:=h;have okv:=Bg hv hs;have hu:=Cu hr;refine⟨_,(!Ae (!AU (@PW.pt _ _ _ (!BO (!AI (!AH (!Au Ar (by trivial) rfl (!Aa (pv 0) (!Aa (!Ac) (!Ab)))) (by intro _;rfl))) (!Bs (!AI (!AH (!Au AA (by trivial) rfl (!Aa (!Am Ap (pv 0) (!Ac) (fun _ _=>rfl)) (!Aa (!AG rfl T.c_STEM) (!Aa (!AG rfl T.c_STEM) (!Ab))))) (by intro _;rfl)))))) (!Ag (!Al (!A1))) (!Aw)) (!Ag (!Al (!A8 (!Au Ba (by trivial) rfl (!Aa (!Am Ap (pv 0) (!Ac) (fun _ _=>rfl)) (!Ab))) (!A8 (!Au Ba (by trivial) rfl (!Aa (!Am Ap (pv 0) (!Ac) (fun _ _=>rfl)) (!Ab))) (!A8 (!Qf (!A5 Br (!Am Ap (pv 0) (!Ac) (fun _ _=>rfl)) (!B5) (AF _)) (!Bq (!Au Ba (by trivial) rfl (!Aa (!Am Ap (pv 0) (!Ac) (fun _ _=>rfl)) (!Ab))))) (!Bq (!Au Bp (by trivial) rfl (!Aa (!Am Ap (pv 0) (!Ac) (fun _ _=>rfl)) (!Ab)))))))))),?_⟩;dsimp only[Eb,CB,DE];refine⟨_,rfl,_,5,rfl,okv,_,rfl,?_⟩;rw[show(5:Int)=((5:Nat):Int) from rfl,JS hv];cases c:CC 5 t with
 |false=>
  rw[Ta c] at q;exact Ao rfl (q H (Ah.refl _))
 |true=>
  obtain⟨a,b,d,o,g,rfl⟩:=VO c;obtain⟨p,us,rfl,e,v1,us1,rfl,r1,v2,us2,rfl,r2,v3,us3,rfl,r3,v4,us4,rfl,r4,v5,us5,rfl,r5,rfl⟩:=hv
  replace q:∀H',Ah H H'->Q (.bl (sB 1 1 b&&(sN a&&(sN d&&(P8 o&&CO g))))) H':=q
  have ok1:=Bg r1 (B1 hs (by simp));have ok2:=Bg r2 (B1 hs (by simp));have ok3:=Bg r3 (B1 hs (by simp));have ok4:=Bg r4 (B1 hs (by simp));refine As rfl ⟨_,rfl,p,_,_,_,rfl,rfl,AE.of e,rfl,_,1,1,rfl,ok2,_,rfl,?_⟩;rw[FK r2];cases cb:sB 1 1 b with
  |false=>rw[cb] at q;exact Ao rfl (q H (Ah.refl _))
  |true=>
   rw[cb] at q;have:=ND cb;subst this;have fl:RD o=true:=th;refine As rfl ⟨_,rfl,p,_,_,_,rfl,rfl,AE.of e,rfl,_,rfl,ok1,fun H1 s1=>⟨_,rfl,?_⟩⟩;rw[GE r1];cases ca:sN a with
   |false=>rw[ca] at q;exact As rfl (q H1 s1)
   |true=>
    rw[ca] at q;refine Ao rfl ⟨_,rfl,p,_,_,_,rfl,rfl,AE.of (s1.get e),rfl,_,rfl,ok3.same s1,fun H2 s2=>⟨_,rfl,?_⟩⟩;have s12:=s1.trans s2;rw[GE r3];cases cd:sN d with
    |false=>rw[cd] at q;exact As rfl (q H2 s12)
    |true=>
     rw[cd] at q
     replace q:∀H',Ah H H'->Q (.bl (P8 o&&CO g)) H':=q
     have r4':=Rep.same s12 _ _ r4;have tag:∀{H3:Hp},Ah H H3->Ok H3 v5/\itemsOk H3 v5/\Lk H3 v5=CO g:=fun{H3} s3=>by
      have r5':=Rep.same s3 _ _ r5;have sg:=B1 hs (show g∈[a,Tr.int 1,d,o,g] by simp);exact⟨Bg r5' sg,Ow r5' sg,Ua r5'⟩
     refine Ao rfl ⟨_,rfl,p,_,_,_,rfl,rfl,AE.of (s12.get e),rfl,?_⟩;dsimp only[tC];refine Tw r4' fl ?_;refine⟨_,rfl,?_⟩;have fin:∀{H3:Hp},Ah H H3->P8 o=true->∃v',[v5]=[v']/\Ok H3 v'/\itemsOk H3 v'/\Q (.bl (Lk H3 v')) H3:=fun{H3} s3 co=>by
      obtain⟨t1,t2,t3⟩:=tag s3;refine⟨v5,rfl,t1,t2,?_⟩;rw[t3];have:=q H3 s3;rw[co] at this;exact this
     cases o with
     |str z=>
      by_cases ce:z=EM
      ·refine Ao (decide_eq_true ce) ⟨_,rfl,Ao rfl ?_⟩;exact⟨_,rfl,p,_,_,_,rfl,rfl,AE.of (s12.get e),rfl,fin s12 (by show(decide (z=EM)||BB (.str z))=true;rw[decide_eq_true ce];rfl)⟩
      ·refine As (decide_eq_false ce) ?_;refine⟨_,rfl,p,_,_,_,rfl,rfl,AE.of (s12.get e),rfl,_,rfl,ok4.same s12,fun H3 s3=>⟨_,rfl,?_⟩⟩;have s13:=s12.trans s3;rw[GE r4];cases cn:sN (.str z) with
       |true=>
        refine Ao rfl ⟨_,rfl,p,_,_,_,rfl,rfl,AE.of (s13.get e),rfl,fin s13 ?_⟩;show(decide (z=EM)||BB (.str z))=true;rw[show BB (.str z)=true from cn,Bool.or_true]
       |false=>
        have co:P8 (.str z)=false:=by
         show(decide (z=EM)||BB (.str z))=false;rw[show BB (.str z)=false from cn,decide_eq_false ce];rfl
        rw[co] at q;exact As rfl (q H3 s13)
     |tup _=>cases fl
     |lst _=>cases fl
     |_=>
      refine As rfl ?_;refine⟨_,rfl,p,_,_,_,rfl,rfl,AE.of (s12.get e),rfl,_,rfl,ok4.same s12,fun H3 s3=>⟨_,rfl,?_⟩⟩;rw[GE r4];exact As rfl (q H3 (s12.trans s3))
def GM (K:W.Frag):Sp:=fun vs H Q _=>∃v t,vs=[v]/\Rep Eu H t v/\sh 2 t=true/\∀H',Ah H H'->Q (.bl (Dt t)) H'
theorem Nf (T:Txt K mg)(F:Fun K "is_seal" "is_seal" DS f fd)(Ba:Def P w K mg base 2 "is_name" ["thing"] (Da K))(AA:Def P w K mg base 2 "is_between" ["thing","least","most"] (Bc K))(Bp:Def P w K mg base 3 "is_tag" ["thing"] (Dg K))(Ar:Def P w K mg base 1 "is_tuple_of" ["thing","many"] (AW K)):FnOk P w K mg base CP 4 f fd ["thing"] (GM K):=by
 exists N2
 ·obtain⟨v,t,rfl,_⟩:=h;rfl
 obtain⟨v,t,rfl,hv,hs,q⟩:=h;have okv:=Bg hv hs;refine⟨_,(!Ae (!AU (@PW.pt _ _ _ (!BO (!AI (!AH (!Au Ar (by trivial) rfl (!Aa (pv 0) (!Aa (!Ac) (!Ab)))) (by intro _;rfl))) (!Bs (!AI (!AH (!Au AA (by trivial) rfl (!Aa (!Am Ap (pv 0) (!Ac) (fun _ _=>rfl)) (!Aa (!AG rfl T.c_SEAL) (!Aa (!AG rfl T.c_SEAL) (!Ab))))) (by intro _;rfl)))))) (!Ag (!Al (!A1))) (!Aw)) (!Ag (!Al (!A8 (!Au Ba (by trivial) rfl (!Aa (!Am Ap (pv 0) (!Ac) (fun _ _=>rfl)) (!Ab))) (!A8 (!Au Ba (by trivial) rfl (!Aa (!Am Ap (pv 0) (!Ac) (fun _ _=>rfl)) (!Ab))) (!A8 (!Au AA (by trivial) rfl (!Aa (!Am Ap (pv 0) (!Ac) (fun _ _=>rfl)) (!Aa (!Ac) (!Aa (!AG rfl T.c_MOST_NUMBER) (!Ab))))) (!Bq (!Au Bp (by trivial) rfl (!Aa (!Am Ap (pv 0) (!Ac) (fun _ _=>rfl)) (!Ab)))))))))),?_⟩;dsimp only[Eb,CB,DE];refine⟨_,rfl,_,5,rfl,okv,_,rfl,?_⟩;rw[show(5:Int)=((5:Nat):Int) from rfl,JS hv];cases c:CC 5 t with
 |false=>
  rw[S8 c] at q;exact Ao rfl (q H (Ah.refl _))
 |true=>
  obtain⟨a,b,d,o,g,rfl⟩:=VO c;obtain⟨p,us,rfl,e,v1,us1,rfl,r1,v2,us2,rfl,r2,v3,us3,rfl,r3,v4,us4,rfl,r4,v5,us5,rfl,r5,rfl⟩:=hv
  replace q:∀H',Ah H H'->Q (.bl (sB 2 2 b&&(sN a&&(sN d&&(sB 1 999999999 o&&CO g))))) H':=q
  have ok1:=Bg r1 (B1 hs (by simp));have ok2:=Bg r2 (B1 hs (by simp));have ok3:=Bg r3 (B1 hs (by simp));have ok4:=Bg r4 (B1 hs (by simp));refine As rfl ⟨_,rfl,p,_,_,_,rfl,rfl,AE.of e,rfl,_,2,2,rfl,ok2,_,rfl,?_⟩;rw[FK r2];cases cb:sB 2 2 b with
  |false=>rw[cb] at q;exact Ao rfl (q H (Ah.refl _))
  |true=>
   rw[cb] at q;refine As rfl ⟨_,rfl,p,_,_,_,rfl,rfl,AE.of e,rfl,_,rfl,ok1,fun H1 s1=>⟨_,rfl,?_⟩⟩;rw[GE r1];cases ca:sN a with
   |false=>rw[ca] at q;exact As rfl (q H1 s1)
   |true=>
    rw[ca] at q;refine Ao rfl ⟨_,rfl,p,_,_,_,rfl,rfl,AE.of (s1.get e),rfl,_,rfl,ok3.same s1,fun H2 s2=>⟨_,rfl,?_⟩⟩;have s12:=s1.trans s2;rw[GE r3];cases cd:sN d with
    |false=>rw[cd] at q;exact As rfl (q H2 s12)
    |true=>
     rw[cd] at q;refine Ao rfl ⟨_,rfl,p,_,_,_,rfl,rfl,AE.of (s12.get e),rfl,_,1,999999999,rfl,ok4.same s12,_,rfl,?_⟩;rw[FK r4];cases co:sB 1 999999999 o with
     |false=>rw[co] at q;exact As rfl (q H2 s12)
     |true=>
      rw[co] at q;have r5':=Rep.same s12 _ _ r5;have sg:=B1 hs (show g∈[a,b,d,o,g] by simp);refine Ao rfl ⟨_,rfl,p,_,_,_,rfl,rfl,AE.of (s12.get e),rfl,v5,rfl,Bg r5' sg,Ow r5' sg,?_⟩;rw[Ua r5'];exact q H2 s12
def adr:V->Addr
 | .ref b=>b
 |_=>0
def Gi:Tr->Str
 | .tup (.str z::_)=>z
 |_=>EM
open Classical in
noncomputable def DD (ks:List Str):Bool:=decide (ks.Pairwise Sm)
theorem Fo (ks:List Str):DD ks=true↔ks.Pairwise Sm:=by unfold DD;exact decide_eq_true_iff
noncomputable def ED:Tr->Bool
 | .tup ks=>decide (ks.length<=8)&&(ks.all BE&&DD (ks.map Gi))
 |_=>false
noncomputable def HM:Tr->Bool
 | .tup ns=>decide (ns.length<=24)&&(ns.all (fun t=>C9 t||Dt t)&&DD (ns.map Gi))
 |_=>false
theorem V7 {H:Hp}{v:V}:∀{t:Tr},Rep Eu H t v->isA (Eg H v) "tuple"=isTup t
 | .non,h=>by rw[show v=.non from h];rfl
 | .bl c,h=>by rw[show v=.bl c from h];rfl
 | .int i,h=>by rw[show v=.int i from h];rfl
 | .str z,h=>by rw[show v=.str z from h];rfl
 | .tup ts,h=>by obtain⟨a,vs,rfl,e,r⟩:=h;simp only[Eg,e];rfl
 | .lst ts,h=>by obtain⟨a,vs,rfl,_,e,_⟩:=h;simp only[Eg,e];rfl
theorem Ea {F:Addr->Prop}{H:Hp}:∀{ts:List Tr} {vs:List V},Aq F H ts vs->∃ps:List (V×Tr),vs=ps.map (·.1)/\ts=ps.map (·.2)/\∀p∈ps,Rep F H p.2 p.1
 |[],vs,h=>⟨[],by rw[show vs=[] from h];rfl,rfl,fun _ h=>nomatch h⟩
 |t::ts,vs,h=>by
  obtain⟨v,vs',rfl,r,rs⟩:=h;obtain⟨ps,h1,h2,h3⟩:=Ea rs;refine⟨(v,t)::ps,by rw[h1];rfl,by rw[h2];rfl,fun p hp=>?_⟩;rcases List.mem_cons.mp hp with rfl|hp
  ·exact r
  ·exact h3 p hp
theorem KJ (ks:List Str):(ks.map V.str).all D7=true:=by
 rw[List.all_map,List.all_eq_true];exact fun _ _=>rfl
theorem Hh:∀(l ks:List Str),ks.Nodup->(l.foldl (fun ks k=>if k∈ks then ks else ks++[k]) ks).Nodup/\((ks++l).Nodup->l.foldl (fun ks k=>if k∈ks then ks else ks++[k]) ks=ks++l)
 |[],ks,nd=>⟨nd,fun _=>(List.append_nil _).symm⟩
 |k::r,ks,nd=>by
  rw[List.foldl_cons]
  by_cases c:k∈ks
  ·rw[if_pos c];refine⟨(Hh r ks nd).1,fun h=>?_⟩;exact absurd rfl ((List.nodup_append.mp h).2.2 k c k List.mem_cons_self)
  ·rw[if_neg c];have nd':(ks++[k]).Nodup:=List.nodup_append.mpr ⟨nd,List.pairwise_singleton _ _,fun a ha b hb e=>c (by rw[List.mem_singleton.mp hb] at e;exact e▸ha)⟩;refine⟨(Hh r _ nd').1,fun h=>?_⟩;rw[(Hh r _ nd').2 (by rw[List.append_assoc];exact h),List.append_assoc];rfl
theorem Th (l:List Str):(CU l).Nodup:=(Hh l [] List.nodup_nil).1
theorem Lz {l:List Str}(h:l.Nodup):CU l=l:=(Hh l [] List.nodup_nil).2 h
theorem Qv {l:List Str}(h:l.Pairwise Sm):l.Nodup:=List.Pairwise.imp (fun{a b} h e=>by subst e;exact List.lt_irrefl _ h) h
theorem Kq:∀{p:Str} {l:List Str},PyProof.Rows.risingS p l=true->∀x∈l,¬x.cps.toList<p.cps.toList
 |p,y::r,h,x,hx=>by
  have h':=h;rw[PyProof.Rows.risingS,Bool.and_eq_true,PyProof.Rows.ltCps_eq] at h';have h1:¬y.cps.toList<p.cps.toList:=by simpa using h'.1
  rcases List.mem_cons.mp hx with rfl|hx
  ·exact h1
  ·exact List.le_trans h1 (Kq h'.2 x hx)
theorem Ol:∀{l:List Str},PyProof.Rows.sortedS l=true->l.Nodup->l.Pairwise Sm
 |[],_,_=>List.Pairwise.nil
 |x::l,h,nd=>by
  rw[List.nodup_cons] at nd;refine List.pairwise_cons.mpr ⟨fun y hy=>Ue (Kq (p:=x) h y hy) fun e=>nd.1 (e▸hy),Ol ?_ nd.2⟩;cases l with
  |nil=>rfl
  |cons y r=>
   have h':=h;rw[PyProof.Rows.sortedS,PyProof.Rows.risingS,Bool.and_eq_true] at h';exact h'.2
theorem OP {α:Type}{key:α->Str}:∀{l1 l2:List α},l1.Perm l2->l1.Pairwise (fun x y=>Sm (key x) (key y))->l2.Pairwise (fun x y=>Sm (key x) (key y))->l1=l2
 |[],l2,h,_,_=>(List.nil_perm.mp h).symm
 |a::r1,[],h,_,_=>by have:=h.length_eq;cases this
 |a::r1,b::r2,h,p1,p2=>by
  rw[List.pairwise_cons] at p1 p2;rcases Classical.em (a=b) with e|e
  ·subst e;rw[OP (List.Perm.cons_inv h) p1.2 p2.2]
  ·have ha:a∈b::r2:=h.mem_iff.mp List.mem_cons_self;have hb:b∈a::r1:=h.mem_iff.mpr List.mem_cons_self;have h1:=(List.mem_cons.mp ha).resolve_left e;have h2:=(List.mem_cons.mp hb).resolve_left fun z=>e z.symm
   exact absurd (List.lt_trans (p1.1 b h2) (p2.1 a h1)) (List.lt_irrefl _)
def Dp (K:W.Frag):Sp:=fun vs H Q _=>∃(n:Addr) (ts:List (Addr×Str)),vs=[.ref n]/\H n=some (.tup (ts.map fun t=>V.ref t.1))/\(∀t∈ts,∃r,H t.1=some (.tup (.str t.2::r)))/\ts.length<=24/\∀H',Ah H H'->Q (.bl (DD (ts.map (·.2)))) H'
theorem JZ (T:Txt K mg)(F:Fun K "are_rising" "are_rising" Cd f fd):FnOk P w K mg base CP 1 f fd ["named"] (Dp K):=by
 exists Gh
 ·obtain⟨n,ts,rfl,_⟩:=h;rfl
 obtain⟨n,ts,rfl,hn,ht,few,q⟩:=h;have hu:=Cu hr;refine⟨_,(!Ae (@Ex _ ["one"] (1) _ _ _ _ _ _ _ _ _ _ _ _ _ Gh.nd rfl (by trivial) rfl (!Bb (pv 0)) (by decide +kernel) (fun C s H fp=>⟨(@An _ _ (0) _ (show(["one"]:List Str).Nodup by decide +kernel) rfl (by trivial) (by trivial)),(!AB),(!Am (AQ (K:=K) (by rfl)) (pv 0) (!Ac) (fun _ _=>rfl))⟩) (by intro _;rfl) (by rfl) (by trivial)) (!Ag (!Al (!A5 (Oc hu) (pv 1) (!Ak (Jl (P:=P) (w:=w) (by rfl) (by rfl) rfl) (by rfl) T.b_sorted DT (!Aa (!A9 (KO (P:=P) (w:=w) (K:=K) (by rfl) (by rfl) (by rfl) rfl) (by rfl) T.b_set Jj (!Aa (pv 1) (!Ab))) (!Ab))) (AF _))))),?_⟩
 try dsimp only[Cg,Cx.nox,Cx.wish]
 refine⟨_,rfl,n,rfl,⟨_,AE.of hn⟩,?_⟩;refine Bv (ps:=ts) (g:=fun p=>V.ref p.1) (fun _=>true) (fun p=>V.str p.2) (A2 hn) (by omega) (fun p hp H' R s' hR=>hR) (fun p hp hs H' R s' hR=>?_) fun l2 H8 n8 s8 h8=>?_
 ·obtain⟨r,hr'⟩:=ht p hp;exact⟨_,rfl,p.1,_,_,_,rfl,rfl,AE.of (s'.get hr'),AZ (j:=0) rfl,hR H' (Ah.refl _)⟩
 rw[List.filter_eq_self.mpr (fun _ _=>rfl),show(ts.map fun p=>V.str p.2)=(ts.map (·.2)).map V.str by rw[List.map_map];rfl] at h8;have ln:(ts.map (·.2)).length<=24:=by rw[List.length_map];exact few
 generalize ts.map (·.2)=ks at h8 ln q;refine⟨_,rfl,_,rfl,l2,_,rfl,AR.of h8,by omega,fun p hp=>?_⟩;have sp:=Ai hp (PB P w p (CU ks));have ol:=Jp ks;refine⟨p,_,rfl,Ad,by omega,fun us p2 pt st hp2=>?_⟩;have s2:=Ai hp2 (.lst (us.map V.str));refine⟨l2,p2,_,_,rfl,rfl,AR.of (s2.get (sp.get h8)),AR.of Ad,KJ _,KJ _,?_⟩;rw[if_neg Bool.false_ne_true];have ri:us.Pairwise Sm:=Ol st (pt.nodup_iff.mpr (Th ks));have e:decide (ks.map V.str=us.map V.str)=DD ks:=by
  rw[Bool.eq_iff_iff,decide_eq_true_eq,Fo];constructor
  ·intro z;have z':ks=us:=by
    have inj:∀{a b:List Str},a.map V.str=b.map V.str->a=b:=fun{a}=>by
     induction a with
     |nil=>intro b h;cases b with
      |nil=>rfl
      |cons _ _=>cases h
     |cons x a ih=>intro b h;cases b with
      |nil=>cases h
      |cons y b=>
       rw[List.map_cons,List.map_cons] at h;injection h with h1 h2
       rw[V.str.inj h1,ih h2]
    exact inj z
   rw[z'];exact ri
  ·intro z;rw[Lz (Qv z)] at pt;rw[OP (key:=fun z:Str=>z) pt ri z]
 rw[e];exact q _ ((s8.trans sp).trans s2)
theorem FS {α:Type}{H:Hp}{l:Addr}{us:List α}{c:α->Bool}(h:H l=some (.lst ((us.filter fun _=>true).map fun x=>V.bl (c x)))):H l=some (.lst ((us.map c).map V.bl)):=by
 rw[h,List.filter_eq_self.mpr (fun _ _=>rfl),List.map_map];rfl
theorem JJ {α:Type}(us:List α)(c:α->Bool):(us.map c).all id=us.all c:=by rw[List.all_map];rfl
theorem Km {H:Hp}{v:V}{t:Tr}(h:Rep Eu H t v)(k:BE t=true):v=.ref (adr v)/\∃r,H (adr v)=some (.tup (.str (Gi t)::r)):=by
 unfold BE at k
 split at k
 ·rename_i x y
  obtain⟨a,us,rfl,e,v1,us1,rfl,r1,v2,us2,rfl,r2,rfl⟩:=h;rw[Bool.and_eq_true] at k;cases x with
  |str z=>
   have:v1=.str z:=r1;subst this;exact⟨rfl,_,e⟩
  |_=>cases k.1
 ·cases k
theorem Jb {H:Hp}{v:V}{t:Tr}(h:Rep Eu H t v)(k:(C9 t||Dt t)=true):v=.ref (adr v)/\∃r,H (adr v)=some (.tup (.str (Gi t)::r)):=by
 have sn:∀{a b c d e:Tr},t=.tup [a,b,c,d,e]->sN a=true->v=.ref (adr v)/\∃r,H (adr v)=some (.tup (.str (Gi t)::r)):=fun{a b c d e} et ka=>by
  clear k
  subst et;obtain⟨p,us,rfl,e,v1,us1,rfl,r1,r⟩:=h;cases a with
  |str z=>
   have:v1=.str z:=r1;subst this;exact⟨rfl,_,e⟩
  |_=>cases ka
 rcases Bool.or_eq_true _ _▸k with k|k
 ·unfold C9 at k
  split at k
  ·rw[Bool.and_eq_true,Bool.and_eq_true] at k;exact sn rfl k.2.1
  ·cases k
 ·unfold Dt at k
  split at k
  ·rw[Bool.and_eq_true,Bool.and_eq_true] at k;exact sn rfl k.2.1
  ·cases k
def D0 (K:W.Frag):Sp:=fun vs H Q _=>∃v t,vs=[v]/\Rep Eu H t v/\sh 2 t=true/\∀H',Ah H H'->Q (.bl (ED t)) H'
theorem JF (T:Txt K mg)(F:Fun K "are_keepers" "are_keepers" BY f fd)(Cf:Def P w K mg base 1 "are_rising" ["named"] (Dp K))(FB:Def P w K mg base 3 "is_keeper" ["thing"] (EX K)):FnOk P w K mg base CP 4 f fd ["thing"] (D0 K):=by
 exists Jz
 ·obtain⟨v,t,rfl,_⟩:=h;rfl
 obtain⟨v,t,rfl,hv,hs,q⟩:=h;have okv:=Bg hv hs;refine⟨_,(!Ae (!AU (@PW.pt _ _ _ (!BO (!AI (!AH (!Ak AJ (by rfl) T.b_isinstance Ax (!Aa (pv 0) (!Aa (!BS rfl T.b_tuple Be) (!Ab)))) (by intro _;rfl))) (!Bs (!AO KD (!Ak AM (by rfl) T.b_len BG (!Aa (pv 0) (!Ab))) (!AG rfl T.c_MOST_KEEPERS) (AF _))))) (!Ag (!Al (!A1))) (!Aw)) (!Ag (!Al (!A8 (!Ak (Bd rfl) (by rfl) T.b_all Ca (!Aa (@AV _ ["keeper"] _ _ _ _ _ _ _ _ _ _ rfl (!Bb (pv 0)) (by decide +kernel) (fun C s H fp=>⟨(@An _ _ (0) _ (show(["keeper"]:List Str).Nodup by decide +kernel) rfl (by trivial) (by trivial)),(!AB),(!Au FB (by trivial) rfl (!Aa (pv 0) (!Ab)))⟩) (by intro _;rfl)) (!Ab))) (!Bq (!Au Cf (by trivial) rfl (!Aa (pv 0) (!Ab)))))))),?_⟩
 try dsimp only[Cg,Cx.nox,Cx.wish]
 refine⟨_,rfl,_,_,_,_,rfl,okv.ty K,okv.kit K,_,rfl,?_⟩;have ty:=V7 hv;cases t with
 |tup ts=>
  obtain⟨a,vs,rfl,e,r⟩:=hv;obtain⟨ps,rfl,rfl,hp⟩:=Ea r;refine As (by show(!isA (Eg H (V.ref a)) "tuple")=false;rw[ty];rfl) ?_;refine⟨_,rfl,a,_,rfl,.inr (AE.of e),_,_,rfl,rfl,_,rfl,?_⟩
  by_cases c8:ps.length<=8
  ·refine As (decide_eq_false (by rw[List.length_map];omega)) ?_
   replace q:∀H',Ah H H'->Q (.bl (decide ((ps.map (·.2)).length<=8)&&((ps.map (·.2)).all BE&&DD ((ps.map (·.2)).map Gi)))) H':=q
   rw[List.length_map,decide_eq_true c8,Bool.true_and] at q;refine⟨_,rfl,a,rfl,⟨_,AE.of e⟩,?_⟩;refine Bv (ps:=ps) (g:=fun p=>p.1) (fun _=>true) (fun p=>V.bl (BE p.2)) (A2 e) (by omega) (fun p hp H' R s' hR=>hR) (fun p hpm hs' H' R s' hR=>?_) fun l H7 n7 s7 h7=>?_
   ·exact⟨_,rfl,p.1,p.2,rfl,Rep.same s' _ _ (hp p hpm),B1 hs (List.mem_map.mpr ⟨p,hpm,rfl⟩),fun H'' s''=>hR H'' s''⟩
   refine⟨l,_,rfl,AR.of (FS h7),_,rfl,?_⟩;rw[JJ];have ea:(ps.map (·.2)).all BE=ps.all fun p=>BE p.2:=by rw[List.all_map];rfl
   rw[ea] at q;cases ca:ps.all fun p=>BE p.2 with
   |false=>rw[ca] at q;exact As rfl (q H7 s7)
   |true=>
    rw[ca] at q;have kp:∀p∈ps,p.1=.ref (adr p.1)/\∃r,H (adr p.1)=some (.tup (.str (Gi p.2)::r)):=fun p hpm=>Km (hp p hpm) (List.all_eq_true.mp ca p hpm)
    refine Ao rfl ⟨_,rfl,a,ps.map fun p=>(adr p.1,Gi p.2),rfl,?_,fun t ht=>?_,by rw[List.length_map];omega,fun H' s'=>?_⟩
    ·rw[s7.get e,List.map_map];exact congrArg (fun z=>some (HO.tup z)) (List.map_congr_left fun p hpm=>(kp p hpm).1)
    ·obtain⟨p,hpm,rfl⟩:=List.mem_map.mp ht;obtain⟨r,hr'⟩:=(kp p hpm).2;exact⟨r,s7.get hr'⟩
    ·have:=q H' (s7.trans s');rw[List.map_map] at this;rw[List.map_map];exact this
  ·refine Ao (decide_eq_true (by rw[List.length_map];omega)) ?_;have:=q H (Ah.refl _);rw[show ED (.tup (ps.map (·.2)))=false by show(decide ((ps.map (·.2)).length<=8)&&_)=false;rw[List.length_map,decide_eq_false c8];rfl] at this;exact this
 |_=>exact Ao (by show(!isA (Eg H v) "tuple")=true;rw[ty];rfl) (q H (Ah.refl _))
def EZ (K:W.Frag):Sp:=fun vs H Q _=>∃v t,vs=[v]/\Rep Eu H t v/\sh 3 t=true/\(∀ns,t=.tup ns->∀x∈ns,Ed x=true)/\∀H',Ah H H'->Q (.bl (HM t)) H'
theorem LM (T:Txt K mg)(F:Fun K "are_names" "are_names" CH f fd)(Cf:Def P w K mg base 1 "are_rising" ["named"] (Dp K))(HQ:Def P w K mg base 4 "is_stem" ["thing"] (Gw K))(HV:Def P w K mg base 4 "is_seal" ["thing"] (GM K)):FnOk P w K mg base CP 5 f fd ["thing"] (EZ K):=by
 exists Lu
 ·obtain⟨v,t,rfl,_⟩:=h;rfl
 obtain⟨v,t,rfl,hv,hs,th,q⟩:=h;have okv:=Bg hv hs;refine⟨_,(!Ae (!AU (@PW.pt _ _ _ (!BO (!AI (!AH (!Ak AJ (by rfl) T.b_isinstance Ax (!Aa (pv 0) (!Aa (!BS rfl T.b_tuple Be) (!Ab)))) (by intro _;rfl))) (!Bs (!AO KD (!Ak AM (by rfl) T.b_len BG (!Aa (pv 0) (!Ab))) (!AG rfl T.c_MOST_NAMES) (AF _))))) (!Ag (!Al (!A1))) (!Aw)) (!Ag (!Al (!A8 (!Ak (Bd rfl) (by rfl) T.b_all Ca (!Aa (@AV _ ["named"] _ _ _ _ _ _ _ _ _ _ rfl (!Bb (pv 0)) (by decide +kernel) (fun C s H fp=>⟨(@An _ _ (0) _ (show(["named"]:List Str).Nodup by decide +kernel) rfl (by trivial) (by trivial)),(!AB),(!Qf (!Au HQ (by trivial) rfl (!Aa (pv 0) (!Ab))) (!Bq (!Au HV (by trivial) rfl (!Aa (pv 0) (!Ab)))))⟩) (by intro _;rfl)) (!Ab))) (!Bq (!Au Cf (by trivial) rfl (!Aa (pv 0) (!Ab)))))))),?_⟩
 try dsimp only[Cg,Cx.nox,Cx.wish]
 refine⟨_,rfl,_,_,_,_,rfl,okv.ty K,okv.kit K,_,rfl,?_⟩;have ty:=V7 hv;cases t with
 |tup ts=>
  obtain⟨a,vs,rfl,e,r⟩:=hv;obtain⟨ps,rfl,rfl,hp⟩:=Ea r;refine As (by show(!isA (Eg H (V.ref a)) "tuple")=false;rw[ty];rfl) ?_;refine⟨_,rfl,a,_,rfl,.inr (AE.of e),_,_,rfl,rfl,_,rfl,?_⟩
  by_cases c8:ps.length<=24
  ·refine As (decide_eq_false (by rw[List.length_map];omega)) ?_
   replace q:∀H',Ah H H'->Q (.bl (decide ((ps.map (·.2)).length<=24)&&((ps.map (·.2)).all (fun t=>C9 t||Dt t)&&DD ((ps.map (·.2)).map Gi)))) H':=q
   rw[List.length_map,decide_eq_true c8,Bool.true_and] at q;refine⟨_,rfl,a,rfl,⟨_,AE.of e⟩,?_⟩;refine Bv (ps:=ps) (g:=fun p=>p.1) (fun _=>true) (fun p=>V.bl (C9 p.2||Dt p.2)) (A2 e) (by omega) (fun p hp H' R s' hR=>hR) (fun p hpm hs' H' R s' hR=>?_) fun l H7 n7 s7 h7=>?_
   ·have sp:=B1 hs (List.mem_map.mpr ⟨p,hpm,rfl⟩);refine⟨_,rfl,p.1,p.2,rfl,Rep.same s' _ _ (hp p hpm),sp,th _ rfl _ (List.mem_map.mpr ⟨p,hpm,rfl⟩),fun H1 s1=>⟨_,rfl,?_⟩⟩;cases cs:C9 p.2 with
    |true=>rw[cs] at hR;exact Ao rfl (hR H1 s1)
    |false=>
     rw[cs] at hR;exact As rfl ⟨_,rfl,p.1,p.2,rfl,Rep.same (s'.trans s1) _ _ (hp p hpm),sp,fun H2 s2=>hR H2 (s1.trans s2)⟩
   refine⟨l,_,rfl,AR.of (FS h7),_,rfl,?_⟩;rw[JJ];have ea:(ps.map (·.2)).all (fun t=>C9 t||Dt t)=ps.all fun p=>C9 p.2||Dt p.2:=by rw[List.all_map];rfl
   rw[ea] at q;cases ca:ps.all fun p=>C9 p.2||Dt p.2 with
   |false=>rw[ca] at q;exact As rfl (q H7 s7)
   |true=>
    rw[ca] at q;have kp:∀p∈ps,p.1=.ref (adr p.1)/\∃r,H (adr p.1)=some (.tup (.str (Gi p.2)::r)):=fun p hpm=>Jb (hp p hpm) (List.all_eq_true.mp ca p hpm)
    refine Ao rfl ⟨_,rfl,a,ps.map fun p=>(adr p.1,Gi p.2),rfl,?_,fun t ht=>?_,by rw[List.length_map];omega,fun H' s'=>?_⟩
    ·rw[s7.get e,List.map_map];exact congrArg (fun z=>some (HO.tup z)) (List.map_congr_left fun p hpm=>(kp p hpm).1)
    ·obtain⟨p,hpm,rfl⟩:=List.mem_map.mp ht;obtain⟨r,hr'⟩:=(kp p hpm).2;exact⟨r,s7.get hr'⟩
    ·have:=q H' (s7.trans s');rw[List.map_map] at this;rw[List.map_map];exact this
  ·refine Ao (decide_eq_true (by rw[List.length_map];omega)) ?_;have:=q H (Ah.refl _);rw[show HM (.tup (ps.map (·.2)))=false by show(decide ((ps.map (·.2)).length<=24)&&_)=false;rw[List.length_map,decide_eq_false c8];rfl] at this;exact this
 |_=>exact Ao (by show(!isA (Eg H v) "tuple")=true;rw[ty];rfl) (q H (Ah.refl _))
end
inductive En where
 |st (nm kp og:Str) (t:Int×Int×Int)
 |sl (nm sm:Str) (tn:Int) (t:Int×Int×Int)
def En.nm:En->Str
 | .st nm _ _ _=>nm
 | .sl nm _ _ _=>nm
def En.tg:En->Int×Int×Int
 | .st _ _ _ t=>t
 | .sl _ _ _ t=>t
def En.turn:En->Int
 | .sl _ _ tn _=>tn
 |_=>0
def En.isS:En->Bool
 | .st _ _ _ _=>true
 |_=>false
def En.isSl (sm:Str):En->Bool
 | .sl _ s _ _=>decide (s=sm)
 |_=>false
def En.items (ta:Addr):En->List V
 | .st nm kp og _=>[.str nm,.int 1,.str kp,.str og,.ref ta]
 | .sl nm sm tn _=>[.str nm,.int 2,.str sm,.int tn,.ref ta]
def W3 (t:Int×Int×Int):List V:=[.int t.1,.int t.2.1,.int t.2.2]
def J8 (H:Hp)(p:Addr×En):Prop:=∃ta,H ta=some (.tup (W3 p.2.tg))/\H p.1=some (.tup (p.2.items ta))
theorem J8.get {H H':Hp}{p:Addr×En}(h:J8 H p)(k:∀b xs,H b=some (.tup xs)->H' b=some (.tup xs)):J8 H' p:=by
 obtain⟨ta,h1,h2⟩:=h;exact⟨ta,k _ _ h1,k _ _ h2⟩
structure HeadAt (H:Hp) (h:Addr) (ag:Int) (k n:Addr) (ps:List (Addr×En)):Prop where
 at_:H h=some (.tup [.int ag,.ref k,.ref n])
 nm:H n=some (.tup (ps.map fun p=>V.ref p.1))
 en:∀p∈ps,J8 H p
theorem HeadAt.get {H H':Hp}{h:Addr}{ag:Int}{k n:Addr}{ps:List (Addr×En)}(x:HeadAt H h ag k n ps)(g:∀b xs,H b=some (.tup xs)->H' b=some (.tup xs)):HeadAt H' h ag k n ps:=
 ⟨g _ _ x.at_,g _ _ x.nm,fun p hp=>(x.en p hp).get g⟩
theorem HeadAt.same {H H':Hp}{h:Addr}{ag:Int}{k n:Addr}{ps:List (Addr×En)}(x:HeadAt H h ag k n ps)(s:Ah H H'):HeadAt H' h ag k n ps:=x.get fun _ _ e=>s.get e
abbrev Wx (ps:List (Addr×En)):Prop:=(ps.map fun p=>p.2.nm).Nodup
theorem LK {α β:Type}{f:α->β}:∀{l:List α},(l.map f).Nodup->∀{x y:α},x∈l->y∈l->f x=f y->x=y
 |[],_,x,_,hx,_,_=>nomatch hx
 |a::l,nd,x,y,hx,hy,e=>by
  rw[List.map_cons,List.nodup_cons] at nd;rcases List.mem_cons.mp hx with e1|h1
  ·rcases List.mem_cons.mp hy with e2|h2
   ·rw[e1,e2]
   ·exact absurd (List.mem_map.mpr ⟨y,h2,by rw[<-e,e1]⟩) nd.1
  ·rcases List.mem_cons.mp hy with e2|h2
   ·exact absurd (List.mem_map.mpr ⟨x,h1,by rw[e,e2]⟩) nd.1
   ·exact LK nd.2 h1 h2 e
theorem Pt {α β:Type}{f:α->β}{us vs:List β}(h:us.Perm vs):∀{qs:List α},vs=qs.map f->∃us':List α,us'.Perm qs/\us'.map f=us:=by
 induction h with
 |nil=>intro qs e;exact⟨[],by rw[List.map_eq_nil_iff.mp e.symm],rfl⟩
 |cons x _ ih=>
  intro qs e;cases qs with
  |nil=>cases e
  |cons q qs=>
   rw[List.map_cons] at e;injection e with e1 e2
   obtain⟨us',h1,h2⟩:=ih e2;exact⟨q::us',h1.cons q,by rw[List.map_cons,h2,e1]⟩
 |swap x y l=>
  intro qs e;cases qs with
  |nil=>cases e
  |cons q qs=>
   cases qs with
   |nil=>cases e
   |cons q' qs=>
    rw[List.map_cons,List.map_cons] at e;injection e with e1 e2
    injection e2 with e2 e3
    exact⟨q'::q::qs,List.Perm.swap _ _ _,by rw[List.map_cons,List.map_cons,e1,e2,e3]⟩
 |trans _ _ ih1 ih2=>
  intro qs e;obtain⟨a,h1,h2⟩:=ih2 e;obtain⟨b,h3,h4⟩:=ih1 h2.symm;exact⟨b,h3.trans h1,h4⟩
theorem S4 (x:Str)(ns:List Str):Wu (V.str x) (ns.map V.str)=decide (x∈ns):=by
 unfold Wu;rw[List.any_map,Bool.eq_iff_iff,List.any_eq_true,decide_eq_true_eq];constructor
 ·rintro⟨y,hy,e⟩
  have:y=x:=of_decide_eq_true (show decide (y=x)=true from e);rw[<-this];exact hy
 ·intro h;exact⟨x,h,(show decide (x=x)=true from decide_eq_true rfl)⟩
def En.og:En->Str
 | .st _ _ og _=>og
 |_=>EM
def En.v2:En->Str
 | .st _ kp _ _=>kp
 | .sl _ sm _ _=>sm
def En.v3:En->V
 | .st _ _ og _=>.str og
 | .sl _ _ tn _=>.int tn
theorem J8.v3 {H:Hp}{p:Addr×En}(h:J8 H p):∃xs,H p.1=some (.tup xs)/\xs[0]?=some (.str p.2.nm)/\xs[2]?=some (.str p.2.v2)/\xs[3]?=some p.2.v3:=by
 obtain⟨ta,_,h2⟩:=h;obtain⟨a,e⟩:=p;cases e<;>exact⟨_,h2,rfl,rfl,rfl⟩
structure AtOne (ks:List Str) (es:List En):Prop where
 kp:∀nm kp og t,En.st nm kp og t∈es->kp∈ks
 tns:((es.filter fun e=>!e.isS).map En.turn).Nodup
 org:∀nm kp og t,En.st nm kp og t∈es->og=EM\/∃sm tn t',En.sl og sm tn t'∈es
 stm:∀nm sm tn t,En.sl nm sm tn t∈es->∃kp og t',En.st sm kp og t'∈es
 beg:∀nm kp og t sm tg t' x tn t'',En.st nm kp og t∈es->En.sl og sm tg t'∈es->En.sl x nm tn t''∈es->tg<tn
section
variable {P:Program}{w:World}{K:W.Frag}{mg:Str->Option Value}{base:Heap}{f:Addr}{fd:FuncData}
theorem JE {ps:List (Addr×En)}{e:En}(h:e∈ps.map (·.2)):∃a,(a,e)∈ps:=by
 obtain⟨⟨a,e'⟩,hp,rfl⟩:=List.mem_map.mp h;exact⟨a,hp⟩
theorem FT {α:Type}{key:α->Str}{val:α->V}{z:Str}:∀{l:List α},BK (l.map fun y=>((Sum.inr (key y):Key),val y)) (Sum.inr z)=(l.find? fun y=>decide (key y=z)).map val
 |[]=>rfl
 |y::l=>by
  rw[List.map_cons,List.find?_cons]
  by_cases e:key y=z
  ·rw[decide_eq_true e,GW (by rw[e])];rfl
  ·rw[decide_eq_false e,GZ (fun h=>e (Sum.inr.inj h))];exact FT
def Pn (v:En->Int)(p:Addr×En)(y:V)(H:Hp):Prop:=∃b,y=.ref b/\H b=some (.tup [.str p.2.nm,.int (v p.2)])
theorem Pn.adr {v:En->Int}{p:Addr×En}{y:V}{H:Hp}(h:Pn v p y H):y=.ref (adr y)/\H (adr y)=some (.tup [.str p.2.nm,.int (v p.2)]):=by
 obtain⟨b,rfl,h⟩:=h;exact⟨rfl,h⟩
theorem Pn.same {v:En->Int}(x:Addr×En)(y:V)(H1 H2:Hp)(h:Pn v x y H1)(s:Ah H1 H2):Pn v x y H2:=by
 obtain⟨b,e,h⟩:=h;exact⟨b,e,s.get h⟩
theorem Pn.upd {v:En->Int}(x:Addr×En)(y:V)(H1:Hp)(l:Addr)(us us':List V)(h:Pn v x y H1)(hl:H1 l=some (.lst us)):Pn v x y (L2.upd H1 l (.lst us')):=by
 obtain⟨b,e,h⟩:=h;exact⟨b,e,by rw[Aj fun z=>by rw[z,hl] at h;cases h];exact h⟩
theorem Ot {v:En->Int} {H:Hp} {l:Addr} {ps:List (Addr×En)} {ys:List ((Addr×En)×V)} {Q:VK} (h:H l=some (.lst (ys.map (·.2)))) (ey:ys.map (·.1)=ps) (hy:∀q∈ys,Pn v q.1 q.2 H) (nd:Wx ps) (few:ps.length<=24)
  (q:∀d,H d=none->Q (.ref d) (L2.upd H d (.dK (ps.map fun p=>((Sum.inr p.2.nm:Key),V.int (v p.2)))))):R6 K [.ref l] H Q:=by
 have ly:ys.length=ps.length:=by rw[<-ey,List.length_map]
 refine⟨l,ys.map fun q=>adr q.2,ps.map fun p=>((Sum.inr p.2.nm:Key),V.int (v p.2)),rfl,AR.of ?_,by rw[List.length_map,List.length_map,ly],by rw[List.length_map];omega,?_,fun i t k u h1 h2=>?_,q⟩
 ·rw[h,List.map_map];exact congrArg (fun z=>some (HO.lst z)) (List.map_congr_left fun q hq=>(hy q hq).adr.1)
 ·rw[List.map_map];have:(ps.map fun p=>(Sum.inr p.2.nm:Key)).Nodup:=by
   have:=List.pairwise_map.mp nd;exact List.pairwise_map.mpr (List.Pairwise.imp (fun{a b} z e=>z (Sum.inr.inj e)) this)
  exact this
 ·rw[List.getElem?_map] at h1 h2;obtain⟨q,hq,rfl⟩:=Option.map_eq_some_iff.mp h1;rw[<-ey,List.getElem?_map,hq] at h2;cases h2;exact(hy q (List.mem_of_getElem? hq)).adr.2
def Ej (K:W.Frag):Sp:=fun vs H Q _=>∃(k n:Addr) (ks:List (Addr×Str)) (ps:List (Addr×En)),vs=[.ref k,.ref n]/\H k=some (.tup (ks.map fun t=>V.ref t.1))/\(∀t∈ks,∃r,H t.1=some (.tup (.str t.2::r)))/\ks.length<=8/\H n=some (.tup (ps.map fun p=>V.ref p.1))/\(∀p∈ps,J8 H p)/\Wx ps/\(∀p∈ps,p.2.nm≠EM)/\(∀nm sm tn t,En.sl nm sm tn t∈ps.map (·.2)->0<tn)/\ps.length<=24/\
 ∀b H',(b=true↔AtOne (ks.map (·.2)) (ps.map (·.2)))->Ah H H'->Q (.bl b) H'
theorem J4 (T:Txt K mg)(F:Fun K "are_at_one" "are_at_one" Ci f fd):FnOk P w K mg base CP 1 f fd ["keepers","names"] (Ej K):=by
 exists BX
 ·obtain⟨k,n,ks,ps,rfl,_⟩:=h;rfl
 obtain⟨k,n,ks,ps,rfl,h0,hks,fewk,hn,he,nd,nem,pos,few,q⟩:=h;have hu:=Cu hr;have hu9:=C1 hr;refine⟨_,(!Ae (@Ex _ ["named"] (2) _ _ _ _ _ _ _ _ _ _ _ _ _ BX.nd rfl (by trivial) rfl (!Bb (pv 1)) (by decide +kernel) (fun C s H fp=>⟨(@An _ _ (0) _ (show(["named"]:List Str).Nodup by decide +kernel) rfl (by trivial) (by trivial)),(!Et (!AO Br (!Am (AQ (K:=K) (by rfl)) (pv 0) (!Ac) (fun _ _=>rfl)) (!AG rfl T.c_STEM) (AF _))),(pv 0)⟩) (by intro _;rfl) (by rfl) (by trivial)) (!Ae (@Ex _ ["named"] (3) _ _ _ _ _ _ _ _ _ _ _ _ _ BX.nd rfl (by trivial) rfl (!Bb (pv 1)) (by decide +kernel) (fun C s H fp=>⟨(@An _ _ (0) _ (show(["named"]:List Str).Nodup by decide +kernel) rfl (by trivial) (by trivial)),(!Et (!AO Br (!Am (AQ (K:=K) (by rfl)) (pv 0) (!Ac) (fun _ _=>rfl)) (!AG rfl T.c_SEAL) (AF _))),(pv 0)⟩) (by intro _;rfl) (by rfl) (by trivial)) (!Ae (@A7 _ _ (4) _ _ _ _ BX.nd rfl (by trivial) (@AV _ ["keeper"] _ _ _ _ _ _ _ _ _ _ rfl (!Bb (pv 0)) (by decide +kernel) (fun C s H fp=>⟨(@An _ _ (0) _ (show(["keeper"]:List Str).Nodup by decide +kernel) rfl (by trivial) (by trivial)),(!AB),(!Am (AQ (K:=K) (by rfl)) (pv 0) (!Ac) (fun _ _=>rfl))⟩) (by intro _;rfl)) (by rfl) (by trivial)) (!Ae (!AU (!AI (!AH (!Ak (Bd rfl) (by rfl) T.b_all Ca (!Aa (@Cc _ ["stem","called"] [none,some 4] _ _ _ _ _ _ _ _ _ _ _ rfl (!Bf (pv 2)) (by rfl) rfl (by repeat (first|exact trivial|refine⟨rfl,?_⟩)) (by repeat (first|exact trivial|refine⟨fun h=>(by first|exact⟨_,rfl⟩|cases h),?_⟩)) (fun C s H fp=>⟨(@An _ _ (0) _ (show(["stem","called"]:List Str).Nodup by decide +kernel) rfl (by trivial) (by trivial)),(!AB),(!A5 (NU (K:=K) (by rfl)) (!Am (AQ (K:=K) (by rfl)) (pv 0) (!Ac) (fun _ _=>rfl)) (pv 1))⟩) (by intro _;rfl)) (!Ab))) (by intro _;rfl))) (!Ag (!Al (!A1))) (!Aw)) (!Ae (!AU (!AO Qy (!Ak Mt (by rfl) T.b_len BG (!Aa (!A9 (PQ (K:=K) (by rfl) rfl) (by rfl) T.b_set Jj (!Aa (@AV _ ["seal"] _ _ _ _ _ _ _ _ _ _ rfl (!Bf (pv 3)) (by decide +kernel) (fun C s H fp=>⟨(@An _ _ (0) _ (show(["seal"]:List Str).Nodup by decide +kernel) rfl (by trivial) (by trivial)),(!AB),(!Am (AQ (K:=K) (by rfl)) (pv 0) (!Ac) (fun _ _=>rfl))⟩) (by intro _;rfl)) (!Ab))) (!Ab))) (!Ak AM (by rfl) T.b_len BG (!Aa (pv 3) (!Ab))) (AF _)) (!Ag (!Al (!A1))) (!Aw)) (!Ae (@A7 _ _ (5) _ _ _ _ BX.nd rfl (by trivial) (!A9 (Jn (K:=K) (by rfl) rfl) (by rfl) T.b_dict G6 (!Aa (@AV _ ["seal"] _ _ _ _ _ _ _ _ _ _ rfl (!Bf (pv 3)) (by decide +kernel) (fun C s H fp=>⟨(@An _ _ (0) _ (show(["seal"]:List Str).Nodup by decide +kernel) rfl (by trivial) (by trivial)),(!AB),(!Av (!Aa (!Am (AQ (K:=K) (by rfl)) (pv 0) (!Ac) (fun _ _=>rfl)) (!Aa (!Am (AQ (K:=K) (by rfl)) (pv 0) (!Ac) (fun _ _=>rfl)) (!Ab))))⟩) (by intro _;rfl)) (!Ab))) (by rfl) (by trivial)) (!Ae (!AU (!AI (!AH (!Ak (Bd rfl) (by rfl) T.b_all Ca (!Aa (@Cc _ ["stem","turns"] [none,some 5] _ _ _ _ _ _ _ _ _ _ _ rfl (!Bf (pv 2)) (by rfl) rfl (by repeat (first|exact trivial|refine⟨rfl,?_⟩)) (by repeat (first|exact trivial|refine⟨fun h=>(by first|exact⟨_,rfl⟩|cases h),?_⟩)) (fun C s H fp=>⟨(@An _ _ (0) _ (show(["stem","turns"]:List Str).Nodup by decide +kernel) rfl (by trivial) (by trivial)),(!AB),(!Qf (!A5 Br (!Am (AQ (K:=K) (by rfl)) (pv 0) (!Ac) (fun _ _=>rfl)) (!B5) (AF _)) (!Bq (!LF (!LZ hu (!Am (AQ (K:=K) (by rfl)) (pv 0) (!Ac) (fun _ _=>rfl)) (pv 1)) (by first|exact Ez _ (by decide) (by decide)|rfl))))⟩) (by intro _;rfl)) (!Ab))) (by intro _;rfl))) (!Ag (!Al (!A1))) (!Aw)) (!Ae (@A7 _ _ (6) _ _ _ _ BX.nd rfl (by trivial) (!A9 (Jn (K:=K) (by rfl) rfl) (by rfl) T.b_dict G6 (!Aa (@Cc _ ["stem","turns"] [none,some 5] _ _ _ _ _ _ _ _ _ _ _ rfl (!Bf (pv 2)) (by rfl) rfl (by repeat (first|exact trivial|refine⟨rfl,?_⟩)) (by repeat (first|exact trivial|refine⟨fun h=>(by first|exact⟨_,rfl⟩|cases h),?_⟩)) (fun C s H fp=>⟨(@An _ _ (0) _ (show(["stem","turns"]:List Str).Nodup by decide +kernel) rfl (by trivial) (by trivial)),(!AB),(!Av (!Aa (!Am (AQ (K:=K) (by rfl)) (pv 0) (!Ac) (fun _ _=>rfl)) (!Aa (!Q6 hu (pv 1) (!Am (AQ (K:=K) (by rfl)) (pv 0) (!Ac) (fun _ _=>rfl)) (!Ac) ⟨rfl,rfl,rfl,rfl⟩) (!Ab))))⟩) (by intro _;rfl)) (!Ab))) (by rfl) (by trivial)) (!Ag (!Al (!Ak (Bd rfl) (by rfl) T.b_all Ca (!Aa (@Cc _ ["seal","begins"] [none,some 6] _ _ _ _ _ _ _ _ _ _ _ rfl (!Bf (pv 3)) (by rfl) rfl (by repeat (first|exact trivial|refine⟨rfl,?_⟩)) (by repeat (first|exact trivial|refine⟨fun h=>(by first|exact⟨_,rfl⟩|cases h),?_⟩)) (fun C s H fp=>⟨(@An _ _ (0) _ (show(["seal","begins"]:List Str).Nodup by decide +kernel) rfl (by trivial) (by trivial)),(!AB),(!A8 (!LF (!LZ hu (!Am (AQ (K:=K) (by rfl)) (pv 0) (!Ac) (fun _ _=>rfl)) (pv 1)) (by first|exact Ez _ (by decide) (by decide)|rfl)) (!Bq (!A5 KD (!Am (AQ (K:=K) (by rfl)) (pv 0) (!Ac) (fun _ _=>rfl)) (!DI hu (pv 1) (!Am (AQ (K:=K) (by rfl)) (pv 0) (!Ac) (fun _ _=>rfl)) (fun _ _=>rfl)) (AF _))))⟩) (by intro _;rfl)) (!Ab))))))))))))),?_⟩
 try dsimp only[Cg,Cx.nox,Cx.wish]
 have lS:=List.length_filter_le (fun p:Addr×En=>p.2.isS) ps;have lL:=List.length_filter_le (fun p:Addr×En=>!p.2.isS) ps;have ndS:Wx (ps.filter fun p=>p.2.isS):=nd.sublist (List.filter_sublist.map _);have ndL:Wx (ps.filter fun p=>!p.2.isS):=nd.sublist (List.filter_sublist.map _);have tnL:((ps.map (·.2)).filter fun e=>!e.isS).map En.turn=(ps.filter fun p=>!p.2.isS).map fun p=>p.2.turn:=by
  rw[List.filter_map,List.map_map];rfl
 have isS:∀p∈ps.filter (fun p=>p.2.isS),p∈ps/\∃nm kp og t,p.2=.st nm kp og t:=fun p hp=>by
  obtain⟨g1,g2⟩:=List.mem_filter.mp hp;refine⟨g1,?_⟩;cases e:p.2 with
  |st nm kp og t=>exact⟨_,_,_,_,rfl⟩
  |sl _ _ _ _=>rw[e] at g2;cases g2
 have isL:∀p∈ps.filter (fun p=>!p.2.isS),p∈ps/\∃nm sm n t,p.2=.sl nm sm n t:=fun p hp=>by
  obtain⟨g1,g2⟩:=List.mem_filter.mp hp;refine⟨g1,?_⟩;cases e:p.2 with
  |st nm kp og t=>rw[e] at g2;cases g2
  |sl _ _ _ _=>exact⟨_,_,_,_,rfl⟩
 have memS:∀{nm kp og t},En.st nm kp og t∈ps.map (·.2)->∃a,(a,En.st nm kp og t)∈ps.filter fun p=>p.2.isS:=fun{nm kp og t} h=>by
  obtain⟨a,ha⟩:=JE h;exact⟨a,List.mem_filter.mpr ⟨ha,rfl⟩⟩
 have memL:∀{nm sm n t},En.sl nm sm n t∈ps.map (·.2)->∃a,(a,En.sl nm sm n t)∈ps.filter fun p=>!p.2.isS:=fun{nm sm n t} h=>by
  obtain⟨a,ha⟩:=JE h;exact⟨a,List.mem_filter.mpr ⟨ha,rfl⟩⟩
 have inE:∀{p:Addr×En},p∈ps->p.2∈ps.map (·.2):=fun hp=>List.mem_map.mpr ⟨_,hp,rfl⟩
 refine⟨_,rfl,n,rfl,⟨_,AE.of hn⟩,?_⟩;refine Bv (ps:=ps) (g:=fun p=>V.ref p.1) (fun p=>p.2.isS) (fun p=>V.ref p.1) (A2 hn) (by omega) (fun p hp H' R s' hR=>?_) (fun p hp hs H' R s' hR=>⟨_,rfl,hR H' (Ah.refl _)⟩) fun l1 H1 n1 s1 h1=>?_
 ·obtain⟨a,e⟩:=p;obtain⟨ta,_,ha⟩:=he _ hp;cases e<;>exact⟨_,rfl,a,_,_,_,rfl,rfl,AE.of (s'.get ha),AZ (j:=1) rfl,rfl,_,rfl,hR⟩
 refine⟨_,rfl,n,rfl,⟨_,AE.of (s1.get hn)⟩,?_⟩;refine Bv (ps:=ps) (g:=fun p=>V.ref p.1) (fun p=>!p.2.isS) (fun p=>V.ref p.1) (A2 (s1.get hn)) (by omega) (fun p hp H' R s' hR=>?_) (fun p hp hs H' R s' hR=>⟨_,rfl,hR H' (Ah.refl _)⟩) fun l2 H2 n2 s2 h2=>?_
 ·obtain⟨a,e⟩:=p;obtain⟨ta,_,ha⟩:=he _ hp;cases e<;>exact⟨_,rfl,a,_,_,_,rfl,rfl,AE.of (s'.get (s1.get ha)),AZ (j:=1) rfl,rfl,_,rfl,hR⟩
 have s12:=s1.trans s2;have h1:=s2.get h1;generalize ps.filter (fun p=>p.2.isS)=ss at h1 lS ndS isS memS;generalize ps.filter (fun p=>!p.2.isS)=ls at h2 lL ndL tnL isL memL;have stAt:∀{p:Addr×En},p∈ps->∃xs,H p.1=some (.tup xs)/\xs[0]?=some (.str p.2.nm)/\xs[2]?=some (.str p.2.v2)/\xs[3]?=some p.2.v3:=fun hp=>(he _ hp).v3
 refine⟨_,rfl,k,rfl,⟨_,AE.of (s12.get h0)⟩,?_⟩;refine Bv (ps:=ks) (g:=fun p=>V.ref p.1) (fun _=>true) (fun p=>V.str p.2) (A2 (s12.get h0)) (by omega) (fun p hp H' R s' hR=>hR) (fun p hp hs H' R s' hR=>?_) fun l3 H3 n3 s3 h3=>?_
 ·obtain⟨r,hr'⟩:=hks p hp;exact⟨_,rfl,p.1,_,_,_,rfl,rfl,AE.of (s'.get (s12.get hr')),AZ (j:=0) rfl,hR H' (Ah.refl _)⟩
 have s13:=s12.trans s3;have h1:=s3.get h1;have h2:=s3.get h2;rw[List.filter_eq_self.mpr (fun _ _=>rfl),show(ks.map fun p=>V.str p.2)=(ks.map (·.2)).map V.str by rw[List.map_map];rfl] at h3;generalize ks.map (·.2)=kz at h3 q;refine⟨_,rfl,l1,rfl,⟨_,AR.of h1⟩,?_⟩;refine Bv (ps:=ss) (g:=fun p=>V.ref p.1) (fun _=>true) (fun p=>V.bl (decide (p.2.v2∈kz))) (BZ (AR.of h1)) (by omega) (fun p hp H' R s' hR=>hR) (fun p hp hs H' R s' hR=>?_) fun l4 H4 n4 s4 h4=>?_
 ·obtain⟨hp,_⟩:=isS p hp;obtain⟨xs,hx,_,x2,_⟩:=stAt hp;refine⟨_,rfl,p.1,_,_,_,rfl,rfl,AE.of (s'.get (s13.get hx)),AZ (j:=2) x2,_,rfl,l3,_,rfl,.inl (AR.of (s'.get h3)),rfl,by rw[List.all_map,List.all_eq_true];exact fun _ _=>rfl,?_⟩;rw[if_neg Bool.false_ne_true,S4];exact hR H' (Ah.refl _)
 have s14:=s13.trans s4;have h1:=s4.get h1;have h2:=s4.get h2;refine⟨l4,_,rfl,AR.of (FS h4),_,rfl,?_⟩;rw[JJ];cases c1:ss.all fun p=>decide (p.2.v2∈kz) with
 |false=>
  refine Ao rfl (q false H4 ⟨fun z=>(by cases z),fun z=>?_⟩ s14);rw[<-c1,List.all_eq_true];intro p hp;obtain⟨hp',nm,kp,og,t,e⟩:=isS p hp;have:=z.kp nm kp og t (e▸inE hp');exact decide_eq_true (by rw[e];exact this)
 |true=>
 refine As rfl ?_;refine⟨_,rfl,l2,rfl,⟨_,AR.of h2⟩,?_⟩;refine Bv (ps:=ls) (g:=fun p=>V.ref p.1) (fun _=>true) (fun p=>V.int p.2.turn) (BZ (AR.of h2)) (by omega) (fun p hp H' R s' hR=>hR) (fun p hp hs H' R s' hR=>?_) fun l5 H5 n5 s5 h5=>?_
 ·obtain⟨hp,nm,sm,n0,t,e⟩:=isL p hp;obtain⟨xs,hx,_,_,x3⟩:=stAt hp;have x3:xs[3]?=some (.int p.2.turn):=by rw[x3,e];rfl
  exact⟨_,rfl,p.1,_,_,_,rfl,rfl,AE.of (s'.get (s14.get hx)),AZ (j:=3) x3,hR H' (Ah.refl _)⟩
 have s15:=s14.trans s5;have h1:=s5.get h1;have h2:=s5.get h2;rw[List.filter_eq_self.mpr (fun _ _=>rfl),show(ls.map fun p=>V.int p.2.turn)=(ls.map fun p=>p.2.turn).map V.int by rw[List.map_map];rfl] at h5;refine⟨l5,ls.map fun p=>p.2.turn,rfl,AR.of h5,by rw[List.length_map];omega,fun p6 n6=>?_⟩;have s6:=Ai n6 (.set (fun k=>decide (k∈ls.map fun p=>p.2.turn)) (cI (ls.map fun p=>p.2.turn) (ls.map fun p=>p.2.turn).length));have h6:(upd H5 p6 (.set (fun k=>decide (k∈ls.map fun p=>p.2.turn)) (cI (ls.map fun p=>p.2.turn) (ls.map fun p=>p.2.turn).length))) p6=some (.set (fun k=>decide (k∈ls.map fun p=>p.2.turn)) (cI (ls.map fun p=>p.2.turn) (ls.map fun p=>p.2.turn).length)):=Ad;generalize upd H5 p6 (.set (fun k=>decide (k∈ls.map fun p=>p.2.turn)) (cI (ls.map fun p=>p.2.turn) (ls.map fun p=>p.2.turn).length))=H6 at s6 h6;have s16:=s15.trans s6;have h1:=s6.get h1;have h2:=s6.get h2;refine⟨p6,_,_,rfl,h6,_,rfl,l2,_,rfl,.inl (AR.of h2),_,_,rfl,rfl,_,rfl,?_⟩;rcases Classical.em ((ls.map fun p=>p.2.turn).Nodup) with tn|tn
 rotate_left
 ·refine Ao (decide_eq_true ?_) (q false H6 ⟨fun z=>(by cases z),fun z=>absurd (tnL▸z.tns) tn⟩ s16);have lt:cI (ls.map fun p=>p.2.turn) (ls.map fun p=>p.2.turn).length<(ls.map fun p=>p.2.turn).length:=by
   generalize ls.map (fun p=>p.2.turn)=ns at tn;obtain⟨i,j,x,hi,hj,ij⟩:∃(i j:Nat) (x:Int),ns[i]?=some x/\ns[j]?=some x/\i<j:=by
    refine Classical.byContradiction fun no=>tn (List.pairwise_iff_getElem.mpr fun i j hi hj ij e=>no ⟨i,j,ns[i],List.getElem?_eq_getElem hi,by rw[e];exact List.getElem?_eq_getElem hj,ij⟩)
   exact TX hi hj ij _ (List.getElem?_eq_some_iff.mp hj).1 (Nat.le_refl _)
  rw[List.length_map] at lt ⊢;rw[List.length_map];omega
 refine As (decide_eq_false ?_) ?_
 ·rw[RZ tn _ (Nat.le_refl _),List.length_map,List.length_map];omega
 refine⟨_,rfl,l2,rfl,⟨_,AR.of h2⟩,?_⟩;refine Mg (ps:=ls) (g:=fun p=>V.ref p.1) (fun _=>true) (Pn En.turn) Pn.same Pn.upd (BZ (AR.of h2)) (by omega) (fun p hp H' R s' hR=>hR) (fun p hp hs H' R s' hR=>?_) fun l7 H7 y7 n7 s7 h7 e7 q7=>?_
 ·obtain⟨hp,nm,sm,n0,t,e⟩:=isL p hp;obtain⟨xs,hx,x0,_,x3⟩:=stAt hp;have x3:xs[3]?=some (.int p.2.turn):=by rw[x3,e];rfl
  have hx':=s'.get (s16.get hx);refine⟨_,rfl,p.1,_,_,_,rfl,rfl,AE.of hx',AZ (j:=0) x0,_,rfl,p.1,_,_,_,rfl,rfl,AE.of hx',AZ (j:=3) x3,Ms,fun b hb=>?_⟩;exact hR _ _ (Ai hb _) ⟨b,rfl,Ad⟩
 rw[List.filter_eq_self.mpr (fun _ _=>rfl)] at e7;have s17:=s16.trans s7;have h1:=s7.get h1;have h2:=s7.get h2;dsimp only[PP];refine Ot h7 e7 q7 ndL (by omega) fun d nd8=>?_
 have s8:=Ai nd8 (.dK (ls.map fun p=>((Sum.inr p.2.nm:Key),V.int p.2.turn)));have hd8:(upd H7 d (.dK (ls.map fun p=>((Sum.inr p.2.nm:Key),V.int p.2.turn)))) d=some (.dK (ls.map fun p=>((Sum.inr p.2.nm:Key),V.int p.2.turn))):=Ad;dsimp only[A4];generalize upd H7 d (.dK (ls.map fun p=>((Sum.inr p.2.nm:Key),V.int p.2.turn)))=H8 at s8 hd8;have s18:=s17.trans s8;have h1:=s8.get h1;have h2:=s8.get h2;have valT:∀{o sm n0 t},En.sl o sm n0 t∈ps.map (·.2)->BK (ls.map fun p=>((Sum.inr p.2.nm:Key),V.int p.2.turn)) (Sum.inr o)=some (.int n0):=fun{o sm n0 t} h=>by
  obtain⟨a,ha⟩:=memL h;rw[FT (key:=fun p:Addr×En=>p.2.nm) (val:=fun p=>V.int p.2.turn),show(ls.find? fun y=>decide (y.2.nm=o))=some (a,En.sl o sm n0 t) from ?_]
  ·rfl
  ·cases q':ls.find? fun y=>decide (y.2.nm=o) with
   |none=>exact absurd (decide_eq_true rfl) (List.find?_eq_none.mp q' _ ha)
   |some x=>
    have q2:decide (x.2.nm=o)=true:=List.find?_some (p:=fun y:Addr×En=>decide (y.2.nm=o)) q';rw[LK ndL (List.mem_of_find?_eq_some q') ha (of_decide_eq_true q2)]
 have valN:∀{o},(¬ ∃sm n0 t,En.sl o sm n0 t∈ps.map (·.2))->BK (ls.map fun p=>((Sum.inr p.2.nm:Key),V.int p.2.turn)) (Sum.inr o)=none:=fun{o} no=>by
  rw[FT (key:=fun p:Addr×En=>p.2.nm) (val:=fun p=>V.int p.2.turn),Option.map_eq_none_iff,List.find?_eq_none];intro p hp z;obtain⟨hp',nm,sm,n0,t,e⟩:=isL p hp;have z:=of_decide_eq_true z;refine no ⟨sm,n0,t,?_⟩;rw[<-z,e];exact e▸inE hp'
 refine⟨_,rfl,l1,rfl,⟨_,AR.of h1⟩,?_⟩;refine Bv (ps:=ss) (g:=fun p=>V.ref p.1) (fun _=>true) (fun p=>V.bl (decide (p.2.og=EM)||(BK (ls.map fun p=>((Sum.inr p.2.nm:Key),V.int p.2.turn)) (Sum.inr p.2.og)).isSome)) (BZ (AR.of h1)) (by omega) (fun p hp H' R s' hR=>hR) (fun p hp hs H' R s' hR=>?_) fun l9 H9 n9 s9 h9=>?_
 ·obtain⟨hp,nm,kp,og,t,e⟩:=isS p hp;obtain⟨xs,hx,_,_,x3⟩:=stAt hp;rw[e] at x3 hR;have hx':=s'.get (s18.get hx);refine⟨_,rfl,p.1,_,_,_,rfl,rfl,AE.of hx',AZ (j:=3) x3,rfl,_,rfl,?_⟩
  by_cases c:og=EM
  ·rw[show decide ((En.st nm kp og t).og=EM)=true from decide_eq_true c] at hR;exact Ao (decide_eq_true (by show V.str og=V.str EM;rw[c])) (hR H' (Ah.refl _))
  ·rw[show decide ((En.st nm kp og t).og=EM)=false from decide_eq_false c] at hR;exact As (decide_eq_false fun z=>c (V.str.inj z)) ⟨_,rfl,p.1,_,_,_,rfl,rfl,AE.of hx',AZ (j:=3) x3,_,rfl,d,_,rfl,Cm.k (k:=Sum.inr og) (s'.get hd8),hR H' (Ah.refl _)⟩
 have s19:=s18.trans s9;have h1:=s9.get h1;have h2:=s9.get h2;have hd9:=s9.get hd8;refine⟨l9,_,rfl,AR.of (FS h9),_,rfl,?_⟩;rw[JJ];have org_iff:(ss.all fun p=>decide (p.2.og=EM)||(BK (ls.map fun p=>((Sum.inr p.2.nm:Key),V.int p.2.turn)) (Sum.inr p.2.og)).isSome)=true↔∀nm kp og t,En.st nm kp og t∈ps.map (·.2)->og=EM\/∃sm tn t',En.sl og sm tn t'∈ps.map (·.2):=by
  rw[List.all_eq_true];constructor
  ·intro z nm kp og t h;obtain⟨a,ha⟩:=memS h;have:=z _ ha;rcases Bool.or_eq_true _ _▸this with y|y
   ·exact .inl (of_decide_eq_true y)
   ·refine .inr (Classical.byContradiction fun no=>?_);rw[show BK (ls.map fun p=>((Sum.inr p.2.nm:Key),V.int p.2.turn)) (Sum.inr (En.st nm kp og t).og)=none from valN no] at y;cases y
  ·intro z p hp;obtain⟨hp',nm,kp,og,t,e⟩:=isS p hp;rw[e];rcases z nm kp og t (e▸inE hp') with y|⟨sm,n0,t',hs⟩
   ·rw[show decide ((En.st nm kp og t).og=EM)=true from decide_eq_true y];rfl
   ·rw[show BK (ls.map fun p=>((Sum.inr p.2.nm:Key),V.int p.2.turn)) (Sum.inr (En.st nm kp og t).og)=_ from valT hs,Bool.or_eq_true];exact .inr rfl
 cases c3:ss.all fun p=>decide (p.2.og=EM)||(BK (ls.map fun p=>((Sum.inr p.2.nm:Key),V.int p.2.turn)) (Sum.inr p.2.og)).isSome with
 |false=>
  refine Ao rfl (q false H9 ⟨fun z=>(by cases z),fun z=>?_⟩ s19);rw[<-c3];exact org_iff.mpr z.org
 |true=>
 have org:=org_iff.mp c3;refine As rfl ?_;have bgv:∃bg:En->Int,(∀nm kp og t,En.st nm kp og t∈ps.map (·.2)->(BK (ls.map fun p=>((Sum.inr p.2.nm:Key),V.int p.2.turn)) (Sum.inr og)).getD (.int 0)=.int (bg (.st nm kp og t)))/\(∀nm kp og t sm tg t',En.st nm kp og t∈ps.map (·.2)->En.sl og sm tg t'∈ps.map (·.2)->bg (.st nm kp og t)=tg)/\(∀nm kp t,bg (.st nm kp EM t)=0):=by
  refine⟨fun e=>match BK (ls.map fun p=>((Sum.inr p.2.nm:Key),V.int p.2.turn)) (Sum.inr e.og) with|some (.int g)=>g|_=>0,fun nm kp og t h=>?_,fun nm kp og t sm tg t' h h2=>?_,fun nm kp t=>?_⟩
  ·show _=V.int (match BK (ls.map fun p=>((Sum.inr p.2.nm:Key),V.int p.2.turn)) (Sum.inr og) with|some (.int g)=>g|_=>0);rcases Classical.em (∃sm n0 t,En.sl og sm n0 t∈ps.map (·.2)) with⟨sm,n0,t',hs⟩|no
   ·rw[valT hs];rfl
   ·rw[valN no];rfl
  ·show(match BK (ls.map fun p=>((Sum.inr p.2.nm:Key),V.int p.2.turn)) (Sum.inr og) with|some (.int g)=>g|_=>0)=tg;rw[valT h2]
  ·show(match BK (ls.map fun p=>((Sum.inr p.2.nm:Key),V.int p.2.turn)) (Sum.inr EM) with|some (.int g)=>g|_=>0)=0;rw[valN fun⟨sm,n0,t',hs⟩=>by
    obtain⟨a,ha⟩:=JE hs;exact nem _ ha rfl]
 obtain⟨bg,bg1,bg2,bg3⟩:=bgv;refine⟨_,rfl,l1,rfl,⟨_,AR.of h1⟩,?_⟩;refine Mg (ps:=ss) (g:=fun p=>V.ref p.1) (fun _=>true) (Pn bg) Pn.same Pn.upd (BZ (AR.of h1)) (by omega) (fun p hp H' R s' hR=>hR) (fun p hp hs H' R s' hR=>?_) fun l10 H10 y10 n10 s10 h10 e10 q10=>?_
 ·obtain⟨hp,nm,kp,og,t,e⟩:=isS p hp;obtain⟨xs,hx,x0,_,x3⟩:=stAt hp;have me:=inE hp;rw[e] at x3 me;have hx':=s'.get (s19.get hx);have dg:=Cm.k (k:=Sum.inr og) (s'.get hd9);refine⟨_,rfl,p.1,_,_,_,rfl,rfl,AE.of hx',AZ (j:=0) x0,_,rfl,d,rfl,.inl ⟨_,.inl (s'.get hd9)⟩,_,rfl,p.1,_,_,_,rfl,rfl,AE.of hx',AZ (j:=3) x3,_,dg,Ms,fun b hb=>?_⟩;refine hR _ _ (Ai hb _) ⟨b,rfl,?_⟩;rw[Ad,e,<-bg1 _ _ _ _ me]
 rw[List.filter_eq_self.mpr (fun _ _=>rfl)] at e10;have s110:=s19.trans s10;have h2:=s10.get h2;dsimp only[PP];refine Ot h10 e10 q10 ndS (by omega) fun b nb=>?_
 have s11:=Ai nb (.dK (ss.map fun p=>((Sum.inr p.2.nm:Key),V.int (bg p.2))));have hb11:(upd H10 b (.dK (ss.map fun p=>((Sum.inr p.2.nm:Key),V.int (bg p.2))))) b=some (.dK (ss.map fun p=>((Sum.inr p.2.nm:Key),V.int (bg p.2)))):=Ad;dsimp only[A4];generalize upd H10 b (.dK (ss.map fun p=>((Sum.inr p.2.nm:Key),V.int (bg p.2))))=H11 at s11 hb11;have s111:=s110.trans s11;have h2:=s11.get h2;have vS:∀{sm kp og t},En.st sm kp og t∈ps.map (·.2)->BK (ss.map fun p=>((Sum.inr p.2.nm:Key),V.int (bg p.2))) (Sum.inr sm)=some (.int (bg (.st sm kp og t))):=fun{sm kp og t} h=>by
  obtain⟨a,ha⟩:=memS h;rw[FT (key:=fun p:Addr×En=>p.2.nm) (val:=fun p=>V.int (bg p.2)),show(ss.find? fun y=>decide (y.2.nm=sm))=some (a,En.st sm kp og t) from ?_]
  ·rfl
  ·cases q':ss.find? fun y=>decide (y.2.nm=sm) with
   |none=>exact absurd (decide_eq_true rfl) (List.find?_eq_none.mp q' _ ha)
   |some x=>
    have q2:decide (x.2.nm=sm)=true:=List.find?_some (p:=fun y:Addr×En=>decide (y.2.nm=sm)) q';rw[LK ndS (List.mem_of_find?_eq_some q') ha (of_decide_eq_true q2)]
 have vN:∀{sm},(¬ ∃kp og t,En.st sm kp og t∈ps.map (·.2))->BK (ss.map fun p=>((Sum.inr p.2.nm:Key),V.int (bg p.2))) (Sum.inr sm)=none:=fun{sm} no=>by
  rw[FT (key:=fun p:Addr×En=>p.2.nm) (val:=fun p=>V.int (bg p.2)),Option.map_eq_none_iff,List.find?_eq_none];intro p hp z;obtain⟨hp',nm,kp,og,t,e⟩:=isS p hp;have z:=of_decide_eq_true z;refine no ⟨kp,og,t,?_⟩;rw[<-z,e];exact e▸inE hp'
 have cc:∃c:Addr×En->Bool,∀p∈ls,(c p=true↔∃kp og t,En.st p.2.v2 kp og t∈ps.map (·.2)/\bg (.st p.2.v2 kp og t)<p.2.turn):=⟨fun p=>@decide (∃kp og t,En.st p.2.v2 kp og t∈ps.map (·.2)/\bg (.st p.2.v2 kp og t)<p.2.turn) (Classical.propDecidable _),fun p _=>@decide_eq_true_iff _ (Classical.propDecidable _)⟩
 obtain⟨c,hc⟩:=cc;have one:∀{sm kp og t kp' og' t'},En.st sm kp og t∈ps.map (·.2)->En.st sm kp' og' t'∈ps.map (·.2)->En.st sm kp og t=En.st sm kp' og' t':=fun h h'=>by
  obtain⟨a,ha⟩:=JE h;obtain⟨a',ha'⟩:=JE h';have:=LK nd ha ha' rfl;exact congrArg (·.2) this
 refine⟨_,rfl,l2,rfl,⟨_,AR.of h2⟩,?_⟩;refine Bv (ps:=ls) (g:=fun p=>V.ref p.1) (fun _=>true) (fun p=>V.bl (c p)) (BZ (AR.of h2)) (by omega) (fun p hp H' R s' hR=>hR) (fun p hp hs H' R s' hR=>?_) fun l12 H12 n12 s12' h12=>?_
 ·have hcp:=hc p hp;obtain⟨hp,nm,sm,n0,t,e⟩:=isL p hp;obtain⟨xs,hx,_,x2,x3⟩:=stAt hp;rw[e] at x2 x3 hcp;have hx':=s'.get (s111.get hx);have dg:=Cm.k (k:=Sum.inr sm) (s'.get hb11);rcases Classical.em (∃kp og t,En.st sm kp og t∈ps.map (·.2)) with⟨kp,og,t',hst⟩|no
  ·rw[vS hst] at dg;refine⟨_,rfl,p.1,_,_,_,rfl,rfl,AE.of hx',AZ (j:=2) x2,_,rfl,b,_,rfl,dg,_,rfl,Ao rfl ?_⟩;refine⟨_,rfl,p.1,_,_,_,rfl,rfl,AE.of hx',AZ (j:=3) x3,_,rfl,_,rfl,p.1,_,_,_,rfl,rfl,AE.of hx',AZ (j:=2) x2,b,_,rfl,dg,_,_,rfl,rfl,?_⟩;dsimp only;have:decide (bg (.st sm kp og t')<n0)=c p:=by
    rw[Bool.eq_iff_iff,decide_eq_true_eq,hcp];constructor
    ·exact fun z=>⟨kp,og,t',hst,z⟩
    ·rintro⟨kp2,og2,t2,g1,g2⟩
     rw[one hst g1];exact g2
   rw[this];exact hR H' (Ah.refl _)
  ·rw[vN no] at dg;have:c p=false:=by
    cases z:c p with
    |false=>rfl
    |true=>
     obtain⟨kp,og,t,g1,_⟩:=hcp.mp z;exact absurd ⟨kp,og,t,g1⟩ no
   rw[this] at hR;exact⟨_,rfl,p.1,_,_,_,rfl,rfl,AE.of hx',AZ (j:=2) x2,_,rfl,b,_,rfl,dg,_,rfl,As rfl (hR H' (Ah.refl _))⟩
 refine⟨l12,_,rfl,AR.of (FS h12),?_⟩;rw[JJ];refine q _ H12 ?_ (s111.trans s12');rw[List.all_eq_true];constructor
 ·intro z;have zs:∀nm sm tn t,En.sl nm sm tn t∈ps.map (·.2)->∃kp og t',En.st sm kp og t'∈ps.map (·.2)/\bg (.st sm kp og t')<tn:=fun nm sm tn t h=>by
   obtain⟨a,ha⟩:=memL h;exact(hc _ ha).mp (z _ ha)
  refine⟨fun nm kp og t h=>?_,by rw[tnL];exact tn,org,fun nm sm tn t h=>?_,fun nm kp og t sm tg t' x tn t'' g1 g2 g3=>?_⟩
  ·obtain⟨a,ha⟩:=memS h;exact of_decide_eq_true (List.all_eq_true.mp c1 _ ha)
  ·obtain⟨kp,og,t',g,_⟩:=zs nm sm tn t h;exact⟨kp,og,t',g⟩
  ·obtain⟨kp2,og2,t2,g4,g5⟩:=zs x nm tn t'' g3;rw[<-one g1 g4,bg2 _ _ _ _ _ _ _ g1 g2] at g5;exact g5
 ·intro z p hp;obtain⟨hp',nm,sm,n0,t,e⟩:=isL p hp;have me:En.sl nm sm n0 t∈ps.map (·.2):=e▸inE hp';refine(hc p hp).mpr ?_;rw[e];obtain⟨kp,og,t',g⟩:=z.stm _ _ _ _ me;refine⟨kp,og,t',g,?_⟩;show bg (.st sm kp og t')<n0;rcases org _ _ _ _ g with rfl|⟨sm2,tg,t2,g2⟩
  ·rw[bg3];exact pos _ _ _ _ me
  ·rw[bg2 _ _ _ _ _ _ _ g g2];exact z.beg _ _ _ _ _ _ _ _ _ _ g g2 me
end
def NH:Tr->En
 | .tup [.str nm,.int 1,.str kp,.str og,.tup [.int x,.int y,.int z]]=>.st nm kp og (x,y,z)
 | .tup [.str nm,.int 2,.str sm,.int tn,.tup [.int x,.int y,.int z]]=>.sl nm sm tn (x,y,z)
 |_=>.st EM EM EM (0,0,0)
theorem Ja {t:Tr}(h:sN t=true):∃z,t=.str z/\BB (.str z)=true:=by
 cases t with
 |str z=>exact⟨z,rfl,h⟩
 |_=>cases h
theorem Ji {a b:Int}{t:Tr}(h:sB a b t=true):∃i,t=.int i/\a<=i/\i<=b:=by
 cases t with
 |int i=>
  have:(decide (a<=i)&&decide (i<=b))=true:=h;rw[Bool.and_eq_true,decide_eq_true_eq,decide_eq_true_eq] at this;exact⟨i,rfl,this.1,this.2⟩
 |_=>cases h
theorem Qr {t:Tr}(h:CO t=true):∃x y z,t=.tup [.int x,.int y,.int z]:=by
 unfold CO at h
 split at h
 ·rename_i x y z
  rw[Bool.and_eq_true,Bool.and_eq_true] at h;obtain⟨i,rfl,_⟩:=Ji h.1.1;obtain⟨j,rfl,_⟩:=Ji h.1.2;obtain⟨k,rfl,_⟩:=Ji h.2;exact⟨i,j,k,rfl⟩
 ·cases h
theorem SD {t:Tr}(h:C9 t=true):∃nm kp og x y z,t=.tup [.str nm,.int 1,.str kp,.str og,.tup [.int x,.int y,.int z]]/\BB (.str nm)=true/\BB (.str kp)=true/\P8 (.str og)=true/\CO (.tup [.int x,.int y,.int z])=true:=by
 unfold C9 at h
 split at h
 ·rename_i a b c d e
  rw[Bool.and_eq_true,Bool.and_eq_true,Bool.and_eq_true,Bool.and_eq_true] at h;obtain⟨h1,h2,h3,h4,h5⟩:=h;have:=ND h1;subst this;obtain⟨nm,rfl,n1⟩:=Ja h2;obtain⟨kp,rfl,n2⟩:=Ja h3;obtain⟨x,y,z,rfl⟩:=Qr h5;cases d with
  |str og=>exact⟨nm,kp,og,x,y,z,rfl,n1,n2,h4,h5⟩
  |_=>cases h4
 ·cases h
theorem Tj {t:Tr}(h:Dt t=true):∃nm sm tn x y z,t=.tup [.str nm,.int 2,.str sm,.int tn,.tup [.int x,.int y,.int z]]/\BB (.str nm)=true/\BB (.str sm)=true/\1<=tn/\tn<=999999999/\CO (.tup [.int x,.int y,.int z])=true:=by
 unfold Dt at h
 split at h
 ·rename_i a b c d e
  rw[Bool.and_eq_true,Bool.and_eq_true,Bool.and_eq_true,Bool.and_eq_true] at h;obtain⟨h1,h2,h3,h4,h5⟩:=h;have:=ND h1;subst this;obtain⟨nm,rfl,n1⟩:=Ja h2;obtain⟨sm,rfl,n2⟩:=Ja h3;obtain⟨tn,rfl,b1,b2⟩:=Ji h4;obtain⟨x,y,z,rfl⟩:=Qr h5;exact⟨nm,sm,tn,x,y,z,rfl,n1,n2,b1,b2,h5⟩
 ·cases h
theorem MR {z:Str}(h:BB (.str z)=true):z≠EM:=fun e=>by
 rw[e] at h;exact absurd h (by decide +kernel)
theorem T7 {H:Hp}{v:V}{t:Tr}(h:Rep Eu H t v)(k:(C9 t||Dt t)=true):J8 H (adr v,NH t)/\(NH t).nm=Gi t/\Gi t≠EM/\∀nm sm tn t',NH t=.sl nm sm tn t'->0<tn:=by
 rcases Bool.or_eq_true _ _▸k with k|k
 ·obtain⟨nm,kp,og,x,y,z,rfl,n1,_⟩:=SD k;obtain⟨p,us,rfl,e,v1,us1,rfl,r1,v2,us2,rfl,r2,v3,us3,rfl,r3,v4,us4,rfl,r4,v5,us5,rfl,r5,rfl⟩:=h;obtain⟨ta,ws,rfl,e5,w1,ws1,rfl,q1,w2,ws2,rfl,q2,w3,ws3,rfl,q3,rfl⟩:=r5;cases r1;cases r2;cases r3;cases r4;cases q1;cases q2;cases q3;exact⟨⟨ta,e5,e⟩,rfl,MR n1,fun _ _ _ _ z=>by cases z⟩
 ·obtain⟨nm,sm,tn,x,y,z,rfl,n1,_,b1,_⟩:=Tj k;obtain⟨p,us,rfl,e,v1,us1,rfl,r1,v2,us2,rfl,r2,v3,us3,rfl,r3,v4,us4,rfl,r4,v5,us5,rfl,r5,rfl⟩:=h;obtain⟨ta,ws,rfl,e5,w1,ws1,rfl,q1,w2,ws2,rfl,q2,w3,ws3,rfl,q3,rfl⟩:=r5;cases r1;cases r2;cases r3;cases r4;cases q1;cases q2;cases q3;exact⟨⟨ta,e5,e⟩,rfl,MR n1,fun _ _ _ _ z=>by cases z;omega⟩
def Ih:Tr->Prop
 | .tup [a,.tup ks,.tup ns]=>sB 0 999999999 a=true/\ED (.tup ks)=true/\HM (.tup ns)=true/\AtOne (ks.map Gi) (ns.map NH)
 |_=>False
def Q7:Tr->Prop
 | .tup [_,_,.tup ns]=>∀x∈ns,Ed x=true
 |_=>True
section
variable {P:Program}{w:World}{K:W.Frag}{mg:Str->Option Value}{base:Heap}{f:Addr}{fd:FuncData}
def GA (K:W.Frag):Sp:=fun vs H Q _=>∃v t,vs=[v]/\Rep Eu H t v/\sh 4 t=true/\Q7 t/\∀b H',(b=true↔Ih t)->Ah H H'->Q (.bl b) H'
theorem Nt (T:Txt K mg)(F:Fun K "is_head" "is_head" DK f fd)(Ek:Def P w K mg base 4 "are_keepers" ["thing"] (D0 K))(FA:Def P w K mg base 5 "are_names" ["thing"] (EZ K))(Fh:Def P w K mg base 1 "are_at_one" ["keepers","names"] (Ej K))(Ar:Def P w K mg base 1 "is_tuple_of" ["thing","many"] (AW K))(AA:Def P w K mg base 2 "is_between" ["thing","least","most"] (Bc K)):FnOk P w K mg base CP 6 f fd ["thing"] (GA K):=by
 exists N7
 ·obtain⟨v,t,rfl,_⟩:=h;rfl
 obtain⟨v,t,rfl,hv,hs,th,q⟩:=h;have okv:=Bg hv hs;refine⟨_,(!Ae (!AU (@PW.pt _ _ _ (!BO (!AI (!AH (!Au Ar (by trivial) rfl (!Aa (pv 0) (!Aa (!Ac) (!Ab)))) (by intro _;rfl))) (!Bs (!AI (!AH (!Au AA (by trivial) rfl (!Aa (!Am Ap (pv 0) (!Ac) (fun _ _=>rfl)) (!Aa (!Ac) (!Aa (!AG rfl T.c_MOST_NUMBER) (!Ab))))) (by intro _;rfl)))))) (!Ag (!Al (!A1))) (!Aw)) (!Ag (!Al (!A8 (!Au Ek (by trivial) rfl (!Aa (!Am Ap (pv 0) (!Ac) (fun _ _=>rfl)) (!Ab))) (!A8 (!Au FA (by trivial) rfl (!Aa (!Am Ap (pv 0) (!Ac) (fun _ _=>rfl)) (!Ab))) (!Bq (!Au Fh (by trivial) rfl (!Aa (!Am Ap (pv 0) (!Ac) (fun _ _=>rfl)) (!Aa (!Am Ap (pv 0) (!Ac) (fun _ _=>rfl)) (!Ab)))))))))),?_⟩;dsimp only[Eb,CB,DE];refine⟨_,rfl,_,3,rfl,okv,_,rfl,?_⟩;rw[show(3:Int)=((3:Nat):Int) from rfl,JS hv];cases c:CC 3 t with
 |false=>
  refine Ao rfl (q false H ⟨fun z=>(by cases z),fun z=>?_⟩ (Ah.refl _));unfold Ih at z
  split at z
  ·exact absurd c (by simp[CC])
  ·exact z.elim
 |true=>
  obtain⟨a,k,n,rfl⟩:=Wh c;have s1:=B1 hs (show a∈[a,k,n] by simp);have s2:=B1 hs (show k∈[a,k,n] by simp);have s3:=B1 hs (show n∈[a,k,n] by simp);obtain⟨p,us,rfl,e,v1,us1,rfl,r1,v2,us2,rfl,r2,v3,us3,rfl,r3,rfl⟩:=hv;refine As rfl ⟨_,rfl,p,_,_,_,rfl,rfl,AE.of e,rfl,_,0,999999999,rfl,Bg r1 s1,_,rfl,?_⟩;rw[FK r1];have no:∀{H':Hp},Ah H H'->¬Ih (.tup [a,k,n])->Q (.bl false) H':=fun s' z=>q false _ ⟨fun y=>(by cases y),fun y=>absurd y z⟩ s'
  have hk:∀{H':Hp},Ah H H'->(¬ ∃ks ns,k=.tup ks/\n=.tup ns/\sB 0 999999999 a=true/\ED k=true/\HM n=true)->Q (.bl false) H':=fun s' z=>no s' fun y=>by
   unfold Ih at y
   split at y
   ·rename_i ks ns e
    cases e;exact z ⟨ks,ns,rfl,rfl,y.1,y.2.1,y.2.2.1⟩
   ·exact y
  cases c1:sB 0 999999999 a with
  |false=>exact Ao rfl (hk (Ah.refl _) fun⟨_,_,_,_,z,_⟩=>by rw[c1] at z;cases z)
  |true=>
   refine As rfl ⟨_,rfl,p,_,_,_,rfl,rfl,AE.of e,rfl,v2,k,rfl,r2,?_,fun H1 t1=>⟨_,rfl,?_⟩⟩
   ·exact T4 (by decide) s2
   cases c2:ED k with
   |false=>exact As rfl (hk t1 fun⟨_,_,_,_,_,z,_⟩=>by rw[c2] at z;cases z)
   |true=>
    refine Ao rfl ⟨_,rfl,p,_,_,_,rfl,rfl,AE.of (t1.get e),rfl,v3,n,rfl,Rep.same t1 _ _ r3,s3,(fun ns z=>by subst z;exact th),fun H2 t2=>⟨_,rfl,?_⟩⟩;have t12:=t1.trans t2;cases c3:HM n with
    |false=>exact As rfl (hk t12 fun⟨_,_,_,_,_,_,z⟩=>by rw[c3] at z;cases z)
    |true=>
     cases k with
     |tup ks=>
      cases n with
      |tup ns=>
       have d2:=c2;have d3:=c3
       replace d2:(decide (ks.length<=8)&&(ks.all BE&&DD (ks.map Gi)))=true:=d2
       replace d3:(decide (ns.length<=24)&&(ns.all (fun t=>C9 t||Dt t)&&DD (ns.map Gi)))=true:=d3
       rw[Bool.and_eq_true,Bool.and_eq_true,decide_eq_true_eq,List.all_eq_true,Fo] at d2 d3;obtain⟨kl,kk,kr⟩:=d2;obtain⟨nl,nk,nr⟩:=d3;obtain⟨ka,kvs,rfl,ke,krr⟩:=Rep.same t12 _ _ r2;obtain⟨na,nvs,rfl,ne,nrr⟩:=Rep.same t12 _ _ r3;obtain⟨kps,rfl,rfl,kp⟩:=Ea krr;obtain⟨nps,rfl,rfl,np⟩:=Ea nrr;have kat:∀x∈kps,x.1=.ref (adr x.1)/\∃r,H2 (adr x.1)=some (.tup (.str (Gi x.2)::r)):=fun x hx=>Km (kp x hx) (kk _ (List.mem_map.mpr ⟨x,hx,rfl⟩))
       have nat:∀x∈nps,x.1=.ref (adr x.1):=fun x hx=>(Jb (np x hx) (nk _ (List.mem_map.mpr ⟨x,hx,rfl⟩))).1
       have nen:∀x∈nps,J8 H2 (adr x.1,NH x.2)/\(NH x.2).nm=Gi x.2/\Gi x.2≠EM/\∀nm sm tn t',NH x.2=.sl nm sm tn t'->0<tn:=fun x hx=>T7 (np x hx) (nk _ (List.mem_map.mpr ⟨x,hx,rfl⟩))
       refine Ao rfl ⟨_,rfl,p,_,_,_,rfl,rfl,AE.of (t12.get e),rfl,_,rfl,p,_,_,_,rfl,rfl,AE.of (t12.get e),rfl,ka,na,kps.map fun x=>(adr x.1,Gi x.2),nps.map fun x=>(adr x.1,NH x.2),rfl,?_,fun t ht=>?_,?_,?_,fun x hx=>?_,?_,fun x hx=>?_,fun nm sm tn t' hx=>?_,?_,fun b H3 hb t3=>q b H3 ?_ (t12.trans t3)⟩
       ·rw[ke,List.map_map];exact congrArg (fun z=>some (HO.tup z)) (List.map_congr_left fun x hx=>(kat x hx).1)
       ·obtain⟨x,hx,rfl⟩:=List.mem_map.mp ht;exact(kat x hx).2
       ·rw[List.length_map] at kl ⊢;exact kl
       ·rw[ne,List.map_map];exact congrArg (fun z=>some (HO.tup z)) (List.map_congr_left fun x hx=>nat x hx)
       ·obtain⟨x,hx',rfl⟩:=List.mem_map.mp hx;exact(nen x hx').1
       ·show((nps.map fun x=>(adr x.1,NH x.2)).map fun p=>p.2.nm).Nodup;rw[List.map_map];have:=Qv nr;rw[List.map_map] at this;rw[show nps.map ((fun p:Addr×En=>p.2.nm)∘fun x:V×Tr=>(adr x.1,NH x.2))=nps.map (Gi∘fun x=>x.2) from List.map_congr_left fun x hx=>(nen x hx).2.1];exact this
       ·obtain⟨x,hx',rfl⟩:=List.mem_map.mp hx;show(NH x.2).nm≠EM;rw[(nen x hx').2.1];exact(nen x hx').2.2.1
       ·rw[List.map_map] at hx;obtain⟨x,hx',e'⟩:=List.mem_map.mp hx;exact(nen x hx').2.2.2 _ _ _ _ e'
       ·rw[List.length_map] at nl ⊢;exact nl
       ·rw[hb,List.map_map,List.map_map];show _↔(sB 0 999999999 a=true/\ED (.tup (kps.map (·.2)))=true/\HM (.tup (nps.map (·.2)))=true/\AtOne ((kps.map (·.2)).map Gi) ((nps.map (·.2)).map NH));rw[List.map_map,List.map_map];exact⟨fun z=>⟨c1,c2,c3,z⟩,fun z=>z.2.2.2⟩
      |_=>cases c3
     |_=>cases c2
def Fd (K:W.Frag):Sp:=fun vs H Q _=>∃u:Str,vs=[.str u]/\0<=PySem.Txt.find SG u/\Q (.int (PySem.Txt.find SG u)) H
theorem Li (T:Txt K mg)(F:Fun K "number_of" "number_of" CG f fd):FnOk P w K mg base CP 1 f fd ["sign"] (Fd K):=by
 exists Ly
 ·obtain⟨u,rfl,_⟩:=h;rfl
 obtain⟨u,rfl,h0,q⟩:=h;refine⟨_,(!Ag (!Al (!GX PySem.F.plainAttrs_str PySem.F.slot_str_index PySem.F.type_str_index (Ri rfl) (!Jr rfl T.c_SIGNS) (!Aa (pv 0) (!Ab))))),?_⟩;exact⟨rfl,_,rfl,_,_,rfl,rfl,h0,q⟩
def Na:Nat->Tr->Bool
 |0,_=>false
 |_+1,.int i=>decide (0<=i)&&decide (i<=999999999)
 |_+1,.str z=>decide ((z.length:Int)<=400)&&B9 SG z
 |n+1,.tup ts=>decide (ts.length<=100)&&ts.all (Na n)
 |_+1,_=>false
def All:Addr->Prop:=fun _=>True
def NL:Addr->Prop:=fun _=>False
def idx (c:Nat):Int:=PySem.Txt.find SG ⟨#[c]⟩
theorem Qp {c:Nat}(h:c∈Iq SG):0<=idx c/\idx c<94/\SG.cps.toList.getD (idx c).toNat 0=c:=by
 obtain⟨k,hk,e⟩:=List.getElem_of_mem (show c∈SG.cps.toList from h);have hk':k<94:=by rw[Vm] at hk;exact hk
 have eg:SG.cps.toList.getD k 0=c:=by simp only[List.getD,List.getElem?_eq_getElem hk,Option.getD_some];exact e
 have:=SX k hk';rw[eg] at this;have ei:idx c=(k:Int):=this;rw[ei];exact⟨by omega,by omega,eg⟩
theorem Oq {n:Nat}{ts:List Tr}(h:Na (n+1) (.tup ts)=true):ts.length<=100/\∀(i:Nat) t,ts[i]?=some t->Na n t=true:=by
 have h':(decide (ts.length<=100)&&ts.all (Na n))=true:=h;rw[Bool.and_eq_true,decide_eq_true_eq] at h';exact⟨h'.1,fun i t ht=>List.all_eq_true.mp h'.2 t (List.mem_of_getElem? ht)⟩
end
namespace B
section
variable {P:Program}{w:World}{K:W.Frag}{mg:Str->Option Value}{base:Heap}{f:Addr}{fd:FuncData}
abbrev Tg:=Int×Int×Int
structure En where
 nm:Str
 kd:Int
 tg:Tg
inductive Bk where
 |piece (z:Str)
 |row (lv:Int) (ts:List Tg)
 |folder (es:List En)
def JU (t:Tg):Tr:=.tup [.int t.1,.int t.2.1,.int t.2.2]
def L3 (e:En):Tr:=.tup [.str e.nm,.int e.kd,JU e.tg]
def GR:Bk->Tr
 | .piece z=>.tup [.int 0,.str z]
 | .row lv ts=>.tup [.int 1,.int lv,.tup (ts.map JU)]
 | .folder es=>.tup [.int 2,.tup (es.map L3)]
def MT (t:Tg):Prop:=(1<=t.1/\t.1<=999999)/\(0<=t.2.1/\t.2.1<=999999999)/\0<=t.2.2/\t.2.2<=996
def QV (e:En):Prop:=BB (.str e.nm)=true/\(1<=e.kd/\e.kd<=2)/\MT e.tg
def Wp (lv:Int)(ts:List Tg):Prop:=ts.length<=8/\(1<lv->ts≠[])/\∀t∈ts,MT t
def VQ (es:List En):Prop:=es.length<=16/\(∀e∈es,QV e)/\PyProof.Rows.sortedS (es.map (·.nm))=true/\(es.map (·.nm)).Nodup
def IB:Bk->Prop
 | .piece z=>Fm 1 8 (.str z)=true
 | .row lv ts=>(1<=lv/\lv<=9)/\Wp lv ts
 | .folder es=>VQ es
theorem Jd {H:Hp}{t:Tg}{v:V}(h:Rep NL H (JU t) v):∃a,v=.ref a/\H a=some (.tup [.int t.1,.int t.2.1,.int t.2.2]):=by
 obtain⟨a,vs,rfl,e,x1,u1,rfl,rfl,x2,u2,rfl,rfl,x3,u3,rfl,rfl,rfl⟩:=h;exact⟨a,rfl,e⟩
theorem Vu {H:Hp}{t:Tg}{a:Addr}(e:H a=some (.tup [.int t.1,.int t.2.1,.int t.2.2])):Rep NL H (JU t) (.ref a):=⟨a,_,rfl,e,_,_,rfl,rfl,_,_,rfl,rfl,_,_,rfl,rfl,rfl⟩
theorem K5 {H:Hp}{x:En}{v:V}(h:Rep NL H (L3 x) v):∃a b,v=.ref a/\H a=some (.tup [.str x.nm,.int x.kd,.ref b])/\H b=some (.tup [.int x.tg.1,.int x.tg.2.1,.int x.tg.2.2]):=by
 obtain⟨a,vs,rfl,e,x1,u1,rfl,rfl,x2,u2,rfl,rfl,x3,u3,rfl,r3,rfl⟩:=h;obtain⟨b,rfl,e2⟩:=Jd r3;exact⟨a,b,rfl,e,e2⟩
theorem HF {H:Hp}{z:Str}{v:V}(h:Rep NL H (GR (.piece z)) v):∃a,v=.ref a/\H a=some (.tup [.int 0,.str z]):=by
 obtain⟨a,vs,rfl,e,x1,u1,rfl,rfl,x2,u2,rfl,rfl,rfl⟩:=h;exact⟨a,rfl,e⟩
theorem Lp {H:Hp}{lv:Int}{ts:List Tg}{v:V}(h:Rep NL H (GR (.row lv ts)) v):∃a b vs,v=.ref a/\H a=some (.tup [.int 1,.int lv,.ref b])/\H b=some (.tup vs)/\Aq NL H (ts.map JU) vs:=by
 obtain⟨a,vs,rfl,e,x1,u1,rfl,rfl,x2,u2,rfl,rfl,x3,u3,rfl,⟨b,us,rfl,e2,r⟩,rfl⟩:=h;exact⟨a,b,us,rfl,e,e2,r⟩
theorem Gz {H:Hp}{es:List En}{v:V}(h:Rep NL H (GR (.folder es)) v):∃a b vs,v=.ref a/\H a=some (.tup [.int 2,.ref b])/\H b=some (.tup vs)/\Aq NL H (es.map L3) vs:=by
 obtain⟨a,vs,rfl,e,x1,u1,rfl,rfl,x2,u2,rfl,⟨b,us,rfl,e2,r⟩,rfl⟩:=h;exact⟨a,b,us,rfl,e,e2,r⟩
theorem O6 {α:Type}{g:α->Tr}{H:Hp}{xs:List α}{vs:List V}(h:Aq NL H (xs.map g) vs){v:V}(hv:v∈vs):∃x∈xs,Rep NL H (g x) v:=by
 obtain⟨i,hi,e⟩:=List.getElem_of_mem hv;obtain⟨t,ht,r⟩:=Aq.get h (show vs[i]?=some v by rw[List.getElem?_eq_getElem hi,e]);rw[List.getElem?_map] at ht;cases z:xs[i]? with
 |none=>rw[z] at ht;cases ht
 |some x=>
  rw[z] at ht;cases ht;exact⟨x,List.mem_of_getElem? z,r⟩
theorem Sk {t:Tg}(h:MT t)(n:Nat):Na (n+2) (JU t)=true:=by
 obtain⟨⟨a1,a2⟩,⟨b1,b2⟩,c1,c2⟩:=h;simp only[JU,Na,List.all_cons,List.all_nil,List.length_cons,List.length_nil,Bool.and_true,Bool.and_eq_true,decide_eq_true_eq];omega
theorem Gn {z:Str}(h:BB (.str z)=true):1<=z.length/\z.length<=8/\B9 SG z=true/\∀c∈Iq z,c∈Iq SG:=by
 have h':(decide ((1:Int)<=z.length)&&decide ((z.length:Int)<=8)&&B9 LN z)=true:=h;simp only[Bool.and_eq_true,decide_eq_true_eq] at h';have a:B9 SG z=true:=by
  have:=h'.2;rw[<-KU,Bool.and_eq_true] at this;exact this.1
 refine⟨by omega,by omega,a,fun c hc=>?_⟩;have:=List.all_eq_true.mp a c hc;simpa using this
theorem Uo {x:En}(h:QV x)(n:Nat):Na (n+3) (L3 x)=true:=by
 obtain⟨a,b,c⟩:=h;obtain⟨n1,n2,n3,_⟩:=Gn a;have d:=Sk c n;simp only[L3,Na,List.all_cons,List.all_nil,List.length_cons,List.length_nil,Bool.and_true,Bool.and_eq_true,decide_eq_true_eq,n3,d,and_true];omega
theorem RJ {b:Bk}(h:IB b):Na 8 (GR b)=true:=by
 cases b with
 |piece z=>
  have h':(decide ((1:Int)<=(z.length:Int))&&decide ((z.length:Int)<=8)&&B9 SG z)=true:=h;simp only[Bool.and_eq_true,decide_eq_true_eq] at h';simp only[GR,Na,List.all_cons,List.all_nil,List.length_cons,List.length_nil,Bool.and_true,Bool.and_eq_true,decide_eq_true_eq,h'.2,and_true];omega
 |row lv ts=>
  obtain⟨l,n,_,o⟩:=h;have d:(ts.map JU).all (Na 6)=true:=List.all_eq_true.mpr fun t ht=>by
   obtain⟨x,hx,rfl⟩:=List.mem_map.mp ht;exact Sk (o x hx) 4
  simp only[GR,Na,List.all_cons,List.all_nil,List.length_cons,List.length_nil,List.length_map,Bool.and_true,Bool.and_eq_true,decide_eq_true_eq,d,and_true];omega
 |folder es=>
  obtain⟨n,o,_⟩:=h;have d:(es.map L3).all (Na 6)=true:=List.all_eq_true.mpr fun t ht=>by
   obtain⟨x,hx,rfl⟩:=List.mem_map.mp ht;exact Uo (o x hx) 3
  simp only[GR,Na,List.all_cons,List.all_nil,List.length_cons,List.length_nil,List.length_map,Bool.and_true,Bool.and_eq_true,decide_eq_true_eq,d,and_true];omega
theorem SY {a b:List Nat}(h1:¬b<a)(h2:¬a<b):a=b:=List.le_antisymm h1 h2
theorem GL:∀{p:Str} {l:List Str},PyProof.Rows.risingS p l=true->∀x∈l,¬x.cps.toList<p.cps.toList
 |p,y::r,h,x,hx=>by
  have h':=h;rw[PyProof.Rows.risingS,Bool.and_eq_true,PyProof.Rows.ltCps_eq] at h';have h1:¬y.cps.toList<p.cps.toList:=by simpa using h'.1
  rcases List.mem_cons.mp hx with rfl|hx
  ·exact h1
  ·exact List.le_trans h1 (GL h'.2 x hx)
theorem Ic {x:Str}{l:List Str}(h:PyProof.Rows.sortedS (x::l)=true):PyProof.Rows.sortedS l=true:=by
 cases l with
 |nil=>rfl
 |cons y r=>
  have h':=h;rw[PyProof.Rows.sortedS,PyProof.Rows.risingS,Bool.and_eq_true] at h';exact h'.2
theorem IQ:∀{a b:List Str},a.Perm b->PyProof.Rows.sortedS a=true->PyProof.Rows.sortedS b=true->a=b
 |[],b,p,_,_=>(List.nil_perm.mp p).symm
 |x::a,[],p,_,_=>absurd p.length_eq (by simp)
 |x::a,y::b,p,ha,hb=>by
  have e:x=y:=by
   have m1:x∈y::b:=p.mem_iff.mp List.mem_cons_self;have m2:y∈x::a:=p.mem_iff.mpr List.mem_cons_self;rcases List.mem_cons.mp m1 with e|m1
   ·exact e
   rcases List.mem_cons.mp m2 with e|m2
   ·exact e.symm
   have l1:=GL (p:=x) (l:=a) ha y m2;have l2:=GL (p:=y) (l:=b) hb x m1;have:=SY l1 l2;cases x;cases y;simp only[PySem.Str.mk.injEq];exact Array.toList_inj.mp this
  subst e;rw[IQ p.cons_inv (Ic ha) (Ic hb)]
theorem MO:∀(l ks:List Str),(ks++l).Nodup->l.foldl (fun ks k=>if k∈ks then ks else ks++[k]) ks=ks++l
 |[],ks,_=>(List.append_nil _).symm
 |k::r,ks,h=>by
  have nk:k∉ks:=fun z=>by
   have:=(List.nodup_append.mp h).2.2 k z k List.mem_cons_self;exact this rfl
  have e:(if k∈ks then ks else ks++[k])=ks++[k]:=if_neg nk;rw[List.foldl_cons,e,MO r (ks++[k]) (by rw[List.append_assoc];exact h),List.append_assoc];rfl
theorem Lz {a:List Str}(h:a.Nodup):CU a=a:=MO a [] h
theorem Rh:∀{es:List En} {us:List V} {H:Hp},Aq NL H (es.map L3) us->(us.map fun v=>match v with | .ref x=>(match H x with|some (.tup (y::_))=>y|_=>.non)|_=>.non)=(es.map (·.nm)).map V.str
 |[],us,H,r=>by rw[show us=[] from r];rfl
 |e::es,us,H,r=>by
  obtain⟨v,us',rfl,r1,r2⟩:=r;obtain⟨a,b,rfl,e1,_⟩:=K5 r1;rw[List.map_cons,List.map_cons,List.map_cons,Rh r2];simp only[e1]
theorem Ko {J:It} {xs:List V} {te:TE} {Q:VK} {σ:St} {H:Hp} (f:V->V) (hJ:Hm J H xs) (hn:xs.length<=1000000) (htg:∀x∈xs,∃a x1 x2 x3,x=.ref a/\H a=some (.tup [x1,x2,x3]))
  (helt:∀a x1 x2 x3 (H':Hp) (R:VK),V.ref a∈xs->H a=some (.tup [x1,x2,x3])->Ah H H'->(∀H'',Ah H' H''->R (f (.ref a)) H'')->te [some x1,some x2,some x3] H' R)
  (hQ:∀l H',H l=none->Ah H H'->H' l=some (.lst (xs.map f))->Q (.ref l) H') :
  Dd [none,none,none] (U0 K 3 (Oo (A4 0) (Oo (A4 1) (Oo (A4 2) V4)))) MV te σ Q J H:=by
 intro l hl;refine⟨fun i m σ' H'=>m=xs.length-i/\i<=xs.length/\(∃y0 y1 y2,σ'=[y0,y1,y2])/\Ah H H'/\H' l=some (.lst ((xs.take i).map f)),⟨xs.length,by simp,Nat.zero_le _,⟨_,_,_,rfl⟩,Ai hl _,by rw[Ad,List.take_zero,List.map_nil]⟩,?_⟩
 rintro i m σ' H' ⟨rfl,hi,⟨y0,y1,y2,rfl⟩,hs,hl'⟩
 obtain⟨h1,h2,h3⟩:=hJ H' hs i
 by_cases hlt:i<xs.length
 ·refine .inr ⟨h1 hlt,fun x H'' y=>?_⟩;obtain⟨rfl,hx⟩:=h2 x H'' y;have hx:=hx hlt;obtain⟨a,x1,x2,x3,rfl,ha⟩:=htg x (List.mem_of_getElem? hx);refine⟨a,_,rfl,AE.of (hs.get ha),rfl,_,_,rfl,_,_,rfl,_,_,rfl,rfl,?_⟩;refine helt a x1 x2 x3 H'' _ (List.mem_of_getElem? hx) ha hs fun H4 s4=>?_
  refine⟨_,s4.get hl',CV (by rw[List.length_map,List.length_take];omega),xs.length-(i+1),by omega,rfl,hlt,⟨_,_,_,rfl⟩,B4 (hs.trans s4) hl _,?_⟩;rw[Ad,List.take_add_one,hx];simp
 ·have e:i=xs.length:=by omega
  subst e;exact .inl ⟨h3 (Nat.le_refl _),hQ l H' hl hs (by rw[hl',List.take_of_length_le (Nat.le_refl _)])⟩
def fv:Tr->V
 | .bl b=>.bl b
 | .int i=>.int i
 | .str z=>.str z
 |_=>.non
theorem NI {F:Addr->Prop}{H:Hp}{t:Tr}{v:V}(h:Rep F H t v):v=fv t\/(fv t=.non/\∃a,v=.ref a):=by
 cases t with
 |tup ts=>obtain⟨a,vs,rfl,_⟩:=h;exact .inr ⟨rfl,a,rfl⟩
 |lst ts=>obtain⟨a,vs,rfl,_⟩:=h;exact .inr ⟨rfl,a,rfl⟩
 |non=>exact .inl h
 |bl b=>exact .inl h
 |int i=>exact .inl h
 |str z=>exact .inl h
theorem Fu {F:Addr->Prop}{H:Hp}{t:Tr}{v:V}{a b:Int}(h:Rep F H t v):BD a b v=BD a b (fv t):=by
 rcases NI h with e|⟨e,c,rfl⟩
 ·rw[e]
 ·rw[e];rfl
theorem QE {F:Addr->Prop}{H:Hp}{t:Tr}{v:V}{a b:Int}(h:Rep F H t v):Fm a b v=Fm a b (fv t):=by
 rcases NI h with e|⟨e,c,rfl⟩
 ·rw[e]
 ·rw[e];rfl
theorem Ra {F:Addr->Prop}{H:Hp}{t:Tr}{v:V}(h:Rep F H t v):BB v=BB (fv t):=by
 rcases NI h with e|⟨e,c,rfl⟩
 ·rw[e]
 ·rw[e];rfl
def CO:Tr->Bool
 | .tup [x,y,z]=>BD 1 999999 (fv x)&&BD 0 999999999 (fv y)&&BD 0 996 (fv z)
 |_=>false
def Gf:Tr->Bool
 | .tup [x,y,z]=>BB (fv x)&&BD 1 2 (fv y)&&CO z
 |_=>false
theorem HE {H:Hp}{t:Tr}{v:V}(h:Rep All H t v)(ok:t.ok):(Es H v 3=false/\CO t=false/\Gf t=false)\/
  ∃a x y z u1 u2 u3,v=.ref a/\t=.tup [x,y,z]/\H a=some (.tup [u1,u2,u3])/\(Rep All H x u1/\x.ok)/\(Rep All H y u2/\y.ok)/\Rep All H z u3/\z.ok:=by
 cases t with
 |non=>cases(show v=V.non from h);exact .inl ⟨rfl,rfl,rfl⟩
 |bl b=>cases(show v=V.bl b from h);exact .inl ⟨rfl,rfl,rfl⟩
 |int i=>cases(show v=V.int i from h);exact .inl ⟨rfl,rfl,rfl⟩
 |str z=>cases(show v=V.str z from h);exact .inl ⟨rfl,rfl,rfl⟩
 |lst ts=>obtain⟨a,vs,rfl,_,e,_⟩:=h;exact .inl ⟨by simp only[Es,e],rfl,rfl⟩
 |tup ts=>
  obtain⟨a,vs,rfl,e,r⟩:=h;have l:=Aq.len _ _ r;obtain⟨_,oks⟩:=ok
  match ts,r,oks,l with
  |[x,y,z],r,oks,_=>
   obtain⟨u1,_,rfl,r1,u2,_,rfl,r2,u3,_,rfl,r3,rfl⟩:=r;obtain⟨o1,o2,o3,_⟩:=oks;exact .inr ⟨a,x,y,z,u1,u2,u3,rfl,rfl,e,⟨r1,o1⟩,⟨r2,o2⟩,r3,o3⟩
  |[],_,_,l=>exact .inl ⟨by rw[Bx e,l];rfl,rfl,rfl⟩
  |[_],_,_,l=>exact .inl ⟨by rw[Bx e,l];rfl,rfl,rfl⟩
  |[_,_],_,_,l=>exact .inl ⟨by rw[Bx e,l];rfl,rfl,rfl⟩
  |_::_::_::_::r,_,_,l=>exact .inl ⟨by rw[Bx e,l];exact decide_eq_false (by simp only[List.length_cons];omega),rfl,rfl⟩
theorem FU {H:Hp}{t:Tr}{v:V}(h:Rep All H t v)(ok:t.ok):itemsOk H v:=fun a xs e ha x hx=>by
 cases t with
 |tup ts=>
  obtain⟨b,vs,e2,hb,r⟩:=h;subst e2;cases e;rw[ha] at hb;cases hb;obtain⟨i,hi,ei⟩:=List.getElem_of_mem hx;obtain⟨t',ht,rt⟩:=Aq.get r (show xs[i]?=some x by rw[List.getElem?_eq_getElem hi,ei]);exact rt.ok (Tr.oks_get ok.2 ht)
 |lst ts=>obtain⟨b,vs,e2,_,hb,r⟩:=h;subst e2;cases e;rw[ha] at hb;cases hb
 |non=>cases(show v=V.non from h);cases e
 |bl b=>cases(show v=V.bl b from h);cases e
 |int i=>cases(show v=V.int i from h);cases e
 |str z=>cases(show v=V.str z from h);cases e
theorem ID {H:Hp}{t:Tr}{v:V}(h:Rep All H t v)(ok:t.ok):Lk H v=CO t:=by
 rcases HE h ok with⟨h1,h2,_⟩|⟨a,x,y,z,u1,u2,u3,rfl,rfl,e,r1,r2,r3⟩
 ·rw[K9 h1,h2]
 ·rw[Gv e,Fu r1.1,Fu r2.1,Fu r3.1];rfl
def FL (K:W.Frag):Sp:=fun vs H Q _=>∃v t,vs=[v]/\Rep All H t v/\t.ok/\∀H',Ah H H'->Q (.bl (Gf t)) H'
theorem MI (T:Txt K mg)(F:Fun K "is_entry" "is_entry" Di f fd)(AA:Def P w K mg base 2 "is_between" ["thing","least","most"] (Bc K))(Bp:Def P w K mg base 3 "is_tag" ["thing"] (Dg K))(Ar:Def P w K mg base 1 "is_tuple_of" ["thing","many"] (AW K))(Ba:Def P w K mg base 2 "is_name" ["thing"] (Da K)):FnOk P w K mg base CP 4 f fd ["thing"] (FL K):=by
 exists MB
 ·obtain⟨v,t,rfl,_⟩:=h;rfl
 obtain⟨v,t,rfl,hv,ok,q⟩:=h;have okv:=hv.ok ok;refine⟨_,(!Ae (!AU (@PW.pt _ _ _ (!BO (!AI (!AH (!Au Ar (by trivial) rfl (!Aa (pv 0) (!Aa (!Ac) (!Ab)))) (by intro _;rfl))) (!Bs (!AI (!AH (!Au Ba (by trivial) rfl (!Aa (!Am Ap (pv 0) (!Ac) (fun _ _=>rfl)) (!Ab))) (by intro _;rfl)))))) (!Ag (!Al (!A1))) (!Aw)) (!Ag (!Al (!A8 (!Au AA (by trivial) rfl (!Aa (!Am Ap (pv 0) (!Ac) (fun _ _=>rfl)) (!Aa (!AG rfl T.c_FILE_ENTRY) (!Aa (!AG rfl T.c_FOLDER_ENTRY) (!Ab))))) (!Bq (!Au Bp (by trivial) rfl (!Aa (!Am Ap (pv 0) (!Ac) (fun _ _=>rfl)) (!Ab)))))))),?_⟩;refine⟨_,rfl,v,3,rfl,okv,_,rfl,?_⟩;rcases HE hv ok with⟨h1,_,h2⟩|⟨a,x,y,z,u1,u2,u3,rfl,rfl,e,⟨r1,o1⟩,⟨r2,o2⟩,r3,o3⟩
 ·rw[h2] at q;exact Ao (by rw[h1];rfl) (q H (Ah.refl _))
 ·refine As (by rw[Bx e];rfl) ?_;have eT:Gf (.tup [x,y,z])=(BB u1&&BD 1 2 u2&&CO z):=by rw[Ra r1,Fu r2];rfl
  rw[eT] at q;refine⟨_,rfl,a,_,_,_,rfl,rfl,AE.of e,VA.1,u1,rfl,r1.ok o1,fun H1 s1=>⟨_,rfl,?_⟩⟩;have q1:=q H1 s1;cases h1:BB u1 with
  |false=>rw[h1] at q1;exact Ao rfl q1
  |true=>
   rw[h1] at q1;refine As rfl ?_;dsimp only[Eb,Rf];refine Gb _ _ (fun R q=>⟨_,rfl,a,_,_,_,rfl,rfl,AE.of (s1.get e),VA.2.1,u2,1,2,rfl,(r2.ok o2).same s1,q⟩) (fun _ R q=>?_) q1;have r3':=Rep.same s1 _ _ r3;exact⟨_,rfl,a,_,_,_,rfl,rfl,AE.of (s1.get e),VA.2.2,u3,rfl,r3'.ok o3,FU r3' o3,by rw[ID r3' o3];exact q⟩
theorem MU:∀{a b:List Str},a.map V.str=b.map V.str->a=b
 |[],[],_=>rfl
 |[],_::_,h=>nomatch h
 |_::_,[],h=>nomatch h
 |x::a,y::b,h=>by
  rw[List.map_cons,List.map_cons] at h;injection h with h1 h2
  injection h1 with h1
  rw[h1,MU h2]
theorem Ng (a:List Str):(CU a).Nodup:=by
 have z:∀(l ks:List Str),ks.Nodup->(l.foldl (fun ks k=>if k∈ks then ks else ks++[k]) ks).Nodup:=fun l=>by
  induction l with
  |nil=>intro ks h;exact h
  |cons k r ih=>
   intro ks h;refine ih _ ?_;dsimp only
   split
   ·exact h
   ·rename_i nk
    refine List.nodup_append.mpr ⟨h,by simp,fun a ha b hb=>?_⟩;rw[List.mem_singleton] at hb;subst hb;intro e;subst e;exact nk ha
 exact z a [] List.nodup_nil
theorem Hl {J:It} {us:List V} {ts:List Tr} {fr:List (Option Nat)} {k:Nat} {te:TE} {Q:VK} {σ:St} {H:Hp} (p:Tr->Bool) (hJ:Hm J H us) (r:Aq All H ts us) (ok:Tr.oks ts) (hn:us.length<=1000000)
  (helt:∀(t:Tr) (x:V) (H':Hp) (R:VK),Rep All H' t x->t.ok->(∀H'',Ah H' H''->R (.bl (p t)) H'')->te ((stC fr σ).set k (some x)) H' R)
  (hQ:∀l H',Ah H H'->H' l=some (.lst ((ts.map p).map V.bl))->Q (.ref l) H'):Dd fr (A4 k) MV te σ Q J H:=by
 have lu:=Aq.len _ _ r;refine EF (fun i _ y _=>y=.bl (p (ts.getD i .non))) (fun _ _ _ _ _ h _=>h) (fun _ _ _ _ _ _ _ _ h _ _=>h) hJ hn (fun i x H' R hx s' hR=>?_) fun l H' ys _ s7 h7 ly hy=>?_
 ·obtain⟨t,ht,rt⟩:=Aq.get r hx;exact helt t x H' R (Rep.same s' _ _ rt) (Tr.oks_get ok ht) fun H'' s''=>hR _ H'' s'' (by simp[List.getD,ht])
 ·have e:ys=(ts.map p).map V.bl:=by
   refine List.ext_getElem (by rw[List.length_map,List.length_map];omega) fun i h1 h2=>?_
   obtain⟨_,_,e⟩:=hy i ys[i] (List.getElem?_eq_getElem h1);have hi:i<ts.length:=by omega
   rw[e,List.getElem_map,List.getElem_map];simp[List.getD,List.getElem?_eq_getElem hi]
  rw[e] at h7;exact hQ l H' s7 h7
def Qk:Tr->Str
 | .tup (.str z::_)=>z
 |_=>WH
def MQ (ns:List Str):Bool:=decide (PyProof.Rows.sortedS ns=true/\ns.Nodup)
def Qm (lv:Int):Tr->Bool
 | .tup ts=>decide (ts.length<=8) && !(decide (ts.length=0)&&decide (1<lv))&&ts.all CO
 |_=>false
def QR:Tr->Bool
 | .tup ts=>decide (ts.length<=16)&&ts.all Gf&&MQ (ts.map Qk)
 |_=>false
def Sx (H:Hp):V->V:=fun v=>match v with | .ref x=>(match H x with|some (.tup (y::_))=>y|_=>.non)|_=>.non
theorem Kn {H:Hp}{t:Tr}{v:V}(h:Rep All H t v)(ok:t.ok)(e:Gf t=true):∃a u2 u3,v=.ref a/\H a=some (.tup [.str (Qk t),u2,u3]):=by
 rcases HE h ok with⟨_,_,h2⟩|⟨a,x,y,z,u1,u2,u3,rfl,rfl,ea,⟨r1,o1⟩,_⟩
 ·rw[h2] at e;cases e
 ·have e':(BB (fv x)&&BD 1 2 (fv y)&&CO z)=true:=e;rw[Bool.and_eq_true,Bool.and_eq_true] at e';cases x with
  |str zz=>cases(show u1=V.str zz from r1);exact⟨a,u2,u3,rfl,ea⟩
  |non=>cases e'.1.1
  |bl b=>cases e'.1.1
  |int i=>cases e'.1.1
  |tup xs=>cases e'.1.1
  |lst xs=>cases e'.1.1
theorem Je:∀{ts:List Tr} {us:List V} {H:Hp},Aq All H ts us->Tr.oks ts->ts.all Gf=true->us.map (Sx H)=(ts.map Qk).map V.str
 |[],us,H,r,_,_=>by rw[show us=[] from r];rfl
 |t::ts,us,H,r,ok,h=>by
  obtain⟨v,us',rfl,r1,r2⟩:=r;rw[List.all_cons,Bool.and_eq_true] at h;obtain⟨a,u2,u3,rfl,e⟩:=Kn r1 ok.1 h.1;rw[List.map_cons,List.map_cons,List.map_cons,Je r2 ok.2 h.2];simp only[Sx,e]
theorem UB {ns ts:List Str}(pt:ts.Perm (CU ns))(st:PyProof.Rows.sortedS ts=true):decide (ns.map V.str=ts.map V.str)=MQ ns/\decide (ts.map V.str=ns.map V.str)=MQ ns:=by
 have key:ns.map V.str=ts.map V.str↔PyProof.Rows.sortedS ns=true/\ns.Nodup:=by
  constructor
  ·intro e;have e':ns=ts:=MU e;refine⟨by rw[e'];exact st,?_⟩;rw[e'];exact pt.nodup_iff.mpr (Ng _)
  ·rintro⟨h1,h2⟩
   rw[Lz h2] at pt;rw[IQ pt st h1]
 unfold MQ;constructor
 ·rw[Bool.eq_iff_iff,decide_eq_true_eq,decide_eq_true_eq];exact key
 ·rw[Bool.eq_iff_iff,decide_eq_true_eq,decide_eq_true_eq,eq_comm];exact key
def DB (K:W.Frag):Sp:=fun vs H Q _=>∃v lv t,vs=[v,.int lv]/\Rep All H t v/\t.ok/\∀H',Ah H H'->Q (.bl (Qm lv t)) H'
theorem Iw (T:Txt K mg)(F:Fun K "are_row_tags" "are_row_tags" BI f fd)(Bp:Def P w K mg base 3 "is_tag" ["thing"] (Dg K)):FnOk P w K mg base CP 4 f fd ["thing","level"] (DB K):=by
 exists Iz
 ·obtain⟨v,lv,t,rfl,_⟩:=h;rfl
 obtain⟨v,lv,t,rfl,hv,ok,q⟩:=h;have okv:=hv.ok ok;have ety:=hv.tyN;refine⟨_,(!Ae (!AU (@PW.pt _ _ _ (!BO (!AI (!AH (!Ak AJ (by rfl) T.b_isinstance Ax (!Aa (pv 0) (!Aa (!BS rfl T.b_tuple Be) (!Ab)))) (by intro _;rfl))) (!Bs (!AO KD (!Ak AM (by rfl) T.b_len BG (!Aa (pv 0) (!Ab))) (!AG rfl T.c_MOST_TAGS) (AF _))))) (!Ag (!Al (!A1))) (!Aw)) (!Ae (!AU (@PW.pt _ _ _ (!K3 (!AO Br (!Ak AM (by rfl) T.b_len BG (!Aa (pv 0) (!Ab))) (!Ac) (AF _)) (!IK (!AO KD (pv 1) (!Ac) (AF _))))) (!Ag (!Al (!A1))) (!Aw)) (!Ag (!Al (!Ak (Bd rfl) (by rfl) T.b_all Ca (!Aa (@AV _ ["tag"] _ _ _ _ _ _ _ _ _ _ rfl (!Bb (pv 0)) (by decide +kernel) (fun C s H fp=>⟨(@An _ _ (0) _ (show(["tag"]:List Str).Nodup by decide +kernel) rfl (by trivial) (by trivial)),(!AB),(!Au Bp (by trivial) rfl (!Aa (pv 0) (!Ab)))⟩) (by intro _;rfl)) (!Ab))))))),?_⟩;refine⟨_,rfl,_,_,_,_,rfl,okv.ty K,okv.kit K,_,rfl,?_⟩;rw[ety];cases t with
 |tup ts=>
  obtain⟨a,us,rfl,e,r⟩:=hv;have lu:=Aq.len _ _ r;have eR:Qm lv (.tup ts)=(decide (ts.length<=8) && !(decide (ts.length=0)&&decide (1<lv))&&ts.all CO):=rfl;rw[eR] at q;refine As (by show(!isA "tuple" "tuple")=false;decide) ?_;refine⟨_,rfl,a,_,rfl,.inr (AE.of e),_,_,rfl,rfl,_,rfl,DH (fun c=>?_) (fun c=>?_)⟩
  ·have c':=dec_true c;have:=q H (Ah.refl _);rw[decide_eq_false (show ¬ts.length<=8 by omega)] at this;exact this
  have c':=dec_false c;rw[decide_eq_true (show ts.length<=8 by omega)] at q;refine⟨_,rfl,a,_,rfl,.inr (AE.of e),rfl,_,rfl,DH (fun c2=>?_) (fun c2=>?_)⟩
  ·have z:V.int (us.length:Int)=V.int 0:=dec_true c2;have z0:ts.length=0:=by injection z with z;omega
   rw[decide_eq_true z0] at q;refine⟨_,rfl,_,_,rfl,rfl,_,rfl,DH (fun c3=>?_) (fun c3=>?_)⟩
   ·have:=q H (Ah.refl _);rw[c3] at this;exact this
   ·rw[Bool.eq_false_iff.mpr c3] at q;refine⟨_,rfl,a,rfl,⟨_,AE.of e⟩,Hl CO (A2 e) r ok.2 (by omega) (fun t x H' R rt ot hR=>?_) fun l H7 s7 h7=>?_⟩
    ·exact⟨_,rfl,x,rfl,rt.ok ot,FU rt ot,by rw[ID rt ot];exact hR H' (Ah.refl _)⟩
    ·refine⟨l,_,rfl,AR.of h7,?_⟩;have:=q H7 s7;rw[List.all_map];exact this
  ·have z:¬V.int (us.length:Int)=V.int 0:=dec_false c2;have z0:¬ts.length=0:=fun y=>z (by rw[lu,y];rfl)
   rw[decide_eq_false z0] at q;refine As rfl ?_;refine⟨_,rfl,a,rfl,⟨_,AE.of e⟩,Hl CO (A2 e) r ok.2 (by omega) (fun t x H' R rt ot hR=>?_) fun l H7 s7 h7=>?_⟩
   ·exact⟨_,rfl,x,rfl,rt.ok ot,FU rt ot,by rw[ID rt ot];exact hR H' (Ah.refl _)⟩
   ·refine⟨l,_,rfl,AR.of h7,?_⟩;have:=q H7 s7;rw[List.all_map];exact this
 |non=>exact Ao (by decide) (q H (Ah.refl _))
 |bl b=>exact Ao (by show(!isA "bool" "tuple")=true;decide) (q H (Ah.refl _))
 |int i=>exact Ao (by show(!isA "int" "tuple")=true;decide) (q H (Ah.refl _))
 |str z=>exact Ao (by show(!isA "str" "tuple")=true;decide) (q H (Ah.refl _))
 |lst ts=>exact Ao (by show(!isA "list" "tuple")=true;decide) (q H (Ah.refl _))
def D9 (K:W.Frag):Sp:=fun vs H Q _=>∃v t,vs=[v]/\Rep All H t v/\t.ok/\∀H',Ah H H'->Q (.bl (QR t)) H'
theorem IS (T:Txt K mg)(F:Fun K "are_entries" "are_entries" B0 f fd)(GC:Def P w K mg base 4 "is_entry" ["thing"] (FL K)):FnOk P w K mg base CP 5 f fd ["thing"] (D9 K):=by
 exists FO
 ·obtain⟨v,t,rfl,_⟩:=h;rfl
 obtain⟨v,t,rfl,hv,ok,q⟩:=h;have okv:=hv.ok ok;have ety:=hv.tyN;have hu:=Cu hr;refine⟨_,(!Ae (!AU (@PW.pt _ _ _ (!BO (!AI (!AH (!Ak AJ (by rfl) T.b_isinstance Ax (!Aa (pv 0) (!Aa (!BS rfl T.b_tuple Be) (!Ab)))) (by intro _;rfl))) (!Bs (!AO KD (!Ak AM (by rfl) T.b_len BG (!Aa (pv 0) (!Ab))) (!AG rfl T.c_MOST_ENTRIES) (AF _))))) (!Ag (!Al (!A1))) (!Aw)) (!Ae (!AU (!AI (!AH (!Ak (Bd rfl) (by rfl) T.b_all Ca (!Aa (@AV _ ["entry"] _ _ _ _ _ _ _ _ _ _ rfl (!Bb (pv 0)) (by decide +kernel) (fun C s H fp=>⟨(@An _ _ (0) _ (show(["entry"]:List Str).Nodup by decide +kernel) rfl (by trivial) (by trivial)),(!AB),(!Au GC (by trivial) rfl (!Aa (pv 0) (!Ab)))⟩) (by intro _;rfl)) (!Ab))) (by intro _;rfl))) (!Ag (!Al (!A1))) (!Aw)) (!Ae (@Ex _ ["name","kind","tag"] (1) _ _ _ _ _ _ _ _ _ _ _ _ _ FO.nd rfl (by trivial) rfl (!Bb (pv 0)) (by decide +kernel) (fun C s H fp=>⟨(@Lg _ (K) _ _ _ _ (3) (by rfl) rfl (!BF (@An _ _ (0) _ (show(["name","kind","tag"]:List Str).Nodup by decide +kernel) rfl (by trivial) (by trivial)) (!BF (@An _ _ (1) _ (show(["name","kind","tag"]:List Str).Nodup by decide +kernel) rfl (by trivial) (by trivial)) (!BF (@An _ _ (2) _ (show(["name","kind","tag"]:List Str).Nodup by decide +kernel) rfl (by trivial) (by trivial)) (!Ho)))) (by rfl) (by rfl)),(!AB),(pv 0)⟩) (by intro _;rfl) (by rfl) (by trivial)) (!Ag (!Al (!A5 (Oc hu) (pv 1) (!Ak (Jl (P:=P) (w:=w) (by rfl) (by rfl) rfl) (by rfl) T.b_sorted DT (!Aa (!A9 (KO (P:=P) (w:=w) (K:=K) (by rfl) (by rfl) (by rfl) rfl) (by rfl) T.b_set Jj (!Aa (pv 1) (!Ab))) (!Ab))) (AF _))))))),?_⟩;refine⟨_,rfl,_,_,_,_,rfl,okv.ty K,okv.kit K,_,rfl,?_⟩;rw[ety];cases t with
 |tup ts=>
  obtain⟨a,us,rfl,e,r⟩:=hv;have lu:=Aq.len _ _ r;have eR:QR (.tup ts)=(decide (ts.length<=16)&&ts.all Gf&&MQ (ts.map Qk)):=rfl;rw[eR] at q;refine As (by show(!isA "tuple" "tuple")=false;decide) ?_;refine⟨_,rfl,a,_,rfl,.inr (AE.of e),_,_,rfl,rfl,_,rfl,DH (fun c=>?_) (fun c=>?_)⟩
  ·have c':=dec_true c;have:=q H (Ah.refl _);rw[decide_eq_false (show ¬ts.length<=16 by omega)] at this;exact this
  have c':=dec_false c;rw[decide_eq_true (show ts.length<=16 by omega)] at q;refine⟨_,rfl,a,rfl,⟨_,AE.of e⟩,Hl Gf (A2 e) r ok.2 (by omega) (fun t x H' R rt ot hR=>?_) fun l H7 s7 h7=>?_⟩
  ·exact⟨_,rfl,x,t,rfl,rt,ot,hR⟩
  refine⟨l,_,rfl,AR.of h7,_,rfl,?_⟩;have e7:=s7.get e;have r7:=Aq.same s7 _ _ r;rw[List.all_map];have ea:(ts.all (id∘Gf))=ts.all Gf:=rfl;rw[ea];cases hall:ts.all Gf with
  |false=>
   rw[hall] at q;exact Ao rfl (q H7 s7)
  |true=>
   rw[hall] at q;refine As rfl ?_;refine⟨_,rfl,a,rfl,⟨_,AE.of e7⟩,Ko (Sx H7) (A2 e7) (by omega) (fun x hx=>?_) (fun x x1 x2 x3 H' R hx hx2 s' hR=>?_) fun l2 H8 n8 s8 h8=>?_⟩
   ·obtain⟨i,hi,ei⟩:=List.getElem_of_mem hx;obtain⟨t,ht,rt⟩:=Aq.get r7 (show us[i]?=some x by rw[List.getElem?_eq_getElem hi,ei]);obtain⟨c,u2,u3,rfl,ec⟩:=Kn rt (Tr.oks_get ok.2 ht) (List.all_eq_true.mp hall t (List.mem_of_getElem? ht));exact⟨c,_,_,_,rfl,ec⟩
   ·refine⟨_,rfl,?_⟩;have:=hR H' (Ah.refl _);simp only[Sx,hx2] at this;exact this
   rw[Je r7 ok.2 hall] at h8;have ln:(ts.map Qk).length<=16:=by rw[List.length_map];omega
   refine⟨_,rfl,_,rfl,l2,_,rfl,AR.of h8,by omega,fun p hp=>?_⟩;have sp:=Ai hp (PB P w p (CU (ts.map Qk)));have lo:=Jp (ts.map Qk);refine⟨p,_,rfl,Ad,by omega,fun zs p2 pt st hp2=>?_⟩;have s2:=Ai hp2 (.lst (zs.map V.str));refine⟨l2,p2,_,_,rfl,rfl,AR.of (s2.get (sp.get h8)),AR.of Ad,GQ _,GQ _,?_⟩;rw[if_neg Bool.false_ne_true];have:=q _ (((s7.trans s8).trans sp).trans s2);rw[(UB pt st).1];exact this
 |non=>exact Ao (by decide) (q H (Ah.refl _))
 |bl b=>exact Ao (by show(!isA "bool" "tuple")=true;decide) (q H (Ah.refl _))
 |int i=>exact Ao (by show(!isA "int" "tuple")=true;decide) (q H (Ah.refl _))
 |str z=>exact Ao (by show(!isA "str" "tuple")=true;decide) (q H (Ah.refl _))
 |lst ts=>exact Ao (by show(!isA "list" "tuple")=true;decide) (q H (Ah.refl _))
def Vy:Tr->Int
 | .int i=>i
 |_=>0
def Wz:List Tr->Bool
 |[t]=>Fm 1 8 (fv t)
 |_=>false
def VV:List Tr->Bool
 |[l,t]=>BD 1 9 (fv l)&&Qm (Vy l) t
 |_=>false
def Wv:List Tr->Bool
 |[t]=>QR t
 |_=>false
def Rk:Tr->Bool
 | .tup (.int k::r)=>if k=0 then Wz r else if k=1 then VV r else if k=2 then Wv r else false
 |_=>false
def Wr:Tr->Bool
 | .int _=>true
 |_=>false
theorem Wt {x:V}{xs:List V}:Hz (x::xs) 0=some x:=AZ (show(x::xs)[0]?=some x from rfl)
theorem HA {H:Hp}{t:Tr}{v:V}(h:Rep All H t v):E5 H v=Wr t:=by
 unfold E5;rw[h.tyN];cases t with
 |non=>decide
 |bl b=>show(isA "bool" "int" && !isA "bool" "bool")=false;decide
 |int i=>show(isA "int" "int" && !isA "int" "bool")=true;decide
 |str z=>show(isA "str" "int" && !isA "str" "bool")=false;decide
 |tup ts=>show(isA "tuple" "int" && !isA "tuple" "bool")=false;decide
 |lst ts=>show(isA "list" "int" && !isA "list" "bool")=false;decide
theorem Q0 {H:Hp}{r:List Tr}{us:List V}(h:Aq All H r us)(l:us.length=1):∃t u,r=[t]/\us=[u]/\Rep All H t u:=by
 have l2:=Aq.len _ _ h
 match r,h,l2 with
 |[t],h,_=>
  obtain⟨u,_,rfl,r1,rfl⟩:=h;exact⟨t,u,rfl,rfl,r1⟩
 |[],_,l2=>rw[l] at l2;cases l2
 |_::_::_,_,l2=>rw[l] at l2;simp at l2
theorem Ur {H:Hp}{r:List Tr}{us:List V}(h:Aq All H r us)(l:us.length=2):∃t t' u u',r=[t,t']/\us=[u,u']/\Rep All H t u/\Rep All H t' u':=by
 have l2:=Aq.len _ _ h
 match r,h,l2 with
 |[t,t'],h,_=>
  obtain⟨u,_,rfl,r1,u',_,rfl,r2,rfl⟩:=h;exact⟨t,t',u,u',rfl,rfl,r1,r2⟩
 |[],_,l2=>rw[l] at l2;cases l2
 |[_],_,l2=>rw[l] at l2;simp at l2
 |_::_::_::_,_,l2=>rw[l] at l2;simp at l2
theorem TV {r:List Tr}(h:¬r.length=1):Wz r=false/\Wv r=false:=by
 match r,h with
 |[],_=>exact⟨rfl,rfl⟩
 |[_],h=>exact absurd rfl h
 |_::_::_,_=>exact⟨rfl,rfl⟩
theorem Wo {r:List Tr}(h:¬r.length=2):VV r=false:=by
 match r,h with
 |[],_=>rfl
 |[_],_=>rfl
 |[_,_],h=>exact absurd rfl h
 |_::_::_::_,_=>rfl
theorem Lv {n:Nat}{k:Int}(h:decide (V.int (n:Int)=V.int k)=true):(n:Int)=k:=V.int.inj (of_decide_eq_true h)
def FD (K:W.Frag):Sp:=fun vs H Q _=>∃v t,vs=[v]/\Rep All H t v/\t.ok/\∀H',Ah H H'->Q (.bl (Rk t)) H'
theorem M8 (T:Txt K mg)(F:Fun K "is_block" "is_block" Dm f fd)(Eo:Def P w K mg base 5 "are_entries" ["thing"] (D9 K))(BA:Def P w K mg base 1 "is_whole" ["thing"] (Dr K))(DO:Def P w K mg base 1 "is_text" ["thing","least","most"] (E7 K))(AA:Def P w K mg base 2 "is_between" ["thing","least","most"] (Bc K))(D6:Def P w K mg base 4 "are_row_tags" ["thing","level"] (DB K)):FnOk P w K mg base CP 6 f fd ["thing"] (FD K):=by
 exists Mr
 ·obtain⟨v,t,rfl,_⟩:=h;rfl
 obtain⟨v,t,rfl,hv,ok,q⟩:=h;have okv:=hv.ok ok;have ety:=hv.tyN;refine⟨_,(!Ae (!AU (@PW.pt _ _ _ (!BO (!AI (!AH (!Ak AJ (by rfl) T.b_isinstance Ax (!Aa (pv 0) (!Aa (!BS rfl T.b_tuple Be) (!Ab)))) (by intro _;rfl))) (!BO (!AO Br (!Ak AM (by rfl) T.b_len BG (!Aa (pv 0) (!Ab))) (!Ac) (AF _)) (!Bs (!AI (!AH (!Au BA (by trivial) rfl (!Aa (!Am Ap (pv 0) (!Ac) (fun _ _=>rfl)) (!Ab))) (by intro _;rfl))))))) (!Ag (!Al (!A1))) (!Aw)) (!Ae (!AU (!AO Br (!Am Ap (pv 0) (!Ac) (fun _ _=>rfl)) (!AG rfl T.c_PIECE) (AF _)) (!Ag (!Al (!A8 (!A5 Br (!Ak AM (by rfl) T.b_len BG (!Aa (pv 0) (!Ab))) (!Ac) (AF _)) (!Bq (!Au DO (by trivial) rfl (!Aa (!Am Ap (pv 0) (!Ac) (fun _ _=>rfl)) (!Aa (!Ac) (!Aa (!AG rfl T.c_MOST_PIECE_SIGNS) (!Ab))))))))) (!Aw)) (!Ae (!AU (!AO Br (!Am Ap (pv 0) (!Ac) (fun _ _=>rfl)) (!AG rfl T.c_ROW) (AF _)) (!Ag (!Al (!A8 (!A5 Br (!Ak AM (by rfl) T.b_len BG (!Aa (pv 0) (!Ab))) (!Ac) (AF _)) (!A8 (!Au AA (by trivial) rfl (!Aa (!Am Ap (pv 0) (!Ac) (fun _ _=>rfl)) (!Aa (!Ac) (!Aa (!AG rfl T.c_MOST_LEVEL) (!Ab))))) (!Bq (!Au D6 (by trivial) rfl (!Aa (!Am Ap (pv 0) (!Ac) (fun _ _=>rfl)) (!Aa (!Am Ap (pv 0) (!Ac) (fun _ _=>rfl)) (!Ab))))))))) (!Aw)) (!Ag (!Al (!A8 (!A5 Br (!Am Ap (pv 0) (!Ac) (fun _ _=>rfl)) (!AG rfl T.c_FOLDER) (AF _)) (!A8 (!A5 Br (!Ak AM (by rfl) T.b_len BG (!Aa (pv 0) (!Ab))) (!Ac) (AF _)) (!Bq (!Au Eo (by trivial) rfl (!Aa (!Am Ap (pv 0) (!Ac) (fun _ _=>rfl)) (!Ab))))))))))),?_⟩;refine⟨_,rfl,_,_,_,_,rfl,okv.ty K,okv.kit K,_,rfl,?_⟩;rw[ety];cases t with
 |non=>exact Ao (by decide) (q H (Ah.refl _))
 |bl b=>exact Ao (by show(!isA "bool" "tuple")=true;decide) (q H (Ah.refl _))
 |int i=>exact Ao (by show(!isA "int" "tuple")=true;decide) (q H (Ah.refl _))
 |str z=>exact Ao (by show(!isA "str" "tuple")=true;decide) (q H (Ah.refl _))
 |lst ts=>exact Ao (by show(!isA "list" "tuple")=true;decide) (q H (Ah.refl _))
 |tup ts=>
  obtain⟨a,us,rfl,e,r⟩:=hv;refine As (by show(!isA "tuple" "tuple")=false;decide) ?_;cases ts with
  |nil=>
   cases(show us=[] from r);exact⟨_,rfl,a,_,rfl,.inr (AE.of e),rfl,_,rfl,Ao rfl (q H (Ah.refl _))⟩
  |cons t0 r0=>
   obtain⟨u0,us,rfl,r1,r2⟩:=r;obtain⟨_,o1,o2⟩:=ok;have l2:=Aq.len _ _ r2;refine⟨_,rfl,a,_,rfl,.inr (AE.of e),rfl,_,rfl,As (decide_eq_false fun z=>absurd (V.int.inj z) (by simp only[List.length_cons];omega)) ?_⟩;refine⟨_,rfl,a,_,_,_,rfl,rfl,AE.of e,Wt,_,rfl,r1.ok o1,_,rfl,?_⟩;rw[HA r1];cases t0 with
   |non=>exact Ao rfl (q H (Ah.refl _))
   |bl b=>exact Ao rfl (q H (Ah.refl _))
   |str z=>exact Ao rfl (q H (Ah.refl _))
   |tup xs=>exact Ao rfl (q H (Ah.refl _))
   |lst xs=>exact Ao rfl (q H (Ah.refl _))
   |int k=>
    cases(show u0=V.int k from r1);refine As rfl ?_;have eB:Rk (.tup (.int k::r0))=if k=0 then Wz r0 else if k=1 then VV r0 else if k=2 then Wv r0 else false:=rfl;rw[eB] at q;refine⟨_,rfl,a,_,_,_,rfl,rfl,AE.of e,Wt,rfl,_,rfl,DH (fun c=>?_) (fun c=>?_)⟩
    ·have k0:k=0:=V.int.inj (of_decide_eq_true c);rw[if_pos k0] at q;refine⟨_,rfl,a,_,rfl,.inr (AE.of e),rfl,_,rfl,DH (fun c2=>?_) (fun c2=>?_)⟩
     ·have c3:=Lv c2;obtain⟨t1,u1,rfl,rfl,rt⟩:=Q0 r2 (by simp only[List.length_cons] at c3;omega);refine⟨_,rfl,a,_,_,_,rfl,rfl,AE.of e,rfl,_,1,8,rfl,rt.ok o2.1,fun H1 s1=>?_⟩;rw[QE rt];exact q H1 s1
     ·have c3:¬r0.length=1:=fun z=>c2 (decide_eq_true (by simp only[List.length_cons,l2,z];rfl))
      rw[(TV c3).1] at q;exact q H (Ah.refl _)
    ·have k0:¬k=0:=fun z=>c (decide_eq_true (by rw[z]))
     rw[if_neg k0] at q;refine⟨_,rfl,a,_,_,_,rfl,rfl,AE.of e,Wt,rfl,_,rfl,DH (fun c1=>?_) (fun c1=>?_)⟩
     ·have k1:k=1:=V.int.inj (of_decide_eq_true c1);rw[if_pos k1] at q;refine⟨_,rfl,a,_,rfl,.inr (AE.of e),rfl,_,rfl,DH (fun c2=>?_) (fun c2=>?_)⟩
      ·have c3:=Lv c2;obtain⟨t1,t2,u1,u2,rfl,rfl,rt1,rt2⟩:=Ur r2 (by simp only[List.length_cons] at c3;omega);have eW:VV [t1,t2]=(BD 1 9 u1&&Qm (Vy t1) t2):=by rw[Fu rt1];rfl
       rw[eW] at q;refine⟨_,rfl,a,_,_,_,rfl,rfl,AE.of e,rfl,_,1,9,rfl,rt1.ok o2.1,_,rfl,?_⟩;cases hb:BD 1 9 u1 with
       |false=>rw[hb] at q;exact As rfl (q H (Ah.refl _))
       |true=>
        rw[hb] at q;refine Ao rfl ?_;have:∃lv,u1=.int lv/\Vy t1=lv:=by
         cases t1 with
         |int i=>cases(show u1=V.int i from rt1);exact⟨i,rfl,rfl⟩
         |non=>cases(show u1=V.non from rt1);cases hb
         |bl b=>cases(show u1=V.bl b from rt1);cases hb
         |str z=>cases(show u1=V.str z from rt1);cases hb
         |tup xs=>obtain⟨_,_,rfl,_⟩:=rt1;cases hb
         |lst xs=>obtain⟨_,_,rfl,_⟩:=rt1;cases hb
        obtain⟨lv,rfl,el⟩:=this;rw[el] at q;exact⟨_,rfl,a,_,_,_,rfl,rfl,AE.of e,rfl,_,rfl,a,_,_,_,rfl,rfl,AE.of e,rfl,_,lv,t2,rfl,rt2,o2.2.1,q⟩
      ·have c3:¬r0.length=2:=fun z=>c2 (decide_eq_true (by simp only[List.length_cons,l2,z];rfl))
       rw[Wo c3] at q;exact q H (Ah.refl _)
     ·have k1:¬k=1:=fun z=>c1 (decide_eq_true (by rw[z]))
      rw[if_neg k1] at q;refine⟨_,rfl,a,_,_,_,rfl,rfl,AE.of e,Wt,rfl,_,rfl,DH (fun c4=>?_) (fun c4=>?_)⟩
      ·have k2:k=2:=V.int.inj (of_decide_eq_true c4);rw[if_pos k2] at q;refine⟨_,rfl,a,_,rfl,.inr (AE.of e),rfl,_,rfl,DH (fun c2=>?_) (fun c2=>?_)⟩
       ·have c3:=Lv c2;obtain⟨t1,u1,rfl,rfl,rt⟩:=Q0 r2 (by simp only[List.length_cons] at c3;omega);exact⟨_,rfl,a,_,_,_,rfl,rfl,AE.of e,rfl,_,t1,rfl,rt,o2.1,q⟩
       ·have c3:¬r0.length=1:=fun z=>c2 (decide_eq_true (by simp only[List.length_cons,l2,z];rfl))
        rw[(TV c3).2] at q;exact q H (Ah.refl _)
      ·have k2:¬k=2:=fun z=>c4 (decide_eq_true (by rw[z]))
       rw[if_neg k2] at q;exact q H (Ah.refl _)
def DC (x:En):List Int:=(Iq x.nm).map idx++[x.kd,x.tg.2.2]
def told:Bk->List Int
 | .piece z=>(Iq z).map idx
 | .row lv ts=>lv::ts.map (·.2.2)
 | .folder es=>es.flatMap DC
theorem idx_map (z:Str):((z.cps.toList.map fun c=>V.str ⟨#[c]⟩).map fun v=>match v with|V.str y=>V.int (PySem.Txt.find SG y)|_=>V.non)=((Iq z).map idx).map V.int:=by
 rw[List.map_map,List.map_map];rfl
theorem Mc:∀{ts:List Tg} {us:List V} {H:Hp},Aq NL H (ts.map JU) us->(us.map fun v=>match v with | .ref x=>(match H x with|some (.tup [_,_,y])=>y|_=>.non)|_=>.non)=(ts.map (·.2.2)).map V.int
 |[],us,H,r=>by rw[show us=[] from r];rfl
 |e::es,us,H,r=>by
  obtain⟨v,us',rfl,r1,r2⟩:=r;obtain⟨a,rfl,e1⟩:=Jd r1;rw[List.map_cons,List.map_cons,List.map_cons,Mc r2];simp only[e1]
theorem PM {es:List En}{i:Nat}{x:En}(h:es[i]?=some x):(es.take (i+1)).flatMap DC=(es.take i).flatMap DC++DC x:=by
 rw[List.take_add_one,h,List.flatMap_append];simp
theorem Rj {es:List En}(h:∀x∈es,(DC x).length<=10):(es.flatMap DC).length<=10*es.length:=by
 induction es with
 |nil=>exact Nat.le_refl _
 |cons x r ih=>
  rw[List.flatMap_cons,List.length_append,List.length_cons];have:=h x List.mem_cons_self;have:=ih fun y hy=>h y (List.mem_cons_of_mem _ hy)
  omega
theorem UK {x:En}(h:QV x):(DC x).length<=10:=by
 have:=(Gn h.1).2.1;unfold DC;rw[List.length_append,List.length_map,Fj];show x.nm.length+2<=10;omega
def Dv (K:W.Frag):Sp:=fun vs H Q _=>∃v b,vs=[v]/\Rep NL H (GR b) v/\IB b/\∀l H',Ah H H'->H l=none->H' l=some (.lst ((told b).map V.int))->Q (.ref l) H'
theorem Iy (T:Txt K mg)(F:Fun K "numbers_told" "numbers_told" BL f fd)(Ef:Def P w K mg base 1 "number_of" ["sign"] (Fd K)):FnOk P w K mg base CP 2 f fd ["block"] (Dv K):=by
 exists BR
 ·obtain⟨v,b,rfl,_⟩:=h;rfl
 obtain⟨v,b,rfl,hv,ok,q⟩:=h;refine⟨_,(!Ae (!AU (!AO Br (!Am Ap (pv 0) (!Ac) (fun _ _=>rfl)) (!AG rfl T.c_PIECE) (AF _)) (!Ag (!Al (@AV _ ["sign"] _ _ _ _ _ _ _ _ _ _ rfl (!LH (!Am Ap (pv 0) (!Ac) (fun _ _=>rfl))) (by decide +kernel) (fun C s H fp=>⟨(@An _ _ (0) _ (show(["sign"]:List Str).Nodup by decide +kernel) rfl (by trivial) (by trivial)),(!AB),(!Au Ef (by trivial) rfl (!Aa (pv 0) (!Ab)))⟩) (by intro _;rfl)))) (!Aw)) (!Ae (!AU (!AO Br (!Am Ap (pv 0) (!Ac) (fun _ _=>rfl)) (!AG rfl T.c_ROW) (AF _)) (!Ag (!Al (!AK OB (!C0 (!Aa (!Am Ap (pv 0) (!Ac) (fun _ _=>rfl)) (!Ab))) (@AV _ ["tag"] _ _ _ _ _ _ _ _ _ _ rfl (!Bb (!Am Ap (pv 0) (!Ac) (fun _ _=>rfl))) (by decide +kernel) (fun C s H fp=>⟨(@An _ _ (0) _ (show(["tag"]:List Str).Nodup by decide +kernel) rfl (by trivial) (by trivial)),(!AB),(!Am (AQ (K:=K) (by rfl)) (pv 0) (!Ac) (fun _ _=>rfl))⟩) (by intro _;rfl))))) (!Aw)) (!Ae (@A7 _ _ (1) _ _ _ _ BR.nd rfl (by trivial) (!C0 (!Ab)) (by rfl) (by trivial)) (!Ae (!CA PassesOwn.never rfl (!Bb (!Am Ap (pv 0) (!Ac) (fun _ _=>rfl))) (!NA rfl (!BF (@An _ _ (2) _ BR.nd rfl (by trivial) (by trivial)) (!BF (@An _ _ (3) _ BR.nd rfl (by trivial) (by trivial)) (!BF (@An _ _ (4) _ BR.nd rfl (by trivial) (by trivial)) (!Ho))))) (!Ae (!Ec (!GX PySem.F.plainAttrs_list PySem.F.slot_list_extend PySem.F.type_list_extend HW (pv 1) (!Aa (@AV _ ["sign"] _ _ _ _ _ _ _ _ _ _ rfl (!LH (pv 2)) (by decide +kernel) (fun C s H fp=>⟨(@An _ _ (0) _ (show(["sign"]:List Str).Nodup by decide +kernel) rfl (by trivial) (by trivial)),(!AB),(!Au Ef (by trivial) rfl (!Aa (pv 0) (!Ab)))⟩) (by intro _;rfl)) (!Ab)))) (!Ag (!Ec (!GX PySem.F.plainAttrs_list PySem.F.slot_list_extend PySem.F.type_list_extend HW (pv 1) (!Aa (!C0 (!Aa (pv 3) (!Aa (!Am Ap (pv 4) (!Ac) (fun _ _=>rfl)) (!Ab)))) (!Ab)))))) (by intro _;rfl)) (!Ag (!Al (pv 1))))))),?_⟩;cases b with
 |piece z=>
  obtain⟨a,rfl,e⟩:=HF hv;have h':(decide ((1:Int)<=(z.length:Int))&&decide ((z.length:Int)<=8)&&B9 SG z)=true:=ok;simp only[Bool.and_eq_true,decide_eq_true_eq] at h';have zs:∀c∈Iq z,c∈Iq SG:=fun c hc=>by simpa using List.all_eq_true.mp h'.2 c hc
  refine⟨_,rfl,a,_,_,_,rfl,rfl,AE.of e,rfl,rfl,_,rfl,Ao rfl ?_⟩;refine⟨_,rfl,a,_,_,_,rfl,rfl,AE.of e,rfl,z,rfl,?_⟩;refine comp_map (fun v=>match v with | .str y=>.int (PySem.Txt.find SG y)|_=>.non) GU (by rw[List.length_map];exact Nat.le_trans (Nat.le_of_eq (Fj z)) (by omega)) (fun x H' R hx s' hR=>?_) fun l H7 n7 s7 h7=>?_
  ·obtain⟨u,hu,rfl⟩:=List.mem_map.mp hx;exact⟨_,rfl,_,rfl,(Qp (zs u hu)).1,hR H' (Ah.refl _)⟩
  rw[idx_map] at h7;exact q l H7 s7 n7 h7
 |row lv ts=>
  obtain⟨a,b,us,rfl,e,e2,r⟩:=Lp hv;have lu:=Aq.len _ _ r;rw[List.length_map] at lu;have l8:=ok.2.1;refine⟨_,rfl,a,_,_,_,rfl,rfl,AE.of e,rfl,rfl,_,rfl,As rfl ?_⟩;refine⟨_,rfl,a,_,_,_,rfl,rfl,AE.of e,rfl,rfl,_,rfl,Ao rfl ?_⟩;refine⟨_,rfl,a,_,_,_,rfl,rfl,AE.of e,rfl,V8,fun p1 hp1=>?_⟩;have s1:=Ai hp1 (.lst [V.int lv]);have e2':=s1.get e2;have r':=Aq.same s1 _ _ r;refine⟨_,rfl,a,_,_,_,rfl,rfl,AE.of (s1.get e),rfl,b,rfl,⟨_,AE.of e2'⟩,comp_map (fun v=>match v with | .ref x=>(match(upd H p1 (.lst [V.int lv])) x with|some (.tup [_,_,y])=>y|_=>.non)|_=>.non) (A2 e2') (by omega) (fun x H' R hx s' hR=>?_) fun l H7 n7 s7 h7=>?_⟩
  ·obtain⟨t,ht,rt⟩:=O6 r' hx;obtain⟨c,rfl,ec⟩:=Jd rt;have:=hR H' (Ah.refl _);simp only[ec] at this;exact⟨_,rfl,c,_,_,_,rfl,rfl,AE.of (s'.get ec),rfl,this⟩
  rw[Mc r'] at h7;refine⟨p1,l,_,_,rfl,rfl,AR.of (s7.get Ad),AR.of h7,small (by rw[List.length_map,List.length_map];show 1+ts.length<=1000000;omega),fun p hp=>?_⟩;exact q p _ ((s1.trans s7).trans (Ai hp _)) ((s1.trans s7).free hp) Ad
 |folder es=>
  obtain⟨a,b,us,rfl,e,e2,r⟩:=Gz hv;have lu:=Aq.len _ _ r;rw[List.length_map] at lu;obtain⟨o1,o2,_⟩:=ok;refine⟨_,rfl,a,_,_,_,rfl,rfl,AE.of e,rfl,rfl,_,rfl,As rfl ?_⟩;refine⟨_,rfl,a,_,_,_,rfl,rfl,AE.of e,rfl,rfl,_,rfl,As rfl ?_⟩;refine⟨Nj,fun g hg=>?_⟩;have sg:=Ai hg (.lst []);refine⟨_,rfl,a,_,_,_,rfl,rfl,AE.of (sg.get e),rfl,b,rfl,⟨_,AE.of (sg.get e2)⟩,K4 (K:=K) (a:=b) (xs:=us) (fun i σ H2=>∃v2 v3 v4,σ=[some (.ref a),some (.ref g),v2,v3,v4]/\Ah H H2/\H2 g=some (.lst (((es.take i).flatMap DC).map V.int))) ⟨none,none,none,rfl,sg,Ad⟩ (fun i σ H2 _ ⟨_,_,_,_,s2,_⟩=>AE.of (s2.get e2)) ?_ ?_⟩
  ·rintro i y σ H2 hi ⟨v2,v3,v4,rfl,s2,hg2⟩
   obtain⟨t,ht,ry⟩:=Aq.get r hi;rw[List.getElem?_map] at ht;cases z:es[i]? with
   |none=>rw[z] at ht;cases ht
   |some x=>
    rw[z] at ht;cases ht;obtain⟨c,d,rfl,ec,ed⟩:=K5 ry;have ox:=o2 x (List.mem_of_getElem? z);obtain⟨n1,n2,_,n4⟩:=Gn ox.1;have tl:((es.take i).flatMap DC).length<=160:=by
     have:=Rj (es:=es.take i) fun y hy=>UK (o2 y (List.mem_of_mem_take hy))
     rw[List.length_take] at this;omega
    refine⟨c,_,rfl,AE.of (s2.get ec),rfl,_,_,rfl,_,_,rfl,_,_,rfl,rfl,?_⟩;refine⟨_,rfl,.inl ⟨rfl,_,AR.of hg2⟩,_,rfl,x.nm,rfl,?_⟩;refine comp_map (fun v=>match v with | .str y=>.int (PySem.Txt.find SG y)|_=>.non) GU (by rw[List.length_map];exact Nat.le_trans (Nat.le_of_eq (Fj x.nm)) (by omega)) (fun u H' R hu s' hR=>?_) fun l H7 n7 s7 h7=>?_
    ·obtain⟨k,hk,rfl⟩:=List.mem_map.mp hu;exact⟨_,rfl,_,rfl,(Qp (n4 k hk)).1,hR H' (Ah.refl _)⟩
    rw[idx_map] at h7;refine⟨g,l,_,_,rfl,rfl,s7.get hg2,h7,small (by rw[List.length_map,List.length_map,List.length_map,Fj];omega),?_⟩;have t7:=B4 (s2.trans s7) hg (.lst (((es.take i).flatMap DC).map V.int++((Iq x.nm).map idx).map V.int));refine⟨_,rfl,.inl ⟨rfl,_,AR.of Ad⟩,_,rfl,_,rfl,d,_,_,_,rfl,rfl,AE.of (t7.get ed),rfl,Ms,fun p hp=>?_⟩;have t8:=Ai hp (.lst [V.int x.kd,V.int x.tg.2.2]);refine⟨g,p,_,_,rfl,rfl,t8.get Ad,Ad,small (by rw[List.length_append,List.length_map,List.length_map,List.length_map,Fj];show _+_+2<=_;omega),?_⟩;refine⟨_,_,_,rfl,B4 (t7.trans t8) hg _,?_⟩;rw[Ad,PM z,List.map_append];unfold DC;rw[List.map_append,List.append_assoc];rfl
  ·rintro σ H2 ⟨v2,v3,v4,rfl,s2,hg2⟩
   rw[lu,List.take_of_length_le (Nat.le_refl _)] at hg2;exact⟨_,rfl,q g H2 s2 hg hg2⟩
def kindB:Bk->Int
 | .piece _=>0
 | .row _ _=>1
 | .folder _=>2
def GH (b:Bk):Int:=(told b).foldl (fun t n=>(31*t+n+1)%997) (1+kindB b)
theorem Mh {H:Hp}{b:Bk}{v:V}(h:Rep NL H (GR b) v):∃a xs,v=.ref a/\H a=some (.tup (.int (kindB b)::xs)):=by
 cases b with
 |piece z=>obtain⟨a,rfl,e⟩:=HF h;exact⟨a,_,rfl,e⟩
 |row lv ts=>obtain⟨a,b,us,rfl,e,_⟩:=Lp h;exact⟨a,_,rfl,e⟩
 |folder es=>obtain⟨a,b,us,rfl,e,_⟩:=Gz h;exact⟨a,_,rfl,e⟩
theorem Mw {x:V}{xs:List V}:Hz (x::xs) 0=some x:=by
 unfold Hz UQ;simp
theorem ints_get {ns:List Int}{i:Nat}{y:V}(h:(ns.map V.int)[i]?=some y):∃n,y=.int n/\ns[i]?=some n:=by
 rw[List.getElem?_map] at h;cases z:ns[i]? with
 |none=>rw[z] at h;cases h
 |some n=>rw[z] at h;cases h;exact⟨n,rfl,rfl⟩
theorem Ph {f:Int->Int->Int}{z:Int}{ns:List Int}{i:Nat}{n:Int}(h:ns[i]?=some n):(ns.take (i+1)).foldl f z=f ((ns.take i).foldl f z) n:=by
 rw[List.take_add_one,h,List.foldl_append];rfl
def Ge (K:W.Frag):Sp:=fun vs H Q _=>∃v b,vs=[v]/\Rep NL H (GR b) v/\IB b/\∀H',Ah H H'->Q (.int (GH b)) H'
theorem Pz (T:Txt K mg)(F:Fun K "sum_of" "sum_of" EA f fd)(DV:Def P w K mg base 2 "numbers_told" ["block"] (Dv K)):FnOk P w K mg base CP 3 f fd ["block"] (Ge K):=by
 exists FX
 ·obtain⟨v,b,rfl,_⟩:=h;rfl
 obtain⟨v,b,rfl,hv,ok,q⟩:=h;obtain⟨a,xs,rfl,e⟩:=Mh hv;refine⟨_,(!Ae (@A7 _ _ (1) _ _ _ _ FX.nd rfl (by trivial) (!AK Cq (!Ac) (!Am Ap (pv 0) (!Ac) (fun _ _=>rfl))) (by rfl) (by trivial)) (!Ae (!CA PassesOwn.never rfl (!Bf (!Au DV (by trivial) rfl (!Aa (pv 0) (!Ab)))) (@An _ _ (2) _ FX.nd rfl (by trivial) (by trivial)) (!Ag (@A7 _ _ (1) _ _ _ _ FX.nd rfl (by trivial) (!AK Bz (!AK Cq (!AK Cq (!AK Fs (!Ac) (pv 1)) (pv 2)) (!Ac)) (!AG rfl T.c_SUM_RESTS)) (by rfl) (by trivial))) (by intro _;rfl)) (!Ag (!Al (pv 1))))),?_⟩;refine⟨_,rfl,a,_,_,_,rfl,rfl,AE.of e,Mw,_,_,rfl,rfl,?_⟩;refine⟨_,rfl,_,b,rfl,hv,ok,fun l H1 s1 n1 h1=>?_⟩;refine⟨l,rfl,⟨_,AR.of h1⟩,FJ (K:=K) (a:=l) (xs:=(told b).map V.int) (fun i σ H2=>∃v2,σ=[some (.ref a),some (.int (((told b).take i).foldl (fun t n=>(31*t+n+1)%997) (1+kindB b))),v2]/\Ah H1 H2) ⟨none,rfl,Ah.refl _⟩ (fun i σ H2 _ ⟨_,_,s2⟩=>AR.of (s2.get h1)) ?_ ?_⟩
 ·rintro i y σ H2 hi ⟨v2,rfl,s2⟩
  obtain⟨n,rfl,hn⟩:=ints_get hi;refine⟨_,rfl,_,_,rfl,rfl,.inl ⟨by decide,by decide⟩,_,rfl,_,_,rfl,rfl,_,_,rfl,rfl,_,_,rfl,rfl,(show(0:Int)<997 by decide),?_⟩;refine⟨some (.int n),?_,s2⟩;rw[Ph hn];rfl
 ·rintro σ H2 ⟨v2,rfl,s2⟩
  rw[List.length_map,List.take_length];exact⟨_,rfl,q H2 (s1.trans s2)⟩
end
end B
section
variable {P:Program}{w:World}{K:W.Frag}{mg:Str->Option Value}{base:Heap}{f:Addr}{XC:Nat->Addr}{fd:FuncData}
def FE (K:W.Frag):Sp:=fun vs H Q _=>∃(c m:Int),vs=[.int c,.int m]/\0<=m/\m<=1000/\
 ∀(r:Addr) (H':Hp) (ns:List Int),Ah H H'->H r=none->H' r=some (.lst (ns.map V.int))->ns.length=m.toNat->(∀x∈ns,0<=x/\x<60)->Q (.ref r) H'
theorem Mo (T:Txt K mg)(F:Fun K "_law_row" "_law_row" Dk f fd):FnOk P w K mg base CP 1 f fd ["_law_cell","_law_many"] (FE K):=by
 exists Ds
 ·obtain⟨c,m,rfl,_⟩:=h;rfl
 obtain⟨c,m,rfl,hm0,hm1,q⟩:=h;refine⟨_,(!Ae (@A7 _ _ (2) _ _ _ _ Ds.nd rfl (by trivial) (!C0 (!Ab)) (by rfl) (by trivial)) (!Ae (!CA PassesOwn.never rfl (!HP rfl T.b_range (!Aa (pv 1) (!Ab))) (@An _ _ (3) _ Ds.nd rfl (by trivial) (by trivial)) (!Ag (!AU (!IU IY Qy (!Ac) (pv 0) (!AK Lc (!Ac) (!Ac)) (by with_unfolding_all rfl)) (!Ae (@A7 _ _ (4) _ _ _ _ Ds.nd rfl (by trivial) (!AK Bz (!AK Cq (!AK Cq (!AK Fs (!AK Bz (pv 0) (!Ac)) (!Ac)) (!AK Fs (!AK Fs (pv 3) (pv 3)) (!Ac))) (!Ac)) (!Ac)) (by rfl) (by trivial)) (!Ag (!Ec (!GX PySem.F.plainAttrs_list PySem.F.slot_list_append PySem.F.type_list_append DM (pv 2) (!Aa (!AK Bz (!AK OZ (!AK Bz (!AK Fs (pv 4) (!AK Cq (!AK Bz (pv 4) (!Ac)) (!Ac))) (!Ac)) (!Ac)) (!Ac)) (!Ab)))))) (!Ae (!Ec (!GX PySem.F.plainAttrs_list PySem.F.slot_list_append PySem.F.type_list_append DM (pv 2) (!Aa (!AK Bz (pv 0) (!Ac)) (!Ab)))) (!Ag (@A7 _ _ (0) _ _ _ _ Ds.nd rfl (by trivial) (!AK OZ (pv 0) (!Ac)) (by rfl) (by trivial)))))) (by intro _;rfl)) (!Ag (!Al (pv 2))))),?_⟩
 try dsimp only[Cg,Cx.nox,Cx.wish]
 refine⟨Nj,fun g hg=>?_⟩;refine⟨_,rfl,m,rfl,by omega,by omega,P7 (lo:=0) (n:=m.toNat) (fun i σ H2=>∃(ns:List Int) (z:Int) (v u:Option V),σ=[some (.int z),some (.int m),some (.ref g),v,u]/\Ah H H2/\H2 g=some (.lst (ns.map V.int))/\ns.length=i/\∀x∈ns,0<=x/\x<60)
  ⟨[],c,none,none,rfl,Ai hg _,Ad,rfl,fun _ h=>nomatch h⟩ ?_ ?_⟩
 ·rintro i σ H2 hi ⟨ns,z,v,u,rfl,s2,hg2,hl,hb⟩
  have app:∀x:Int,0<=x->x<60->∀(z:Int) (v u:Option V),∃(ns':List Int) (z':Int) (v' u':Option V),[some (.int z),some (.int m),some (.ref g),v,u]=[some (.int z'),some (.int m),some (.ref g),v',u']/\Ah H (upd H2 g (.lst (ns.map V.int++[.int x])))/\(upd H2 g (.lst (ns.map V.int++[.int x]))) g=some (.lst (ns'.map V.int))/\ns'.length=i+1/\∀x∈ns',0<=x/\x<60:=fun x h0 h1 z v u=>
   ⟨ns++[x],z,v,u,rfl,B4 s2 hg _,by rw[Ad,List.map_append];rfl,by rw[List.length_append,hl];rfl,fun y hy=>by
    rcases List.mem_append.mp hy with hy|hy
    ·exact hb y hy
    ·rw[List.mem_singleton.mp hy];exact⟨h0,h1⟩⟩
  have few:(ns.map V.int).length<sizeLine:=CV (by rw[List.length_map];omega);refine⟨_,rfl,_,_,rfl,rfl,_,rfl,DH (fun c1=>?_) (fun c1=>?_)⟩
  ·refine⟨_,_,rfl,rfl,⟨by decide,by decide,by decide⟩,_,_,rfl,rfl,_,rfl,DH (fun c2=>?_) (fun c2=>?_)⟩
   ·refine⟨_,rfl,_,_,rfl,rfl,(by show(0:Int)<2147483629;decide),_,_,rfl,rfl,.inr ⟨by decide,by decide⟩,_,rfl,_,rfl,_,_,rfl,rfl,.inl ⟨by omega,by omega⟩,_,_,rfl,rfl,.inr ⟨by decide,by decide⟩,_,_,rfl,rfl,_,_,rfl,rfl,_,_,rfl,rfl,(by show(0:Int)<2147483647;decide),?_⟩;have b0:=Int.emod_nonneg (z%2147483629*48271+(0+(i:Int))*(0+(i:Int))*69621+7) (show(2147483647:Int)≠0 by decide);have b1:=Int.emod_lt_of_pos (z%2147483629*48271+(0+(i:Int))*(0+(i:Int))*69621+7) (show(0:Int)<2147483647 by decide);dsimp only;generalize (z%2147483629*48271+(0+(i:Int))*(0+(i:Int))*69621+7)%2147483647=y at b0 b1;refine⟨_,rfl,.inl ⟨rfl,_,AR.of hg2⟩,_,rfl,_,rfl,_,_,rfl,rfl,(by show(0:Int)<65521;decide),_,_,rfl,rfl,_,_,rfl,rfl,.inl ⟨by omega,by omega⟩,_,_,rfl,rfl,(by show(0:Int)<2147483629;decide),_,_,rfl,rfl,⟨by decide,by decide⟩,_,_,rfl,rfl,(by show(0:Int)<60;decide),g,_,_,rfl,rfl,hg2,few,?_⟩;exact app _ (Int.emod_nonneg _ (by decide)) (Int.emod_lt_of_pos _ (by decide)) _ _ _
   ·refine⟨_,rfl,.inl ⟨rfl,_,AR.of hg2⟩,_,rfl,_,_,rfl,rfl,(by show(0:Int)<60;decide),g,_,_,rfl,rfl,hg2,few,?_⟩;refine⟨_,rfl,_,_,rfl,rfl,⟨by decide,by decide⟩,?_⟩;exact app _ (Int.emod_nonneg _ (by decide)) (Int.emod_lt_of_pos _ (by decide)) _ _ _
  ·refine⟨_,rfl,As rfl ?_⟩;refine⟨_,rfl,.inl ⟨rfl,_,AR.of hg2⟩,_,rfl,_,_,rfl,rfl,(by show(0:Int)<60;decide),g,_,_,rfl,rfl,hg2,few,?_⟩;refine⟨_,rfl,_,_,rfl,rfl,⟨by decide,by decide⟩,?_⟩;exact app _ (Int.emod_nonneg _ (by decide)) (Int.emod_lt_of_pos _ (by decide)) _ _ _
 ·rintro σ H2 ⟨ns,z,v,u,rfl,s2,hg2,hl,hb⟩
  exact⟨_,rfl,q g _ ns s2 hg hg2 hl hb⟩
end
section
variable {P:Program}{w:World}{K:W.Frag}{mg:Str->Option Value}{base:Heap}{f:Addr}{fd:FuncData}
def Ju (n:Nat)(K:W.Frag):Sp:=fun vs H Q _=>∃(v:V) (t:Tr),vs=[v]/\t.dep<=n/\Rep All H t v/\t.ok/\∀v' H',Ah H H'->Rep (fun a=>H a=none) H' t v'->Q v' H'
def E6 (K:W.Frag):Sp:=Ju 20 K
theorem IG:∀t:Tr,1<=t.dep
 | .non | .bl _ | .int _ | .str _=>Nat.le_refl _
 | .tup ts=>Nat.le_add_right 1 _
 | .lst ts=>Nat.le_add_right 1 _
theorem QJ (T:Txt K mg)(F:Fun K "_law_copy" "_law_copy" BN f fd)(n:Nat)(CM:Def P w K mg base (1+n) "_law_copy" ["_law_thing_here"] (Ju n K)):FnOk P w K mg base CP (1+n+1) f fd ["_law_thing_here"] (Ju (n+1) K):=by
 exists Hx
 ·obtain⟨v,t,rfl,_⟩:=h;rfl
 obtain⟨v,t,rfl,hd,hv,ok,q⟩:=h;have okv:=hv.ok ok;have ety:=hv.tyN;refine⟨_,(!Ae (!AU (!AH (!Ak AJ (by rfl) T.b_isinstance Ax (!Aa (pv 0) (!Aa (!BS rfl T.b_list FV) (!Ab)))) (by intro _;rfl)) (!Ag (!Al (@AV _ ["_law_one"] _ _ _ _ _ _ _ _ _ _ rfl (!Bf (pv 0)) (by decide +kernel) (fun C s H fp=>⟨(@An _ _ (0) _ (show(["_law_one"]:List Str).Nodup by decide +kernel) rfl (by trivial) (by trivial)),(!AB),(!Au CM (hr.mono (by omega)) rfl (!Aa (pv 0) (!Ab)))⟩) (by intro _;rfl)))) (!Aw)) (!Ae (!AU (!AH (!Ak AJ (by rfl) T.b_isinstance Ax (!Aa (pv 0) (!Aa (!BS rfl T.b_tuple Be) (!Ab)))) (by intro _;rfl)) (!Ag (!Al (!A9 Cv (by rfl) T.b_tuple Be (!Aa (@AV _ ["_law_one"] _ _ _ _ _ _ _ _ _ _ rfl (!Bb (pv 0)) (by decide +kernel) (fun C s H fp=>⟨(@An _ _ (0) _ (show(["_law_one"]:List Str).Nodup by decide +kernel) rfl (by trivial) (by trivial)),(!AB),(!Au CM (hr.mono (by omega)) rfl (!Aa (pv 0) (!Ab)))⟩) (by intro _;rfl)) (!Ab))))) (!Aw)) (!Ag (!Al (pv 0))))),?_⟩;dsimp only[Cg,Cx.nox,Cx.wish,A4,Eb,CB,DE];refine⟨_,rfl,_,_,_,_,rfl,okv.ty K,okv.kit K,_,rfl,?_⟩;have flat:∀(h1:isA t.ty "list"=false) (h2:isA t.ty "tuple"=false),Rep (fun a=>H a=none) H t v:=fun h1 h2=>by
  cases t with
  |tup ts=>exact absurd (show isA "tuple" "tuple"=false from h2) (by decide)
  |lst ts=>exact absurd (show isA "list" "list"=false from h1) (by decide)
  |_=>exact hv
 have elt:∀(ts:List Tr) (vs:List V),Aq All H ts vs->Tr.oks ts->1+Tr.deps ts<=n+1->∀(i:Nat) (x:V) (H':Hp) (R:VK),vs[i]?=some x->Ah H H'->(∀y H'',Ah H' H''->Rep (fun a=>H' a=none) H'' (ts.getD i .non) y->R y H'')->Ju n K [x] H' R E0:=fun ts vs hrs oks hd i x H' R hx s' hR=>by
  obtain⟨tx,et,rx⟩:=Aq.get hrs hx;have eg:ts.getD i .non=tx:=by simp[List.getD,et]
  have:=Tr.deps_get et;rw[eg] at hR;exact⟨x,tx,rfl,by omega,Rep.same s' _ _ rx,Tr.oks_get oks et,hR⟩
 have fin:∀(ts:List Tr) (ys:List V) (H':Hp),ys.length=ts.length->(∀(i:Nat) y,ys[i]?=some y->∃H1,Ah H H1/\Rep (fun a=>H1 a=none) H' (ts.getD i .non) y)->Aq (fun a=>H a=none) H' ts ys:=fun ts ys H' hl h=>
  LG hl fun i t y ht hy=>by
   obtain⟨H1,s1,r1⟩:=h i y hy;have eg:ts.getD i .non=t:=by simp[List.getD,ht]
   rw[eg] at r1;exact Rep.mono (fun a e=>s1.free e) _ _ r1
 have hPm:∀(ts:List Tr) (i:Nat) (H1:Hp) (y:V) (H2 H3:Hp),Rep (fun a=>H1 a=none) H2 (ts.getD i .non) y->Ah H2 H3->Rep (fun a=>H1 a=none) H3 (ts.getD i .non) y:=fun ts i H1 y H2 H3 h s=>Rep.same s _ _ h
 have hUm:∀(ts:List Tr) (i:Nat) (H1:Hp) (y:V) (H2:Hp) (l:Addr) (us us' ws:List V),Rep (fun a=>H1 a=none) H2 (ts.getD i .non) y->H1 l=some (.lst ws)->H2 l=some (.lst us)->Rep (fun a=>H1 a=none) (upd H2 l (.lst us')) (ts.getD i .non) y:=fun ts i H1 y H2 l us us' ws h h1 h2=>Rep.upd h2 (fun z=>by rw[h1] at z;cases z) _ _ h
 rw[ety];cases t with
 |lst ts=>
  obtain⟨a,vs,rfl,_,ha,hrs⟩:=hv;obtain⟨okl,oks⟩:=ok;have lv:=Aq.len ts vs hrs;refine Ao (by show isA "list" "list"=true;decide) ?_;refine⟨_,rfl,a,rfl,⟨_,AR.of ha⟩,?_⟩;refine EF (fun i H1 y H2=>Rep (fun a=>H1 a=none) H2 (ts.getD i .non) y) (hPm ts) (hUm ts) (BZ (AR.of ha)) (by omega) (fun i x H' R hx s' hR=>⟨_,rfl,elt ts vs hrs oks hd i x H' R hx s' hR⟩) fun l H7 ys n7 s7 h7 ly hy=>?_
  exact q _ _ s7 ⟨l,ys,rfl,n7,h7,fin ts ys H7 (by rw[ly,lv]) hy⟩
 |tup ts=>
  obtain⟨a,vs,rfl,ha,hrs⟩:=hv;obtain⟨okl,oks⟩:=ok;have lv:=Aq.len ts vs hrs;refine As (by show isA "tuple" "list"=false;decide) ?_;refine⟨_,rfl,_,_,_,_,rfl,okv.ty K,okv.kit K,_,rfl,Ao (by rw[ety];show isA "tuple" "tuple"=true;decide) ?_⟩;refine⟨_,rfl,a,rfl,⟨_,AE.of ha⟩,?_⟩;refine EF (fun i H1 y H2=>Rep (fun a=>H1 a=none) H2 (ts.getD i .non) y) (hPm ts) (hUm ts) (A2 ha) (by omega) (fun i x H' R hx s' hR=>⟨_,rfl,elt ts vs hrs oks hd i x H' R hx s' hR⟩) fun l H7 ys n7 s7 h7 ly hy=>?_
  refine⟨l,ys,rfl,.inl ⟨AR.of h7,fun p hp=>?_⟩⟩;have sp:=Ai hp (.tup ys);exact q _ _ (s7.trans sp) ⟨p,ys,rfl,Ad,Aq.same sp _ _ (fin ts ys H7 (by rw[ly,lv]) hy)⟩
 |non=>
  refine As (by show isA "NoneType" "list"=false;decide) ⟨_,rfl,_,_,_,_,rfl,okv.ty K,okv.kit K,_,rfl,As (by rw[ety];show isA "NoneType" "tuple"=false;decide) ⟨_,rfl,q _ _ (Ah.refl _) hv⟩⟩
 |bl b=>
  refine As (by show isA "bool" "list"=false;decide) ⟨_,rfl,_,_,_,_,rfl,okv.ty K,okv.kit K,_,rfl,As (by rw[ety];show isA "bool" "tuple"=false;decide) ⟨_,rfl,q _ _ (Ah.refl _) hv⟩⟩
 |int i=>
  refine As (by show isA "int" "list"=false;decide) ⟨_,rfl,_,_,_,_,rfl,okv.ty K,okv.kit K,_,rfl,As (by rw[ety];show isA "int" "tuple"=false;decide) ⟨_,rfl,q _ _ (Ah.refl _) hv⟩⟩
 |str z=>
  refine As (by show isA "str" "list"=false;decide) ⟨_,rfl,_,_,_,_,rfl,okv.ty K,okv.kit K,_,rfl,As (by rw[ety];show isA "str" "tuple"=false;decide) ⟨_,rfl,q _ _ (Ah.refl _) hv⟩⟩
theorem OO (T:Txt K mg)(F:Fun K "_law_copy" "_law_copy" BN f fd)(hm:mg "_law_copy"=some (.ref f))(hk:W.keepIn K (.ref f)=true)(hb:Binds K fd ["_law_thing_here"] []):∀n,FnOk P w K mg base CP (1+n) f fd ["_law_thing_here"] (Ju n K)
 |0=>by
  exists Hx
  ·obtain⟨v,t,rfl,hd,_⟩:=h;exact absurd (Nat.le_trans (IG t) hd) (Nat.not_succ_le_zero 0)
  ·obtain⟨v,t,rfl,hd,_⟩:=h;exact absurd (Nat.le_trans (IG t) hd) (Nat.not_succ_le_zero 0)
 |n+1=>QJ T F n ⟨f,fd,OO T F hm hk hb n,hm,hk,hb⟩
theorem LO (T:Txt K mg)(F:Fun K "_law_copy" "_law_copy" BN f fd)(hm:mg "_law_copy"=some (.ref f))(hk:W.keepIn K (.ref f)=true)(hb:Binds K fd ["_law_thing_here"] []):FnOk P w K mg base CP 21 f fd ["_law_thing_here"] (E6 K):=
 OO T F hm hk hb 20
abbrev Qa:List Str:=[PySem.Str.ofString "",PySem.Str.ofString "a",PySem.Str.ofString "abcdefgh",PySem.Str.ofString "A",PySem.Str.ofString "a b",PySem.Str.ofString "abcdefghi"]
def Oe:Nat->Tr->Prop
 |_,.int _=>True
 |_+1,.non=>True
 |_+1,.bl _=>True
 |_+1,.str z=>z∈Qa
 |n+1,.tup ts=>ts.length<=3/\∀x∈ts,Oe n x
 |n+1,.lst ts=>ts.length<=3/\∀x∈ts,Oe n x
 |0,_=>False
def O3 (n:Nat)(K:W.Frag):Sp:=fun vs H Q _=>∃(r:Addr) (rs:List Int) (at_:Int) (d:Nat),n=d+1/\vs=[.ref r,.int at_,.int (d:Int)]/\AR K H r (rs.map V.int)/\rs.length=40/\(∀x∈rs,0<=x/\x<60)/\0<=at_/\d<=4/\2*at_+9<=9*((3^(4-d):Nat):Int)/\
 ∀v t H',Ah H H'->Oe d t->Rep (fun a=>H a=none) H' t v->Q v H'
def Ep (K:W.Frag):Sp:=O3 5 K
theorem SO (T:Txt K mg)(F:Fun K "_law_thing" "_law_thing" By f fd)(n:Nat)(C4:Def P w K mg base (1+n) "_law_thing" ["_law_row_here","_law_at","_law_deep"] (O3 n K)):FnOk P w K mg base CP (1+n+1) f fd ["_law_row_here","_law_at","_law_deep"] (O3 (n+1) K):=by
 exists Dq
 ·obtain⟨r,rs,at_,d,_,rfl,_⟩:=h;rfl
 obtain⟨r,rs,at_,d,en,rfl,hrs,lr,br,a0,d4,a1,q⟩:=h;have hu:=Cu hr;refine⟨_,(!Ae (@A7 _ _ (3) _ _ _ _ Dq.nd rfl (by trivial) (!AK Bz (!Am B2 (pv 0) (!AK Bz (pv 1) (!Ac)) (fun _ _=>rfl)) (!Ac)) (by rfl) (by trivial)) (!Ae (!AU (@PW.pt _ _ _ (!BO (!AO Qy (pv 3) (!Ac) (AF _)) (!Bs (!AO Br (pv 2) (!Ac) (AF _))))) (!Ag (!Al (!Am B2 (!C0 (!Aa (!AK LL (!Am B2 (pv 0) (!AK Bz (!AK Cq (pv 1) (!Ac)) (!Ac)) (fun _ _=>rfl)) (!Ac)) (!Aa (!AK LL (!AK Lc (!Ac) (!Ac)) (!Ac)) (!Aa (!AK Lc (!Ac) (!Ac)) (!Aa (!T6 Rc (!Ac)) (!Ab)))))) (!AK Bz (!Am B2 (pv 0) (!AK Bz (!AK Cq (pv 1) (!Ac)) (!Ac)) (fun _ _=>rfl)) (!Ac)) (fun _ _=>rfl)))) (!Aw)) (!Ae (!AU (!AO Br (pv 3) (!Ac) (AF _)) (!Ag (!Al (!Am B2 (!C0 (!Aa (!Vb) (!Aa (!A1) (!Aa (!A1) (!Ab))))) (!AK Bz (!Am B2 (pv 0) (!AK Bz (!AK Cq (pv 1) (!Ac)) (!Ac)) (fun _ _=>rfl)) (!Ac)) (fun _ _=>rfl)))) (!Aw)) (!Ae (!AU (!AO Br (pv 3) (!Ac) (AF _)) (!Ag (!Al (!Am B2 (!C0 (!Aa (!B5) (!Aa (!B5) (!Aa (!B5) (!Aa (!B5) (!Aa (!B5) (!Aa (!B5) (!Ab)))))))) (!AK Bz (!Am B2 (pv 0) (!AK Bz (!AK Cq (pv 1) (!Ac)) (!Ac)) (fun _ _=>rfl)) (!Ac)) (fun _ _=>rfl)))) (!Aw)) (!Ae (@IJ _ ["_law_k","_law_row_here","_law_deep","_law_at"] [none,some 0,some 2,some 1] (4) _ _ _ _ _ _ _ _ _ _ _ _ _ _ Dq.nd rfl (by trivial) rfl (!HP rfl T.b_range (!Aa (!AK Bz (!Am B2 (pv 0) (!AK Bz (!AK Cq (pv 1) (!Ac)) (!Ac)) (fun _ _=>rfl)) (!Ac)) (!Ab))) (by rfl) rfl (by repeat (first|exact trivial|refine⟨rfl,?_⟩)) (by repeat (first|exact trivial|refine⟨fun h=>(by first|exact⟨_,rfl⟩|cases h),?_⟩)) (fun C s H fp=>⟨(@An _ _ (0) _ (show(["_law_k","_law_row_here","_law_deep","_law_at"]:List Str).Nodup by decide +kernel) rfl (by trivial) (by trivial)),(!AB),(!Au C4 (hr.mono (by omega)) rfl (!Aa (pv 1) (!Aa (!AK Cq (!AK Cq (!AK Fs (!Ac) (pv 3)) (!AK Fs (!Ac) (pv 0))) (!Ac)) (!Aa (!AK LL (pv 2) (!Ac)) (!Ab)))))⟩) (by intro _;rfl) (by rfl) (by trivial)) (!Ae (!AU (!AO Br (pv 3) (!Ac) (AF _)) (!Ag (!Al (pv 4))) (!Aw)) (!Ag (!Al (!A9 Cv (by rfl) T.b_tuple Be (!Aa (pv 4) (!Ab))))))))))),?_⟩
 try dsimp only[Cg,Cx.nox,Cx.wish]
 have nd:n=d:=by omega
 subst nd;have p81:3^(4-n)<=81:=by
  have:n=0\/n=1\/n=2\/n=3\/n=4:=by omega
  rcases this with rfl|rfl|rfl|rfl|rfl<;>decide
 have at360:at_<=360:=by omega
 have xx:∀i:Int,0<=i->∃y,Hz (rs.map V.int) (i%40)=some (.int y)/\0<=y/\y<60:=fun i h0=>by
  have e0:=Int.emod_nonneg i (show(40:Int)≠0 by decide);have e1:=Int.emod_lt_of_pos i (show(0:Int)<40 by decide);refine⟨_,R1 e0 (by omega),br _ ?_⟩;rw[List.getD,List.getElem?_eq_getElem (by omega)];exact List.getElem_mem _
 obtain⟨y0,X0,_,_⟩:=xx at_ a0;obtain⟨y1,X1,b10,b11⟩:=xx (at_+1) (by omega);obtain⟨y2,X2,_,_⟩:=xx (at_+2) (by omega);refine⟨_,rfl,_,rfl,_,_,rfl,rfl,(by show(0:Int)<40;decide),r,_,_,_,rfl,rfl,hrs,X0,_,_,rfl,rfl,(by show(0:Int)<9;decide),?_⟩;have num:∀{σ:St} {D:Ends},σ[0]?=some (some (.ref r))->σ[1]?=some (some (.int at_))->(∀v H',(∃i:Int,v=.int i)->Ah H H'->D.rt v H')->
   Rf (KG (QP K) (Vf (KY (KG (OC fun i j=>V.int (i-j)) (KG (QP K) (Iv 0) (KG (rI (fun x j=>0<j) fun i j=>V.int (i%j)) (KG (OC fun i j=>V.int (i+j)) (Iv 1) (tC (V.int 1))) (tC (V.int 40)))) (tC (V.int 9)))
    (KY (KG (OC fun i j=>V.int (i-j)) (KG (rI Ul fun i j=>V.int (i^j.toNat)) (tC (V.int 10)) (tC (V.int 9))) (tC (V.int 1))) (KY (KG (rI Ul fun i j=>V.int (i^j.toNat)) (tC (V.int 10)) (tC (V.int 30))) (KY (Xb (rU fun i=>V.int (-i)) (tC (V.int 1))) PP)))))
    (KG (rI (fun x j=>0<j) fun i j=>V.int (i%j)) (KG (QP K) (Iv 0) (KG (rI (fun x j=>0<j) fun i j=>V.int (i%j)) (KG (OC fun i j=>V.int (i+j)) (Iv 1) (tC (V.int 2))) (tC (V.int 40)))) (tC (V.int 4)))) D σ H:=fun{σ D} v0 v1 hD=>by
  refine⟨_,v0,_,v1,_,_,rfl,rfl,_,_,rfl,rfl,(by show(0:Int)<40;decide),r,_,_,_,rfl,rfl,hrs,X1,_,_,rfl,rfl,_,_,rfl,rfl,⟨by decide,by decide,by decide⟩,_,_,rfl,rfl,_,_,rfl,rfl,⟨by decide,by decide,by decide⟩,_,rfl,W9,fun L nL=>?_⟩;have sL:=Ai nL (.lst [V.int (y1-9),V.int (10^(9:Int).toNat-1),V.int (10^(30:Int).toNat),V.int (-1)]);obtain⟨i,AT⟩:∃i:Int,Hz [V.int (y1-9),V.int (10^(9:Int).toNat-1),V.int (10^(30:Int).toNat),V.int (-1)] (y2%4)=some (.int i):=by
   have:y2%4=0\/y2%4=1\/y2%4=2\/y2%4=3:=by omega
   rcases this with e|e|e|e<;>rw[e]<;>exact⟨_,rfl⟩
  exact⟨_,v0,_,v1,_,_,rfl,rfl,_,_,rfl,rfl,(by show(0:Int)<40;decide),r,_,_,_,rfl,rfl,sL.seq hrs,X2,_,_,rfl,rfl,(by show(0:Int)<4;decide),L,_,_,_,rfl,rfl,AR.of Ad,AT,hD _ _ ⟨i,rfl⟩ sL⟩
 have fin:∀v H',(∃i:Int,v=.int i)->Ah H H'->Q v H':=fun v H' ⟨i,e⟩ s'=>by
  subst e;exact q _ (.int i) H' s' (by cases n<;>trivial) rfl
 refine⟨_,rfl,_,_,rfl,rfl,_,rfl,DH (fun d1=>?_) (fun d1=>?_)⟩
 ·exact Ao rfl (num rfl rfl fin)
 refine⟨_,rfl,rfl,_,rfl,DH (fun d2=>num rfl rfl fin) (fun d2=>?_)⟩;have n0:n≠0:=fun z=>d2 (decide_eq_true (by rw[z];rfl))
 obtain⟨k,rfl⟩:∃k,n=k+1:=⟨n-1,by omega⟩
 refine⟨_,rfl,rfl,_,rfl,DH (fun d3=>?_) (fun d3=>?_)⟩
 ·refine⟨Vh,fun L nL=>?_⟩;have sL:=Ai nL (.lst [V.non,V.bl true,V.bl false]);obtain⟨v,t,AT,ot,rt⟩:∃v t,Hz [V.non,V.bl true,V.bl false] (y1%3)=some v/\Oe (k+1) t/\∀H',Rep (fun a=>H a=none) H' t v:=by
   have:y1%3=0\/y1%3=1\/y1%3=2:=by omega
   rcases this with e|e|e<;>rw[e]
   ·exact⟨_,.non,rfl,trivial,fun _=>rfl⟩
   ·exact⟨_,.bl true,rfl,trivial,fun _=>rfl⟩
   ·exact⟨_,.bl false,rfl,trivial,fun _=>rfl⟩
  exact⟨_,rfl,_,rfl,_,_,rfl,rfl,_,_,rfl,rfl,(by show(0:Int)<40;decide),r,_,_,_,rfl,rfl,sL.seq hrs,X1,_,_,rfl,rfl,(by show(0:Int)<3;decide),L,_,_,_,rfl,rfl,AR.of Ad,AT,q v t _ sL ot (rt _)⟩
 refine⟨_,rfl,rfl,_,rfl,DH (fun d4'=>?_) (fun d4'=>?_)⟩
 ·refine⟨WV,fun L nL=>?_⟩;have sL:=Ai nL (.lst (Qa.map V.str));obtain⟨z,hz,AT⟩:∃z∈Qa,Hz (Qa.map V.str) (y1%6)=some (.str z):=by
   have:y1%6=0\/y1%6=1\/y1%6=2\/y1%6=3\/y1%6=4\/y1%6=5:=by omega
   rcases this with e|e|e|e|e|e<;>rw[e]
   ·exact⟨_,by simp[Qa],rfl⟩
   ·exact⟨PySem.Str.ofString "a",by simp[Qa],rfl⟩
   ·exact⟨PySem.Str.ofString "abcdefgh",by simp[Qa],rfl⟩
   ·exact⟨PySem.Str.ofString "A",by simp[Qa],rfl⟩
   ·exact⟨PySem.Str.ofString "a b",by simp[Qa],rfl⟩
   ·exact⟨PySem.Str.ofString "abcdefghi",by simp[Qa],rfl⟩
  exact⟨_,rfl,_,rfl,_,_,rfl,rfl,_,_,rfl,rfl,(by show(0:Int)<40;decide),r,_,_,_,rfl,rfl,sL.seq hrs,X1,_,_,rfl,rfl,(by show(0:Int)<6;decide),L,_,_,_,rfl,rfl,AR.of (xs:=Qa.map V.str) Ad,AT,q _ (.str z) _ sL hz rfl⟩
 dsimp only[Eb,CB];refine⟨_,rfl,_,rfl,_,_,rfl,rfl,_,_,rfl,rfl,(by show(0:Int)<40;decide),r,_,_,_,rfl,rfl,hrs,X1,_,_,rfl,rfl,(by show(0:Int)<4;decide),?_⟩;dsimp only;have m4:y1%4<4:=by omega
 have m0:0<=y1%4:=by omega
 refine⟨_,rfl,by omega,by omega,?_⟩;refine EF (fun i H1 y H2=>∃t,Oe k t/\Rep (fun a=>H1 a=none) H2 t y) (fun i H1 y H2 H3 h s=>let⟨t,e1,e2⟩:=h;⟨t,e1,Rep.same s _ _ e2⟩) (fun i H1 y H2 l us us' ws h h1 h2=>let⟨t,e1,e2⟩:=h;⟨t,e1,Rep.upd h2 (fun z=>by rw[h1] at z;cases z) _ _ e2⟩) Jw (by rw[List.length_map,List.length_range];omega) (fun i x H' R hx s' hR=>?_) fun l H7 ys n7 s7 h7 ly hy=>?_
 ·have hi:i<(y1%4).toNat:=by
   have:=(List.getElem?_eq_some_iff.mp hx).1
   rwa [List.length_map,List.length_range] at this
  rw[List.getElem?_map,List.getElem?_range hi] at hx;cases hx;have hi3:(i:Int)<=2:=by omega
  have p3:3^(4-k)=3*3^(4-(k+1)):=by
   have:4-k=(4-(k+1))+1:=by omega
   rw[this,Nat.pow_succ,Nat.mul_comm]
  refine⟨_,rfl,_,rfl,_,_,rfl,rfl,.inl ⟨by decide,by decide⟩,_,rfl,_,_,rfl,rfl,.inl ⟨by decide,by decide⟩,_,_,rfl,rfl,_,_,rfl,rfl,_,rfl,_,_,rfl,rfl,?_⟩;refine⟨r,rs,3*at_+2*(0+(i:Int))+3,k,rfl,?_,s'.seq hrs,lr,br,by omega,by omega,?_,fun v t H'' s'' ot rt=>hR _ _ s'' ⟨t,ot,rt⟩⟩
  ·show[V.ref r,V.int (3*at_+2*(0+(i:Int))+3),V.int ((k+1:Nat)-1)]=_;rw[show(((k+1:Nat):Int)-1)=(k:Int) by omega]
  ·rw[p3];omega
 have mk:∃ts:List Tr,ts.length=ys.length/\(∀x∈ts,Oe k x)/\Aq (fun a=>H a=none) H7 ts ys:=by
  clear ly h7
  induction ys with
  |nil=>exact⟨[],rfl,(fun _ h=>nomatch h),rfl⟩
  |cons y ys ih=>
   obtain⟨ts,l,o,r⟩:=ih fun i y h=>hy (i+1) y h
   obtain⟨H1,s1,t,ot,rt⟩:=hy 0 y rfl;refine⟨t::ts,by rw[List.length_cons,List.length_cons,l],fun x hx=>?_,y,ys,rfl,Rep.mono (fun a e=>s1.free e) _ _ rt,r⟩;rcases List.mem_cons.mp hx with rfl|hx
   ·exact ot
   ·exact o x hx
 obtain⟨ts,lt,ot,rt⟩:=mk;have l3:ts.length<=3:=by
  rw[lt,ly,List.length_map,List.length_range];omega
 refine⟨_,rfl,rfl,_,rfl,DH (fun d5=>?_) (fun d5=>?_)⟩
 ·exact⟨_,rfl,q _ (.lst ts) _ s7 ⟨l3,ot⟩ ⟨l,ys,rfl,n7,h7,rt⟩⟩
 ·refine⟨_,rfl,l,ys,rfl,.inl ⟨AR.of h7,fun p hp=>?_⟩⟩;have sp:=Ai hp (.tup ys);exact q _ (.tup ts) _ (s7.trans sp) ⟨l3,ot⟩ ⟨p,ys,rfl,Ad,Aq.same sp _ _ rt⟩
theorem RC (T:Txt K mg)(F:Fun K "_law_thing" "_law_thing" By f fd)(hm:mg "_law_thing"=some (.ref f))(hk:W.keepIn K (.ref f)=true)(hb:Binds K fd ["_law_row_here","_law_at","_law_deep"] []):∀n,FnOk P w K mg base CP (1+n) f fd ["_law_row_here","_law_at","_law_deep"] (O3 n K)
 |0=>by
  exists Dq
  ·obtain⟨_,_,_,d,e,_⟩:=h;exact absurd e (by omega)
  ·obtain⟨_,_,_,d,e,_⟩:=h;exact absurd e (by omega)
 |n+1=>SO T F n ⟨f,fd,RC T F hm hk hb n,hm,hk,hb⟩
theorem JX (T:Txt K mg)(F:Fun K "_law_thing" "_law_thing" By f fd)(hm:mg "_law_thing"=some (.ref f))(hk:W.keepIn K (.ref f)=true)(hb:Binds K fd ["_law_row_here","_law_at","_law_deep"] []):FnOk P w K mg base CP 6 f fd ["_law_row_here","_law_at","_law_deep"] (Ep K):=
 RC T F hm hk hb 5
def Oz (n:Nat)(K:W.Frag):Sp:=fun vs H Q _=>∃(v u:V) (t x:Tr),vs=[v,u]/\t.dep<=n/\Rep All H t v/\Rep All H x u/\t.ok/\x.ok/\∀b H',(b=true↔t=x)->Ah H H'->Q (.bl b) H'
def EI (K:W.Frag):Sp:=Oz 8 K
theorem S9 {t x:Tr}(h:Sn t=true):Us t x=true↔t=x:=by
 cases t with
 |tup _=>cases h
 |lst _=>cases h
 |non=>cases x<;>simp[Us]
 |bl a=>cases x<;>simp[Us]
 |int a=>cases x<;>simp[Us]
 |str a=>cases x<;>simp[Us]
theorem Ry (t:Tr):(["list","tuple"].any (isA t.ty)) = !Sn t:=by
 cases t with
 |non=>exact(by decide:(["list","tuple"].any (isA "NoneType"))=false)
 |bl _=>exact(by decide:(["list","tuple"].any (isA "bool"))=false)
 |int _=>exact(by decide:(["list","tuple"].any (isA "int"))=false)
 |str _=>exact(by decide:(["list","tuple"].any (isA "str"))=false)
 |tup _=>exact(by decide:(["list","tuple"].any (isA "tuple"))=true)
 |lst _=>exact(by decide:(["list","tuple"].any (isA "list"))=true)
theorem G7 (t:Tr):isA t.ty "bool"=HX t:=by
 cases t with
 |non=>exact(by decide:isA "NoneType" "bool"=false)
 |bl _=>exact(by decide:isA "bool" "bool"=true)
 |int _=>exact(by decide:isA "int" "bool"=false)
 |str _=>exact(by decide:isA "str" "bool"=false)
 |tup _=>exact(by decide:isA "tuple" "bool"=false)
 |lst _=>exact(by decide:isA "list" "bool"=false)
def RY:Tr->Bool
 | .lst _=>true
 |_=>false
theorem OE (t:Tr):isA t.ty "list"=RY t:=by
 cases t with
 |non=>exact(by decide:isA "NoneType" "list"=false)
 |bl _=>exact(by decide:isA "bool" "list"=false)
 |int _=>exact(by decide:isA "int" "list"=false)
 |str _=>exact(by decide:isA "str" "list"=false)
 |tup _=>exact(by decide:isA "tuple" "list"=false)
 |lst _=>exact(by decide:isA "list" "list"=true)
def AC:Tr->List Tr
 | .tup ts=>ts
 | .lst ts=>ts
 |_=>[]
theorem RN {H:Hp}{t:Tr}{v:V}(K:W.Frag)(h:Rep All H t v)(ns:Sn t=false):∃a vs,v=.ref a/\(AR K H a vs\/AE K H a vs)/\Aq All H (AC t) vs:=by
 cases t with
 |tup ts=>obtain⟨a,vs,e,ha,hr⟩:=h;exact⟨a,vs,e,.inr (AE.of ha),hr⟩
 |lst ts=>obtain⟨a,vs,e,_,ha,hr⟩:=h;exact⟨a,vs,e,.inl (AR.of ha),hr⟩
 |_=>cases ns
theorem QW {t:Tr}(h:t.ok)(ns:Sn t=false):(AC t).length<=1000/\Tr.oks (AC t):=by
 cases t with
 |tup ts=>exact h
 |lst ts=>exact h
 |_=>cases ns
theorem Su {t:Tr}{n:Nat}(h:t.dep<=n+1)(ns:Sn t=false):Tr.deps (AC t)<=n:=by
 cases t with
 |tup ts=>have h:1+Tr.deps ts<=n+1:=h;show Tr.deps ts<=n;omega
 |lst ts=>have h:1+Tr.deps ts<=n+1:=h;show Tr.deps ts<=n;omega
 |_=>cases ns
theorem Uy {t x:Tr}(n1:Sn t=false)(n2:Sn x=false)(h:RY t=RY x):t=x↔AC t=AC x:=by
 cases t with
 |tup ts=>cases x with
  |tup us=>exact⟨fun e=>by cases e;rfl,fun e=>by rw[show ts=us from e]⟩
  |lst us=>cases h
  |_=>cases n2
 |lst ts=>cases x with
  |lst us=>exact⟨fun e=>by cases e;rfl,fun e=>by rw[show ts=us from e]⟩
  |tup us=>cases h
  |_=>cases n2
 |_=>cases n1
theorem SM (T:Txt K mg)(F:Fun K "_law_same" "_law_same" BM f fd)(n:Nat)(CJ:Def P w K mg base (1+n) "_law_same" ["_law_one","_law_other"] (Oz n K)):FnOk P w K mg base CP (1+n+1) f fd ["_law_one","_law_other"] (Oz (n+1) K):=by
 exists GT
 ·obtain⟨v,u,t,x,rfl,_⟩:=h;rfl
 obtain⟨v,u,t,x,rfl,hd,hv,hx,ok,okx,q⟩:=h;have hu:=Cu hr;have hu9:=C1 hr;refine⟨_,(!Ae (!AU (!AH (!Ak (Hu (K:=K) (by rfl)) (by rfl) T.b_isinstance Ax (!Aa (pv 0) (!Aa (!Av (!Aa (!BS rfl T.b_list FV) (!Aa (!BS rfl T.b_tuple Be) (!Ab)))) (!Ab)))) (by intro _;rfl)) (!Ae (!AU (!AI (!AH (!Ak (Hu (K:=K) (by rfl)) (by rfl) T.b_isinstance Ax (!Aa (pv 1) (!Aa (!Av (!Aa (!BS rfl T.b_list FV) (!Aa (!BS rfl T.b_tuple Be) (!Ab)))) (!Ab)))) (by intro _;rfl))) (!Ag (!Al (!A1))) (!Aw)) (!Ae (!AU (!AO MK (!Ak AJ (by rfl) T.b_isinstance Ax (!Aa (pv 0) (!Aa (!BS rfl T.b_list FV) (!Ab)))) (!Ak AJ (by rfl) T.b_isinstance Ax (!Aa (pv 1) (!Aa (!BS rfl T.b_list FV) (!Ab)))) (AF _)) (!Ag (!Al (!A1))) (!Aw)) (!Ae (!AU (!AO MK (!Ak AM (by rfl) T.b_len BG (!Aa (pv 0) (!Ab))) (!Ak AM (by rfl) T.b_len BG (!Aa (pv 1) (!Ab))) (AF _)) (!Ag (!Al (!A1))) (!Aw)) (!Ag (!Al (!A5 (Q3 hu) (@Cc _ ["_law_k","_law_one","_law_other"] [none,some 0,some 1] _ _ _ _ _ _ _ _ _ _ _ rfl (!HP rfl T.b_range (!Aa (!Ak AM (by rfl) T.b_len BG (!Aa (pv 0) (!Ab))) (!Ab))) (by rfl) rfl (by repeat (first|exact trivial|refine⟨rfl,?_⟩)) (by repeat (first|exact trivial|refine⟨fun h=>(by first|exact⟨_,rfl⟩|cases h),?_⟩)) (fun C s H fp=>⟨(@An _ _ (0) _ (show(["_law_k","_law_one","_law_other"]:List Str).Nodup by decide +kernel) rfl (by trivial) (by trivial)),(!Et (!AI (!AH (!Au CJ (hr.mono (by omega)) rfl (!Aa (!Am (Rv (K:=K) (by rfl)) (pv 1) (pv 0) (fun _ _=>rfl)) (!Aa (!Am (Rv (K:=K) (by rfl)) (pv 2) (pv 0) (fun _ _=>rfl)) (!Ab)))) (by intro _;rfl)))),(pv 0)⟩) (by intro _;rfl)) (!C0 (!Ab)) (AF _))))))) (!Aw)) (!Ag (!Al (!A8 (!A5 (QB hu9) (!Ak AJ (by rfl) T.b_isinstance Ax (!Aa (pv 0) (!Aa (!BS rfl T.b_bool Hs) (!Ab)))) (!Ak AJ (by rfl) T.b_isinstance Ax (!Aa (pv 1) (!Aa (!BS rfl T.b_bool Hs) (!Ab)))) (AF _)) (!Bq (!A5 (QB hu9) (pv 0) (pv 1) (AF _))))))),?_⟩
 try dsimp only[Cg,Cx.nox,Cx.wish]
 have okT:∀{H':Hp} {t:Tr} {v:V},Rep All H' t v->t.ok->Ok H' v:=fun r o=>Rep.ok r o
 have mem:∀c∈["list","tuple"],c∈["bool","int","str","list","tuple"]:=by decide
 dsimp only[CB,DE];refine⟨_,rfl,Ms,fun p1 np1=>?_⟩;have s1:=Ai np1 (.tup [V.ty "list",V.ty "tuple"]);have hv1:=Rep.same s1 _ _ hv;have hx1:=Rep.same s1 _ _ hx;refine⟨v,p1,["list","tuple"],rfl,Ad,okT hv1 ok,mem,_,rfl,?_⟩;rw[hv1.tyN,Ry];cases e1:Sn t with
 |true=>
  refine As rfl ?_;have okv:=okT hv1 ok;have oku:=okT hx1 okx;refine⟨_,rfl,_,_,_,_,rfl,okv.ty K,okv.kit K,_,rfl,_,_,_,_,rfl,oku.ty K,oku.kit K,.bl (HX t),.bl (HX x),?_,?_,rfl,rfl,_,rfl,?_⟩
  ·rw[hv1.tyN,G7];rfl
  ·rw[hx1.tyN,G7];rfl
  cases e2:(HX t == HX x) with
  |false=>
   have ne:HX t≠HX x:=fun z=>by rw[z,beq_self_eq_true] at e2;cases e2
   refine As (by show(HX t == HX x)=false;exact e2) ?_;exact q false _ ⟨(fun z=>nomatch z),fun z=>absurd (by rw[z]) ne⟩ s1
  |true=>
   refine Ao (by show(HX t == HX x)=true;exact e2) ?_;exact⟨_,rfl,_,rfl,t,x,hv1,hx1,e1,beq_iff_eq.mp e2,q _ _ (S9 e1) s1⟩
 |false=>
  refine Ao rfl ?_;refine⟨_,rfl,Ms,fun p2 np2=>?_⟩;have s2:=Ai np2 (.tup [V.ty "list",V.ty "tuple"]);have hv2:=Rep.same s2 _ _ hv1;have hx2:=Rep.same s2 _ _ hx1;have s12:=s1.trans s2;refine⟨u,p2,["list","tuple"],rfl,Ad,okT hx2 okx,mem,_,rfl,?_⟩;rw[hx2.tyN,Ry];cases e2:Sn x with
  |true=>
   refine Ao rfl ?_;exact q false _ ⟨(fun z=>nomatch z),fun z=>by rw[z,e2] at e1;cases e1⟩ s12
  |false=>
   refine As rfl ?_;have okv:=okT hv2 ok;have oku:=okT hx2 okx;refine⟨_,rfl,_,_,_,_,rfl,okv.ty K,okv.kit K,_,rfl,_,_,_,_,rfl,oku.ty K,oku.kit K,?_⟩;rw[hv2.tyN,hx2.tyN,OE,OE];refine⟨rfl,_,rfl,?_⟩
   by_cases e3:RY t=RY x
   ·refine As (by rw[e3];simp) ?_;obtain⟨a,vs,rfl,ha,hrs⟩:=RN K hv2 e1;obtain⟨b,us,rfl,hb,hrx⟩:=RN K hx2 e2;have lv:=Aq.len _ _ hrs;have lu:=Aq.len _ _ hrx;obtain⟨l1,oks⟩:=QW ok e1;obtain⟨l2,okxs⟩:=QW okx e2;have dep:=Su hd e1;have ie:=Uy e1 e2 e3;refine⟨_,rfl,a,_,rfl,ha,_,rfl,b,_,rfl,hb,rfl,_,rfl,?_⟩
    by_cases e4:vs.length=us.length
    ·refine As (by rw[e4];simp) ?_;refine⟨_,rfl,a,_,rfl,ha,_,rfl,by omega,by omega,?_⟩;have hJ:Hm (Ub 0 ((vs.length:Nat):Int).toNat) (upd (upd H p1 (HO.tup [V.ty "list",V.ty "tuple"])) p2 (HO.tup [V.ty "list",V.ty "tuple"])) ((List.range vs.length).map fun(i:Nat)=>V.int (0+(i:Int))):=Jw;have dec:∀a b:Tr,Decidable (a=b):=fun a b=>Classical.propDecidable _
     refine HG (ps:=List.range vs.length) (g:=fun(i:Nat)=>V.int (0+(i:Int))) (fun i=>!decide ((AC t).getD i .non=(AC x).getD i .non)) (fun i=>V.int (0+(i:Int))) hJ (by rw[List.length_range];omega) (fun i hi H' R s' hR=>?_) (fun i hi _ H' R s' hR=>⟨_,rfl,hR _ (Ah.refl _)⟩) fun l H7 n7 s7 h7=>?_
     ·have hi':=List.mem_range.mp hi;have g1:vs[i]?=some vs[i]:=List.getElem?_eq_getElem hi';have g2:us[i]?=some (us[i]'(by omega)):=List.getElem?_eq_getElem _;obtain⟨t1,f1,r1⟩:=Aq.get hrs g1;obtain⟨t2,f2,r2⟩:=Aq.get hrx g2;have d1:=Tr.deps_get f1;have z1:(AC t).getD i .non=t1:=by simp[List.getD,f1]
      have z2:(AC x).getD i .non=t2:=by simp[List.getD,f2]
      rw[z1,z2] at hR;have ha':AR K H' a vs\/AE K H' a vs:=ha.imp s'.seq fun h=>h.imp (Or.imp (s' _ _) fun⟨o,e⟩=>⟨o,s' _ _ e⟩) id
      have hb':AR K H' b us\/AE K H' b us:=hb.imp s'.seq fun h=>h.imp (Or.imp (s' _ _) fun⟨o,e⟩=>⟨o,s' _ _ e⟩) id
      have k1:Hz vs (0+(i:Int))=some vs[i]:=by rw[Int.zero_add];exact AZ g1
      have k2:Hz us (0+(i:Int))=some (us[i]'(by omega)):=by rw[Int.zero_add];exact AZ g2
      refine⟨_,rfl,_,rfl,a,vs,_,_,rfl,rfl,ha',k1,_,rfl,_,rfl,b,us,_,_,rfl,rfl,hb',k2,?_⟩;refine⟨_,_,t1,t2,rfl,by omega,Rep.same s' _ _ r1,Rep.same s' _ _ r2,Tr.oks_get oks f1,Tr.oks_get okxs f2,fun b H'' hb s''=>⟨_,rfl,?_⟩⟩;have:b=decide (t1=t2):=by rw[Bool.eq_iff_iff,hb,decide_eq_true_eq]
      rw[this];exact hR _ s''
     refine⟨Nj,fun e ne=>?_⟩;have s8:=Ai ne (.lst []);refine⟨l,e,_,rfl,rfl,AR.of (s8.get h7),AR.of Ad,?_⟩;refine q _ _ ?_ ((s12.trans s7).trans s8);rw[ie];simp only[Bool.false_eq_true,if_false,decide_eq_true_eq,List.map_eq_nil_iff,List.filter_eq_nil_iff,List.mem_range,Bool.not_eq_true',Bool.not_eq_false,decide_eq_false_iff_not,Classical.not_not];refine⟨fun h=>List.ext_getElem? fun i=>?_,fun h i _=>by rw[h]⟩
     by_cases hi:i<vs.length
     ·have:=h i hi;rw[List.getD,List.getD,List.getElem?_eq_getElem (by omega),List.getElem?_eq_getElem (by omega)] at this;rw[List.getElem?_eq_getElem (by omega),List.getElem?_eq_getElem (by omega)];exact congrArg some this
     ·rw[List.getElem?_eq_none (by omega),List.getElem?_eq_none (by omega)]
    ·refine Ao (by simp;omega) ?_;refine q false _ ⟨(fun z=>nomatch z),fun z=>?_⟩ s12;rw[ie.mp z] at lv;omega
   ·refine Ao (by simp[e3]) ?_;exact q false _ ⟨(fun z=>nomatch z),fun z=>absurd (by rw[z]) e3⟩ s12
theorem Rm (T:Txt K mg)(F:Fun K "_law_same" "_law_same" BM f fd)(hm:mg "_law_same"=some (.ref f))(hk:W.keepIn K (.ref f)=true)(hb:Binds K fd ["_law_one","_law_other"] []):∀n,FnOk P w K mg base CP (1+n) f fd ["_law_one","_law_other"] (Oz n K)
 |0=>by
  exists GT
  ·obtain⟨v,u,t,x,rfl,hd,_⟩:=h;exact absurd (Nat.le_trans (IG t) hd) (Nat.not_succ_le_zero 0)
  ·obtain⟨v,u,t,x,rfl,hd,_⟩:=h;exact absurd (Nat.le_trans (IG t) hd) (Nat.not_succ_le_zero 0)
 |n+1=>SM T F n ⟨f,fd,Rm T F hm hk hb n,hm,hk,hb⟩
theorem K8 (T:Txt K mg)(F:Fun K "_law_same" "_law_same" BM f fd)(hm:mg "_law_same"=some (.ref f))(hk:W.keepIn K (.ref f)=true)(hb:Binds K fd ["_law_one","_law_other"] []):FnOk P w K mg base CP 9 f fd ["_law_one","_law_other"] (EI K):=
 Rm T F hm hk hb 8
def T9:Tr->Prop
 | .tup [.int i,.tup [],.tup [],.tup [],.tup []]=>0<=i/\i<=999999999
 |_=>False
def So:Tr->Bool
 | .tup []=>true
 |_=>false
theorem IC {t:Tr}:So t=true↔t=.tup []:=by
 cases t with
 |tup ts=>cases ts<;>simp[So]
 |_=>simp[So]
theorem VT {H:Hp}{ts:List Tr}{vs:List V}(h:Aq All H ts vs)(l:vs.length=5):∃t0 t1 t2 t3 t4 v0 v1 v2 v3 v4,ts=[t0,t1,t2,t3,t4]/\vs=[v0,v1,v2,v3,v4]/\Rep All H t0 v0/\Rep All H t1 v1/\Rep All H t2 v2/\Rep All H t3 v3/\Rep All H t4 v4:=by
 have lt:=(Aq.len ts vs h).symm.trans l
 match ts,lt with
 |[t0,t1,t2,t3,t4],_=>
  obtain⟨v0,r0,rfl,h0,v1,r1,rfl,h1,v2,r2,rfl,h2,v3,r3,rfl,h3,v4,r4,rfl,h4,e⟩:=h;cases(show r4=[] from e);exact⟨t0,t1,t2,t3,t4,v0,v1,v2,v3,v4,rfl,rfl,h0,h1,h2,h3,h4⟩
theorem HD (t:Tr):isA t.ty "tuple"=(match t with | .tup _=>true|_=>false):=by
 cases t with
 |non=>exact(by decide:isA "NoneType" "tuple"=false)
 |bl _=>exact(by decide:isA "bool" "tuple"=false)
 |int _=>exact(by decide:isA "int" "tuple"=false)
 |str _=>exact(by decide:isA "str" "tuple"=false)
 |tup _=>exact(by decide:isA "tuple" "tuple"=true)
 |lst _=>exact(by decide:isA "list" "tuple"=false)
theorem RI (t:Tr):isA t.ty "int"=(match t with | .int _=>true | .bl _=>true|_=>false):=by
 cases t with
 |non=>exact(by decide:isA "NoneType" "int"=false)
 |bl _=>exact(by decide:isA "bool" "int"=true)
 |int _=>exact(by decide:isA "int" "int"=true)
 |str _=>exact(by decide:isA "str" "int"=false)
 |tup _=>exact(by decide:isA "tuple" "int"=false)
 |lst _=>exact(by decide:isA "list" "int"=false)
def De (K:W.Frag):Sp:=fun vs H Q _=>∃(v:V) (t:Tr),vs=[v]/\Rep All H t v/\t.ok/\∀b H',(b=true↔T9 t)->Ah H H'->Q (.bl b) H'
theorem HH (T:Txt K mg)(F:Fun K "_law_is_empty" "_law_is_empty" Bt f fd):FnOk P w K mg base CP 1 f fd ["_law_thing_here"] (De K):=by
 exists HR
 ·obtain⟨v,t,rfl,_⟩:=h;rfl
 obtain⟨v,t,rfl,hv,ok,q⟩:=h;have hu:=Cu hr;have okv:=Rep.ok hv ok;refine⟨_,(!Ae (!AU (@PW.pt _ _ _ (!BO (!AI (!AH (!Ak AJ (by rfl) T.b_isinstance Ax (!Aa (pv 0) (!Aa (!BS rfl T.b_tuple Be) (!Ab)))) (by intro _;rfl))) (!Bs (!AO MK (!Ak AM (by rfl) T.b_len BG (!Aa (pv 0) (!Ab))) (!Ac) (AF _))))) (!Ag (!Al (!A1))) (!Aw)) (!Ae (!AU (@PW.pt _ _ _ (!BO (!AH (!Ak AJ (by rfl) T.b_isinstance Ax (!Aa (!Am Ap (pv 0) (!Ac) (fun _ _=>rfl)) (!Aa (!BS rfl T.b_bool Hs) (!Ab)))) (by intro _;rfl)) (!Bs (!AI (!AH (!Ak AJ (by rfl) T.b_isinstance Ax (!Aa (!Am Ap (pv 0) (!Ac) (fun _ _=>rfl)) (!Aa (!BS rfl T.b_int RQ) (!Ab)))) (by intro _;rfl)))))) (!Ag (!Al (!A1))) (!Aw)) (!Ae (!AU (!AI (!IU IY IY (!Ac) (!Am Ap (pv 0) (!Ac) (fun _ _=>rfl)) (!Ac) (by with_unfolding_all rfl))) (!Ag (!Al (!A1))) (!Aw)) (!Ag (!Al (!A5 (Q3 hu) (@AV _ ["_law_one"] _ _ _ _ _ _ _ _ _ _ rfl (!Bb (!EG Jc (pv 0) (!Gd (!Ac)) (!FY))) (by decide +kernel) (fun C s H fp=>⟨(@An _ _ (0) _ (show(["_law_one"]:List Str).Nodup by decide +kernel) rfl (by trivial) (by trivial)),(!Et (@PW.pt _ _ _ (!BO (!AI (!AH (!Ak (Lf (K:=K) (by rfl)) (by rfl) T.b_isinstance Ax (!Aa (pv 0) (!Aa (!BS rfl T.b_tuple Be) (!Ab)))) (by intro _;rfl))) (!Bs (!AO (QZ (K:=K) (by rfl) hu) (pv 0) (!Av (!Ab)) (AF _)))))),(pv 0)⟩) (by intro _;rfl)) (!C0 (!Ab)) (AF _))))))),?_⟩
 try dsimp only[Cg,Cx.nox,Cx.wish]
 have no:(∀ts,t≠.tup ts)\/(∃ts,t=.tup ts/\ts.length≠5)\/∃ts,t=.tup ts/\ts.length=5:=by
  cases t with
  |tup ts=>
   by_cases l:ts.length=5
   ·exact .inr (.inr ⟨ts,rfl,l⟩)
   ·exact .inr (.inl ⟨ts,rfl,l⟩)
  |_=>exact .inl fun _ z=>nomatch z
 dsimp only[CB,DE];rcases no with nt|⟨ts,rfl,l5⟩|⟨ts,rfl,l5⟩
 ·refine I0 true false (fun R q'=>⟨_,rfl,_,_,_,_,rfl,okv.ty K,okv.kit K,_,rfl,?_⟩) (fun z=>nomatch z) ?_
  ·rw[hv.tyN,HD];cases t with
   |tup ts=>exact absurd rfl (nt ts)
   |_=>exact q'
  refine Ao rfl (q false H ⟨(fun z=>nomatch z),fun z=>?_⟩ (Ah.refl _));cases t with
  |tup ts=>exact absurd rfl (nt ts)
  |_=>exact z.elim
 ·obtain⟨a,vs,rfl,ha,hr⟩:=hv;have lv:=Aq.len _ _ hr;refine I0 false true (fun R q'=>⟨_,rfl,_,_,_,_,rfl,okv.ty K,okv.kit K,_,rfl,?_⟩) (fun _ R q'=>⟨_,rfl,a,vs,rfl,.inr (AE.of ha),rfl,_,rfl,?_⟩) ?_
  ·rw[Rep.tyN (t:=.tup ts) ⟨a,vs,rfl,ha,hr⟩,HD];exact q'
  ·have:(!decide (V.int (vs.length:Int)=V.int 5))=true:=by
    simp;omega
   rw[this];exact q'
  refine Ao rfl (q false H ⟨(fun z=>nomatch z),fun z=>?_⟩ (Ah.refl _))
  match ts,z,l5 with
  |[.int i,.tup [],.tup [],.tup [],.tup []],_,l5=>exact absurd rfl l5
 ·obtain⟨a,vs,rfl,ha,hr⟩:=hv;have lv:=Aq.len _ _ hr;have rt:Rep All H (.tup ts) (.ref a):=⟨a,vs,rfl,ha,hr⟩
  refine I0 false false (fun R q'=>⟨_,rfl,_,_,_,_,rfl,okv.ty K,okv.kit K,_,rfl,?_⟩) (fun _ R q'=>⟨_,rfl,a,vs,rfl,.inr (AE.of ha),rfl,_,rfl,?_⟩) ?_
  ·rw[rt.tyN,HD];exact q'
  ·have:(!decide (V.int (vs.length:Int)=V.int 5))=false:=by
    simp;omega
   rw[this];exact q'
  refine As rfl ?_;obtain⟨t0,t1,t2,t3,t4,v0,v1,v2,v3,v4,rfl,rfl,h0,h1,h2,h3,h4⟩:=VT hr (by omega);obtain⟨_,o0,o1,o2,o3,o4,_⟩:=ok;have ok0:=Rep.ok h0 o0;have A0:Hz [v0,v1,v2,v3,v4] 0=some v0:=rfl;dsimp only[Eb,CB,DE];have ne:∀{b:Bool},(∀i,t0≠.int i)->(false=true↔T9 (.tup [t0,t1,t2,t3,t4])):=fun{b} h=>⟨(fun z=>nomatch z),fun z=>by
   match t0,t1,t2,t3,t4,z,h with
   | .int i,.tup [],.tup [],.tup [],.tup [],_,h=>exact absurd rfl (h i)⟩
  by_cases hb:∃b,t0=.bl b
  ·obtain⟨b,rfl⟩:=hb;refine I0 true false (fun R q'=>⟨_,rfl,a,_,_,_,rfl,rfl,AE.of ha,A0,_,_,_,_,rfl,ok0.ty K,ok0.kit K,_,rfl,?_⟩) (fun z=>nomatch z) ?_
   ·rw[h0.tyN,G7];exact q'
   exact Ao rfl (q false H (ne (b:=true) fun _ z=>nomatch z) (Ah.refl _))
  by_cases hi:∃i,t0=.int i
  ·obtain⟨i,rfl⟩:=hi;cases(show v0=.int i from h0);refine I0 false false (fun R q'=>⟨_,rfl,a,_,_,_,rfl,rfl,AE.of ha,A0,_,_,_,_,rfl,ok0.ty K,ok0.kit K,_,rfl,?_⟩) (fun _ R q'=>⟨_,rfl,a,_,_,_,rfl,rfl,AE.of ha,A0,_,_,_,_,rfl,ok0.ty K,ok0.kit K,_,rfl,?_⟩) ?_
   ·rw[h0.tyN,G7];exact q'
   ·rw[h0.tyN,RI];exact q'
   refine As rfl ?_;have bad:¬(0<=i/\i<=999999999)->(false=true↔T9 (.tup [.int i,t1,t2,t3,t4])):=fun h=>⟨(fun z=>nomatch z),fun z=>by
    match t1,t2,t3,t4,z with
    | .tup [],.tup [],.tup [],.tup [],z=>exact absurd z h⟩
   refine⟨_,rfl,a,_,_,_,rfl,rfl,AE.of ha,A0,_,_,rfl,rfl,_,rfl,?_⟩;refine DH (fun c1=>?_) (fun c1=>?_)
   ·refine⟨_,_,rfl,rfl,_,rfl,?_⟩
    by_cases c2:i<=999999999
    ·refine As (by rw[decide_eq_true c2];rfl) ?_;have s0:HT.CQ 5 0 (some 1)≠0:=by decide
     refine⟨_,rfl,_,rfl,a,_,rfl,AE.of ha,fun z=>s0 z.1,fun p np=>?_⟩;have ec:HY [V.int i,v1,v2,v3,v4] (some 1) none=[v1,v2,v3,v4]:=rfl;rw[ec];have sp:=Ai np (.tup [v1,v2,v3,v4]);have hp:(upd H p (.tup [v1,v2,v3,v4])) p=some (.tup ([(v1,t1),(v2,t2),(v3,t3),(v4,t4)].map (·.1))):=Ad;have rs:∀y∈[(v1,t1),(v2,t2),(v3,t3),(v4,t4)],Rep All H y.2 y.1/\y.2.ok:=by
      intro y hy;simp only[List.mem_cons,List.not_mem_nil,or_false] at hy;rcases hy with rfl|rfl|rfl|rfl
      ·exact⟨h1,o1⟩
      ·exact⟨h2,o2⟩
      ·exact⟨h3,o3⟩
      ·exact⟨h4,o4⟩
     refine⟨p,rfl,⟨_,AE.of Ad⟩,?_⟩;refine HG (fun y:V×Tr=>!So y.2) (fun y=>y.1) (A2 hp) (by show 4<=1000000;decide) (fun y hy H' R s' hR=>?_) (fun y hy _ H' R s' hR=>⟨_,rfl,hR _ (Ah.refl _)⟩) fun l H7 n7 s7 h7=>?_
     ·obtain⟨ry,oy⟩:=rs y hy;have ry':=Rep.same (sp.trans s') _ _ ry;have oky:=Rep.ok ry' oy;obtain⟨y,ty⟩:=y;dsimp only at ry' oky hR;refine⟨_,rfl,_,_,_,_,rfl,oky.ty K,oky.kit K,_,rfl,?_⟩;rw[ry'.tyN,HD];cases ty with
      |tup ts=>
       refine As rfl ?_;obtain⟨b,us,rfl,hb,hus⟩:=ry';refine⟨_,rfl,Nj,fun e ne=>?_⟩;have se:=Ai ne (.tup []);refine⟨b,e,us,rfl,rfl,AE.of (se.get hb),AE.of Ad,_,rfl,?_⟩;have:(!decide (us=[])) = !So (.tup ts):=by
        have lu:=Aq.len _ _ hus;cases ts with
        |nil=>cases us with
         |nil=>rfl
         |cons _ _=>cases lu
        |cons _ _=>cases us with
         |nil=>cases lu
         |cons _ _=>simp[So]
       show R (!decide (us=[])) _;rw[this];exact hR _ se
      |_=>exact Ao rfl (hR _ (Ah.refl _))
     refine⟨Nj,fun e ne=>?_⟩;have s8:=Ai ne (.lst []);refine⟨l,e,_,rfl,rfl,AR.of (s8.get h7),AR.of Ad,?_⟩;refine q _ _ ?_ ((sp.trans s7).trans s8);simp only[Bool.false_eq_true,if_false,decide_eq_true_eq,List.map_eq_nil_iff,List.filter_eq_nil_iff,Bool.not_eq_true',Bool.not_eq_false];constructor
     ·intro h;have e1:=IC.mp (by simpa using h (v1,t1) (by simp));have e2:=IC.mp (by simpa using h (v2,t2) (by simp));have e3:=IC.mp (by simpa using h (v3,t3) (by simp));have e4:=IC.mp (by simpa using h (v4,t4) (by simp));subst e1 e2 e3 e4;exact⟨of_decide_eq_true c1,c2⟩
     ·intro z y hy;have e:So t1=true/\So t2=true/\So t3=true/\So t4=true:=by
       match t1,t2,t3,t4,z with
       | .tup [],.tup [],.tup [],.tup [],_=>exact⟨rfl,rfl,rfl,rfl⟩
      obtain⟨e1,e2,e3,e4⟩:=e;simp only[List.mem_cons,List.not_mem_nil,or_false] at hy;rcases hy with rfl|rfl|rfl|rfl<;>simp[e1,e2,e3,e4]
    ·refine Ao (by rw[decide_eq_false c2];rfl) ?_;exact q false _ (bad fun z=>c2 z.2) (Ah.refl _)
   ·refine⟨_,rfl,Ao rfl ?_⟩;exact q false _ (bad fun z=>c1 (decide_eq_true z.1)) (Ah.refl _)
  ·refine I0 false true (fun R q'=>⟨_,rfl,a,_,_,_,rfl,rfl,AE.of ha,A0,_,_,_,_,rfl,ok0.ty K,ok0.kit K,_,rfl,?_⟩) (fun _ R q'=>⟨_,rfl,a,_,_,_,rfl,rfl,AE.of ha,A0,_,_,_,_,rfl,ok0.ty K,ok0.kit K,_,rfl,?_⟩) ?_
   ·rw[h0.tyN,G7];cases t0 with
    |bl b=>exact absurd ⟨b,rfl⟩ hb
    |_=>exact q'
   ·rw[h0.tyN,RI];cases t0 with
    |bl b=>exact absurd ⟨b,rfl⟩ hb
    |int b=>exact absurd ⟨b,rfl⟩ hi
    |_=>exact q'
   exact Ao rfl (q false H (ne (b:=true) fun i z=>hi ⟨i,z⟩) (Ah.refl _))
end
namespace B
section
variable {P:Program}{w:World}{K:W.Frag}{mg:Str->Option Value}{base:Heap}{f:Addr}{fd:FuncData}
theorem FH {a b:Int}{t:Tr}(h:BD a b (fv t)=true):∃i,t=.int i/\a<=i/\i<=b:=by
 cases t with
 |int i=>
  have h':(decide (a<=i)&&decide (i<=b))=true:=h;rw[Bool.and_eq_true,decide_eq_true_eq,decide_eq_true_eq] at h';exact⟨i,rfl,h'⟩
 |_=>cases h
theorem Nd {t:Tr}(h:CO t=true):∃g:Tg,t=JU g/\MT g:=by
 match t,h with
 | .tup [x,y,z],h=>
  have h':(BD 1 999999 (fv x)&&BD 0 999999999 (fv y)&&BD 0 996 (fv z))=true:=h;rw[Bool.and_eq_true,Bool.and_eq_true] at h';obtain⟨i,rfl,i1,i2⟩:=FH h'.1.1;obtain⟨j,rfl,j1,j2⟩:=FH h'.1.2;obtain⟨k,rfl,k1,k2⟩:=FH h'.2;exact⟨(i,j,k),rfl,⟨i1,i2⟩,⟨j1,j2⟩,k1,k2⟩
theorem Uu {t:Tr}(h:Gf t=true):∃e:En,t=L3 e/\QV e:=by
 match t,h with
 | .tup [x,y,z],h=>
  have h':(BB (fv x)&&BD 1 2 (fv y)&&CO z)=true:=h;rw[Bool.and_eq_true,Bool.and_eq_true] at h';obtain⟨j,rfl,j1,j2⟩:=FH h'.1.2;obtain⟨g,rfl,og⟩:=Nd h'.2;cases x with
  |str z=>exact⟨⟨z,j,g⟩,rfl,h'.1.1,⟨j1,j2⟩,og⟩
  |_=>cases h'.1.1
theorem Lr {α:Type}{g:α->Tr}{ok:α->Prop}{p:Tr->Bool}(each:∀t,p t=true->∃a,t=g a/\ok a):∀ts:List Tr,ts.all p=true->∃as:List α,ts=as.map g/\∀a∈as,ok a
 |[],_=>⟨[],rfl,fun _ h=>nomatch h⟩
 |t::ts,h=>by
  rw[List.all_cons,Bool.and_eq_true] at h;obtain⟨a,rfl,oa⟩:=each t h.1;obtain⟨as,rfl,os⟩:=Lr each ts h.2;exact⟨a::as,rfl,fun x hx=>by
   rcases List.mem_cons.mp hx with rfl|hx
   ·exact oa
   ·exact os x hx⟩
theorem Up {t:Tr}(h:Rk t=true):∃b:Bk,t=GR b/\IB b:=by
 match t,h with
 | .tup (.int k::r),h=>
  have h':(if k=0 then Wz r else if k=1 then VV r else if k=2 then Wv r else false)=true:=h
  by_cases k0:k=0
  ·subst k0;rw[if_pos rfl] at h'
   match r,h' with
   |[t],h'=>
    cases t with
    |str z=>exact⟨.piece z,rfl,h'⟩
    |_=>cases h'
  rw[if_neg k0] at h'
  by_cases k1:k=1
  ·subst k1;rw[if_pos rfl] at h'
   match r,h' with
   |[l,t],h'=>
    have h2:(BD 1 9 (fv l)&&Qm (Vy l) t)=true:=h';rw[Bool.and_eq_true] at h2;obtain⟨lv,rfl,l1,l2⟩:=FH h2.1;cases t with
    |tup ts=>
     have h3:(decide (ts.length<=8) && !(decide (ts.length=0)&&decide (1<lv))&&ts.all CO)=true:=h2.2;rw[Bool.and_eq_true,Bool.and_eq_true,decide_eq_true_eq] at h3;obtain⟨gs,rfl,og⟩:=Lr (fun t h=>Nd h) ts h3.2;refine⟨.row lv gs,rfl,⟨l1,l2⟩,by simpa using h3.1.1,fun hl e=>?_,og⟩;subst e;have:=h3.1.2;simp[hl] at this
    |_=>cases h2.2
  rw[if_neg k1] at h'
  by_cases k2:k=2
  ·subst k2;rw[if_pos rfl] at h'
   match r,h' with
   |[t],h'=>
    cases t with
    |tup ts=>
     have h3:(decide (ts.length<=16)&&ts.all Gf&&MQ (ts.map Qk))=true:=h';rw[Bool.and_eq_true,Bool.and_eq_true,decide_eq_true_eq] at h3;obtain⟨es,rfl,oe⟩:=Lr (fun t h=>Uu h) ts h3.1.2;have hr:=of_decide_eq_true h3.2;have en:(es.map L3).map Qk=es.map (·.nm):=by rw[List.map_map];rfl
     rw[en] at hr;exact⟨.folder es,rfl,by simpa using h3.1.1,oe,hr⟩
    |_=>cases h'
  rw[if_neg k2] at h';cases h'
theorem N1 {t:Tg}(h:MT t):CO (JU t)=true:=by
 obtain⟨⟨a1,a2⟩,⟨b1,b2⟩,c1,c2⟩:=h;show((decide (1<=t.1)&&decide (t.1<=999999))&&(decide (0<=t.2.1)&&decide (t.2.1<=999999999))&&(decide (0<=t.2.2)&&decide (t.2.2<=996)))=true;simp only[Bool.and_eq_true,decide_eq_true_eq];omega
theorem UA {x:En}(h:QV x):Gf (L3 x)=true:=by
 obtain⟨a,⟨b1,b2⟩,c⟩:=h;show(BB (.str x.nm)&&(decide (1<=x.kd)&&decide (x.kd<=2))&&CO (JU x.tg))=true;rw[a,N1 c,decide_eq_true b1,decide_eq_true b2];rfl
theorem Vg {b:Bk}(h:IB b):Rk (GR b)=true:=by
 cases b with
 |piece z=>exact h
 |row lv ts=>
  obtain⟨⟨l1,l2⟩,n,o1,o2⟩:=h;show((decide (1<=lv)&&decide (lv<=9))&&(decide ((ts.map JU).length<=8) && !(decide ((ts.map JU).length=0)&&decide (1<lv))&&(ts.map JU).all CO))=true;have ha:(ts.map JU).all CO=true:=List.all_eq_true.mpr fun t ht=>by
   obtain⟨x,hx,rfl⟩:=List.mem_map.mp ht;exact N1 (o2 x hx)
  rw[ha,decide_eq_true l1,decide_eq_true l2,List.length_map,decide_eq_true n]
  by_cases z:ts.length=0
  ·rw[decide_eq_true z,decide_eq_false fun y=>o1 y (List.length_eq_zero_iff.mp z)];rfl
  ·rw[decide_eq_false z];rfl
 |folder es=>
  obtain⟨n,o,s,d⟩:=h;show(decide ((es.map L3).length<=16)&&(es.map L3).all Gf&&MQ ((es.map L3).map Qk))=true;have ha:(es.map L3).all Gf=true:=List.all_eq_true.mpr fun t ht=>by
   obtain⟨x,hx,rfl⟩:=List.mem_map.mp ht;exact UA (o x hx)
  have en:(es.map L3).map Qk=es.map (·.nm):=by rw[List.map_map];rfl
  rw[ha,en,List.length_map,decide_eq_true n,show MQ (es.map (·.nm))=true from decide_eq_true ⟨s,d⟩];rfl
theorem RU {H:Hp}:∀(n:Nat) (t:Tr) (v:V),Na n t=true->Rep All H t v->Rep NL H t v
 |0,_,_,h,_=>nomatch h
 |n+1,.int i,v,_,h=>h
 |n+1,.str z,v,_,h=>h
 |n+1,.tup ts,v,ht,h=>by
  obtain⟨a,vs,e,ha,hr⟩:=h;obtain⟨_,tt⟩:=Oq ht;refine⟨a,vs,e,ha,LG (Aq.len _ _ hr) fun i t y hi hy=>?_⟩;obtain⟨t',e',r'⟩:=Aq.get hr hy;rw[hi] at e';cases e';exact RU n t y (tt i t hi) r'
 |n+1,.non,_,h,_=>nomatch h
 |n+1,.bl _,_,h,_=>nomatch h
 |n+1,.lst _,_,h,_=>nomatch h
theorem map_one {α β:Type}{g:α->β}(hg:∀a b,g a=g b->a=b):∀{l l':List α},l.map g=l'.map g->l=l'
 |[],[],_=>rfl
 |[],_::_,h=>nomatch h
 |_::_,[],h=>nomatch h
 |x::l,y::l',h=>by
  rw[List.map_cons,List.map_cons] at h;injection h with h1 h2
  rw[hg x y h1,map_one hg h2]
theorem ON (a b:Tg)(h:JU a=JU b):a=b:=by
 obtain⟨a1,a2,a3⟩:=a;obtain⟨b1,b2,b3⟩:=b;injection h with h
 injection h with h1 h
 injection h with h2 h
 injection h with h3 _
 injection h1 with h1
 injection h2 with h2
 injection h3 with h3
 dsimp only at h1 h2 h3;rw[h1,h2,h3]
theorem SA (a b:En)(h:L3 a=L3 b):a=b:=by
 obtain⟨a1,a2,a3⟩:=a;obtain⟨b1,b2,b3⟩:=b;injection h with h
 injection h with h1 h
 injection h with h2 h
 injection h with h3 _
 injection h1 with h1
 injection h2 with h2
 have h3:=ON _ _ h3;dsimp only at h1 h2 h3;rw[h1,h2,h3]
theorem Sq {a b:Bk}(h:GR a=GR b):a=b:=by
 cases a with
 |piece z=>
  cases b with
  |piece z'=>injection h with h;injection h with _ h;injection h with h _;injection h with h;rw[h]
  |row lv ts=>injection h with h;injection h with h _;injection h with h;cases h
  |folder es=>injection h with h;injection h with h _;injection h with h;cases h
 |row lv ts=>
  cases b with
  |piece z'=>injection h with h;injection h with h _;injection h with h;cases h
  |row lv' ts'=>
   injection h with h;injection h with _ h;injection h with h1 h;injection h with h2 _
   injection h1 with h1
   injection h2 with h2
   rw[h1,map_one ON h2]
  |folder es=>injection h with h;injection h with h _;injection h with h;cases h
 |folder es=>
  cases b with
  |piece z'=>injection h with h;injection h with h _;injection h with h;cases h
  |row lv ts=>injection h with h;injection h with h _;injection h with h;cases h
  |folder es'=>injection h with h;injection h with _ h;injection h with h _;injection h with h;rw[map_one SA h]
theorem Rb {H:Hp}{b:Bk}{v:V}(ok:IB b)(h:Rep All H (GR b) v):Rep NL H (GR b) v:=RU 8 _ _ (RJ ok) h
def Cp:Bk->List Tg
 | .piece _=>[]
 | .row _ ts=>ts
 | .folder es=>es.map (·.tg)
def Nh (H:Hp):V->V
 | .ref a=>match H a with
  |some (.tup [_,_,t])=>t
  |_=>.non
 |_=>.non
theorem M5 {H:Hp}{a:Addr}{x y z:V}(h:H a=some (.tup [x,y,z])):Nh H (.ref a)=z:=by
 show(match H a with|some (.tup [_,_,t])=>t|_=>V.non)=z;rw[h]
theorem Jk {H:Hp}:∀{es:List En} {us:List V},Aq NL H (es.map L3) us->Aq NL H ((es.map (·.tg)).map JU) (us.map (Nh H))
 |[],us,h=>by cases h;exact rfl
 |e::es,us,h=>by
  obtain⟨v,vs,rfl,h1,h2⟩:=h;obtain⟨a,b,rfl,e1,e2⟩:=K5 h1;refine⟨_,_,rfl,?_,Jk h2⟩;rw[M5 e1];exact Vu e2
def Dj (K:W.Frag):Sp:=fun vs H Q _=>∃v b,vs=[v]/\Rep NL H (GR b) v/\IB b/\∀l us H',Ah H H'->H l=none->H' l=some (.lst us)->Aq NL H' ((Cp b).map JU) us->Q (.ref l) H'
theorem NQ (T:Txt K mg)(F:Fun K "tags_in" "tags_in" DP f fd):FnOk P w K mg base CP 1 f fd ["block"] (Dj K):=by
 exists NG
 ·obtain⟨v,b,rfl,_⟩:=h;rfl
 obtain⟨v,b,rfl,hv,ok,q⟩:=h;refine⟨_,(!Ae (!AU (!AO Br (!Am Ap (pv 0) (!Ac) (fun _ _=>rfl)) (!AG rfl T.c_PIECE) (AF _)) (!Ag (!Al (!C0 (!Ab)))) (!Aw)) (!Ae (!AU (!AO Br (!Am Ap (pv 0) (!Ac) (fun _ _=>rfl)) (!AG rfl T.c_ROW) (AF _)) (!Ag (!Al (!A9 LC (by rfl) T.b_list FV (!Aa (!Am Ap (pv 0) (!Ac) (fun _ _=>rfl)) (!Ab))))) (!Aw)) (!Ag (!Al (@AV _ ["name","kind","tag"] _ _ _ _ _ _ _ _ _ _ rfl (!Bb (!Am Ap (pv 0) (!Ac) (fun _ _=>rfl))) (by decide +kernel) (fun C s H fp=>⟨(@Lg _ (K) _ _ _ _ (3) (by rfl) rfl (!BF (@An _ _ (0) _ (show(["name","kind","tag"]:List Str).Nodup by decide +kernel) rfl (by trivial) (by trivial)) (!BF (@An _ _ (1) _ (show(["name","kind","tag"]:List Str).Nodup by decide +kernel) rfl (by trivial) (by trivial)) (!BF (@An _ _ (2) _ (show(["name","kind","tag"]:List Str).Nodup by decide +kernel) rfl (by trivial) (by trivial)) (!Ho)))) (by rfl) (by rfl)),(!AB),(pv 2)⟩) (by intro _;rfl)))))),?_⟩
 try dsimp only[Cg,Cx.nox,Cx.wish]
 cases b with
 |piece z=>
  obtain⟨a,rfl,e⟩:=HF hv;refine⟨_,rfl,a,_,_,_,rfl,rfl,AE.of e,rfl,rfl,_,rfl,Ao rfl ?_⟩;exact⟨Nj,fun l hl=>q l [] _ (Ai hl _) hl Ad rfl⟩
 |row lv ts=>
  obtain⟨a,d,us,rfl,e,e2,r⟩:=Lp hv;refine⟨_,rfl,a,_,_,_,rfl,rfl,AE.of e,rfl,rfl,_,rfl,As rfl ?_⟩;refine⟨_,rfl,a,_,_,_,rfl,rfl,AE.of e,rfl,rfl,_,rfl,Ao rfl ?_⟩;exact⟨_,rfl,a,_,_,_,rfl,rfl,AE.of e,rfl,d,_,rfl,.inr (AE.of e2),fun l hl=>q l us _ (Ai hl _) hl Ad (Aq.same (Ai hl _) _ _ r)⟩
 |folder es=>
  obtain⟨a,d,us,rfl,e,e2,r⟩:=Gz hv;refine⟨_,rfl,a,_,_,_,rfl,rfl,AE.of e,rfl,rfl,_,rfl,As rfl ?_⟩;refine⟨_,rfl,a,_,_,_,rfl,rfl,AE.of e,rfl,rfl,_,rfl,As rfl ?_⟩;refine⟨_,rfl,a,_,_,_,rfl,rfl,AE.of e,rfl,d,rfl,⟨_,AE.of e2⟩,?_⟩;have lu:us.length=es.length:=by rw[Aq.len _ _ r,List.length_map]
  have l16:es.length<=16:=ok.1;refine Ko (xs:=us) (Nh H) (A2 e2) (by omega) (fun x hx=>?_) (fun b x1 x2 x3 H' R hx hb s' hR=>⟨_,rfl,?_⟩) fun l H' nl s' hl=>q l _ H' s' nl hl (Aq.same s' _ _ (Jk r))
  ·obtain⟨en,_,hr⟩:=O6 r hx;obtain⟨b,c,rfl,e3,_⟩:=K5 hr;exact⟨b,_,_,_,rfl,e3⟩
  ·have:=hR H' (Ah.refl _);rw[M5 hb] at this;exact this
end
end B
namespace B
section
variable {P:Program}{w:World}{K:W.Frag}{mg:Str->Option Value}{base:Heap}{f:Addr}{fd:FuncData}
def C8 (t:Tr):Prop:=∃(n a:Int) (b:Bk) (h c:Int) (s:Tr),t=.tup [.int n,.int a,GR b,.int h,.int c,s]/\IB b/\MT (n,a,GH b)/\1<=c
theorem six {H:Hp}{ts:List Tr}{vs:List V}(h:Aq All H ts vs)(l:vs.length=6):∃t0 t1 t2 t3 t4 t5 v0 v1 v2 v3 v4 v5,ts=[t0,t1,t2,t3,t4,t5]/\vs=[v0,v1,v2,v3,v4,v5]/\Rep All H t0 v0/\Rep All H t1 v1/\Rep All H t2 v2/\Rep All H t3 v3/\Rep All H t4 v4/\Rep All H t5 v5:=by
 have lt:=(Aq.len ts vs h).symm.trans l
 match ts,lt with
 |[t0,t1,t2,t3,t4,t5],_=>
  obtain⟨v0,r0,rfl,h0,v1,r1,rfl,h1,v2,r2,rfl,h2,v3,r3,rfl,h3,v4,r4,rfl,h4,v5,r5,rfl,h5,e⟩:=h;cases(show r5=[] from e);exact⟨t0,t1,t2,t3,t4,t5,v0,v1,v2,v3,v4,v5,rfl,rfl,h0,h1,h2,h3,h4,h5⟩
theorem Jm {H:Hp}{t:Tr}{v:V}{n:Int}(h:Rep All H t v)(nt:∀ts,t≠.tup ts):Es H v n=false:=by
 cases t with
 |tup ts=>exact absurd rfl (nt ts)
 |lst ts=>obtain⟨a,vs,rfl,_,ha,_⟩:=h;simp only[Es,ha]
 |non=>rw[show v=.non from h];rfl
 |bl b=>rw[show v=.bl b from h];rfl
 |int i=>rw[show v=.int i from h];rfl
 |str z=>rw[show v=.str z from h];rfl
def GK (K:W.Frag):Sp:=fun vs H Q _=>∃v t,vs=[v]/\Rep All H t v/\t.ok/\∀b H',(b=true↔C8 t)->Ah H H'->Q (.bl b) H'
theorem Nc (T:Txt K mg)(F:Fun K "is_cell" "is_cell" DR f fd)(Bp:Def P w K mg base 3 "is_tag" ["thing"] (Dg K))(BA:Def P w K mg base 1 "is_whole" ["thing"] (Dr K))(Ar:Def P w K mg base 1 "is_tuple_of" ["thing","many"] (AW K))(Gs:Def P w K mg base 6 "is_block" ["thing"] (FD K))(Ew:Def P w K mg base 3 "sum_of" ["block"] (Ge K)):FnOk P w K mg base CP 7 f fd ["thing"] (GK K):=by
 exists Od
 ·obtain⟨v,t,rfl,_⟩:=h;rfl
 obtain⟨v,t,rfl,hv,ok,q⟩:=h;have okv:=Rep.ok hv ok;refine⟨_,(!Ae (!AU (@PW.pt _ _ _ (!BO (!AI (!AH (!Au Ar (by trivial) rfl (!Aa (pv 0) (!Aa (!Ac) (!Ab)))) (by intro _;rfl))) (!Bs (!AI (!AH (!Au Gs (by trivial) rfl (!Aa (!Am Ap (pv 0) (!Ac) (fun _ _=>rfl)) (!Ab))) (by intro _;rfl)))))) (!Ag (!Al (!A1))) (!Aw)) (!Ae (!AU (!AI (!AH (!Au Bp (by trivial) rfl (!Aa (!Av (!Aa (!Am Ap (pv 0) (!Ac) (fun _ _=>rfl)) (!Aa (!Am Ap (pv 0) (!Ac) (fun _ _=>rfl)) (!Aa (!Au Ew (by trivial) rfl (!Aa (!Am Ap (pv 0) (!Ac) (fun _ _=>rfl)) (!Ab))) (!Ab))))) (!Ab))) (by intro _;rfl))) (!Ag (!Al (!A1))) (!Aw)) (!Ag (!Al (!A8 (!Au BA (by trivial) rfl (!Aa (!Am Ap (pv 0) (!Ac) (fun _ _=>rfl)) (!Ab))) (!A8 (!Au BA (by trivial) rfl (!Aa (!Am Ap (pv 0) (!Ac) (fun _ _=>rfl)) (!Ab))) (!Bq (!A5 Wj (!Am Ap (pv 0) (!Ac) (fun _ _=>rfl)) (!Ac) (AF _))))))))),?_⟩
 try dsimp only[Cg,Cx.nox,Cx.wish]
 dsimp only[CB,DE,S1,J3];have no:Es H v 6=false->¬C8 t:=fun h z=>by
  obtain⟨n,a,b,hh,c,s,rfl,_⟩:=z;obtain⟨x,vs,rfl,ha,hr⟩:=hv;have lv:=Aq.len _ _ hr;rw[Bx ha] at h;exact of_decide_eq_false h (by rw[lv];rfl)
 refine⟨_,rfl,v,6,rfl,okv,_,rfl,?_⟩;cases h6:Es H v 6 with
 |false=>
  refine Ao rfl (Ao rfl ?_);exact q false H ⟨(fun z=>nomatch z),fun z=>absurd z (no h6)⟩ (Ah.refl _)
 |true=>
  refine As rfl ?_;have tt:∃ts,t=.tup ts:=by
   cases t with
   |tup ts=>exact⟨ts,rfl⟩
   |_=>rw[Jm hv (fun _ z=>nomatch z)] at h6;cases h6
  obtain⟨ts,rfl⟩:=tt;obtain⟨a,vs,rfl,ha,hr⟩:=hv;rw[Bx ha] at h6;have l6:vs.length=6:=by have:=of_decide_eq_true h6;omega
  obtain⟨t0,t1,t2,t3,t4,t5,v0,v1,v2,v3,v4,v5,rfl,rfl,h0,h1,h2,h3,h4,h5⟩:=six hr l6;obtain⟨_,o0,o1,o2,o3,o4,o5,_⟩:=ok;refine⟨_,rfl,a,_,_,_,rfl,rfl,AE.of ha,rfl,v2,t2,rfl,h2,o2,fun H1 s1=>⟨_,rfl,?_⟩⟩;have ha1:=s1.get ha;cases hb:Rk t2 with
  |false=>
   refine Ao rfl ?_;refine q false H1 ⟨(fun z=>nomatch z),fun z=>?_⟩ s1;obtain⟨n,x,b,hh,c,s,e,okb,_⟩:=z;have e2:t2=GR b:=by injection e with e;injection e with _ e;injection e with _ e;injection e
   rw[e2,Vg okb] at hb;cases hb
  |true=>
   refine As rfl ?_;obtain⟨b,rfl,okb⟩:=Up hb;have h2':=Rb okb (Rep.same s1 _ _ h2);dsimp only[Eb];refine⟨_,rfl,a,_,_,_,rfl,rfl,AE.of ha1,rfl,_,rfl,a,_,_,_,rfl,rfl,AE.of ha1,rfl,_,rfl,a,_,_,_,rfl,rfl,AE.of ha1,rfl,v2,b,rfl,h2',okb,fun H2 s2=>?_⟩;have s12:=s1.trans s2;refine⟨Vh,fun p np=>?_⟩;have s3:=Ai np (.tup [v0,v1,.int (GH b)]);have s13:=s12.trans s3;have rt:Rep All (upd H2 p (.tup [v0,v1,.int (GH b)])) (.tup [t0,t1,.int (GH b)]) (.ref p):=⟨p,_,rfl,Ad,_,_,rfl,Rep.same s13 _ _ h0,_,_,rfl,Rep.same s13 _ _ h1,_,_,rfl,rfl,rfl⟩
   have ot:(Tr.tup [t0,t1,.int (GH b)]).ok:=⟨by show 3<=1000;decide,o0,o1,trivial,trivial⟩
   refine⟨_,rfl,Rep.ok rt ot,FU rt ot,_,rfl,?_⟩;rw[ID rt ot];have cell:∀{n x hh c:Int} {b':Bk} {s:Tr},Tr.tup [t0,t1,GR b,t3,t4,t5]=.tup [.int n,.int x,GR b',.int hh,.int c,s]->t0=.int n/\t1=.int x/\GR b=GR b'/\t3=.int hh/\t4=.int c:=fun e=>by
    injection e with e
    injection e with e0 e
    injection e with e1 e
    injection e with e2 e
    injection e with e3 e
    injection e with e4 e
    exact⟨e0,e1,e2,e3,e4⟩
   have ha3:=s13.get ha;have h3':=Rep.same s13 _ _ h3;have h4':=Rep.same s13 _ _ h4;cases hg:CO (.tup [t0,t1,.int (GH b)]) with
   |false=>
    refine Ao rfl ?_;refine q false _ ⟨(fun z=>nomatch z),fun z=>?_⟩ s13;obtain⟨n,x,b',hh,c,s,e,okb',og,_⟩:=z;obtain⟨rfl,rfl,e2,_⟩:=cell e;cases Sq e2;have:=N1 og;rw[show JU (n,x,GH b)=.tup [.int n,.int x,.int (GH b)] from rfl,hg] at this;cases this
   |true=>
    refine As rfl ?_;obtain⟨g,eg,og⟩:=Nd hg;have g0:t0=.int g.1/\t1=.int g.2.1/\GH b=g.2.2:=by
     injection eg with e
     injection e with e0 e
     injection e with e1 e
     injection e with e2 e
     injection e2 with e2
     exact⟨e0,e1,e2⟩
    obtain⟨rfl,rfl,eb⟩:=g0;have og':MT (g.1,g.2.1,GH b):=by rw[eb];exact og
    dsimp only[Eb,Rf];refine Gb (Wr t3) (Wr t4&&decide (1<=Vy t4)) (fun R q'=>⟨_,rfl,a,_,_,_,rfl,rfl,AE.of ha3,rfl,v3,rfl,Rep.ok h3' o3,?_⟩) (fun _ R q'=>?_) ?_
    ·rw[HA h3'];exact q'
    ·refine Gb (Wr t4) (decide (1<=Vy t4)) (fun R q'=>⟨_,rfl,a,_,_,_,rfl,rfl,AE.of ha3,rfl,v4,rfl,Rep.ok h4' o4,?_⟩) (fun z R q'=>?_) q'
     ·rw[HA h4'];exact q'
     ·cases t4 with
      |int c=>
       cases(show v4=.int c from h4);exact⟨_,rfl,a,_,_,_,rfl,rfl,AE.of ha3,rfl,_,_,rfl,rfl,q'⟩
      |_=>cases z
    ·refine q _ _ ?_ s13;rw[Bool.and_eq_true,Bool.and_eq_true,decide_eq_true_eq];constructor
     ·rintro⟨w3,w4,c1⟩
      cases t3 with
      |int hh=>
       cases t4 with
       |int c=>exact⟨g.1,g.2.1,b,hh,c,t5,rfl,okb,og',c1⟩
       |_=>cases w4
      |_=>cases w3
     ·rintro⟨n,x,b',hh,c,s,e,okb',_,c1⟩
      obtain⟨_,_,_,rfl,rfl⟩:=cell e;exact⟨rfl,rfl,c1⟩
end
end B
namespace B
section
variable {P:Program}{w:World}{K:W.Frag}{mg:Str->Option Value}{base:Heap}{f:Addr}{fd:FuncData}
def Vv (t:Tr):Prop:=∃ts,t=.tup ts/\∀x∈ts,C8 x
theorem QK:∀(n m:Nat) (t:Tr),Na n t=true->n<=m->hT m t=true
 |0,_,_,h,_=>nomatch h
 |n+1,0,_,_,h=>absurd h (Nat.not_succ_le_zero n)
 |n+1,m+1,.int _,_,_=>rfl
 |n+1,m+1,.str _,_,_=>rfl
 |n+1,m+1,.tup ts,h,hm=>by
  obtain⟨_,tt⟩:=Oq h;show ts.all (hT m)=true;rw[List.all_eq_true];intro x hx;obtain⟨i,hi,e⟩:=List.getElem_of_mem hx;exact QK n m x (tt i x (by rw[List.getElem?_eq_getElem hi,e])) (by omega)
 |n+1,m+1,.non,h,_=>nomatch h
 |n+1,m+1,.bl _,h,_=>nomatch h
 |n+1,m+1,.lst _,h,_=>nomatch h
theorem SS {H:Hp}{b:Bk}{v:V}(ok:IB b)(h:Rep All H (GR b) v):Goes H v:=by
 have ht:=QK 8 20 _ (RJ ok) (by decide);cases b with
 |piece z=>exact .inr ⟨_,ht,h⟩
 |row lv ts=>exact .inr ⟨_,ht,h⟩
 |folder es=>exact .inr ⟨_,ht,h⟩
open Classical in
noncomputable def JG (t:Tr):Bool:=decide (C8 t)
open Classical in
theorem Qh {b:Bool}{t:Tr}(h:b=true↔C8 t):b=JG t:=by
 unfold JG;rw[Bool.eq_iff_iff,decide_eq_true_eq];exact h
open Classical in
theorem Kw {t:Tr}:JG t=true↔C8 t:=by
 unfold JG;rw[decide_eq_true_eq]
theorem Oh {H:Hp}{t:Tr}{v:V}(h:Rep All H t v)(c:C8 t):∃(x:Addr) (n a:Int) (b:Bk) (v2:V) (hh k:Int) (v5:V) (s:Tr),v=.ref x/\H x=some (.tup [.int n,.int a,v2,.int hh,.int k,v5])/\t=.tup [.int n,.int a,GR b,.int hh,.int k,s]/\IB b/\MT (n,a,GH b)/\1<=k/\Rep All H (GR b) v2/\Rep All H s v5:=by
 obtain⟨n,a,b,hh,k,s,rfl,okb,og,k1⟩:=c;obtain⟨x,vs,rfl,hx,hr⟩:=h;obtain⟨t0,t1,t2,t3,t4,t5,v0,v1,v2,v3,v4,v5,e,rfl,h0,h1,h2,h3,h4,h5⟩:=six hr (by rw[Aq.len _ _ hr];rfl);cases e;cases(show v0=.int n from h0);cases(show v1=.int a from h1);cases(show v3=.int hh from h3);cases(show v4=.int k from h4);exact⟨x,n,a,b,v2,hh,k,v5,s,rfl,hx,rfl,okb,og,k1,h2,h5⟩
def ET (K:W.Frag):Sp:=fun vs H Q _=>∃v t,vs=[v]/\Rep All H t v/\t.ok/\(∀ts,t=.tup ts->(∀x∈ts,C8 x)->ts.length<=1)/\∀b H',(b=true↔Vv t)->Ah H H'->Q (.bl b) H'
theorem Lb (T:Txt K mg)(F:Fun K "are_cells" "are_cells" CL f fd)(HN:Def P w K mg base 7 "is_cell" ["thing"] (GK K)):FnOk P w K mg base CP 8 f fd ["thing"] (ET K):=by
 exists Hg
 ·obtain⟨v,t,rfl,_⟩:=h;rfl
 obtain⟨v,t,rfl,hv,ok,one,q⟩:=h;have hu:=Cu hr;have hu9:=C1 hr;have okv:=Rep.ok hv ok;refine⟨_,(!Ae (!AU (@PW.pt _ _ _ (!BO (!AI (!AH (!Ak AJ (by rfl) T.b_isinstance Ax (!Aa (pv 0) (!Aa (!BS rfl T.b_tuple Be) (!Ab)))) (by intro _;rfl))) (!Bs (!AI (!AH (!Ak (Bd rfl) (by rfl) T.b_all Ca (!Aa (@AV _ ["cell"] _ _ _ _ _ _ _ _ _ _ rfl (!Bb (pv 0)) (by decide +kernel) (fun C s H fp=>⟨(@An _ _ (0) _ (show(["cell"]:List Str).Nodup by decide +kernel) rfl (by trivial) (by trivial)),(!AB),(!Au HN (by trivial) rfl (!Aa (pv 0) (!Ab)))⟩) (by intro _;rfl)) (!Ab))) (by intro _;rfl)))))) (!Ag (!Al (!A1))) (!Aw)) (!Ae (@Ex _ ["cell"] (1) _ _ _ _ _ _ _ _ _ _ _ _ _ Hg.nd rfl (by trivial) rfl (!Bb (pv 0)) (by decide +kernel) (fun C s H fp=>⟨(@An _ _ (0) _ (show(["cell"]:List Str).Nodup by decide +kernel) rfl (by trivial) (by trivial)),(!AB),(!Am (AQ (K:=K) (by rfl)) (pv 0) (!Ac) (fun _ _=>rfl))⟩) (by intro _;rfl) (by rfl) (by trivial)) (!Ag (!Al (!A8 (!A5 (Oc hu) (pv 1) (!Ak (Nr (w:=w) (by rfl) rfl) (by rfl) T.b_sorted DT (!Aa (!A9 (KC (w:=w) (K:=K) (by rfl) (by rfl) rfl hu9) (by rfl) T.b_set Jj (!Aa (pv 1) (!Ab))) (!Ab))) (AF _)) (!Bq (!A5 Br (!Ak (PH (w:=w) (by rfl)) (by rfl) T.b_len BG (!Aa (!A9 (KC (w:=w) (K:=K) (by rfl) (by rfl) rfl hu9) (by rfl) T.b_set Jj (!Aa (@AV _ ["cell"] _ _ _ _ _ _ _ _ _ _ rfl (!Bb (pv 0)) (by decide +kernel) (fun C s H fp=>⟨(@An _ _ (0) _ (show(["cell"]:List Str).Nodup by decide +kernel) rfl (by trivial) (by trivial)),(!AB),(!Am (AQ (K:=K) (by rfl)) (pv 0) (!Ac) (fun _ _=>rfl))⟩) (by intro _;rfl)) (!Ab))) (!Ab))) (!Ak AM (by rfl) T.b_len BG (!Aa (pv 0) (!Ab))) (AF _)))))))),?_⟩
 try dsimp only[Cg,Cx.nox,Cx.wish]
 dsimp only[CB,DE,S1,J3];refine⟨_,rfl,_,_,_,_,rfl,okv.ty K,okv.kit K,_,rfl,?_⟩;rw[hv.tyN]
 by_cases tt:∃ts,t=.tup ts
 ·obtain⟨ts,rfl⟩:=tt;rw[show isA (Tr.tup ts).ty "tuple"=true from HD _];refine As rfl ?_;obtain⟨a,vs,rfl,ha,hr⟩:=hv;have lv:=Aq.len _ _ hr;obtain⟨l1,oks⟩:=ok;refine⟨_,rfl,a,rfl,⟨_,AE.of ha⟩,?_⟩;refine Hl JG (A2 ha) hr oks (by omega) (fun t x H' R rt ot hR=>⟨_,rfl,x,t,rfl,rt,ot,fun b H'' hb s''=>?_⟩) fun l H1 s1 h1=>?_
  ·rw[Qh hb];exact hR _ s''
  refine⟨l,_,rfl,AR.of h1,_,rfl,?_⟩;have ea:((ts.map JG).all id=true)↔∀x∈ts,C8 x:=by
   rw[List.all_eq_true];constructor
   ·intro h x hx;exact Kw.mp (h _ (List.mem_map.mpr ⟨x,hx,rfl⟩))
   ·intro h y hy;obtain⟨x,hx,rfl⟩:=List.mem_map.mp hy;exact Kw.mpr (h x hx)
  cases hb:(ts.map JG).all id with
  |false=>
   refine Ao rfl ?_;refine q false H1 ⟨(fun z=>nomatch z),fun⟨us,e,z⟩=>?_⟩ s1;cases e;rw[ea.mpr z] at hb;cases hb
  |true=>
   refine As rfl ?_;have all:=ea.mp hb;have few:=one ts rfl all;have ha1:=s1.get ha;have hr1:=Aq.same s1 _ _ hr;obtain⟨n,v2,hx,hg⟩:∃n v2,(∀u∈vs,∃c r,u=.ref c/\H1 c=some (.tup r)/\Hz r 0=some (.int n)/\Hz r 2=some v2)/\∀H',Ah H1 H'->vs≠[]->Goes H' v2:=by
    match ts,vs,hr1,all,lv with
    |[],[],_,_,_=>exact⟨0,.non,(fun _ h=>nomatch h),fun _ _ z=>absurd rfl z⟩
    |[t],[v],⟨v',us,e,rv,_⟩,all,_=>
     cases e;obtain⟨x,n,ag,b,v2,hh,k,v5,s,rfl,hx,rfl,okb,_,_,r2,_⟩:=Oh rv (all _ (by simp));refine⟨n,v2,fun u hu=>?_,fun H' s' _=>SS okb (Rep.same s' _ _ r2)⟩;rw[List.mem_singleton.mp hu];exact⟨x,_,rfl,hx,rfl,rfl⟩
    |_::_::_,_,_,_,_=>simp at few
   have lf:vs.length<=1:=by omega
   dsimp only[Eb,Ml];refine⟨_,rfl,a,rfl,⟨_,AE.of ha1⟩,?_⟩;refine comp_map (fun _=>V.int n) (A2 ha1) (by omega) (fun u H' R hu' s' hR=>?_) fun l2 H2 n2 s2 h2=>?_
   ·obtain⟨c,r,rfl,hc,e0,_⟩:=hx u hu';exact⟨_,rfl,c,r,_,_,rfl,rfl,AE.of (s'.get hc),e0,hR _ (Ah.refl _)⟩
   have em:vs.map (fun _=>V.int n)=(vs.map fun _=>n).map V.int:=by rw[List.map_map];rfl
   rw[em] at h2;refine⟨_,rfl,_,rfl,l2,_,rfl,AR.of h2,by rw[List.length_map,List.length_map];exact lf,fun y hy=>?_,fun p np=>?_⟩
   ·obtain⟨i,_,rfl⟩:=List.mem_map.mp hy;exact .inl ⟨i,rfl⟩
   have s3:=Ai np (Mu w p ((vs.map fun _=>n).map V.int));refine⟨p,vs.map fun _=>n,rfl,Ad,by rw[List.length_map];exact lf,fun p2 np2=>?_⟩;have s4:=Ai np2 (.lst ((vs.map fun _=>n).map V.int));have s24:=s2.trans (s3.trans s4);have pv:((vs.map fun _=>n).map V.int).all D7=true:=by
    rw[List.all_eq_true];intro y hy;obtain⟨i,_,rfl⟩:=List.mem_map.mp hy;rfl
   refine⟨l2,p2,_,_,rfl,rfl,AR.of (s4.get (s3.get h2)),AR.of Ad,pv,pv,_,rfl,?_⟩;refine Ao (by simp) ?_;have ha4:=s24.get ha1;refine⟨_,rfl,a,rfl,⟨_,AE.of ha4⟩,?_⟩;refine comp_map (fun _=>v2) (A2 ha4) (by omega) (fun u H' R hu' s' hR=>?_) fun l5 H5 n5 s5 h5=>?_
   ·obtain⟨c,r,rfl,hc,_,e2⟩:=hx u hu';exact⟨_,rfl,c,r,_,_,rfl,rfl,AE.of (s'.get (s24.get hc)),e2,hR _ (Ah.refl _)⟩
   refine⟨l5,_,rfl,AR.of h5,by rw[List.length_map];exact lf,fun y hy=>?_,fun p6 np6=>?_⟩
   ·obtain⟨u,hu',rfl⟩:=List.mem_map.mp hy;exact hg _ (s24.trans s5) fun z=>by rw[z] at hu';cases hu'
   have s6:=Ai np6 (Mu w p6 (vs.map fun _=>v2));refine⟨p6,_,rfl,Ad,by rw[List.length_map];exact lf,?_⟩;refine⟨_,rfl,a,vs,rfl,.inr (AE.of (s6.get (s5.get ha4))),rfl,?_⟩;refine q _ _ ?_ (s1.trans (s24.trans (s5.trans s6)));rw[List.length_map];exact⟨fun _=>⟨ts,rfl,all⟩,fun _=>by simp⟩
 ·have:isA t.ty "tuple"=false:=by
   rw[HD];cases t with
   |tup ts=>exact absurd ⟨ts,rfl⟩ tt
   |_=>rfl
  rw[this];refine Ao rfl (Ao rfl ?_);exact q false H ⟨(fun z=>nomatch z),fun⟨ts,e,_⟩=>absurd ⟨ts,e⟩ tt⟩ (Ah.refl _)
end
end B
namespace B
section
variable {P:Program}{w:World}{K:W.Frag}{mg:Str->Option Value}{base:Heap}{f:Addr}{fd:FuncData}
def B7 (K:W.Frag):Sp:=fun vs H Q _=>∃(d b x:Addr) (r:List V) (v:V),vs=[.ref d,.ref b]/\Cm H d (.ref b) (some (.ref x))/\H x=some (.tup r)/\Hz r 2=some v/\Q v H
theorem MW (T:Txt K mg)(F:Fun K "block_in" "block_in" Dh f fd):FnOk P w K mg base CP 1 f fd ["cells","tag"] (B7 K):=by
 exists MX
 ·obtain⟨d,b,x,r,v,rfl,_⟩:=h;rfl
 obtain⟨d,b,x,r,v,rfl,hd,hx,e2,q⟩:=h;have hu:=Cu hr;refine⟨_,(!Ag (!Al (!Am Ap (!DI hu (pv 0) (pv 1) (fun _ _=>rfl)) (!Ac) (fun _ _=>rfl)))),?_⟩
 try dsimp only[Cg,Cx.nox,Cx.wish]
 exact⟨_,rfl,_,rfl,d,_,rfl,hd,x,r,_,_,rfl,rfl,AE.of hx,e2,q⟩
structure Ce where
 x:Addr
 tg:Tg
 b:Bk
 v2:V
 hh:Int
 kk:Int
 v5:V
 s:Tr
def BC (g:Tg):List Key:=[.inl g.1,.inl g.2.1,.inl g.2.2]
theorem QL {a b:Tg}(h:BC a=BC b):a=b:=by
 obtain⟨a1,a2,a3⟩:=a;obtain⟨b1,b2,b3⟩:=b;injection h with h1 h
 injection h with h2 h
 injection h with h3 _
 injection h1 with h1
 injection h2 with h2
 injection h3 with h3
 dsimp only at h1 h2 h3;rw[h1,h2,h3]
def E3 (H:Hp)(c:Ce):Prop:=H c.x=some (.tup [.int c.tg.1,.int c.tg.2.1,c.v2,.int c.hh,.int c.kk,c.v5])/\Rep NL H (GR c.b) c.v2/\IB c.b/\Rep All H c.s c.v5
theorem E3.same {H H':Hp}{c:Ce}(h:E3 H c)(s:Ah H H'):E3 H' c:=⟨s.get h.1,Rep.same s _ _ h.2.1,h.2.2.1,Rep.same s _ _ h.2.2.2⟩
def AS (cs:List Ce):List (List Key×V):=cs.map fun c=>(BC c.tg,.ref c.x)
def FQ (cs:List Ce)(g:Tg):Bool:=cs.any fun c=>decide (c.tg=g)
theorem Ov {cs:List Ce}(one:cs.length<=1)(g:Tg):(BK (AS cs) (BC g)).isSome=FQ cs g:=by
 cases cs with
 |nil=>rfl
 |cons c r=>
  have e0:r=[]:=List.length_eq_zero_iff.mp (by have:r.length+1<=1:=one;omega);subst e0
  by_cases e:c.tg=g
  ·subst e;simp[BK,AS,FQ]
  ·have:BC c.tg≠BC g:=fun z=>e (QL z)
   simp[BK,AS,FQ,e,this]
theorem D8 {cs:List Ce}(one:cs.length<=1){c:Ce}(h:c∈cs):BK (AS cs) (BC c.tg)=some (.ref c.x):=by
 cases cs with
 |nil=>cases h
 |cons c' r=>
  have e:r=[]:=List.length_eq_zero_iff.mp (by have:r.length+1<=1:=one;omega);subst e;cases List.mem_singleton.mp h;simp[BK,AS]
theorem O1 {J:It} {us:List V} {fr:List (Option Nat)} {k:Nat} {te:TE} {Q:VK} {σ:St} {H:Hp} (bs:List Bool) (hl:us.length=bs.length) (hJ:Hm J H us) (hn:us.length<=1000000)
  (helt:∀(i:Nat) (x:V) (b:Bool) (H':Hp) (R:VK),us[i]?=some x->bs[i]?=some b->Ah H H'->(∀H'',Ah H' H''->R (.bl b) H'')->te ((stC fr σ).set k (some x)) H' R)
  (hQ:∀l H',Ah H H'->H' l=some (.lst (bs.map V.bl))->Q (.ref l) H'):Dd fr (A4 k) MV te σ Q J H:=by
 refine EF (fun i _ y _=>y=.bl (bs.getD i false)) (fun _ _ _ _ _ h _=>h) (fun _ _ _ _ _ _ _ _ h _ _=>h) hJ hn (fun i x H' R hx s' hR=>?_) fun l H' ys _ s7 h7 ly hy=>?_
 ·have hi:=(List.getElem?_eq_some_iff.mp hx).1;exact helt i x _ H' R hx (List.getElem?_eq_getElem (by omega)) s' fun H'' s''=>hR _ H'' s'' (by rw[List.getD,List.getElem?_eq_getElem (by omega)];rfl)
 ·have e:ys=bs.map V.bl:=by
   refine List.ext_getElem (by rw[List.length_map];omega) fun i h1 h2=>?_
   obtain⟨_,_,e⟩:=hy i ys[i] (List.getElem?_eq_getElem h1);rw[e,List.getElem_map,List.getD,List.getElem?_eq_getElem (by omega)];rfl
  rw[e] at h7;exact hQ l H' s7 h7
def WL (H:Hp)(u:V)(g:Tg):Prop:=∃x r ta,u=.ref x/\H x=some (.tup r)/\Hz r 4=some (.ref ta)/\H ta=some (.tup [.int g.1,.int g.2.1,.int g.2.2])
def Fl (cs:List Ce)(gs:List Tg):Bool:=(cs.all fun c=>(Cp c.b).all (FQ cs))&&gs.all fun g=>cs.any fun c=>decide (c.tg=g)&&decide (kindB c.b=2)
def EJ (K:W.Frag):Sp:=fun vs H Q _=>∃(h d nv:Addr) (ag kv:V) (ns:List V) (gs:List Tg) (cs:List Ce),vs=[.ref h,.ref d]/\H h=some (.tup [ag,kv,.ref nv])/\H nv=some (.tup ns)/\ns.length=gs.length/\gs.length<=1000/\
 (∀(i:Nat) u g,ns[i]?=some u->gs[i]?=some g->WL H u g)/\H d=some (.dT (AS cs))/\cs.length<=1/\(∀c∈cs,E3 H c)/\∀H',Ah H H'->Q (.bl (Fl cs gs)) H'
theorem LJ (T:Txt K mg)(F:Fun K "are_there" "are_there" CF f fd)(Bu:Def P w K mg base 1 "tags_in" ["block"] (Dj K))(A3:Def P w K mg base 1 "block_in" ["cells","tag"] (B7 K)):FnOk P w K mg base CP 2 f fd ["head","cells"] (EJ K):=by
 exists G0
 ·obtain⟨h,d,nv,ag,kv,ns,gs,cs,rfl,_⟩:=h;rfl
 obtain⟨h,d,nv,ag,kv,ns,gs,cs,rfl,hh,hn,ln,l3,hnm,hd,one,hcs,q⟩:=h;have hu:=Cu hr;have hu9:=C1 hr;refine⟨_,(!Ae (!IE PassesOwn.never rfl (pv 1) (@An _ _ (2) _ G0.nd rfl (by trivial) (by trivial)) (!Ag (!AU (!AI (!AH (!Ak (Bd rfl) (by rfl) T.b_all Ca (!Aa (@Cc _ ["named","cells"] [none,some 1] _ _ _ _ _ _ _ _ _ _ _ rfl (!Bf (!Au Bu (by trivial) rfl (!Aa (!Au A3 (by trivial) rfl (!Aa (pv 1) (!Aa (pv 2) (!Ab)))) (!Ab)))) (by rfl) rfl (by repeat (first|exact trivial|refine⟨rfl,?_⟩)) (by repeat (first|exact trivial|refine⟨fun h=>(by first|exact⟨_,rfl⟩|cases h),?_⟩)) (fun C s H fp=>⟨(@An _ _ (0) _ (show(["named","cells"]:List Str).Nodup by decide +kernel) rfl (by trivial) (by trivial)),(!AB),(!LF (!LZ hu (pv 0) (pv 1)) (by first|exact Ez _ (by decide) (by decide)|rfl))⟩) (by intro _;rfl)) (!Ab))) (by intro _;rfl))) (!Ag (!Al (!A1))) (!Aw))) (by intro _;rfl)) (!Ag (!Al (!Ak (Bd rfl) (by rfl) T.b_all Ca (!Aa (@Cc _ ["named","cells"] [none,some 1] _ _ _ _ _ _ _ _ _ _ _ rfl (!Bb (!Am Ap (pv 0) (!Ac) (fun _ _=>rfl))) (by rfl) rfl (by repeat (first|exact trivial|refine⟨rfl,?_⟩)) (by repeat (first|exact trivial|refine⟨fun h=>(by first|exact⟨_,rfl⟩|cases h),?_⟩)) (fun C s H fp=>⟨(@An _ _ (0) _ (show(["named","cells"]:List Str).Nodup by decide +kernel) rfl (by trivial) (by trivial)),(!AB),(!A8 (!LF (!LZ hu (!Am (AQ (K:=K) (by rfl)) (pv 0) (!Ac) (fun _ _=>rfl)) (pv 1)) (by first|exact Ez _ (by decide) (by decide)|rfl)) (!Bq (!A5 Br (!Am (AQ (K:=K) (by rfl)) (!Au A3 (by trivial) rfl (!Aa (pv 1) (!Aa (!Am (AQ (K:=K) (by rfl)) (pv 0) (!Ac) (fun _ _=>rfl)) (!Ab)))) (!Ac) (fun _ _=>rfl)) (!AG rfl T.c_FOLDER) (AF _))))⟩) (by intro _;rfl)) (!Ab)))))),?_⟩
 try dsimp only[Cg,Cx.nox,Cx.wish]
 refine⟨_,rfl,d,_,rfl,hd,fun o=>?_⟩;have hf:(upd H d (.frz o (.dT (AS cs)))) d=some (.frz o (.dT (AS cs))):=Ad;have away:∀b u,H b=some u->b≠d->(upd H d (.frz o (.dT (AS cs)))) b=some u:=fun b u h z=>by rw[Aj z];exact h
 have tupf:∀c ys,H c=some (.tup ys)->(upd H d (.frz o (.dT (AS cs)))) c=some (.tup ys):=fun c ys h=>away c _ h (fun z=>by rw[z,hd] at h;cases h)
 have keep:∀c u,H c=some u->((∃xs,u=.lst xs)\/∃xs,u=.tup xs)->(upd H d (.frz o (.dT (AS cs)))) c=some u:=fun c u h z=>away c _ h fun y=>by
  rw[y,hd] at h;rcases z with⟨_,rfl⟩|⟨_,rfl⟩<;>cases h
 have hcf:∀c∈cs,E3 (upd H d (.frz o (.dT (AS cs)))) c:=fun c hc=>by
  obtain⟨a1,a2,a3,a4⟩:=hcs c hc;exact⟨tupf _ _ a1,CY keep _ _ a2,a3,CY keep _ _ a4⟩
 have back:∀H2,Ah (upd H d (.frz o (.dT (AS cs)))) H2->Ah H (upd H2 d (.dT (AS cs))):=fun H2 s2 b u h=>by
  by_cases z:b=d
  ·rw[z,Ad,<-hd,<-z];exact h
  ·rw[Aj z];exact s2.get (away b u h z)
 have nf:∀o u,H d≠some (.frz o u):=fun o u z=>by rw[hd] at z;cases z
 refine Ga nf (fun i σ H2=>∃v2,σ=[some (.ref h),some (.ref d),v2]/\Ah (upd H d (.frz o (.dT (AS cs)))) H2/\∀c∈cs.take i,(Cp c.b).all (FQ cs)=true) ⟨none,rfl,Ah.refl _,fun _ h=>nomatch h⟩ (fun i σ H2 _ ⟨_,_,s2,_⟩=>s2.get hf) ?_ ?_
 ·rintro i k v b σ H2 hk ⟨v2,rfl,s2,al⟩ hb
  obtain⟨c,hc,hm,rfl,rfl⟩:∃c,cs[i]?=some c/\c∈cs/\BC c.tg=k/\V.ref c.x=v:=by
   unfold AS at hk;rw[List.getElem?_map] at hk;cases e:cs[i]? with
   |none=>rw[e] at hk;cases hk
   |some r=>rw[e] at hk;cases hk;exact⟨r,rfl,List.mem_of_getElem? e,rfl,rfl⟩
  obtain⟨a1,a2,a3,a4⟩:=(hcf c hm).same s2;have g1:Cm H2 d (.ref b) (some (.ref c.x)):=.inr ⟨AS cs,BC c.tg,b,.inr ⟨o,s2.get hf⟩,rfl,hb,(D8 one hm).symm⟩;dsimp only[DE,J3];refine⟨_,rfl,_,rfl,d,b,c.x,_,_,rfl,g1,a1,rfl,c.v2,c.b,rfl,a2,a3,fun l us H3 s3 nl hl rus=>⟨l,rfl,⟨_,AR.of hl⟩,?_⟩⟩;have lu:=Aq.len _ _ rus;rw[List.length_map] at lu;have lt:(Cp c.b).length<=1000:=by
   cases hb:c.b with
   |piece z=>exact Nat.zero_le _
   |row lv ts=>rw[hb] at a3;have:=a3.2.1;show ts.length<=1000;omega
   |folder es=>rw[hb] at a3;have:=a3.1;show(es.map (·.tg)).length<=1000;rw[List.length_map];omega
  refine O1 ((Cp c.b).map (FQ cs)) (by rw[List.length_map];exact lu) (BZ (AR.of hl)) (by omega) (fun j u bb H4 R hu' hb' s4 hR=>?_) fun l5 H5 s5 h5=>?_
  ·obtain⟨t1,e1,r1⟩:=Aq.get rus hu';rw[List.getElem?_map] at e1 hb';cases eg:(Cp c.b)[j]? with
   |none=>rw[eg] at e1;cases e1
   |some g=>
    rw[eg] at e1 hb';cases e1;cases hb';obtain⟨ta,rfl,hta⟩:=Jd (Rep.same s4 _ _ r1);refine⟨_,rfl,_,rfl,d,_,rfl,.inr ⟨AS cs,BC g,ta,.inr ⟨o,s4.get (s3.get (s2.get hf))⟩,rfl,hta,rfl⟩,?_⟩;rw[Ov one];exact hR _ (Ah.refl _)
  have s25:=s2.trans (s3.trans s5);have ea:((Cp c.b).map (FQ cs)).all id=(Cp c.b).all (FQ cs):=by rw[List.all_map];rfl
  refine⟨l5,_,rfl,AR.of h5,_,rfl,?_⟩;rw[ea];cases hA:(Cp c.b).all (FQ cs) with
  |false=>
   refine Ao rfl ?_;refine⟨d,o,AS cs,nf,s25.get hf,?_⟩;have:Fl cs gs=false:=by
    have:(cs.all fun c=>(Cp c.b).all (FQ cs))=false:=by
     rw[List.all_eq_false];exact⟨c,hm,by rw[hA];exact Bool.false_ne_true⟩
    unfold Fl;rw[this];rfl
   have:=q _ (back _ s25);rw[‹Fl cs gs=false›] at this;exact this
  |true=>
   refine As rfl ?_;refine⟨_,rfl,s25,fun c' hc'=>?_⟩;rw[List.take_add_one,hc] at hc';rcases List.mem_append.mp hc' with z|z
   ·exact al c' z
   ·cases List.mem_singleton.mp z;exact hA
 ·rintro σ H2 ⟨v2,rfl,s2,al⟩
  have sB:=back H2 s2;have al':(cs.all fun c=>(Cp c.b).all (FQ cs))=true:=by
   rw[List.all_eq_true];refine fun c hc=>al c ?_
   rw[show(AS cs).length=cs.length from List.length_map ..,List.take_length];exact hc
  have e3:Fl cs gs=gs.all fun g=>cs.any fun c=>decide (c.tg=g)&&decide (kindB c.b=2):=by
   unfold Fl;rw[al'];rfl
  rw[e3] at q;have hd':(upd H2 d (.dT (AS cs))) d=some (.dT (AS cs)):=Ad;generalize upd H2 d (.dT (AS cs))=H3 at sB hd';dsimp only;refine⟨_,rfl,h,_,_,_,rfl,rfl,AE.of (sB.get hh),rfl,nv,rfl,⟨_,AE.of (sB.get hn)⟩,?_⟩;refine O1 (gs.map fun g=>cs.any fun c=>decide (c.tg=g)&&decide (kindB c.b=2)) (by rw[List.length_map];exact ln) (A2 (sB.get hn)) (by omega) (fun j u bb H4 R hu' hb' s4 hR=>?_) fun l5 H5 s5 h5=>?_
  ·rw[List.getElem?_map] at hb';cases eg:gs[j]? with
   |none=>rw[eg] at hb';cases hb'
   |some g=>
    rw[eg] at hb';cases hb';obtain⟨x,r,ta,rfl,hx,e4,hta⟩:=hnm j u g hu' eg;dsimp only at hR;have sA:=sB.trans s4;have g1:Cm H4 d (.ref ta) (BK (AS cs) (BC g)):=.t (s4.get hd') (k:=BC g) (sA.get hta);refine⟨_,rfl,x,r,_,_,rfl,rfl,AE.of (sA.get hx),e4,_,rfl,d,_,rfl,g1,_,rfl,?_⟩;rw[Ov one];cases hg:FQ cs g with
    |false=>
     refine As rfl ?_;have:(cs.any fun c=>decide (c.tg=g)&&decide (kindB c.b=2))=false:=by
      rw[List.any_eq_false];intro c hc z;rw[Bool.and_eq_true] at z;have:FQ cs g=true:=List.any_eq_true.mpr ⟨c,hc,z.1⟩;rw[hg] at this;cases this
     rw[this] at hR;exact hR _ (Ah.refl _)
    |true=>
     refine Ao rfl ?_;obtain⟨c,hc,ec⟩:=List.any_eq_true.mp hg;cases of_decide_eq_true ec;obtain⟨a1,a2,a3,a4⟩:=(hcs c hc).same sA;obtain⟨y,ys,ey,hy⟩:=Mh a2;have ee:(cs.any fun c'=>decide (c'.tg=c.tg)&&decide (kindB c'.b=2))=decide (kindB c.b=2):=by
      cases cs with
      |nil=>cases hc
      |cons c' r=>
       have e0:r=[]:=List.length_eq_zero_iff.mp (by have:r.length+1<=1:=one;omega);subst e0;cases List.mem_singleton.mp hc;simp
     rw[ee] at hR;rw[D8 one hc] at g1;refine⟨_,rfl,_,rfl,x,r,_,_,rfl,rfl,AE.of (sA.get hx),e4,d,ta,c.x,_,_,rfl,g1,a1,rfl,?_⟩;refine⟨y,_,_,_,ey,rfl,AE.of hy,Mw,rfl,?_⟩;rw[EW,show(kindB c.b == 2)=decide (kindB c.b=2) from rfl];exact hR _ (Ah.refl _)
  refine⟨l5,_,rfl,AR.of h5,?_⟩;have:=q _ (sB.trans s5);rw[show((gs.map fun g=>cs.any fun c=>decide (c.tg=g)&&decide (kindB c.b=2)).all id)=gs.all fun g=>cs.any fun c=>decide (c.tg=g)&&decide (kindB c.b=2) by rw[List.all_map];rfl];exact this
end
end B
namespace B
section
variable {P:Program}{w:World}{K:W.Frag}{mg:Str->Option Value}{base:Heap}{f:Addr}{fd:FuncData}
theorem HU {cs:List Ce}(one:cs.length<=1){c:Ce}(h:c∈cs):cs=[c]:=by
 match cs,one,h with
 |[c'],_,h=>rw[List.mem_singleton.mp h]
 |_::_::_,one,_=>simp at one
theorem Nv {cs:List Ce}{i:Nat}{k:List Key}{v:V}(hk:(AS cs)[i]?=some (k,v)):∃c,cs[i]?=some c/\c∈cs/\BC c.tg=k/\V.ref c.x=v:=by
 unfold AS at hk;rw[List.getElem?_map] at hk;cases e:cs[i]? with
 |none=>rw[e] at hk;cases hk
 |some r=>rw[e] at hk;cases hk;exact⟨r,rfl,List.mem_of_getElem? e,rfl,rfl⟩
theorem Re {c:Ce}(ok:IB c.b):(Cp c.b).length<=1000:=by
 cases hb:c.b with
 |piece z=>exact Nat.zero_le _
 |row lv ts=>rw[hb] at ok;have:=ok.2.1;show ts.length<=1000;omega
 |folder es=>rw[hb] at ok;have:=ok.1;show(es.map (·.tg)).length<=1000;rw[List.length_map];omega
theorem QN {H:Hp}{d:Addr}{kvs:List (List Key×V)}(o:Obj)(hd:H d=some (.dT kvs)):∀c u,H c=some u->((∃xs,u=.lst xs)\/∃xs,u=.tup xs)->(upd H d (.frz o (.dT kvs))) c=some u:=fun c u h z=>by
 rw[Aj fun y=>?_]
 ·exact h
 ·rw[y,hd] at h;rcases z with⟨_,rfl⟩|⟨_,rfl⟩<;>cases h
theorem Ey {H:Hp}{d:Addr}{kvs:List (List Key×V)}{o:Obj}(hd:H d=some (.dT kvs)):∀H2,Ah (upd H d (.frz o (.dT kvs))) H2->Ah H (upd H2 d (.dT kvs)):=fun H2 s2 b u h=>by
 by_cases z:b=d
 ·rw[z,Ad,<-hd,<-z];exact h
 ·rw[Aj z];exact s2.get (by rw[Aj z];exact h)
theorem JL {H:Hp}{d:Addr}{kvs:List (List Key×V)}(o:Obj)(hd:H d=some (.dT kvs)){c:Ce}(h:E3 H c):E3 (upd H d (.frz o (.dT kvs))) c:=by
 have keep:=QN o hd;obtain⟨a1,a2,a3,a4⟩:=h;exact⟨keep _ _ a1 (.inr ⟨_,rfl⟩),CY keep _ _ a2,a3,CY keep _ _ a4⟩
theorem Rn {α:Type}(n:Int):∀(us:List α),us≠[]->Ls (us.map fun _=>n)=n
 |[],h=>absurd rfl h
 |_::us,_=>by
  show(us.map fun _=>n).foldl (fun a b=>if a<b then b else a) n=n
  induction us with
  |nil=>rfl
  |cons u us ih=>
   show(us.map fun _=>n).foldl (fun a b=>if a<b then b else a) (if n<n then n else n)=n;rw[if_neg (Int.lt_irrefl n)];exact ih (List.cons_ne_nil _ _)
def KL (cs:List Ce):Bool:=cs.all fun c=>decide (Cp c.b=[])&&decide (c.hh=0)
def DU (K:W.Frag):Sp:=fun vs H Q _=>∃(d:Addr) (cs:List Ce),vs=[.ref d]/\H d=some (.dT (AS cs))/\cs.length<=1/\(∀c∈cs,E3 H c)/\(∀c∈cs,(Cp c.b).all (FQ cs)=true)/\∀H',Ah H H'->Q (.bl (KL cs)) H'
theorem IW (T:Txt K mg)(F:Fun K "fit_heights" "fit_heights" BV f fd)(Bu:Def P w K mg base 1 "tags_in" ["block"] (Dj K))(A3:Def P w K mg base 1 "block_in" ["cells","tag"] (B7 K)):FnOk P w K mg base CP 2 f fd ["cells"] (DU K):=by
 exists D4
 ·obtain⟨d,cs,rfl,_⟩:=h;rfl
 obtain⟨d,cs,rfl,hd,one,hcs,hin,q⟩:=h;have hu:=Cu hr;have hu9:=C1 hr;refine⟨_,(!Ae (!IE PassesOwn.never rfl (pv 0) (@An _ _ (1) _ D4.nd rfl (by trivial) (by trivial)) (!Ae (@IJ _ ["named","cells"] [none,some 0] (2) _ _ _ _ _ _ _ _ _ _ _ _ _ _ D4.nd rfl (by trivial) rfl (!Bf (!Au Bu (by trivial) rfl (!Aa (!Au A3 (by trivial) rfl (!Aa (pv 0) (!Aa (pv 1) (!Ab)))) (!Ab)))) (by rfl) rfl (by repeat (first|exact trivial|refine⟨rfl,?_⟩)) (by repeat (first|exact trivial|refine⟨fun h=>(by first|exact⟨_,rfl⟩|cases h),?_⟩)) (fun C s H fp=>⟨(@An _ _ (0) _ (show(["named","cells"]:List Str).Nodup by decide +kernel) rfl (by trivial) (by trivial)),(!AB),(!Am (AQ (K:=K) (by rfl)) (!DI hu (pv 1) (pv 0) (fun _ _=>rfl)) (!Ac) (fun _ _=>rfl))⟩) (by intro _;rfl) (by rfl) (by trivial)) (!Ag (!AU (!AO MK (!Am Ap (!DI hu (pv 0) (pv 1) (fun _ _=>rfl)) (!Ac) (fun _ _=>rfl)) (!AK Cq (!Ac) (!SE rfl (by rfl) T.b_max (!Aa (pv 2) (!Ab)) (!T6 Rc (!Ac)))) (AF _)) (!Ag (!Al (!A1))) (!Aw)))) (by intro _;rfl)) (!Ag (!Al (!A1)))),?_⟩
 try dsimp only[Cg,Cx.nox,Cx.wish]
 refine⟨_,rfl,d,_,rfl,hd,fun o=>?_⟩;have hf:(upd H d (.frz o (.dT (AS cs)))) d=some (.frz o (.dT (AS cs))):=Ad;have nf:∀o u,H d≠some (.frz o u):=fun o u z=>by rw[hd] at z;cases z
 refine Ga nf (fun i σ H2=>∃v1 v2,σ=[some (.ref d),v1,v2]/\Ah (upd H d (.frz o (.dT (AS cs)))) H2/\∀c∈cs.take i,Cp c.b=[]/\c.hh=0) ⟨none,none,rfl,Ah.refl _,fun _ h=>nomatch h⟩ (fun i σ H2 _ ⟨_,_,_,s2,_⟩=>s2.get hf) ?_ ?_
 ·rintro i k v b σ H2 hk ⟨v1,v2,rfl,s2,al⟩ hb
  obtain⟨c,hc,hm,rfl,rfl⟩:=Nv hk;obtain⟨a1,a2,a3,a4⟩:=(JL o hd (hcs c hm)).same s2;have ec:=HU one hm;have g1:Cm H2 d (.ref b) (some (.ref c.x)):=.inr ⟨AS cs,BC c.tg,b,.inr ⟨o,s2.get hf⟩,rfl,hb,(D8 one hm).symm⟩;refine⟨_,rfl,_,rfl,d,b,c.x,_,_,rfl,g1,a1,rfl,c.v2,c.b,rfl,a2,a3,fun l us H3 s3 nl hl rus=>⟨l,rfl,⟨_,AR.of hl⟩,?_⟩⟩;have lu:=Aq.len _ _ rus;rw[List.length_map] at lu;have lt:=Re a3;refine comp_map (fun _=>V.int c.hh) (BZ (AR.of hl)) (by omega) (fun u H4 R hu' s4 hR=>?_) fun l5 H5 n5 s5 h5=>?_
  ·obtain⟨j,hj⟩:=List.getElem?_of_mem hu';obtain⟨t1,e1,r1⟩:=Aq.get rus hj;rw[List.getElem?_map] at e1;cases eg:(Cp c.b)[j]? with
   |none=>rw[eg] at e1;cases e1
   |some g=>
    rw[eg] at e1;cases e1;obtain⟨ta,rfl,hta⟩:=Jd (Rep.same s4 _ _ r1);have hg:=List.all_eq_true.mp (hin c hm) g (List.mem_of_getElem? eg);rw[ec] at hg;have eg2:c.tg=g:=by simpa [FQ] using hg
    have s34:=s3.trans s4;have g2:Cm H4 d (.ref ta) (some (.ref c.x)):=.inr ⟨AS cs,BC c.tg,ta,.inr ⟨o,s34.get (s2.get hf)⟩,rfl,by rw[eg2];exact hta,(D8 one hm).symm⟩;exact⟨_,rfl,_,rfl,d,_,rfl,g2,c.x,_,_,_,rfl,rfl,AE.of (s34.get a1),rfl,hR _ (Ah.refl _)⟩
  have em:us.map (fun _=>V.int c.hh)=(us.map fun _=>c.hh).map V.int:=by rw[List.map_map];rfl
  rw[em] at h5;have s35:=s3.trans s5;have g5:Cm H5 d (.ref b) (some (.ref c.x)):=.inr ⟨AS cs,BC c.tg,b,.inr ⟨o,s35.get (s2.get hf)⟩,rfl,s35.get hb,(D8 one hm).symm⟩;dsimp only[A4,DE];refine⟨_,rfl,_,rfl,d,_,rfl,g5,c.x,_,_,_,rfl,rfl,AE.of (s35.get a1),rfl,_,rfl,_,rfl,l5,us.map (fun _=>c.hh),-1,rfl,rfl,AR.of h5,?_⟩;have key:decide (V.int c.hh=V.int (1+if us.map (fun _=>c.hh)=[] then -1 else Ls (us.map fun _=>c.hh)))=(decide (Cp c.b=[])&&decide (c.hh=0)):=by
   rw[EW]
   by_cases e0:Cp c.b=[]
   ·have u0:us=[]:=List.length_eq_zero_iff.mp (by rw[lu,e0];rfl);subst u0;rw[decide_eq_true e0];rfl
   ·have u0:us≠[]:=fun z=>e0 (List.length_eq_zero_iff.mp (by rw[<-lu,z];rfl))
    rw[decide_eq_false e0,if_neg (fun z=>u0 (List.map_eq_nil_iff.mp z)),Rn _ _ u0];rw[beq_eq_false_iff_ne.mpr (by omega)];rfl
  refine⟨_,_,rfl,rfl,rfl,_,rfl,?_⟩;dsimp only;rw[key];cases hA:(decide (Cp c.b=[])&&decide (c.hh=0)) with
  |false=>
   refine Ao rfl ?_;refine⟨d,o,AS cs,nf,s35.get (s2.get hf),?_⟩;have e1:KL cs=false:=by rw[ec];unfold KL;rw[List.all_cons,hA];rfl
   have:=q _ (Ey hd _ (s2.trans s35));rw[e1] at this;exact this
  |true=>
   refine As rfl ⟨_,_,rfl,s2.trans s35,fun c' hc'=>?_⟩;rw[Bool.and_eq_true,decide_eq_true_eq,decide_eq_true_eq] at hA;rw[ec] at hc';have:=List.mem_of_mem_take hc';rw[List.mem_singleton.mp this];exact hA
 ·rintro σ H2 ⟨v1,v2,rfl,s2,al⟩
  have e1:KL cs=true:=by
   unfold KL;rw[List.all_eq_true];intro c hc;obtain⟨e1,e2⟩:=al c (by rw[show(AS cs).length=cs.length from List.length_map ..,List.take_length];exact hc);rw[decide_eq_true e1,decide_eq_true e2];rfl
  have:=q _ (Ey hd H2 s2);rw[e1] at this;exact this
end
section
variable {P:Program}{w:World}{K:W.Frag}{mg:Str->Option Value}{base:Heap}{f:Addr}{fd:FuncData}{PT PU:Addr}
abbrev BQ:Str:=PySem.Str.ofString "by_heights"++PySem.Str.ofString ".<locals>."++PySem.Str.ofString "<lambda>"
abbrev BP:Pos:=⟨211,29,211,54⟩
def Cs (K:W.Frag)(PU:Addr):Sp:=fun vs H Q _=>∃(d:Addr) (cs:List Ce),vs=[.ref d]/\H d=some (.dT (AS cs))/\cs.length<=1/\(∀c∈cs,E3 H c)/\BJ PU BQ BP H/\
 ∀(bs:List Addr) p H',bs.length=cs.length->(∀(i:Nat) c b,cs[i]?=some c->bs[i]?=some b->H' b=some (.tup ((BC c.tg).map kV)))->Bh PU H H'->BJ PU BQ BP H'->H' p=some (.lst (bs.map V.ref))->Q (.ref p) H'
theorem J5 (T:Txt K mg)(F:Fun K "by_heights" "by_heights" Ck f fd)(LA:LamAt K mg base fd.code PU):FnOk P w K mg base CP 1 f fd ["cells"] (Cs K PU):=by
 refine F.okC J2 (fun vs H Q E h=>?_) (fun cdv A outer s H vs Q E hcd hr h=>?_)
 ·obtain⟨d,cs,rfl,_⟩:=h;rfl
 subst hcd;obtain⟨d,cs,rfl,hd,one,hcs,tb,q⟩:=h;refine⟨_,(!Ag (!Al (@PV _ _ _ _ _ _ _ (0) (3) _ _ _ _ _ _ _ _ _ _ _ _ (hr.mono (Nat.le_refl _)) ⟨fun _ _ _ _ _ _ _=>rfl,fun _=>rfl,rfl,rfl,rfl,rfl,by decide,by decide,by decide,by decide⟩ rfl rfl LA (by decide) rfl rfl rfl T.b_sorted (!Aa (pv 0) (!Ab)) (by rfl) (by rfl)))),?_⟩
 try dsimp only[Cg,Cx.nox,Cx.wish]
 refine⟨_,rfl,d,AS cs,rfl,rfl,hd,by rw[show(AS cs).length=cs.length from List.length_map ..];exact one,fun kv hkv=>?_,tb,fun bs p H2 lb hbs st tb2 np=>?_⟩
 ·obtain⟨c,hc,rfl⟩:=List.mem_map.mp hkv;exact⟨D8 one hc,c.x,_,.int c.hh,rfl,(hcs c hc).1,rfl⟩
 ·have s3:=Ai np (.lst (bs.map V.ref));refine q bs p _ (lb.trans (List.length_map ..)) (fun i c b e1 e2=>s3.get (hbs i (BC c.tg) (.ref c.x) b ?_ e2)) (st.trans (s3.t PU)) (tb2.same s3) Ad;unfold AS;rw[List.getElem?_map,e1];rfl
theorem Qx {H:Hp}{v:V}(h:Rep NL H (GR (.folder [])) v):∃x y,v=.ref x/\H x=some (.tup [.int 2,.ref y])/\H y=some (.tup []):=by
 obtain⟨x,us,rfl,hx,v1,us1,rfl,r1,v2,us2,rfl,r2,rfl⟩:=h;obtain⟨y,ws,rfl,hy,rfl⟩:=r2;cases r1;exact⟨x,y,rfl,hx,hy⟩
def EV (K:W.Frag):Sp:=fun vs H Q _=>∃(d:Addr) (cs:List Ce),vs=[.ref d]/\H d=some (.dT (AS cs))/\cs.length<=1/\(∀c∈cs,E3 H c)/\(∀c∈cs,c.b=.folder [])/\∀H',Ah H H'->Q (.bl true) H'
theorem La (T:Txt K mg)(F:Fun K "fit_kinds" "fit_kinds" CK f fd)(A3:Def P w K mg base 1 "block_in" ["cells","tag"] (B7 K)):FnOk P w K mg base CP 2 f fd ["cells"] (EV K):=by
 exists Fg
 ·obtain⟨d,cs,rfl,_⟩:=h;rfl
 obtain⟨d,cs,rfl,hd,one,hcs,hem,q⟩:=h;have hu:=Cu hr;have hu9:=C1 hr;refine⟨_,(!Ae (!IE PassesOwn.never rfl (pv 0) (@An _ _ (1) _ Fg.nd rfl (by trivial) (by trivial)) (!Ae (@A7 _ _ (2) _ _ _ _ Fg.nd rfl (by trivial) (!Au A3 (by trivial) rfl (!Aa (pv 0) (!Aa (pv 1) (!Ab)))) (by rfl) (by trivial)) (!Ae (!AU (@PW.pt _ _ _ (!K3 (!AO Br (!Am Ap (pv 2) (!Ac) (fun _ _=>rfl)) (!AG rfl T.c_ROW) (AF _)) (!IK (!AI (!S3))))) (!Ag (!Al (!A1))) (!Aw)) (!Ag (!AU (@PW.pt _ _ _ (!K3 (!AO Br (!Am Ap (pv 2) (!Ac) (fun _ _=>rfl)) (!AG rfl T.c_FOLDER) (AF _)) (!IK (!AI (!AH (!Ak (Bd rfl) (by rfl) T.b_all Ca (!Aa (@Cc _ ["entry","cells"] [none,some 0] _ _ _ _ _ _ _ _ _ _ _ rfl (!Bb (!Am Ap (pv 2) (!Ac) (fun _ _=>rfl))) (by rfl) rfl (by repeat (first|exact trivial|refine⟨rfl,?_⟩)) (by repeat (first|exact trivial|refine⟨fun h=>(by first|exact⟨_,rfl⟩|cases h),?_⟩)) (fun C s H fp=>⟨(@An _ _ (0) _ (show(["entry","cells"]:List Str).Nodup by decide +kernel) rfl (by trivial) (by trivial)),(!AB),(!II)⟩) (by intro _;rfl)) (!Ab))) (by intro _;rfl)))))) (!Ag (!Al (!A1))) (!Aw))))) (by intro _;rfl)) (!Ag (!Al (!A1)))),?_⟩
 try dsimp only[Cg,Cx.nox,Cx.wish]
 refine⟨_,rfl,d,_,rfl,hd,fun o=>?_⟩;have hf:(upd H d (.frz o (.dT (AS cs)))) d=some (.frz o (.dT (AS cs))):=Ad;have nf:∀o u,H d≠some (.frz o u):=fun o u z=>by rw[hd] at z;cases z
 refine Ga nf (fun i σ H2=>∃v1 v2,σ=[some (.ref d),v1,v2]/\Ah (upd H d (.frz o (.dT (AS cs)))) H2) ⟨none,none,rfl,Ah.refl _⟩ (fun i σ H2 _ ⟨_,_,_,s2⟩=>s2.get hf) ?_ fun σ H2 ⟨v1,v2,e,s2⟩=>by subst e;exact q _ (Ey hd H2 s2)
 rintro i k v b σ H2 hk ⟨v1,v2,rfl,s2⟩ hb
 obtain⟨c,hc,hm,rfl,rfl⟩:=Nv hk;obtain⟨a1,a2,a3,a4⟩:=(JL o hd (hcs c hm)).same s2;rw[hem c hm] at a2;obtain⟨x,y,ev,hx,hy⟩:=Qx a2;have g1:Cm H2 d (.ref b) (some (.ref c.x)):=.inr ⟨AS cs,BC c.tg,b,.inr ⟨o,s2.get hf⟩,rfl,hb,(D8 one hm).symm⟩;dsimp only[A4,DE];refine⟨_,rfl,_,rfl,d,b,c.x,_,_,rfl,g1,a1,rfl,?_⟩;rw[ev];dsimp only[A4,CB,DE,VG];refine⟨_,rfl,x,_,_,_,rfl,rfl,AE.of hx,rfl,rfl,_,rfl,As rfl (As rfl ?_)⟩;refine⟨_,rfl,x,_,_,_,rfl,rfl,AE.of hx,rfl,rfl,_,rfl,Ao rfl ?_⟩;refine⟨_,rfl,x,_,_,_,rfl,rfl,AE.of hx,rfl,y,rfl,⟨_,AE.of hy⟩,?_⟩;refine comp_map (fun _=>V.non) (A2 hy) (by show 0<=1000000;decide) (fun u H4 R hu' s4 hR=>nomatch hu') fun l5 H5 n5 s5 h5=>?_
 refine⟨l5,[],rfl,AR.of h5,_,rfl,As rfl ?_⟩;exact⟨_,_,rfl,s2.trans s5⟩
end
end B
namespace B
section
variable {P:Program}{w:World}{K:W.Frag}{mg:Str->Option Value}{base:Heap}{f:Addr}{fd:FuncData}{PT PU:Addr}
theorem val_one (k:List Key)(v:V):BK [(k,v)] k=some v:=by simp[BK]
theorem TC (k:List Key)(v u:V):putK [(k,v)] k u=[(k,u)]:=by simp[putK]
theorem IF {X:Cx} {d:Addr} {o:Obj} {cs:List Ce} {fr:List (Option Nat)} {k:Nat} {te:TE} {σ:St} {H:Hp} {Q:VK} (hd:H d=some (.dT (AS cs))) (nf:∀o u,X.H₀ d≠some (.frz o u)) (one:cs.length<=1) (Pv:Addr->V->Hp->Prop)
  (hPl:∀b v H1 l us us',Pv b v H1->H1 l=some (.lst us)->Pv b v (upd H1 l (.lst us'))) (hPd:∀b v H1,Pv b v H1->H1 d=some (.frz o (.dT (AS cs)))->Pv b v (upd H1 d (.dT (AS cs))))
  (elt:∀c b H' (R:VK),c∈cs->Ah (upd H d (.frz o (.dT (AS cs)))) H'->H' b=some (.tup ((BC c.tg).map kV))->(∀y H'',Ah H' H''->Pv b y H''->R y H'')->te ((stC fr σ).set k (some (.ref b))) H' R)
  (fin:∀l ys H',Ah H H'->H' l=some (.lst ys)->ys.length=cs.length->(∀(i:Nat) c y,cs[i]?=some c->ys[i]?=some y->∃b,H' b=some (.tup ((BC c.tg).map kV))/\Pv b y H')->Q (.ref l) H') :
  Dd fr (A4 k) MV te σ (fun x H'=>∃d o kvs,(∀o u,X.H₀ d≠some (.frz o u))/\H' d=some (.frz o (.dT kvs))/\Q x (upd H' d (.dT kvs))) (Vl d o (AS cs)) (upd H d (.frz o (.dT (AS cs)))):=by
 have hf:(upd H d (.frz o (.dT (AS cs)))) d=some (.frz o (.dT (AS cs))):=Ad;have lk:(AS cs).length=cs.length:=List.length_map ..;have nl:∀{l},(upd H d (.frz o (.dT (AS cs)))) l=none->l≠d:=fun{l} hl z=>by rw[z,hf] at hl;cases hl
 refine NP hf (by omega) (fun e l hl=>?_) fun ky v b l R e hl hb hR=>?_
 ·refine⟨d,o,AS cs,nf,by rw[Aj (Ne.symm (nl hl))];exact hf,fin l [] _ (Ey hd _ (Ai hl _)) ?_ (by rw[List.map_eq_nil_iff.mp e];rfl) fun _ _ _ _ z=>by simp at z⟩;rw[Aj (nl hl)];exact Ad
 ·obtain⟨c,ec,rfl,rfl⟩:∃c,cs=[c]/\BC c.tg=ky/\V.ref c.x=v:=by
   match cs,one,e with
   |[c],_,e=>injection e with e _;injection e with e1 e2;exact⟨c,rfl,e1,e2⟩
   |_::_::_,one,_=>simp at one
  have sn:=Ai hl (.lst []);refine elt c b _ R (by rw[ec];exact List.mem_singleton.mpr rfl) sn (sn.get hb) fun y H4 s4 pv=>?_
  have hl4:=s4.get (Ad (H:=upd H d (.frz o (.dT (AS cs)))) (a:=l) (o:=.lst []));have hd4:=s4.get (sn.get hf);have hd5:(upd H4 l (.lst [y])) d=some (.frz o (.dT (AS cs))):=by rw[Aj (Ne.symm (nl hl))];exact hd4
  have nb:b≠d:=fun z=>by rw[z,hf] at hb;cases hb
  have nbl:b≠l:=fun z=>by rw[z,hl] at hb;cases hb
  refine hR y H4 hl4 hd4 ⟨d,o,AS cs,nf,hd5,fin l [y] _ (Ey hd _ (B4 (sn.trans s4) hl _)) ?_ (by rw[ec];rfl) fun i c' y' e1 e2=>?_⟩
  ·rw[Aj (nl hl)];exact Ad
  ·rw[ec] at e1;cases i with
   |succ i=>simp at e1
   |zero=>
    cases e1;cases e2;exact⟨b,by rw[Aj nb,Aj nbl];exact s4.get (sn.get hb),hPd _ _ _ (hPl _ _ _ _ _ _ pv hl4) hd5⟩
def GD (cs:List Ce)(ws:List V):List (List Key×V):=(cs.zip ws).map fun p=>(BC p.1.tg,p.2)
theorem L0 {K:W.Frag} {cs:List Ce} {Q:VK} {l:Addr} {ys:List V} {H':Hp} (Pw:V->Prop) (h:H' l=some (.lst ys)) (ly:ys.length=cs.length) (one:cs.length<=1)
  (pv:∀(i:Nat) c y,cs[i]?=some c->ys[i]?=some y->∃b,H' b=some (.tup ((BC c.tg).map kV))/\∃t w,y=.ref t/\H' t=some (.tup [.ref b,w])/\Pw w)
  (q:∀e ws,ws.length=cs.length->(∀w∈ws,Pw w)->H' e=none->Q (.ref e) (upd H' e (.dT (GD cs ws)))):Q8 K [.ref l] H' Q:=by
 match cs,ys,one,ly with
 |[],[],_,_=>exact⟨l,[],[],rfl,AR.of h,rfl,by decide,List.nodup_nil,(fun _ _ _ _ z=>by simp at z),fun e ne=>q e [] rfl (fun _ z=>nomatch z) ne⟩
 |[c],[y],_,_=>
  obtain⟨b,hb,t,w,rfl,ht,hw⟩:=pv 0 c y rfl rfl;refine⟨l,[t],[(BC c.tg,w)],rfl,AR.of h,rfl,by show 1<=100000;decide,List.pairwise_singleton _ _,(fun i t' k v e1 e2=>?_),fun e ne=>q e [w] rfl (fun w' z=>by rw[List.mem_singleton.mp z];exact hw) ne⟩;cases i with
  |succ i=>simp at e1
  |zero=>cases e1;cases e2;exact⟨b,ht,hb⟩
 |_::_::_,_,one,_=>simp at one
def IV (cs:List Ce)(n:Int):List (List Key×V):=cs.map fun c=>(BC c.tg,.int n)
def Em (K:W.Frag):Sp:=fun vs H Q _=>∃(h d:Addr) (ag:Int) (k n:Addr) (ps:List (Addr×K67.En)) (cs:List Ce),vs=[.ref h,.ref d]/\HeadAt H h ag k n ps/\ps.length<=100/\H d=some (.dT (AS cs))/\cs.length<=1/\(∀c∈cs,E3 H c)/\(∀c∈cs,c.b=.folder [])/\
 (∀p∈ps,FQ cs p.2.tg=true)/\∀H',Ah H H'->Q (.bl (cs.all fun c=>decide (c.kk=(ps.length:Int)))) H'
theorem JW (T:Txt K mg)(F:Fun K "fit_counts" "fit_counts" Cj f fd)(Bu:Def P w K mg base 1 "tags_in" ["block"] (Dj K))(A3:Def P w K mg base 1 "block_in" ["cells","tag"] (B7 K)):FnOk P w K mg base CP 2 f fd ["head","cells"] (Em K):=by
 exists Cw
 ·obtain⟨h,d,ag,k,n,ps,cs,rfl,_⟩:=h;rfl
 obtain⟨h,d,ag,k,n,ps,cs,rfl,hh,few,hd,one,hcs,hem,hin,q⟩:=h;have hu:=Cu hr;have hu9:=C1 hr;refine⟨_,(!Ae (@A7 _ _ (2) _ _ _ _ Cw.nd rfl (by trivial) (!A9 (Gp (K:=K) (by rfl) hu9 rfl) (by rfl) T.b_dict G6 (!Aa (!IL (@AV _ ["tag"] _ _ _ _ _ _ _ _ _ _ rfl (!FF (pv 1)) (by decide +kernel) (fun C s H fp=>⟨(@An _ _ (0) _ (show(["tag"]:List Str).Nodup by decide +kernel) rfl (by trivial) (by trivial)),(!AB),(!Av (!Aa (pv 0) (!Aa (!Ac) (!Ab))))⟩) (by intro _;rfl))) (!Ab))) (by rfl) (by trivial)) (!Ae (!IE PassesOwn.never rfl (pv 1) (@An _ _ (3) _ Cw.nd rfl (by trivial) (by trivial)) (!Ag (!CA PassesOwn.never rfl (!Bf (!Au Bu (by trivial) rfl (!Aa (!Au A3 (by trivial) rfl (!Aa (pv 1) (!Aa (pv 3) (!Ab)))) (!Ab)))) (@An _ _ (4) _ Cw.nd rfl (by trivial) (by trivial)) (!Ag (!DG)) (by intro _;rfl))) (by intro _;rfl)) (!Ae (!CA PassesOwn.never rfl (!Bb (!Am Ap (pv 0) (!Ac) (fun _ _=>rfl))) (@An _ _ (4) _ Cw.nd rfl (by trivial) (by trivial)) (!Ag (!TH hu (pv 2) (!Am Ap (pv 4) (!Ac) (fun _ _=>rfl)) (!Ac) TF (fun _ _ _=>rfl))) (by intro _;rfl)) (!Ag (!Al (!Ak (Bd rfl) (by rfl) T.b_all Ca (!Aa (!IL (@Cc _ ["tag","counts","cells"] [none,some 2,some 1] _ _ _ _ _ _ _ _ _ _ _ rfl (!FF (pv 1)) (by rfl) rfl (by repeat (first|exact trivial|refine⟨rfl,?_⟩)) (by repeat (first|exact trivial|refine⟨fun h=>(by first|exact⟨_,rfl⟩|cases h),?_⟩)) (fun C s H fp=>⟨(@An _ _ (0) _ (show(["tag","counts","cells"]:List Str).Nodup by decide +kernel) rfl (by trivial) (by trivial)),(!AB),(!A5 Br (!Am (AQ (K:=K) (by rfl)) (!DI hu (pv 2) (pv 0) (fun _ _=>rfl)) (!Ac) (fun _ _=>rfl)) (!DI hu (pv 1) (pv 0) (fun _ _=>rfl)) (AF _))⟩) (by intro _;rfl))) (!Ab)))))))),?_⟩
 try dsimp only[Cg,Cx.nox,Cx.wish]
 have nf:∀o u,H d≠some (.frz o u):=fun o u z=>by rw[hd] at z;cases z
 have lk:(AS cs).length<=1:=by rw[show(AS cs).length=cs.length from List.length_map ..];exact one
 refine⟨_,rfl,d,_,rfl,hd,fun o=>?_⟩;refine IF hd nf one (fun b y H1=>∃t,y=.ref t/\H1 t=some (.tup [.ref b,.int 0])) (fun b v H1 l us us' ⟨t,e,ht⟩ hl=>⟨t,e,by rw[Aj fun z=>by rw[z,hl] at ht;cases ht];exact ht⟩) (fun b v H1 ⟨t,e,ht⟩ hl=>⟨t,e,by rw[Aj fun z=>by rw[z,hl] at ht;cases ht];exact ht⟩) (fun c b H1 R hc s1 hb hR=>?_) fun l ys H1 s1 h1 ly hy=>?_
 ·exact⟨_,rfl,Ms,fun t nt=>hR _ _ (Ai nt _) ⟨t,rfl,Ad⟩⟩
 refine L0 (fun w=>w=.int 0) h1 ly one (fun i c y e1 e2=>?_) fun e ws lw hw ne=>?_
 ·obtain⟨b,hb,t,e,ht⟩:=hy i c y e1 e2;exact⟨b,hb,t,_,e,ht,rfl⟩
 have ek:GD cs ws=IV cs 0:=by
  match cs,ws,one,lw with
  |[],[],_,_=>rfl
  |[c],[w],_,_=>rw[hw w (List.mem_singleton.mpr rfl)];rfl
  |_::_::_,_,one,_=>simp at one
 rw[ek];have nH:H e=none:=by
  cases z:H e with
  |none=>rfl
  |some u=>rw[s1.get z] at ne;cases ne
 have s2:=s1.trans (Ai ne (.dT (IV cs 0)));have he2:(upd H1 e (.dT (IV cs 0))) e=some (.dT (IV cs 0)):=Ad;generalize upd H1 e (.dT (IV cs 0))=H2 at s2 he2;have hd2:=s2.get hd;dsimp only[A4,CB];refine⟨_,rfl,d,_,rfl,hd2,fun o2=>?_⟩;have hf2:(upd H2 d (.frz o2 (.dT (AS cs)))) d=some (.frz o2 (.dT (AS cs))):=Ad;refine Ga nf (fun i σ H3=>∃v3 v4,σ=[some (.ref h),some (.ref d),some (.ref e),v3,v4]/\Ah (upd H2 d (.frz o2 (.dT (AS cs)))) H3) ⟨none,none,rfl,Ah.refl _⟩ (fun i σ H3 _ ⟨_,_,_,s3⟩=>s3.get hf2) ?_ ?_
 ·rintro i k v b σ H3 hk ⟨v3,v4,rfl,s3⟩ hb
  obtain⟨c,hc,hm,rfl,rfl⟩:=Nv hk;obtain⟨a1,a2,a3,a4⟩:=(JL o2 hd2 ((hcs c hm).same s2)).same s3;have g1:Cm H3 d (.ref b) (some (.ref c.x)):=.inr ⟨AS cs,BC c.tg,b,.inr ⟨o2,s3.get hf2⟩,rfl,hb,(D8 one hm).symm⟩;refine⟨_,rfl,_,rfl,d,b,c.x,_,_,rfl,g1,a1,rfl,c.v2,c.b,rfl,a2,a3,fun l us H4 s4 nl hl rus=>⟨l,rfl,⟨_,AR.of hl⟩,?_⟩⟩;have u0:us=[]:=by
   rw[hem c hm] at rus;exact rus
  subst u0;refine⟨fun i m σ' H'=>i=0/\σ'=[some (.ref h),some (.ref d),some (.ref e),some (.ref b),v4]/\H'=H4,⟨0,rfl,rfl,rfl⟩,?_⟩
  rintro i m σ H5 ⟨rfl,rfl,rfl⟩
  exact .inl ⟨⟨[],AR.of hl,Nat.le_refl _⟩,_,_,rfl,s3.trans s4⟩
 rintro σ H3 ⟨v3,v4,rfl,s3⟩
 have sB:=s2.trans (Ey hd2 H3 s3);have heB:(upd H3 d (.dT (AS cs))) e=some (.dT (IV cs 0)):=by
  have nde:e≠d:=fun z=>by rw[z,hd] at nH;cases nH
  rw[Aj nde];exact s3.get (by rw[Aj nde];exact he2)
 generalize upd H3 d (.dT (AS cs))=H5 at sB heB;dsimp only[CB];refine⟨_,rfl,h,_,_,_,rfl,rfl,AE.of (sB.get hh.at_),rfl,n,rfl,⟨_,AE.of (sB.get hh.nm)⟩,?_⟩;refine K4 (K:=K) (a:=n) (xs:=ps.map fun p=>V.ref p.1) (fun i σ H6=>∃v3 v4,σ=[some (.ref h),some (.ref d),some (.ref e),v3,v4]/\Ah H H6/\H6 e=some (.dT (IV cs i))) ⟨_,_,rfl,sB,heB⟩ (fun i σ H6 _ ⟨_,_,_,s6,_⟩=>AE.of (s6.get hh.nm)) ?_ ?_
 ·rintro i x σ H6 hi ⟨v3,v4,rfl,s6,he6⟩
  rw[List.getElem?_map] at hi;cases ei:ps[i]? with
  |none=>rw[ei] at hi;cases hi
  |some p=>
   rw[ei] at hi;cases hi;have hp:=List.mem_of_getElem? ei;obtain⟨ta,hta,hpx⟩:=(hh.same s6).en p hp;obtain⟨c,hc,ec⟩:=List.any_eq_true.mp (hin p hp);have ec:=of_decide_eq_true ec;have es:=HU one hc;subst es;have e4:Hz (p.2.items ta) 4=some (.ref ta):=by cases p.2<;>rfl
   have hta':H6 ta=some (.tup ((BC c.tg).map kV)):=by rw[ec];exact hta
   have g6:Cm H6 e (.ref ta) (some (.int i)):=by
    have:=Cm.t (H:=H6) (a:=e) (b:=ta) (k:=BC c.tg) he6 hta';rw[show BK (IV [c] i) (BC c.tg)=some (.int i) from val_one _ _] at this;exact this
   dsimp only[A4];refine⟨_,rfl,_,rfl,p.1,_,_,_,rfl,rfl,AE.of hpx,e4,e,.int i,rfl,g6,_,_,rfl,rfl,_,LY.t he6 hta' (CV (by show 1+1<=1000000;decide)),_,_,rfl,B4 s6 nH _,?_⟩;rw[Ad,show IV [c] (i:Int)=[(BC c.tg,.int i)] from rfl,TC];rfl
 ·rintro σ H6 ⟨v3,v4,rfl,s6,he6⟩
  rw[List.length_map] at he6;refine⟨_,rfl,d,_,rfl,s6.get hd,fun o3=>?_⟩;have hf3:(upd H6 d (.frz o3 (.dT (AS cs)))) d=some (.frz o3 (.dT (AS cs))):=Ad;have nde:e≠d:=fun z=>by rw[z,hd] at nH;cases nH
  refine IF (s6.get hd) nf one (fun b y H7=>∃c∈cs,y=.bl (decide (c.kk=(ps.length:Int)))) (fun _ _ _ _ _ _ z _=>z) (fun _ _ _ z _=>z) (fun c b H7 R hc s7 hb hR=>?_) fun l ys H7 s7 h7 ly hy=>?_
  ·obtain⟨a1,_⟩:=(JL o3 (s6.get hd) ((hcs c hc).same s6)).same s7;have g1:Cm H7 d (.ref b) (some (.ref c.x)):=.inr ⟨AS cs,BC c.tg,b,.inr ⟨o3,s7.get hf3⟩,rfl,hb,(D8 one hc).symm⟩;have es:=HU one hc;have he7:H7 e=some (.dT (IV cs ps.length)):=s7.get (by rw[Aj nde];exact he6);have g2:Cm H7 e (.ref b) (some (.int ps.length)):=by
    have:=Cm.t (H:=H7) (a:=e) (b:=b) (k:=BC c.tg) he7 hb;rw[es,show BK (IV [c] ps.length) (BC c.tg)=some (.int ps.length) from val_one _ _] at this;exact this
   refine⟨_,rfl,_,rfl,d,_,rfl,g1,c.x,_,_,_,rfl,rfl,AE.of a1,rfl,_,rfl,_,rfl,e,_,rfl,g2,rfl,hR _ _ (Ah.refl _) ⟨c,hc,?_⟩⟩;rw[EW];rfl
  ·have e7:ys=(cs.map fun c=>decide (c.kk=(ps.length:Int))).map V.bl:=by
    match cs,ys,one,ly,hy with
    |[],[],_,_,_=>rfl
    |[c],[y],_,_,hy=>
     obtain⟨_,_,c',hc',rfl⟩:=hy 0 c y rfl rfl;rw[List.mem_singleton.mp hc'];rfl
    |_::_::_,_,one,_,_=>simp at one
   rw[e7] at h7;refine⟨l,_,rfl,AR.of h7,?_⟩;rw[List.all_map];exact q _ (s6.trans s7)
end
end B
section
variable {P:Program}{w:World}{K:W.Frag}{mg:Str->Option Value}{base:Heap}{f:Addr}{fd:FuncData}{PT PU:Addr}
abbrev LQ:Str:=PySem.Str.ofString "seals_of"++PySem.Str.ofString ".<locals>."++PySem.Str.ofString "<lambda>"
abbrev LP:Pos:=⟨165,29,165,49⟩
theorem HeadAt.sameT {H H':Hp}{h:Addr}{ag:Int}{k n:Addr}{ps:List (Addr×En)}{q:Str}{lp:Pos}(x:HeadAt H h ag k n ps)(s:Bh PT H H')(t:BJ PT q lp H):HeadAt H' h ag k n ps:=x.get fun _ _ e=>s.get t e (by intro _ z;cases z)
def Fq (K:W.Frag)(PT:Addr):Sp:=fun vs H Q _=>∃(h:Addr) (sm:Str) (ag:Int) (k n:Addr) (ps:List (Addr×En)),vs=[.ref h,.str sm]/\HeadAt H h ag k n ps/\ps.length<64/\((ps.filter fun p=>p.2.isSl sm).map fun p=>p.2.turn).Nodup/\BJ PT LQ LP H/\
 ∀(us:List (Addr×En)) l H',us.Perm (ps.filter fun p=>p.2.isSl sm)->us.Pairwise (fun x y=>x.2.turn<y.2.turn)->Bh PT H H'->BJ PT LQ LP H'->H l=none->H' l=some (.lst (us.map fun p=>V.ref p.1))->Q (.ref l) H'
theorem Mj (T:Txt K mg)(F:Fun K "seals_of" "seals_of" Do f fd)(LA:LamAt K mg base fd.code PT):FnOk P w K mg base CP 1 f fd ["head","stem"] (Fq K PT):=by
 refine F.okC Ie (fun vs H Q E h=>?_) (fun cdv A outer s H vs Q E hcd hr h=>?_)
 ·obtain⟨h,sm,ag,k,n,ps,rfl,_⟩:=h;rfl
 subst hcd;obtain⟨h,sm,ag,k,n,ps,rfl,hd,few,nd,tb,q⟩:=h;refine⟨_,(!Ae (@IJ _ ["named","stem"] [none,some 1] (2) _ _ _ _ _ _ _ _ _ _ _ _ _ _ Ie.nd rfl (by trivial) rfl (!Bb (!Am Ap (pv 0) (!Ac) (fun _ _=>rfl))) (by rfl) rfl (by repeat (first|exact trivial|refine⟨rfl,?_⟩)) (by repeat (first|exact trivial|refine⟨fun h=>(by first|exact⟨_,rfl⟩|cases h),?_⟩)) (fun C s H fp=>⟨(@An _ _ (0) _ (show(["named","stem"]:List Str).Nodup by decide +kernel) rfl (by trivial) (by trivial)),(!Et (@PW.pt _ _ _ (!K3 (!AO Br (!Am (AQ (K:=K) (by rfl)) (pv 0) (!Ac) (fun _ _=>rfl)) (!AG rfl T.c_SEAL) (AF _)) (!IK (!AO Br (!Am (AQ (K:=K) (by rfl)) (pv 0) (!Ac) (fun _ _=>rfl)) (pv 1) (AF _)))))),(pv 0)⟩) (by intro _;rfl) (by rfl) (by trivial)) (!Ag (!Al (@RF _ _ _ _ _ _ (3) _ _ _ _ _ _ _ _ _ _ (hr.mono (Nat.le_refl _)) ⟨fun _ _ _ _ _ _=>rfl,fun _=>rfl,fun _=>rfl,rfl,rfl,rfl,rfl,by decide,by decide⟩ LA (by decide) rfl rfl T.b_sorted (!Aa (pv 2) (!Ab)) (by rfl) (by rfl))))),?_⟩
 try dsimp only[Cg,Cx.nox,Cx.wish]
 refine⟨_,rfl,h,_,_,_,rfl,rfl,AE.of hd.at_,AZ (j:=2) rfl,n,rfl,⟨_,AE.of hd.nm⟩,?_⟩;refine Bv (ps:=ps) (g:=fun p=>V.ref p.1) (fun p=>p.2.isSl sm) (fun p=>V.ref p.1) (A2 hd.nm) (by omega) (fun p hp H' R s' hR=>?_) (fun p hp hs H' R s' hR=>⟨_,rfl,hR H' (Ah.refl _)⟩) fun l H7 n7 s7 h7=>?_
 ·obtain⟨a,e⟩:=p;obtain⟨ta,_,ha⟩:=hd.en _ hp;have ha':=s'.get ha;cases e with
  |st nm kp og t=>exact⟨_,rfl,a,_,_,_,rfl,rfl,AE.of ha',AZ (j:=1) rfl,rfl,_,rfl,As rfl hR⟩
  |sl nm sm' tn t=>exact⟨_,rfl,a,_,_,_,rfl,rfl,AE.of ha',AZ (j:=1) rfl,rfl,_,rfl,Ao rfl ⟨_,rfl,a,_,_,_,rfl,rfl,AE.of ha',AZ (j:=2) rfl,_,rfl,rfl,_,rfl,by
    have e:decide (V.str sm'=V.str sm)=(En.sl nm sm' tn t).isSl sm:=by
     show _=decide (sm'=sm)
     by_cases z:sm'=sm
     ·rw[decide_eq_true z,decide_eq_true (by rw[z])]
     ·rw[decide_eq_false z,decide_eq_false fun y=>z (V.str.inj y)]
    rw[e];exact hR⟩⟩
 have lf:=List.length_filter_le (fun p:Addr×En=>p.2.isSl sm) ps;have sl_of:∀p∈ps.filter (fun p=>p.2.isSl sm),p∈ps/\∃nm tn t,p.2=.sl nm sm tn t:=fun p hp=>by
  obtain⟨h1,h2⟩:=List.mem_filter.mp hp;refine⟨h1,?_⟩;cases e:p.2 with
  |st nm kp og t=>rw[e] at h2;cases h2
  |sl nm sm' tn t=>
   rw[e] at h2;rw[of_decide_eq_true h2];exact⟨_,_,_,rfl⟩
 generalize ps.filter (fun p=>p.2.isSl sm)=qs at h7 nd q lf sl_of;refine⟨_,rfl,l,qs.map fun p=>(p.1,p.2.turn),rfl,AR.of (by rw[List.map_map];exact h7),by rw[List.length_map];omega,fun t ht=>?_,by rw[List.map_map];exact nd,tb.same s7,fun us p H2 up us2 st tb2 np=>?_⟩
 ·obtain⟨p,hp,rfl⟩:=List.mem_map.mp ht;obtain⟨h1,nm,tn,t,e⟩:=sl_of p hp;obtain⟨ta,_,ha⟩:=hd.en _ h1;refine⟨_,AE.of (s7.get ha),?_⟩;rw[e];rfl
 ·obtain⟨us',p1,rfl⟩:=Pt up rfl;rw[List.map_map];refine q us' p _ p1 (by rw[List.pairwise_map] at us2;exact us2) (((s7.t PT).trans st).trans ((Ai np _).t PT)) (tb2.same (Ai np _)) ?_ Ad;exact((s7.t PT).trans st).free tb2 np
def Ft (K:W.Frag):Sp:=fun vs H Q _=>∃(h:Addr) (ag:Int) (k n:Addr) (ps:List (Addr×En)),vs=[.ref h]/\HeadAt H h ag k n ps/\ps.length<=100/\∀l H',Ah H H'->H l=none->H' l=some (.lst ((ps.filter fun p=>p.2.isS).map fun p=>V.ref p.1))->Q (.ref l) H'
theorem M3 (T:Txt K mg)(F:Fun K "stems_in" "stems_in" Dc f fd):FnOk P w K mg base CP 1 f fd ["head"] (Ft K):=by
 exists Mf
 ·obtain⟨h,ag,k,n,ps,rfl,_⟩:=h;rfl
 obtain⟨h,ag,k,n,ps,rfl,hd,few,q⟩:=h;have hu:=Cu hr;refine⟨_,(!Ag (!Al (@AV _ ["named"] _ _ _ _ _ _ _ _ _ _ rfl (!Bb (!Am Ap (pv 0) (!Ac) (fun _ _=>rfl))) (by decide +kernel) (fun C s H fp=>⟨(@An _ _ (0) _ (show(["named"]:List Str).Nodup by decide +kernel) rfl (by trivial) (by trivial)),(!Et (!AO Br (!Am (AQ (K:=K) (by rfl)) (pv 0) (!Ac) (fun _ _=>rfl)) (!AG rfl T.c_STEM) (AF _))),(pv 0)⟩) (by intro _;rfl)))),?_⟩
 try dsimp only[Cg,Cx.nox,Cx.wish]
 refine⟨_,rfl,h,_,_,_,rfl,rfl,AE.of hd.at_,AZ (j:=2) rfl,n,rfl,⟨_,AE.of hd.nm⟩,?_⟩;refine Bv (ps:=ps) (g:=fun p=>V.ref p.1) (fun p=>p.2.isS) (fun p=>V.ref p.1) (A2 hd.nm) (by omega) (fun p hp H' R s' hR=>?_) (fun p hp hs H' R s' hR=>⟨_,rfl,hR H' (Ah.refl _)⟩) fun l H7 n7 s7 h7=>q l H7 s7 n7 h7
 obtain⟨a,e⟩:=p;obtain⟨ta,_,ha⟩:=hd.en _ hp;cases e<;>exact⟨_,rfl,a,_,_,_,rfl,rfl,AE.of (s'.get ha),AZ (j:=1) rfl,rfl,_,rfl,hR⟩
theorem On {Pa l:Addr}{q:Str}{lp:Pos}{H:Hp}{us us':List V}(t:BJ Pa q lp H)(hl:H l=some (.lst us)):BJ Pa q lp (upd H l (.lst us')):=by
 rcases t with h|⟨c,h,h2⟩
 ·exact .inl (by rw[Aj fun z=>by rw[z,hl] at h;cases h];exact h)
 ·exact .inr ⟨c,by rw[Aj fun z=>by rw[z,hl] at h;cases h];exact h,by rw[Aj fun z=>by rw[z,hl] at h2;cases h2];exact h2⟩
theorem Ka {Pa l:Addr}{H H3:Hp}{o:HO}(s:Bh Pa H H3)(n:H l=none):Bh Pa H (upd H3 l o):=fun b u nb hb=>by
 rw[Aj fun z=>by rw[z,n] at hb;cases hb];exact s b u nb hb
theorem TY {ps:List (Addr×En)}{z sm:Str}(hz:∀p∈ps,∃nm og t,p.2=.st nm z og t):(ps.filter fun p=>p.2.isSl sm)=[]:=List.filter_eq_nil_iff.mpr fun p hp=>by
 obtain⟨nm,og,t,e⟩:=hz p hp;rw[e];exact Bool.false_ne_true
def Fc (K:W.Frag)(PT:Addr):Sp:=fun vs H Q _=>∃(h:Addr) (z:Str) (ag:Int) (k n:Addr) (ps:List (Addr×En)),vs=[.ref h,.str z]/\HeadAt H h ag k n ps/\ps.length<=1/\(∀p∈ps,∃nm og t,p.2=.st nm z og t)/\BJ PT LQ LP H/\
 ∀l (ts:List Addr) H',ts.length=ps.length->(∀(i:Nat) p t,ps[i]?=some p->ts[i]?=some t->H' t=some (.tup (W3 p.2.tg)))->Bh PT H H'->BJ PT LQ LP H'->H l=none->H' l=some (.lst (ts.map V.ref))->Q (.ref l) H'
theorem Ll (T:Txt K mg)(F:Fun K "tags_kept" "tags_kept" CN f fd)(Gu:Def P w K mg base 1 "stems_in" ["head"] (Ft K))(GO:Def P w K mg base 1 "seals_of" ["head","stem"] (Fq K PT)):FnOk P w K mg base CP 2 f fd ["head","keeper"] (Fc K PT):=by
 exists E9
 ·obtain⟨h,z,ag,k,n,ps,rfl,_⟩:=h;rfl
 obtain⟨h,z,ag,k,n,ps,rfl,hd,few,hz,tb,q⟩:=h;have hu:=Cu hr;have hu9:=C1 hr;refine⟨_,(!Ae (@A7 _ _ (2) _ _ _ _ E9.nd rfl (by trivial) (!C0 (!Ab)) (by rfl) (by trivial)) (!Ae (!CA PassesOwn.never rfl (!Bf (!Au Gu (by trivial) rfl (!Aa (pv 0) (!Ab)))) (@An _ _ (3) _ E9.nd rfl (by trivial) (by trivial)) (!Ag (!AU (!AO Br (!Am Ap (pv 3) (!Ac) (fun _ _=>rfl)) (pv 1) (AF _)) (!Ae (!Ec (!GX PySem.F.plainAttrs_list PySem.F.slot_list_append PySem.F.type_list_append DM (pv 2) (!Aa (!Am Ap (pv 3) (!Ac) (fun _ _=>rfl)) (!Ab)))) (!Ag (!Ec (!GX PySem.F.plainAttrs_list PySem.F.slot_list_extend PySem.F.type_list_extend HW (pv 2) (!Aa (@AV _ ["seal"] _ _ _ _ _ _ _ _ _ _ rfl (!Bf (!Au GO (by trivial) rfl (!Aa (pv 0) (!Aa (!Am Ap (pv 3) (!Ac) (fun _ _=>rfl)) (!Ab))))) (by decide +kernel) (fun C s H fp=>⟨(@An _ _ (0) _ (show(["seal"]:List Str).Nodup by decide +kernel) rfl (by trivial) (by trivial)),(!AB),(!Am (AQ (K:=K) (by rfl)) (pv 0) (!Ac) (fun _ _=>rfl))⟩) (by intro _;rfl)) (!Ab)))))) (!Aw))) (by intro _;rfl)) (!Ag (!Al (pv 2))))),?_⟩
 try dsimp only[Cg,Cx.nox,Cx.wish]
 dsimp only[CB];refine⟨Nj,fun l nl=>?_⟩;have sn:=Ai nl (.lst []);have hl0:(upd H l (.lst [])) l=some (.lst []):=Ad;generalize upd H l (.lst [])=H1 at sn hl0;have hd1:=hd.same sn;have pf:ps.filter (fun p=>p.2.isS)=ps:=List.filter_eq_self.mpr fun p hp=>by obtain⟨nm,og,t,e⟩:=hz p hp;rw[e];rfl
 dsimp only[A4,CB];refine⟨_,rfl,h,ag,k,n,ps,rfl,hd1,by omega,fun sl H2 s2 n2 h2=>?_⟩;rw[pf] at h2;have nls:l≠sl:=fun y=>by rw[<-y,hl0] at n2;cases n2
 have s02:=sn.trans s2;refine⟨sl,rfl,⟨_,AR.of h2⟩,FJ (K:=K) (a:=sl) (xs:=ps.map fun p=>V.ref p.1) (fun i σ H3=>∃v3 ts,σ=[some (.ref h),some (.str z),some (.ref l),v3]/\Bh PT H H3/\BJ PT LQ LP H3/\H3 sl=some (.lst (ps.map fun p=>V.ref p.1))/\ts.length=i/\(∀(j:Nat) p t,ps[j]?=some p->ts[j]?=some t->H3 t=some (.tup (W3 p.2.tg)))/\H3 l=some (.lst (ts.map V.ref))) ⟨none,[],rfl,s02.t PT,tb.same s02,h2,rfl,fun _ _ _ _ y=>by simp at y,s2.get hl0⟩ (fun i σ H3 _ ⟨_,_,_,_,_,e,_⟩=>AR.of e) ?_ ?_⟩
 ·rintro i x σ H3 hi ⟨v3,ts,rfl,st3,tb3,h3,lt,ht,hl3⟩
  rw[List.getElem?_map] at hi;cases ei:ps[i]? with
  |none=>rw[ei] at hi;cases hi
  |some p=>
   rw[ei] at hi;cases hi;have i0:i=0:=by have:=(List.getElem?_eq_some_iff.mp ei).1;omega
   subst i0;have t0:ts=[]:=List.length_eq_zero_iff.mp lt;subst t0;have hd3:=hd.sameT st3 tb;obtain⟨pa,e⟩:=p;obtain⟨nm,og,t,e1⟩:=hz _ (List.mem_of_getElem? ei);dsimp only at e1;subst e1;obtain⟨ta,hta,hpx⟩:=hd3.en _ (List.mem_of_getElem? ei);dsimp only[A4,DE,CB];refine⟨_,rfl,pa,_,_,_,rfl,rfl,AE.of hpx,rfl,_,rfl,rfl,_,rfl,Ao (decide_eq_true rfl) ?_⟩;refine⟨_,rfl,.inl ⟨rfl,_,AR.of hl3⟩,_,rfl,pa,_,_,_,rfl,rfl,AE.of hpx,rfl,l,_,_,rfl,rfl,hl3,CV (by show 0+1<=1000000;decide),?_⟩;have keep:∀b xs,H3 b=some (.tup xs)->(upd H3 l (.lst [V.ref ta])) b=some (.tup xs):=fun b xs y=>by rw[Aj fun w=>by rw[w,hl3] at y;cases y];exact y
   have st4:Bh PT H (upd H3 l (.lst [V.ref ta])):=Ka st3 nl;have tb4:BJ PT LQ LP (upd H3 l (.lst [V.ref ta])):=On tb3 hl3;have hl4:(upd H3 l (.lst [V.ref ta])) l=some (.lst [V.ref ta]):=Ad;have h4:(upd H3 l (.lst [V.ref ta])) sl=some (.lst (ps.map fun p=>V.ref p.1)):=by rw[Aj (Ne.symm nls)];exact h3
   dsimp only[OU]
   change Xc _ _ _ _ _ _ (upd H3 l (.lst [V.ref ta])) _
   have hta4:=keep _ _ hta;have hpx4:=keep _ _ hpx;have hd4:=hd3.get keep;generalize upd H3 l (.lst [V.ref ta])=H4 at st4 tb4 hl4 h4 hta4 hpx4 hd4;refine⟨_,rfl,.inl ⟨rfl,_,AR.of hl4⟩,_,rfl,_,rfl,pa,_,_,_,rfl,rfl,AE.of hpx4,rfl,h,nm,ag,k,n,ps,rfl,hd4,by omega,by rw[TY hz];exact List.nodup_nil,tb4,fun us ll H5 up _ st5 tb5 nll hll=>?_⟩;rw[TY hz] at up;have u0:=List.perm_nil.mp up;subst u0;refine⟨ll,rfl,⟨_,AR.of hll⟩,?_⟩;refine comp_map (fun _=>V.non) (BZ (AR.of hll)) (by show 0<=1000000;decide) (fun u H6 R hu' s6 hR=>nomatch hu') fun l6 H6 n6 s6 h6=>?_
   have nt:∀{o:HO},(∃xs,o=.lst xs)\/(∃xs,o=.tup xs)->∀ps,o≠.tbl ps:=fun{o} y ps w=>by
    subst w;rcases y with⟨_,y⟩|⟨_,y⟩<;>cases y
   have hl6:=s6.get (st5.get tb4 hl4 (nt (.inl ⟨_,rfl⟩)));refine⟨l,l6,_,_,rfl,rfl,hl6,h6,small (by show 1+0<=1000000;decide),?_⟩;have tb6:=tb5.same s6;have hs6:=s6.get (st5.get tb4 h4 (nt (.inl ⟨_,rfl⟩)));have ht6:=s6.get (st5.get tb4 hta4 (nt (.inr ⟨_,rfl⟩)));refine⟨_,[ta],rfl,Ka ((st4.trans st5).trans (s6.t PT)) nl,On tb6 hl6,by rw[Aj (Ne.symm nls)];exact hs6,rfl,fun j p t e1 e2=>?_,Ad⟩;cases j with
   |succ j=>simp at e2
   |zero=>
    rw[ei] at e1;cases e1;cases e2;rw[Aj fun w=>by rw[w,hl6] at ht6;cases ht6];exact ht6
 ·rintro σ H3 ⟨v3,ts,rfl,st3,tb3,h3,lt,ht,hl3⟩
  rw[List.length_map] at lt;exact⟨_,rfl,q l ts H3 lt ht st3 tb3 nl hl3⟩
end
namespace B
section
variable {P:Program}{w:World}{K:W.Frag}{mg:Str->Option Value}{base:Heap}{f:Addr}{fd:FuncData}{PT PU:Addr}
structure Tb (PT PU:Addr) (H:Hp):Prop where
 ne:PT≠PU
 a:BJ PT LQ LP H
 b:BJ PU BQ BP H
def Bm (PT PU:Addr)(H H':Hp):Prop:=∀b o,b≠PT->b≠PU->H b=some o->H' b=some o
theorem Bm.refl (H:Hp):Bm PT PU H H:=fun _ _ _ _ h=>h
theorem Bm.trans {H H1 H2:Hp}(a:Bm PT PU H H1)(b:Bm PT PU H1 H2):Bm PT PU H H2:=fun c o n m h=>b c o n m (a c o n m h)
theorem ER {H H':Hp}(a:Ah H H'):Bm PT PU H H':=fun b o _ _ h=>a b o h
theorem Ti {H H':Hp}(a:Bh PT H H'):Bm PT PU H H':=fun b o n _ h=>a b o n h
theorem Lw {H H':Hp}(a:Bh PU H H'):Bm PT PU H H':=fun b o _ n h=>a b o n h
theorem Bm.get {H H':Hp}(e:Bm PT PU H H')(t:Tb PT PU H){b:Addr}{o:HO}(h:H b=some o)(n:∀ps,o≠.tbl ps):H' b=some o:=by
 refine e b o (fun z=>?_) (fun z=>?_) h
 ·obtain⟨ps,hp⟩:=t.a.some;rw[z,hp] at h;exact n ps (Option.some.inj h).symm
 ·obtain⟨ps,hp⟩:=t.b.some;rw[z,hp] at h;exact n ps (Option.some.inj h).symm
theorem Bm.tup {H H':Hp}(e:Bm PT PU H H')(t:Tb PT PU H):∀b xs,H b=some (.tup xs)->H' b=some (.tup xs):=fun _ _ h=>e.get t h (by intro _ z;cases z)
theorem Bm.lst {H H':Hp}(e:Bm PT PU H H')(t:Tb PT PU H){b:Addr}{xs:List V}(h:H b=some (.lst xs)):H' b=some (.lst xs):=e.get t h (by intro _ z;cases z)
theorem KE {P U:Addr}{q q':Str}{lp lp':Pos}{H H':Hp}(ne:P≠U)(t:BJ P q lp H)(u:BJ U q' lp' H)(s:Bh U H H'):BJ P q lp H':=by
 rcases t with h|⟨c,h,h2⟩
 ·exact .inl (s _ _ ne h)
 ·exact .inr ⟨c,s _ _ ne h,s.get u h2 (by intro _ z;cases z)⟩
theorem Tb.same {H H':Hp}(t:Tb PT PU H)(s:Ah H H'):Tb PT PU H':=⟨t.ne,t.a.same s,t.b.same s⟩
theorem Tb.l {H H':Hp}(t:Tb PT PU H)(s:Bh PT H H')(x:BJ PT LQ LP H'):Tb PT PU H':=⟨t.ne,x,KE (Ne.symm t.ne) t.b t.a s⟩
theorem Tb.r {H H':Hp}(t:Tb PT PU H)(s:Bh PU H H')(x:BJ PU BQ BP H'):Tb PT PU H':=⟨t.ne,KE t.ne t.a t.b s,x⟩
theorem O2 {Pa l:Addr}{q:Str}{lp:Pos}{H:Hp}{kvs:List (Key×V)}{o':HO}(t:BJ Pa q lp H)(hl:H l=some (.dK kvs)):BJ Pa q lp (upd H l o'):=by
 rcases t with h|⟨c,h,h2⟩
 ·exact .inl (by rw[Aj fun z=>by rw[z,hl] at h;cases h];exact h)
 ·exact .inr ⟨c,by rw[Aj fun z=>by rw[z,hl] at h;cases h];exact h,by rw[Aj fun z=>by rw[z,hl] at h2;cases h2];exact h2⟩
theorem Tb.set {l:Addr}{H:Hp}{kvs:List (Key×V)}{o':HO}(t:Tb PT PU H)(hl:H l=some (.dK kvs)):Tb PT PU (upd H l o'):=⟨t.ne,O2 t.a hl,O2 t.b hl⟩
theorem Bm.set {l:Addr}{H H3:Hp}{o:HO}(s:Bm PT PU H H3)(n:H l=none):Bm PT PU H (upd H3 l o):=fun b u n1 n2 hb=>by
 rw[Aj fun z=>by rw[z,n] at hb;cases hb];exact s b u n1 n2 hb
theorem Bm.ce {H H':Hp}{c:Ce}(u:Bm PT PU H H')(t:Tb PT PU H)(h:E3 H c):E3 H' c:=by
 have keep:∀a o,H a=some o->((∃xs,o=.lst xs)\/∃xs,o=.tup xs)->H' a=some o:=fun a o e z=>u.get t e fun ps w=>by
  subst w;rcases z with⟨_,z⟩|⟨_,z⟩<;>cases z
 obtain⟨a1,a2,a3,a4⟩:=h;exact⟨keep _ _ a1 (.inr ⟨_,rfl⟩),CY keep _ _ a2,a3,CY keep _ _ a4⟩
def Form (ps:List (Addr×K67.En))(cs:List Ce)(kp:List (Addr×Str))(z:Str):Prop:=(ps=[]/\cs=[])\/∃p c x nm og,ps=[p]/\cs=[c]/\kp=[x]/\x.2=z/\p.2=.st nm z og c.tg
def DZ (K:W.Frag)(PT PU:Addr):Sp:=fun vs H Q _=>∃(h d:Addr) (ag:Int) (k n:Addr) (ps:List (Addr×K67.En)) (cs:List Ce) (kp:List (Addr×Str)) (z:Str),vs=[.ref h,.ref d]/\HeadAt H h ag k n ps/\H k=some (.tup (kp.map fun x=>V.ref x.1))/\kp.length<=100/\(∀x∈kp,∃bd,H x.1=some (.tup [.str x.2,bd]))/\
 H d=some (.dT (AS cs))/\(∀c∈cs,E3 H c)/\(∀c∈cs,c.b=.folder [])/\Form ps cs kp z/\Tb PT PU H/\∀H',Bm PT PU H H'->Tb PT PU H'->Q (.bl (cs.all fun c=>FI z c.s)) H'
theorem JO (T:Txt K mg)(F:Fun K "fit_holders" "fit_holders" BU f fd)(FR:Def P w K mg base 2 "tags_kept" ["head","keeper"] (Fc K PT))(Bl:Def P w K mg base 1 "by_heights" ["cells"] (Cs K PU))(Bu:Def P w K mg base 1 "tags_in" ["block"] (Dj K))(A3:Def P w K mg base 1 "block_in" ["cells","tag"] (B7 K)):FnOk P w K mg base CP 3 f fd ["head","cells"] (DZ K PT PU):=by
 exists Bo
 ·obtain⟨h,d,ag,k,n,ps,cs,kp,z,rfl,_⟩:=h;rfl
 obtain⟨h,d,ag,k,n,ps,cs,kp,z,rfl,hh,hk,lkp,hkp,hd,hcs,hem,fm,tb,q⟩:=h;have hu:=Cu hr;have hu9:=C1 hr;have one:cs.length<=1:=by rcases fm with⟨_,e⟩|⟨p,c,x,nm,og,_,e,_⟩<;>rw[e]<;>simp
 refine⟨_,(!Ae (@A7 _ _ (2) _ _ _ _ Bo.nd rfl (by trivial) (!A9 (Gp (K:=K) (by rfl) hu9 rfl) (by rfl) T.b_dict G6 (!Aa (!IL (@AV _ ["tag"] _ _ _ _ _ _ _ _ _ _ rfl (!FF (pv 1)) (by decide +kernel) (fun C s H fp=>⟨(@An _ _ (0) _ (show(["tag"]:List Str).Nodup by decide +kernel) rfl (by trivial) (by trivial)),(!AB),(!Av (!Aa (pv 0) (!Aa (!Ht) (!Ab))))⟩) (by intro _;rfl))) (!Ab))) (by rfl) (by trivial)) (!Ae (!CA PassesOwn.never rfl (!Bb (!Am Ap (pv 0) (!Ac) (fun _ _=>rfl))) (!NA rfl (!BF (@An _ _ (3) _ Bo.nd rfl (by trivial) (by trivial)) (!BF (@An _ _ (4) _ Bo.nd rfl (by trivial) (by trivial)) (!Ho)))) (!Ag (!CA PassesOwn.never rfl (!Bf (!Au FR (by trivial) rfl (!Aa (pv 0) (!Aa (pv 3) (!Ab))))) (@An _ _ (5) _ Bo.nd rfl (by trivial) (by trivial)) (!Ag (!Sv hu (!DI hu (pv 2) (pv 5) (fun _ _=>rfl)) (pv 3) (!A1))) (by intro _;rfl))) (by intro _;rfl)) (!Ae (!CA PassesOwn.never rfl (!Vd (by rfl) T.b_reversed (!Aa (!Au Bl (by trivial) rfl (!Aa (pv 1) (!Ab))) (!Ab))) (@An _ _ (5) _ Bo.nd rfl (by trivial) (by trivial)) (!Ag (!CA PassesOwn.never rfl (!Bf (!Au Bu (by trivial) rfl (!Aa (!Au A3 (by trivial) rfl (!Aa (pv 1) (!Aa (pv 5) (!Ab)))) (!Ab)))) (@An _ _ (6) _ Bo.nd rfl (by trivial) (by trivial)) (!Ag (!DG)) (by intro _;rfl))) (by intro _;rfl)) (!Ag (!Al (!Ak (Bd rfl) (by rfl) T.b_all Ca (!Aa (!IL (@Cc _ ["tag","cells","due"] [none,some 1,some 2] _ _ _ _ _ _ _ _ _ _ _ rfl (!FF (pv 1)) (by rfl) rfl (by repeat (first|exact trivial|refine⟨rfl,?_⟩)) (by repeat (first|exact trivial|refine⟨fun h=>(by first|exact⟨_,rfl⟩|cases h),?_⟩)) (fun C s H fp=>⟨(@An _ _ (0) _ (show(["tag","cells","due"]:List Str).Nodup by decide +kernel) rfl (by trivial) (by trivial)),(!AB),(!A5 (Vt hu9) (!Am (AQ (K:=K) (by rfl)) (!DI hu (pv 1) (pv 0) (fun _ _=>rfl)) (!Ac) (fun _ _=>rfl)) (!A9 (Jv (K:=K) (by rfl)) (by rfl) T.b_tuple Be (!Aa (!Ak (NN rfl) (by rfl) T.b_sorted DT (!Aa (!DI hu (pv 2) (pv 0) (fun _ _=>rfl)) (!Ab))) (!Ab))) (AF _))⟩) (by intro _;rfl))) (!Ab)))))))),?_⟩
 try dsimp only[Cg,Cx.nox,Cx.wish]
 have nf:∀o u,H d≠some (.frz o u):=fun o u z=>by rw[hd] at z;cases z
 refine⟨_,rfl,d,_,rfl,hd,fun o=>?_⟩;refine IF hd nf one (fun b y H1=>∃t e,y=.ref t/\H1 t=some (.tup [.ref b,.ref e])/\H1 e=some (.dK [])/\H e=none) (fun b v H1 l us us' ⟨t,e,e1,ht,he,en⟩ hl=>⟨t,e,e1,by rw[Aj fun z=>by rw[z,hl] at ht;cases ht];exact ht,by rw[Aj fun z=>by rw[z,hl] at he;cases he];exact he,en⟩) (fun b v H1 ⟨t,e,e1,ht,he,en⟩ hl=>⟨t,e,e1,by rw[Aj fun z=>by rw[z,hl] at ht;cases ht];exact ht,by rw[Aj fun z=>by rw[z,hl] at he;cases he];exact he,en⟩) (fun c b H1 R hc s1 hb hR=>?_) fun l ys H1 s1 h1 ly hy=>?_
 ·refine⟨_,rfl,fun e ne=>⟨Ms,fun t nt=>hR _ _ ((Ai ne _).trans (Ai nt _)) ⟨t,e,rfl,Ad,(Ai nt _).get Ad,?_⟩⟩⟩;cases y:H e with
  |none=>rfl
  |some u=>
   by_cases z:e=d
   ·subst z;rw[s1.get (Ad (H:=H) (a:=e))] at ne;cases ne
   ·rw[s1.get (by rw[Aj z];exact y)] at ne;cases ne
 refine L0 (fun w=>∃e,w=.ref e/\H1 e=some (.dK [])/\H e=none) h1 ly one (fun i c y e1 e2=>?_) fun e0 ws lw hw ne=>?_
 ·obtain⟨b,hb,t,e,e3,ht,he,en⟩:=hy i c y e1 e2;exact⟨b,hb,t,_,e3,ht,e,rfl,he,en⟩
 have nH:H e0=none:=by
  cases z:H e0 with
  |none=>rfl
  |some u=>rw[s1.get z] at ne;cases ne
 have sn2:=Ai ne (.dT (GD cs ws));have s2:=s1.trans sn2;have he2:(upd H1 e0 (.dT (GD cs ws))) e0=some (.dT (GD cs ws)):=Ad;have hw2:∀w∈ws,∃e,w=.ref e/\H e=none/\(upd H1 e0 (.dT (GD cs ws))) e=some (.dK []):=fun w hm=>by
  obtain⟨e,e1,e2,e3⟩:=hw w hm;exact⟨e,e1,e3,sn2.get e2⟩
 generalize upd H1 e0 (.dT (GD cs ws))=H2 at s2 he2 hw2;have tb2:=tb.same s2;have nde:e0≠d:=fun z=>by rw[z,hd] at nH;cases nH
 dsimp only[A4,CB];refine⟨_,rfl,h,_,_,_,rfl,rfl,AE.of (s2.get hh.at_),rfl,k,rfl,⟨_,AE.of (s2.get hk)⟩,?_⟩;refine K4 (K:=K) (a:=k) (xs:=kp.map fun x=>V.ref x.1) (fun i σ H3=>∃v3 v4 v5,σ=[some (.ref h),some (.ref d),some (.ref e0),v3,v4,v5,none]/\Bm PT PU H H3/\Tb PT PU H3/\H3 e0=some (.dT (GD cs ws))/\∀w∈ws,∃e,w=.ref e/\H e=none/\H3 e=some (.dK (if i=0 then[] else[(.inr z,.bl true)]))) ⟨none,none,none,rfl,ER s2,tb2,he2,hw2⟩ (fun i σ H3 _ ⟨_,_,_,_,u,_⟩=>AE.of (u.tup tb _ _ hk)) ?_ ?_
 ·rintro i x σ H3 hi ⟨v3,v4,v5,rfl,u3,tb3,he3,hw3⟩
  rw[List.getElem?_map] at hi;cases ei:kp[i]? with
  |none=>rw[ei] at hi;cases hi
  |some xx=>
   rw[ei] at hi;cases hi;obtain⟨xa,xz⟩:=xx;obtain⟨bd,hx⟩:=hkp _ (List.mem_of_getElem? ei);refine⟨xa,_,rfl,AE.of (u3.tup tb _ _ hx),rfl,_,_,rfl,_,_,rfl,rfl,?_⟩;have hz:∀p∈ps,∃nm og t,p.2=.st nm xz og t:=fun p hp=>by
    rcases fm with⟨e,_⟩|⟨p',c,x',nm,og,e1,e2,e3,e4,e5⟩
    ·rw[e] at hp;cases hp
    ·rw[e1] at hp;rw[List.mem_singleton.mp hp];rw[e3] at ei;have:(xa,xz)=x':=by
      have:=List.mem_of_getElem? ei;exact List.mem_singleton.mp this
     rw[<-this] at e4;exact⟨nm,og,c.tg,by rw[e5,<-e4]⟩
   have few:ps.length<=1:=by rcases fm with⟨e,_⟩|⟨p',c,x',nm,og,e1,_⟩<;>rename_i e'<;>first|(rw[e];simp)|(rw[e1];simp)
   refine⟨_,rfl,_,rfl,h,xz,ag,k,n,ps,rfl,hh.get (u3.tup tb),few,hz,tb3.a,fun l ts H4 lt ht st4 tb4 nl hl=>⟨l,rfl,⟨_,AR.of hl⟩,?_⟩⟩;have u34:Bm PT PU H3 H4:=Ti st4;have u4:=u3.trans u34;have tb4':=tb3.l st4 tb4;have he4:H4 e0=some (.dT (GD cs ws)):=u34.get tb3 he3 (by intro _ y;cases y);have hw4:∀w∈ws,∃e,w=.ref e/\H e=none/\H4 e=some (.dK (if i=0 then[] else[(.inr z,.bl true)])):=fun w hm=>by
    obtain⟨e,e1,e2,e3⟩:=hw3 w hm;exact⟨e,e1,e2,u34.get tb3 e3 (by intro _ y;cases y)⟩
   refine FJ (K:=K) (a:=l) (xs:=ts.map V.ref) (fun j σ H5=>∃v5,σ=[some (.ref h),some (.ref d),some (.ref e0),some (.str xz),some bd,v5,none]/\Bm PT PU H H5/\Tb PT PU H5/\H5 l=some (.lst (ts.map V.ref))/\H5 e0=some (.dT (GD cs ws))/\(∀b ys,H4 b=some (.tup ys)->H5 b=some (.tup ys))/\∀w∈ws,∃e,w=.ref e/\H e=none/\H5 e=some (.dK (if i+j=0 then[] else[(.inr z,.bl true)]))) ⟨_,rfl,u4,tb4',hl,he4,fun _ _ y=>y,hw4⟩ (fun j σ H5 _ ⟨_,_,_,_,e,_⟩=>AR.of e) ?_ ?_
   ·rintro j x σ H5 hj ⟨v5',rfl,u5,tb5,hl5,he5,kt,hw5⟩
    rw[List.getElem?_map] at hj;cases ej:ts[j]? with
    |none=>rw[ej] at hj;cases hj
    |some t=>
     rw[ej] at hj;cases hj;have lj:=(List.getElem?_eq_some_iff.mp ej).1;rcases fm with⟨e,_⟩|⟨p',c,x',nm,og,e1,e2,e3,e4,e5⟩
     ·rw[lt,e] at lj;exact absurd lj (Nat.not_lt_zero _)
     ·have j0:j=0:=by rw[lt,e1] at lj;exact Nat.lt_one_iff.mp lj
      subst j0;have i0:i=0:=by
       have:=(List.getElem?_eq_some_iff.mp ei).1;rw[e3] at this;exact Nat.lt_one_iff.mp this
      subst i0;have ex:(xa,xz)=x':=by
       rw[e3] at ei;exact List.mem_singleton.mp (List.mem_of_getElem? ei)
      have exz:xz=z:=by rw[<-e4,<-ex]
      have hta:=kt _ _ (ht 0 p' t (by rw[e1];rfl) ej);rw[e5] at hta;subst e2;obtain⟨w,rfl⟩:∃w,ws=[w]:=by
       match ws,lw with
       |[w],_=>exact⟨w,rfl⟩
      obtain⟨e,rfl,en,he⟩:=hw5 w (List.mem_singleton.mpr rfl);have hta':H5 t=some (.tup ((BC c.tg).map kV)):=hta;have g5:Cm H5 e0 (.ref t) (some (.ref e)):=by
       have:=Cm.t (H:=H5) (a:=e0) (b:=t) (k:=BC c.tg) he5 hta';rw[show BK (GD [c] [V.ref e]) (BC c.tg)=some (.ref e) from val_one _ _] at this;exact this
      have he':H5 e=some (.dK []):=he;dsimp only[A4];refine⟨_,rfl,_,rfl,e0,_,rfl,g5,_,rfl,e,_,rfl,LY.k (k:=.inr xz) he' (CV (by show 0+1<=1000000;decide)),_,rfl,u5.set en,tb5.set he',?_,?_,fun b ys y=>?_,fun w hm=>?_⟩
      ·rw[Aj fun y=>by rw[y,he'] at hl5;cases hl5];exact hl5
      ·rw[Aj fun y=>by rw[y,he'] at he5;cases he5];exact he5
      ·have:=kt b ys y;rw[Aj fun y=>by rw[y,he'] at this;cases this];exact this
      ·rw[List.mem_singleton.mp hm];refine⟨e,rfl,en,?_⟩;rw[Ad,exz];rfl
   ·rintro σ H5 ⟨v5',rfl,u5,tb5,hl5,he5,kt,hw5⟩
    refine⟨_,_,_,rfl,u5,tb5,he5,fun w hm=>?_⟩;obtain⟨e,e1,en,he⟩:=hw5 w hm;refine⟨e,e1,en,?_⟩;have l1:(ts.map V.ref).length=1:=by
     rw[List.length_map,lt];rcases fm with⟨_,e⟩|⟨p',c,x',nm,og,e1,_⟩
     ·rw[e] at lw;rw[List.length_eq_zero_iff.mp lw] at hm;cases hm
     ·rw[e1];rfl
    rw[l1] at he;exact he
 rintro σ H3 ⟨v3,v4,v5,rfl,u3,tb3,he3,hw3⟩
 have hd3:H3 d=some (.dT (AS cs)):=u3.get tb hd (by intro _ y;cases y);have hcs3:∀c∈cs,E3 H3 c:=fun c hc=>u3.ce tb (hcs c hc)
 have hwz:∀w∈ws,∃e,w=.ref e/\H3 e=some (.dK [(.inr z,.bl true)]):=fun w hm=>by
  obtain⟨e,e1,en,he⟩:=hw3 w hm;refine⟨e,e1,?_⟩;have l1:(kp.map fun x=>V.ref x.1).length=1:=by
   rcases fm with⟨_,e⟩|⟨p',c,x',nm,og,_,_,e3,_⟩
   ·rw[e] at lw;rw[List.length_eq_zero_iff.mp lw] at hm;cases hm
   ·rw[e3];rfl
  rw[l1] at he;exact he
 dsimp only[CB];refine⟨_,rfl,d,cs,rfl,hd3,one,hcs3,tb3.b,fun bs p H5 lb hbs st5 tb5 hp=>⟨p,_,rfl,AR.of hp,?_⟩⟩;have u35:Bm PT PU H3 H5:=Lw st5;have tb5':=tb3.r st5 tb5;have hd5:H5 d=some (.dT (AS cs)):=u35.get tb3 hd3 (by intro _ y;cases y);have he5:H5 e0=some (.dT (GD cs ws)):=u35.get tb3 he3 (by intro _ y;cases y);have hw5:∀w∈ws,∃e,w=.ref e/\H5 e=some (.dK [(.inr z,.bl true)]):=fun w hm=>by
  obtain⟨e,e1,he⟩:=hwz w hm;exact⟨e,e1,u35.get tb3 he (by intro _ y;cases y)⟩
 have hcs5:∀c∈cs,E3 H5 c:=fun c hc=>u35.ce tb3 (hcs3 c hc)
 refine TL (K:=K) (a:=p) (xs:=bs.map V.ref) (fun i σ H6=>∃v5,σ=[some (.ref h),some (.ref d),some (.ref e0),v3,v4,v5,none]/\Ah H5 H6) ⟨_,rfl,Ah.refl _⟩ (fun i σ H6 _ ⟨_,_,s6⟩=>AR.of (s6.get hp)) ?_ ?_
 ·rintro i x σ H6 hi ⟨v5',rfl,s6⟩
  rw[List.getElem?_map] at hi;obtain⟨b,eb,rfl⟩:=Option.map_eq_some_iff.mp hi;generalize (bs.map V.ref).length-1-i=j at eb;have lj:=(List.getElem?_eq_some_iff.mp eb).1;obtain⟨c,ec⟩:∃c,cs[j]?=some c:=⟨cs[j]'(by omega),List.getElem?_eq_getElem _⟩
  have hm:=List.mem_of_getElem? ec;have hb:=s6.get (hbs j c b ec eb);obtain⟨a1,a2,a3,a4⟩:=(hcs5 c hm).same s6;have g1:Cm H6 d (.ref b) (some (.ref c.x)):=.inr ⟨AS cs,BC c.tg,b,.inl (s6.get hd5),rfl,hb,(D8 one hm).symm⟩;dsimp only[A4];refine⟨_,rfl,_,rfl,d,b,c.x,_,_,rfl,g1,a1,rfl,c.v2,c.b,rfl,a2,a3,fun l us H7 s7 nl hl rus=>⟨l,rfl,⟨_,AR.of hl⟩,?_⟩⟩;have u0:us=[]:=by
   rw[hem c hm] at rus;exact rus
  subst u0;refine⟨fun i m σ' H'=>i=0/\σ'=[some (.ref h),some (.ref d),some (.ref e0),v3,v4,some (.ref b),none]/\H'=H7,⟨0,rfl,rfl,rfl⟩,?_⟩
  rintro i m σ H8 ⟨rfl,rfl,rfl⟩
  exact .inl ⟨⟨[],AR.of hl,Nat.le_refl _⟩,_,rfl,s6.trans s7⟩
 rintro σ H6 ⟨v5',rfl,s6⟩
 have hd6:=s6.get hd5;refine⟨_,rfl,d,_,rfl,hd6,fun o3=>?_⟩;have hf3:(upd H6 d (.frz o3 (.dT (AS cs)))) d=some (.frz o3 (.dT (AS cs))):=Ad;refine IF hd6 nf one (fun b y H7=>∃c∈cs,y=.bl (FI z c.s)) (fun _ _ _ _ _ _ z _=>z) (fun _ _ _ z _=>z) (fun c b H7 R hc s7 hb hR=>?_) fun l ys H7 s7 h7 ly hy=>?_
 ·obtain⟨a1,_,_,a4⟩:=(JL o3 hd6 ((hcs5 c hc).same s6)).same s7;have g1:Cm H7 d (.ref b) (some (.ref c.x)):=.inr ⟨AS cs,BC c.tg,b,.inr ⟨o3,s7.get hf3⟩,rfl,hb,(D8 one hc).symm⟩;have es:=HU one hc;subst es;obtain⟨w,rfl⟩:∃w,ws=[w]:=by
   match ws,lw with
   |[w],_=>exact⟨w,rfl⟩
  obtain⟨e,rfl,he⟩:=hw5 w (List.mem_singleton.mpr rfl);have he7:H7 e0=some (.dT (GD [c] [V.ref e])):=s7.get (by rw[Aj nde];exact s6.get he5);have hi7:H7 e=some (.dK [(.inr z,.bl true)]):=s7.get (by rw[Aj fun y=>by rw[y,hd5] at he;cases he];exact s6.get he);have g2:Cm H7 e0 (.ref b) (some (.ref e)):=by
   have:=Cm.t (H:=H7) (a:=e0) (b:=b) (k:=BC c.tg) he7 hb;rw[show BK (GD [c] [V.ref e]) (BC c.tg)=some (.ref e) from val_one _ _] at this;exact this
  refine⟨_,rfl,_,rfl,d,_,rfl,g1,c.x,_,_,_,rfl,rfl,AE.of a1,rfl,_,rfl,_,rfl,e0,_,rfl,g2,e,_,[z],rfl,hi7,rfl,(by show 1<64;decide),fun ts p8 pm _ np8=>?_⟩;rw[List.perm_singleton.mp pm];have s8:=Ai np8 (.lst ([z].map V.str));refine⟨p8,_,rfl,.inl ⟨AR.of Ad,fun t nt=>?_⟩⟩;have s9:=Ai nt (.tup ([z].map V.str));exact⟨c.s,z,t,Rep.same (s8.trans s9) _ _ a4,rfl,Ad,hR _ _ (s8.trans s9) ⟨c,hc,rfl⟩⟩
 ·have e7:ys=(cs.map fun c=>FI z c.s).map V.bl:=by
   match cs,ys,one,ly,hy with
   |[],[],_,_,_=>rfl
   |[c],[y],_,_,hy=>
    obtain⟨_,_,c',hc',rfl⟩:=hy 0 c y rfl rfl;rw[List.mem_singleton.mp hc'];rfl
   |_::_::_,_,one,_,_=>simp at one
  rw[e7] at h7;refine⟨l,_,rfl,AR.of h7,?_⟩;rw[List.all_map];have s67:=s6.trans s7;exact q _ ((u3.trans u35).trans (ER s67)) (tb5'.same s67)
end
end B
namespace B
section
variable {P:Program}{w:World}{K:W.Frag}{mg:Str->Option Value}{base:Heap}{f:Addr}{fd:FuncData}{PT PU:Addr}
theorem G4 {J:It}{fr:List (Option Nat)}{g:TG}{tt:TT}{te:TE}{Q:VK}{σ:St}{H:Hp}(hs:∀l,H l=none->J.stop 0 (upd H l (.lst [])))(q:∀l,H l=none->Q (.ref l) (upd H l (.lst []))):Dd fr g tt te σ Q J H:=fun l hl=>
 ⟨fun i _ _ H'=>i=0/\H'=upd H l (.lst []),⟨0,rfl,rfl⟩,fun i m σ' H' ⟨e1,e2⟩=>by subst e1 e2;exact .inl ⟨hs l hl,q l hl⟩⟩
theorem JR {K:W.Frag}{a:Addr}{H:Hp}(h:H a=some (.tup [])):∀l,H l=none->(UD K a).stop 0 (upd H l (.lst [])):=fun l hl=>⟨[],AE.of ((Ai hl _).get h),Nat.le_refl _⟩
theorem Ql {K:W.Frag}{a:Addr}{H:Hp}(h:H a=some (.lst [])):∀l,H l=none->(UG K a).stop 0 (upd H l (.lst [])):=fun l hl=>⟨[],AR.of ((Ai hl _).get h),Nat.le_refl _⟩
def Er (K:W.Frag):Sp:=fun vs H Q _=>∃(h d:Addr) (v:V) (t:Tr) (ag:Int) (k n:Addr) (ks:List V) (nv:V),vs=[.ref h,.ref d,v]/\H h=some (.tup [.int ag,.ref k,nv])/\H k=some (.tup ks)/\ks.length<=100/\Rep All H t v/\t.ok/\(ks=[]\/t=.tup [])/\
 ∀b H',(b=true↔ks=[]/\t=.tup [])->Ah H H'->Q (.bl b) H'
theorem JY (T:Txt K mg)(F:Fun K "fit_shares" "fit_shares" Cn f fd)(Ar:Def P w K mg base 1 "is_tuple_of" ["thing","many"] (AW K)):FnOk P w K mg base CP 2 f fd ["head","cells","shares"] (Er K):=by
 exists J1
 ·obtain⟨h,d,v,t,ag,k,n,ks,nv,rfl,_⟩:=h;rfl
 obtain⟨h,d,v,t,ag,k,n,ks,nv,rfl,hh,hk,lk,hv,ok,fm,q⟩:=h;have hu:=Cu hr;have hu9:=C1 hr;refine⟨_,(!Ae (!AU (@PW.pt _ _ _ (!BO (!AI (!AH (!Au Ar (by trivial) rfl (!Aa (pv 2) (!Aa (!Ak AM (by rfl) T.b_len BG (!Aa (!Am Ap (pv 0) (!Ac) (fun _ _=>rfl)) (!Ab))) (!Ab)))) (by intro _;rfl))) (!Bs (!AI (!AH (!Ak (Bd rfl) (by rfl) T.b_all Ca (!Aa (@AV _ ["share"] _ _ _ _ _ _ _ _ _ _ rfl (!Bb (pv 2)) (by decide +kernel) (fun C s H fp=>⟨(@An _ _ (0) _ (show(["share"]:List Str).Nodup by decide +kernel) rfl (by trivial) (by trivial)),(!AB),(!II)⟩) (by intro _;rfl)) (!Ab))) (by intro _;rfl)))))) (!Ag (!Al (!A1))) (!Aw)) (!Ag (!Al (!A5 (Tf hu) (pv 2) (!A9 Cv (by rfl) T.b_tuple Be (!Aa (@Cc _ ["keeper","bound","cells"] [none,none,some 1] _ _ _ _ _ _ _ _ _ _ _ rfl (!Bb (!Am Ap (pv 0) (!Ac) (fun _ _=>rfl))) (by rfl) rfl (by repeat (first|exact trivial|refine⟨rfl,?_⟩)) (by repeat (first|exact trivial|refine⟨fun h=>(by first|exact⟨_,rfl⟩|cases h),?_⟩)) (fun C s H fp=>⟨(@Lg _ (K) _ _ _ _ (2) (by rfl) rfl (!BF (@An _ _ (0) _ (show(["keeper","bound","cells"]:List Str).Nodup by decide +kernel) rfl (by trivial) (by trivial)) (!BF (@An _ _ (1) _ (show(["keeper","bound","cells"]:List Str).Nodup by decide +kernel) rfl (by trivial) (by trivial)) (!Ho))) (by rfl) (by rfl)),(!AB),(!II)⟩) (by intro _;rfl)) (!Ab))) (AF _))))),?_⟩
 try dsimp only[Cg,Cx.nox,Cx.wish]
 dsimp only[CB,DE,S1,J3];have okv:=Rep.ok hv ok;refine⟨_,rfl,_,rfl,h,_,_,_,rfl,rfl,AE.of hh,rfl,k,_,rfl,.inr (AE.of hk),_,_,rfl,okv,_,rfl,?_⟩
 by_cases e:ks=[]/\t=.tup []
 ·obtain⟨rfl,rfl⟩:=e;obtain⟨a,us,rfl,ha,hu0⟩:=hv;have u0:us=[]:=hu0;subst u0;rw[show Es H (.ref a) (([]:List V).length:Int)=true by rw[Bx ha];rfl];refine As rfl ?_;refine⟨_,rfl,a,rfl,⟨_,AE.of ha⟩,G4 (JR ha) fun l nl=>⟨l,[],rfl,AR.of Ad,_,rfl,As rfl ?_⟩⟩;have s1:=Ai nl (.lst []);generalize upd H l (.lst [])=H1 at s1;refine⟨_,rfl,_,rfl,h,_,_,_,rfl,rfl,AE.of (s1.get hh),rfl,k,rfl,⟨_,AE.of (s1.get hk)⟩,G4 (JR (s1.get hk)) fun l2 nl2=>⟨l2,[],rfl,.inl ⟨AR.of Ad,fun t nt=>?_⟩⟩⟩;have s2:=(s1.trans (Ai nl2 (.lst []))).trans (Ai nt (.tup []));exact⟨a,t,[],rfl,rfl,AE.of (s2.get ha),AE.of Ad,q _ _ ⟨fun _=>⟨rfl,rfl⟩,fun _=>rfl⟩ s2⟩
 ·have hn:Es H v (ks.length:Int)=false:=by
   by_cases e2:∃ts,t=.tup ts
   ·obtain⟨ts,rfl⟩:=e2;obtain⟨a,us,rfl,ha,hu0⟩:=hv;rw[Bx ha];have lu:=Aq.len _ _ hu0;refine decide_eq_false fun y=>?_
    have y:us.length=ks.length:=by omega
    rcases fm with rfl|e3
    ·refine e ⟨rfl,?_⟩;rw[List.length_eq_zero_iff.mp (show ts.length=0 by rw[<-lu,y];rfl)]
    ·cases e3;refine e ⟨List.length_eq_zero_iff.mp (by rw[<-y,lu];rfl),rfl⟩
   ·exact Jm hv fun ts y=>e2 ⟨ts,y⟩
  rw[hn];exact Ao rfl (Ao rfl (q false H ⟨fun y=>(by cases y),fun y=>absurd y e⟩ (Ah.refl _)))
def E8 (K:W.Frag)(PU:Addr):Sp:=fun vs H Q _=>∃(h d:Addr) (ag:Int) (k n:Addr),vs=[.ref h,.ref d]/\HeadAt H h ag k n []/\H d=some (.dT [])/\BJ PU BQ BP H/\∀H',Bh PU H H'->BJ PU BQ BP H'->Q (.bl true) H'
theorem LS (T:Txt K mg)(F:Fun K "fit_trees" "fit_trees" CD f fd)(Bl:Def P w K mg base 1 "by_heights" ["cells"] (Cs K PU)):FnOk P w K mg base CP 2 f fd ["head","cells"] (E8 K PU):=by
 exists C6
 ·obtain⟨h,d,ag,k,n,rfl,_⟩:=h;rfl
 obtain⟨h,d,ag,k,n,rfl,hh,hd,tb,q⟩:=h;have hu:=Cu hr;have hu9:=C1 hr;refine⟨_,(!Ae (@A7 _ _ (2) _ _ _ _ C6.nd rfl (by trivial) (!Ht) (by rfl) (by trivial)) (!Ae (@A7 _ _ (3) _ _ _ _ C6.nd rfl (by trivial) (!Ht) (by rfl) (by trivial)) (!Ae (!CA PassesOwn.never rfl (!Bf (!Au Bl (by trivial) rfl (!Aa (pv 1) (!Ab)))) (@An _ _ (4) _ C6.nd rfl (by trivial) (by trivial)) (!Ae (!DG) (!Ae (!DG) (!Ag (!DG)))) (by intro _;rfl)) (!Ae (@Ex _ ["named"] (8) _ _ _ _ _ _ _ _ _ _ _ _ _ C6.nd rfl (by trivial) rfl (!Bb (!Am Ap (pv 0) (!Ac) (fun _ _=>rfl))) (by decide +kernel) (fun C s H fp=>⟨(@An _ _ (0) _ (show(["named"]:List Str).Nodup by decide +kernel) rfl (by trivial) (by trivial)),(!AB),(!Am (AQ (K:=K) (by rfl)) (pv 0) (!Ac) (fun _ _=>rfl))⟩) (by intro _;rfl) (by rfl) (by trivial)) (!Ag (!Al (!Ak (Bd rfl) (by rfl) T.b_all Ca (!Aa (@Cc _ ["tag","entries","steps"] [none,some 2,some 3] _ _ _ _ _ _ _ _ _ _ _ rfl (!Bf (pv 8)) (by rfl) rfl (by repeat (first|exact trivial|refine⟨rfl,?_⟩)) (by repeat (first|exact trivial|refine⟨fun h=>(by first|exact⟨_,rfl⟩|cases h),?_⟩)) (fun C s H fp=>⟨(@An _ _ (0) _ (show(["tag","entries","steps"]:List Str).Nodup by decide +kernel) rfl (by trivial) (by trivial)),(!AB),(!II)⟩) (by intro _;rfl)) (!Ab))))))))),?_⟩
 try dsimp only[Cg,Cx.nox,Cx.wish]
 dsimp only[CB,Ml,A4];intro p1 n1;have s1:=Ai n1 (.dK []);generalize upd H p1 (.dK [])=H1 at s1;intro p2 n2;have s2:=s1.trans (Ai n2 (.dK []));generalize upd H1 p2 (.dK [])=H2 at s2;refine⟨_,rfl,d,[],rfl,s2.get hd,Nat.zero_le _,(fun _ y=>nomatch y),tb.same s2,fun bs p H3 lb _ st3 tb3 hp=>?_⟩;have b0:bs=[]:=List.length_eq_zero_iff.mp lb;subst b0;have st:=(s2.t PU).trans st3;have hh3:=hh.get fun b xs y=>st.get tb y (by intro _ z;cases z)
 refine⟨p,rfl,⟨_,AR.of hp⟩,⟨fun i m σ' H'=>i=0/\σ'=[some (.ref h),some (.ref d),some (.ref p1),some (.ref p2),none,none,none,none,none]/\H'=H3,⟨0,rfl,rfl,rfl⟩,?_⟩⟩
 rintro i m σ H4 ⟨rfl,rfl,rfl⟩
 refine .inl ⟨⟨[],AR.of hp,Nat.le_refl _⟩,?_⟩;refine⟨_,rfl,h,_,_,_,rfl,rfl,AE.of hh3.at_,rfl,n,rfl,⟨_,AE.of hh3.nm⟩,G4 (JR hh3.nm) fun l nl=>?_⟩;have s5:=Ai nl (.lst []);have h5:(upd H4 l (.lst [])) l=some (.lst []):=Ad;dsimp only;generalize upd H4 l (.lst [])=H5 at s5 h5;refine⟨_,rfl,l,rfl,⟨_,AR.of h5⟩,G4 (Ql h5) fun l2 nl2=>⟨l2,[],rfl,AR.of Ad,?_⟩⟩;have s6:=s5.trans (Ai nl2 (.lst []));exact q _ (st.trans (s6.t PU)) (tb3.same s6)
def Dw (K:W.Frag)(PU:Addr):Sp:=fun vs H Q _=>∃(d:Addr),vs=[.ref d]/\H d=some (.dT [])/\BJ PU BQ BP H/\∀H',Bh PU H H'->BJ PU BQ BP H'->Q (.bl true) H'
theorem IA (T:Txt K mg)(F:Fun K "fit_contents" "fit_contents" BH f fd)(Bl:Def P w K mg base 1 "by_heights" ["cells"] (Cs K PU)):FnOk P w K mg base CP 2 f fd ["cells"] (Dw K PU):=by
 exists Dx
 ·obtain⟨d,rfl,_⟩:=h;rfl
 obtain⟨d,rfl,hd,tb,q⟩:=h;have hu:=Cu hr;have hu9:=C1 hr;refine⟨_,(!Ae (@A7 _ _ (1) _ _ _ _ Dx.nd rfl (by trivial) (!Ht) (by rfl) (by trivial)) (!Ae (!CA PassesOwn.never rfl (!Bf (!Au Bl (by trivial) rfl (!Aa (pv 0) (!Ab)))) (@An _ _ (2) _ Dx.nd rfl (by trivial) (by trivial)) (!Ae (!DG) (!Ae (!DG) (!Ae (!DG) (!Ag (!DG))))) (by intro _;rfl)) (!Ag (!Al (!A1))))),?_⟩
 try dsimp only[Cg,Cx.nox,Cx.wish]
 dsimp only[CB,Ml,A4];intro p1 n1;have s2:=Ai n1 (.dK []);generalize upd H p1 (.dK [])=H2 at s2;refine⟨_,rfl,d,[],rfl,s2.get hd,Nat.zero_le _,(fun _ y=>nomatch y),tb.same s2,fun bs p H3 lb _ st3 tb3 hp=>?_⟩;have b0:bs=[]:=List.length_eq_zero_iff.mp lb;subst b0;refine⟨p,rfl,⟨_,AR.of hp⟩,⟨fun i m σ' H'=>i=0/\H'=H3,⟨0,rfl,rfl⟩,?_⟩⟩
 rintro i m σ H4 ⟨rfl,rfl⟩
 exact .inl ⟨⟨[],AR.of hp,Nat.le_refl _⟩,q _ ((s2.t PU).trans st3) tb3⟩
end
end B
theorem Nn {H:Hp}{v:V}{t:Tr}(h:Rep Eu H t v)(k:BE t=true):v=.ref (adr v)/\∃bd,H (adr v)=some (.tup [.str (Gi t),bd]):=by
 unfold BE at k
 split at k
 ·rename_i x y
  rw[Bool.and_eq_true] at k;obtain⟨z,rfl,_⟩:=Ja k.1;obtain⟨p,us,rfl,e,v1,us1,rfl,r1,v2,us2,rfl,r2,rfl⟩:=h;cases r1;exact⟨rfl,v2,e⟩
 ·cases k
theorem SN {H:Hp}{t:Tr}{v:V}(h:Rep Eu H t v)(hp:Ih t):∃(p k n:Addr) (ag:Int) (kp:List (Addr×Str)) (ps:List (Addr×En)) (ks ns:List Tr),v=.ref p/\t=.tup [.int ag,.tup ks,.tup ns]/\HeadAt H p ag k n ps/\ps.map (·.2)=ns.map NH/\ps.length<=24/\
  H k=some (.tup (kp.map fun x=>V.ref x.1))/\kp.length<=8/\(∀x∈kp,∃bd,H x.1=some (.tup [.str x.2,bd]))/\kp.map (·.2)=ks.map Gi/\0<=ag/\ag<=999999999:=by
 unfold Ih at hp
 split at hp
 ·rename_i a ks ns
  obtain⟨h1,d2,d3,_⟩:=hp;obtain⟨ag,rfl,a0,a1⟩:=Ji h1
  replace d2:(decide (ks.length<=8)&&(ks.all BE&&DD (ks.map Gi)))=true:=d2
  replace d3:(decide (ns.length<=24)&&(ns.all (fun t=>C9 t||Dt t)&&DD (ns.map Gi)))=true:=d3
  rw[Bool.and_eq_true,Bool.and_eq_true,decide_eq_true_eq,List.all_eq_true,Fo] at d2 d3;obtain⟨kl,kk,_⟩:=d2;obtain⟨nl,nk,_⟩:=d3;obtain⟨p,us,rfl,e,v1,us1,rfl,r1,v2,us2,rfl,r2,v3,us3,rfl,r3,rfl⟩:=h;cases r1;obtain⟨ka,kvs,rfl,ke,krr⟩:=r2;obtain⟨na,nvs,rfl,ne,nrr⟩:=r3;obtain⟨kps,rfl,rfl,kp⟩:=Ea krr;obtain⟨nps,rfl,rfl,np⟩:=Ea nrr;have kat:∀x∈kps,x.1=.ref (adr x.1)/\∃bd,H (adr x.1)=some (.tup [.str (Gi x.2),bd]):=fun x hx=>Nn (kp x hx) (kk _ (List.mem_map.mpr ⟨x,hx,rfl⟩))
  have nat:∀x∈nps,x.1=.ref (adr x.1):=fun x hx=>(Jb (np x hx) (nk _ (List.mem_map.mpr ⟨x,hx,rfl⟩))).1
  have nen:∀x∈nps,J8 H (adr x.1,NH x.2):=fun x hx=>(T7 (np x hx) (nk _ (List.mem_map.mpr ⟨x,hx,rfl⟩))).1
  refine⟨p,ka,na,ag,kps.map fun x=>(adr x.1,Gi x.2),nps.map fun x=>(adr x.1,NH x.2),_,_,rfl,rfl,⟨e,?_,fun x hx=>?_⟩,?_,?_,?_,?_,fun x hx=>?_,?_,a0,a1⟩
  ·rw[ne,List.map_map];exact congrArg (fun z=>some (HO.tup z)) (List.map_congr_left fun x hx=>nat x hx)
  ·obtain⟨x,hx',rfl⟩:=List.mem_map.mp hx;exact nen x hx'
  ·rw[List.map_map,List.map_map];rfl
  ·rw[List.length_map] at nl ⊢;exact nl
  ·rw[ke,List.map_map];exact congrArg (fun z=>some (HO.tup z)) (List.map_congr_left fun x hx=>(kat x hx).1)
  ·rw[List.length_map] at kl ⊢;exact kl
  ·obtain⟨x,hx',rfl⟩:=List.mem_map.mp hx;exact(kat x hx').2
  ·rw[List.map_map,List.map_map];rfl
 ·exact hp.elim
namespace B
def VM (c:Ce):Tr:=.tup [.int c.tg.1,.int c.tg.2.1,GR c.b,.int c.hh,.int c.kk,c.s]
theorem L6 {H:Hp}:∀{ts:List Tr} {vs:List V},Aq All H ts vs->(∀x∈ts,C8 x)->∃cs:List Ce,vs=cs.map (fun c=>V.ref c.x)/\ts=cs.map VM/\∀c∈cs,E3 H c/\c.tg.2.2=GH c.b
 |[],vs,h,_=>by
  have e:vs=[]:=h;subst e;exact⟨[],rfl,rfl,fun _ h=>nomatch h⟩
 |t::ts,vs,h,hc=>by
  obtain⟨v,us,rfl,r,h'⟩:=h;obtain⟨cs,e1,e2,e3⟩:=L6 h' fun x hx=>hc x (List.mem_cons_of_mem _ hx)
  obtain⟨x,n,a,b,v2,hh,k,v5,s,rfl,hx,rfl,okb,_,_,r2,r5⟩:=Oh r (hc _ List.mem_cons_self);refine⟨⟨x,(n,a,GH b),b,v2,hh,k,v5,s⟩::cs,by rw[e1];rfl,by rw[e2];rfl,fun c hm=>?_⟩;rcases List.mem_cons.mp hm with rfl|hm
  ·exact⟨⟨hx,Rb okb r2,okb,r5⟩,rfl⟩
  ·exact e3 c hm
end B
namespace B
section
variable {P:Program}{w:World}{K:W.Frag}{mg:Str->Option Value}{base:Heap}{f:Addr}{fd:FuncData}{PT PU:Addr}
def Xk:Tr:=.tup [.tup [.str (PySem.Str.ofString "a"),.int 5]]
def Xl:Tr:=.tup [.str (PySem.Str.ofString "s"),.int 1,.str (PySem.Str.ofString "a"),.str EM,.tup [.int 1,.int 0,.int 3]]
def RM:Tr:=.tup [.int 1,.int 0,.tup [.int 2,.tup []],.int 0,.int 1,.tup [.str (PySem.Str.ofString "a")]]
theorem LW {t:Tr}(h:T9 t):∃i,t=.tup [.int i,.tup [],.tup [],.tup [],.tup []]/\0<=i/\i<=999999999:=by
 unfold T9 at h
 split at h
 ·rename_i i
  exact⟨i,rfl,h⟩
 ·exact h.elim
theorem RW {i:Int}(h:0<=i/\i<=999999999):Ih (.tup [.int i,.tup [],.tup []]):=by
 refine⟨?_,?_,?_,?_⟩
 ·show(decide (0<=i)&&decide (i<=999999999))=true;rw[decide_eq_true h.1,decide_eq_true h.2];rfl
 ·show(decide (([]:List Tr).length<=8)&&(([]:List Tr).all BE&&DD (([]:List Tr).map Gi)))=true;rw[show DD (([]:List Tr).map Gi)=true from(Fo _).mpr List.Pairwise.nil];rfl
 ·show(decide (([]:List Tr).length<=24)&&(([]:List Tr).all (fun t=>C9 t||Dt t)&&DD (([]:List Tr).map Gi)))=true;rw[show DD (([]:List Tr).map Gi)=true from(Fo _).mpr List.Pairwise.nil];rfl
 ·exact⟨(fun _ _ _ _ h=>nomatch h),List.nodup_nil,(fun _ _ _ _ h=>nomatch h),(fun _ _ _ _ h=>nomatch h),(fun _ _ _ _ _ _ _ _ _ _ h=>nomatch h)⟩
theorem QH {z:Str}{t:Tr}(h:FI z t=true):t=.tup [.str z]:=by
 unfold FI at h
 split at h
 ·rw[beq_iff_eq.mp h]
 ·cases h
theorem RK {b:Bk}(h1:kindB b=2)(h2:Cp b=[]):b=.folder []:=by
 cases b with
 |piece z=>cases h1
 |row lv ts=>cases h1
 |folder es=>rw[List.map_eq_nil_iff.mp (show es.map (·.tg)=[] from h2)]
theorem Qj {cs:List Ce}{gs:List Tg}(h:Fl cs gs=true):(∀c∈cs,(Cp c.b).all (FQ cs)=true)/\∀g∈gs,∃c∈cs,c.tg=g/\kindB c.b=2:=by
 unfold Fl at h;rw[Bool.and_eq_true,List.all_eq_true,List.all_eq_true] at h;refine⟨h.1,fun g hg=>?_⟩;obtain⟨c,hc,e⟩:=List.any_eq_true.mp (h.2 g hg);rw[Bool.and_eq_true,decide_eq_true_eq,decide_eq_true_eq] at e;exact⟨c,hc,e⟩
theorem Md {α β:Type}{f:α->β}{l:List α}{b:β}(h:l.map f=[b]):∃a,l=[a]/\f a=b:=by
 match l,h with
 |[a],h=>injection h with h _;exact⟨a,rfl,h⟩
structure Asked (t:Tr):Prop where
 head:∀a k n c s,t=.tup [a,k,n,c,s]->sh 4 (.tup [a,k,n])=true/\Q7 (.tup [a,k,n])/\∀ts,c=.tup ts->(∀x∈ts,C8 x)->ts.length<=1
 none:∀a k n s,t=.tup [a,k,n,.tup [],s]->Ih (.tup [a,k,n])->k=.tup []\/s=.tup []
 one:∀a k n x s,t=.tup [a,k,n,.tup [x],s]->C8 x->k=Xk/\n=.tup [Xl]/\x≠RM
def Gr (K:W.Frag)(PT PU:Addr):Sp:=fun vs H Q _=>∃(v:V) (t:Tr),vs=[v]/\Rep All H t v/\t.ok/\Asked t/\Tb PT PU H/\∀b H',(b=true↔T9 t)->Bm PT PU H H'->Tb PT PU H'->Q (.bl b) H'
theorem Ob (T:Txt K mg)(F:Fun K "lets_by" "lets_by" DQ f fd)(FG:Def P w K mg base 2 "fit_trees" ["head","cells"] (E8 K PU))(D3:Def P w K mg base 2 "fit_contents" ["cells"] (Dw K PU))(Ar:Def P w K mg base 1 "is_tuple_of" ["thing","many"] (AW K))(HI:Def P w K mg base 6 "is_head" ["thing"] (GA K))(Fv:Def P w K mg base 8 "are_cells" ["thing"] (ET K))(FC:Def P w K mg base 2 "are_there" ["head","cells"] (EJ K))(Eh:Def P w K mg base 2 "fit_heights" ["cells"] (DU K))(Fp:Def P w K mg base 2 "fit_kinds" ["cells"] (EV K))(EN:Def P w K mg base 2 "fit_counts" ["head","cells"] (Em K))(El:Def P w K mg base 3 "fit_holders" ["head","cells"] (DZ K PT PU))(EY:Def P w K mg base 2 "fit_shares" ["head","cells","shares"] (Er K))(Ew:Def P w K mg base 3 "sum_of" ["block"] (Ge K)):FnOk P w K mg base CP 9 f fd ["account"] (Gr K PT PU):=by
 exists GB
 ·obtain⟨v,t,rfl,_⟩:=h;rfl
 obtain⟨v,t,rfl,hv,ok,ask,tb,q⟩:=h;have hu:=Cu hr;have hu9:=C1 hr;have okv:=Rep.ok hv ok;refine⟨_,(!Ae (!AU (@PW.pt _ _ _ (!BO (!AI (!AH (!Au Ar (by trivial) rfl (!Aa (pv 0) (!Aa (!Ac) (!Ab)))) (by intro _;rfl))) (!BO (!AI (!AH (!Au HI (by trivial) rfl (!Aa (!EG Jc (pv 0) (!FY) (!Gd (!Ac))) (!Ab))) (by intro _;rfl))) (!Bs (!AI (!AH (!Au Fv (by trivial) rfl (!Aa (!Am Ap (pv 0) (!Ac) (fun _ _=>rfl)) (!Ab))) (by intro _;rfl))))))) (!Ag (!Al (!A1))) (!Aw)) (!Ae (@A7 _ _ (1) _ _ _ _ GB.nd rfl (by trivial) (!EG Jc (pv 0) (!FY) (!Gd (!Ac))) (by rfl) (by trivial)) (!Ae (@A7 _ _ (2) _ _ _ _ GB.nd rfl (by trivial) (!A9 (Gp (K:=K) (by rfl) hu9 rfl) (by rfl) T.b_dict G6 (!Aa (@AV _ ["cell"] _ _ _ _ _ _ _ _ _ _ rfl (!Bb (!Am Ap (pv 0) (!Ac) (fun _ _=>rfl))) (by decide +kernel) (fun C s H fp=>⟨(@An _ _ (0) _ (show(["cell"]:List Str).Nodup by decide +kernel) rfl (by trivial) (by trivial)),(!AB),(!Av (!Aa (!Av (!Aa (!Am (AQ (K:=K) (by rfl)) (pv 0) (!Ac) (fun _ _=>rfl)) (!Aa (!Am (AQ (K:=K) (by rfl)) (pv 0) (!Ac) (fun _ _=>rfl)) (!Aa (!Au Ew (by trivial) rfl (!Aa (!Am (AQ (K:=K) (by rfl)) (pv 0) (!Ac) (fun _ _=>rfl)) (!Ab))) (!Ab))))) (!Aa (pv 0) (!Ab))))⟩) (by intro _;rfl)) (!Ab))) (by rfl) (by trivial)) (!Ae (!AU (@PW.pt _ _ _ (!BO (!AI (!AH (!Au FC (by trivial) rfl (!Aa (pv 1) (!Aa (pv 2) (!Ab)))) (by intro _;rfl))) (!BO (!AI (!AH (!Au Eh (by trivial) rfl (!Aa (pv 2) (!Ab))) (by intro _;rfl))) (!Bs (!AI (!AH (!Au Fp (by trivial) rfl (!Aa (pv 2) (!Ab))) (by intro _;rfl))))))) (!Ag (!Al (!A1))) (!Aw)) (!Ae (!AU (@PW.pt _ _ _ (!BO (!AI (!AH (!Au EN (by trivial) rfl (!Aa (pv 1) (!Aa (pv 2) (!Ab)))) (by intro _;rfl))) (!BO (!AI (!AH (!Au El (by trivial) rfl (!Aa (pv 1) (!Aa (pv 2) (!Ab)))) (by intro _;rfl))) (!Bs (!AI (!AH (!Au EY (by trivial) rfl (!Aa (pv 1) (!Aa (pv 2) (!Aa (!Am Ap (pv 0) (!Ac) (fun _ _=>rfl)) (!Ab))))) (by intro _;rfl))))))) (!Ag (!Al (!A1))) (!Aw)) (!Ag (!Al (!A8 (!Au FG (by trivial) rfl (!Aa (pv 1) (!Aa (pv 2) (!Ab)))) (!Bq (!Au D3 (by trivial) rfl (!Aa (pv 2) (!Ab)))))))))))),?_⟩
 try dsimp only[Cg,Cx.nox,Cx.wish]
 dsimp only[CB,DE,S1,J3];have no:∀{H':Hp},Ah H H'->¬T9 t->Q (.bl false) H':=fun s' z=>q false _ ⟨fun y=>(by cases y),fun y=>absurd y z⟩ (ER s') (tb.same s')
 refine⟨_,rfl,_,_,rfl,okv,_,rfl,?_⟩;cases h5:Es H v 5 with
 |false=>
  refine Ao rfl (Ao rfl (no (Ah.refl _) fun z=>?_));obtain⟨i,rfl,_⟩:=LW z;obtain⟨a,us,rfl,ha,hr⟩:=hv;rw[Bx ha] at h5;exact absurd (by rw[Aq.len _ _ hr];rfl) (of_decide_eq_false h5)
 |true=>
  refine As rfl ?_;obtain⟨ts,rfl⟩:∃ts,t=.tup ts:=by
   by_cases y:∃ts,t=.tup ts
   ·exact y
   ·rw[Jm hv fun ts z=>y ⟨ts,z⟩] at h5;cases h5
  obtain⟨x,us,rfl,hx,hr'⟩:=hv;rw[Bx hx,decide_eq_true_eq] at h5;obtain⟨a,k,n,c,sh,v0,v1,v2,v3,v4,rfl,rfl,r0,r1,r2,r3,r4⟩:=VT hr' (by omega);obtain⟨hs,th,fewc⟩:=ask.head a k n c sh rfl;obtain⟨_,oks⟩:=ok;have okc:c.ok:=oks.2.2.2.1;have oksh:sh.ok:=oks.2.2.2.2.1;refine⟨_,rfl,_,rfl,x,_,rfl,AE.of hx,(fun z=>absurd z.2 (show ¬(HT.CQ 5 5 (some 3)=5) by decide)),fun p1 n1=>?_⟩;rw[Np (by decide)];rw[show[v0,v1,v2,v3,v4].take (3:Int).toNat=[v0,v1,v2] from rfl];have s1:=Ai n1 (.tup [v0,v1,v2]);have hp1:(upd H p1 (.tup [v0,v1,v2])) p1=some (.tup [v0,v1,v2]):=Ad;generalize upd H p1 (.tup [v0,v1,v2])=H1 at s1 hp1;refine⟨_,.tup [a,k,n],rfl,⟨p1,_,rfl,hp1,v0,_,rfl,Rep.same s1 _ _ r0,v1,_,rfl,Rep.same s1 _ _ r1,v2,_,rfl,Rep.same s1 _ _ r2,rfl⟩,hs,th,fun b H2 hb s2=>⟨_,rfl,?_⟩⟩;have s12:=s1.trans s2;cases b with
  |false=>
   refine Ao rfl (Ao rfl (no s12 fun z=>?_));obtain⟨i,e,hi⟩:=LW z;cases e;exact absurd (hb.mpr (RW hi)) Bool.false_ne_true
  |true=>
   have hp:=hb.mp rfl;refine As rfl ?_;refine⟨_,rfl,x,_,_,_,rfl,rfl,AE.of (s12.get hx),rfl,v3,c,rfl,Rep.same s12 _ _ r3,okc,fewc,fun b H3 hb3 s3=>⟨_,rfl,?_⟩⟩;have s13:=s12.trans s3;cases b with
   |false=>
    refine Ao rfl (no s13 fun z=>?_);obtain⟨i,e,hi⟩:=LW z;cases e;exact absurd (hb3.mpr ⟨[],rfl,fun _ y=>nomatch y⟩) Bool.false_ne_true
   |true=>
    refine As rfl ?_;obtain⟨ts,rfl,hts⟩:=hb3.mp rfl;have few:=fewc ts rfl hts;obtain⟨ca,cvs,rfl,hca,hcr⟩:=r3;dsimp only[Eb,CB,Ml];refine⟨_,rfl,_,rfl,x,_,rfl,AE.of (s13.get hx),(fun z=>absurd z.2 (show ¬(HT.CQ 5 5 (some 3)=5) by decide)),fun p4 n4=>?_⟩;rw[Np (by decide)];rw[show[v0,v1,v2,V.ref ca,v4].take (3:Int).toNat=[v0,v1,v2] from rfl];have s4:=Ai n4 (.tup [v0,v1,v2]);have hp4:(upd H3 p4 (.tup [v0,v1,v2])) p4=some (.tup [v0,v1,v2]):=Ad;dsimp only[A4];generalize upd H3 p4 (.tup [v0,v1,v2])=H4 at s4 hp4;have s14:=s13.trans s4;have hrep:Rep Eu H4 (.tup [a,k,n]) (.ref p4):=⟨p4,_,rfl,hp4,v0,_,rfl,Rep.same s14 _ _ r0,v1,_,rfl,Rep.same s14 _ _ r1,v2,_,rfl,Rep.same s14 _ _ r2,rfl⟩
    obtain⟨p,k',n',ag,kp,ps,ks,ns,ep,et,hh,hps,lps,hk,lkp,hkp,ekp,a0,a1⟩:=SN hrep hp;cases ep;cases et;obtain⟨cs,rfl,rfl,hcs⟩:=L6 (Aq.same s14 _ _ hcr) hts;have one:cs.length<=1:=by rw[List.length_map] at few;exact few
    refine⟨_,rfl,x,_,_,_,rfl,rfl,AE.of (s14.get hx),rfl,ca,rfl,⟨_,AE.of (s14.get hca)⟩,?_⟩;refine EF (fun i H1 y H2=>∀c,cs[i]?=some c->∃t b,y=.ref t/\H2 t=some (.tup [.ref b,.ref c.x])/\H2 b=some (.tup ((BC c.tg).map kV))) (fun i H1 y H2 H3 h s' c hc=>?_) (fun i H1 y H2 l us us' ws h _ hl c hc=>?_) (A2 (s14.get hca)) (by rw[List.length_map];omega) (fun i u H' R hu' s' hR=>?_) fun l H5 ys n5 s5 h5 ly hy=>?_
    ·obtain⟨t,b,e1,e2,e3⟩:=h c hc;exact⟨t,b,e1,s'.get e2,s'.get e3⟩
    ·obtain⟨t,b,e1,e2,e3⟩:=h c hc;exact⟨t,b,e1,by rw[Aj fun z=>by rw[z,hl] at e2;cases e2];exact e2,by rw[Aj fun z=>by rw[z,hl] at e3;cases e3];exact e3⟩
    ·rw[List.getElem?_map] at hu';obtain⟨c,ec,rfl⟩:=Option.map_eq_some_iff.mp hu';obtain⟨⟨b1,b2,b3,b4⟩,esum⟩:=hcs c (List.mem_of_getElem? ec);refine⟨_,rfl,c.x,_,_,_,rfl,rfl,AE.of (s'.get b1),rfl,_,rfl,c.x,_,_,_,rfl,rfl,AE.of (s'.get b1),rfl,_,rfl,c.x,_,_,_,rfl,rfl,AE.of (s'.get b1),rfl,c.v2,c.b,rfl,Rep.same s' _ _ b2,b3,fun H6 s6=>⟨Vh,fun b nb=>?_⟩⟩;have s7:=Ai nb (.tup [.int c.tg.1,.int c.tg.2.1,.int (GH c.b)]);refine⟨_,rfl,Ms,fun t nt=>?_⟩;have s8:=Ai nt (.tup [.ref b,.ref c.x]);refine hR _ _ ((s6.trans s7).trans s8) fun c' hc'=>?_
     rw[ec] at hc';cases hc';exact⟨t,b,rfl,Ad,s8.get (by rw[Ad,<-esum];rfl)⟩
    rw[List.length_map] at ly;dsimp only[PP];refine L0 (fun w=>∀c∈cs,w=.ref c.x) h5 ly one (fun i c y e1 e2=>?_) fun d ws lw hw nd=>?_
    ·obtain⟨_,_,hq⟩:=hy i y e2;obtain⟨t,b,q1,q2,q3⟩:=hq c e1;exact⟨b,q3,t,_,q1,q2,fun c' hc'=>by rw[HU one (List.mem_of_getElem? e1)] at hc';rw[List.mem_singleton.mp hc']⟩
    have ek:GD cs ws=AS cs:=by
     match cs,ws,one,lw with
     |[],[],_,_=>rfl
     |[c],[w],_,_=>rw[hw w (List.mem_singleton.mpr rfl) c (List.mem_singleton.mpr rfl)];rfl
     |_::_::_,_,one,_=>simp at one
    rw[ek];have s6:=s5.trans (Ai nd (.dT (AS cs)));have hd6:(upd H5 d (.dT (AS cs))) d=some (.dT (AS cs)):=Ad;generalize upd H5 d (.dT (AS cs))=H6 at s6 hd6;have hh6:=hh.same s6;have hcs6:∀c∈cs,E3 H6 c:=fun c hc=>(hcs c hc).1.same s6
    have s16:=s14.trans s6;dsimp only[A4,CB,DE,S1,J3];refine⟨_,rfl,_,rfl,p4,d,n',.int ag,.ref k',_,ps.map (fun p=>p.2.tg),cs,rfl,hh6.at_,hh6.nm,by rw[List.length_map,List.length_map],by rw[List.length_map];omega,fun i u g e1 e2=>?_,hd6,one,hcs6,fun H7 s7=>⟨_,rfl,?_⟩⟩
    ·rw[List.getElem?_map] at e1 e2;obtain⟨pp,ei,rfl⟩:=Option.map_eq_some_iff.mp e1;rw[ei] at e2;cases e2;obtain⟨ta,hta,hpx⟩:=hh6.en _ (List.mem_of_getElem? ei);exact⟨pp.1,_,ta,rfl,hpx,by cases pp.2<;>rfl,hta⟩
    have emp:T9 (.tup [.int ag,.tup ks,.tup ns,.tup (cs.map VM),sh])->cs=[]/\ps=[]/\kp=[]/\sh=.tup []:=fun z=>by
     obtain⟨i,e,_⟩:=LW z;injection e with e
     injection e with _ e
     injection e with e1 e
     injection e with e2 e
     injection e with e3 e
     injection e with e4 _
     injection e1 with e1
     injection e2 with e2
     injection e3 with e3
     rw[e1] at ekp;rw[e2] at hps;exact⟨List.map_eq_nil_iff.mp e3,List.map_eq_nil_iff.mp hps,List.map_eq_nil_iff.mp ekp,e4⟩
    have s17:=s16.trans s7;cases hth:Fl cs (ps.map fun p=>p.2.tg) with
    |false=>
     refine Ao rfl (Ao rfl (no s17 fun z=>?_));obtain⟨e1,e2,_⟩:=emp z;rw[e1,e2] at hth;cases hth
    |true=>
     obtain⟨in1,in2⟩:=Qj hth;refine As rfl ?_;have hd7:=s7.get hd6;refine⟨_,rfl,d,cs,rfl,hd7,one,fun c hc=>(hcs6 c hc).same s7,in1,fun H8 s8=>⟨_,rfl,?_⟩⟩;have s18:=s17.trans s8;have s78:=s7.trans s8;have hd8:=s8.get hd7;cases hhi:KL cs with
     |false=>
      refine Ao rfl (Ao rfl (no s18 fun z=>?_));rw[(emp z).1] at hhi;cases hhi
     |true=>
      refine As rfl ?_;have hi:∀c∈cs,Cp c.b=[]/\c.hh=0:=fun c hc=>by
       have:=List.all_eq_true.mp hhi c hc;rw[Bool.and_eq_true,decide_eq_true_eq,decide_eq_true_eq] at this;exact this
      have told:∀c,cs=[c]->VM c≠RM/\(∃p,ps=[p]/\p.2=.st (PySem.Str.ofString "s") (PySem.Str.ofString "a") EM (1,0,3))/\(∃y,kp=[y]/\y.2=PySem.Str.ofString "a")/\c.tg=(1,0,3)/\c.b=.folder []:=fun c ec=>by
       have hc:c∈cs:=by rw[ec];exact List.mem_singleton.mpr rfl
       obtain⟨f1,f2,f3⟩:=ask.one (.int ag) (.tup ks) (.tup ns) (VM c) sh (by rw[ec];rfl) (hts _ (List.mem_map.mpr ⟨c,hc,rfl⟩));injection f1 with f1
       injection f2 with f2
       rw[f2] at hps;rw[f1] at ekp;obtain⟨p,ep,ep2⟩:=Md (show ps.map (fun p=>p.2)=[.st (PySem.Str.ofString "s") (PySem.Str.ofString "a") EM (1,0,3)] from hps);obtain⟨y,ey,ey2⟩:=Md (show kp.map (fun x=>x.2)=[PySem.Str.ofString "a"] from ekp);obtain⟨c',hc',g1,g2⟩:=in2 p.2.tg (by rw[ep];exact List.mem_singleton.mpr rfl);rw[ec] at hc';rw[List.mem_singleton.mp hc'] at g1 g2;refine⟨f3,⟨p,ep,ep2⟩,⟨y,ey,ey2⟩,?_,RK g2 (hi c hc).1⟩;rw[g1,ep2];rfl
      have hem:∀c∈cs,c.b=.folder []:=fun c hc=>(told c (HU one hc)).2.2.2.2
      refine⟨_,rfl,d,cs,rfl,hd8,one,fun c hc=>(hcs6 c hc).same s78,hem,fun H9 s9=>⟨_,rfl,As rfl ?_⟩⟩;have s19:=s18.trans s9;have s69:=s78.trans s9;have hd9:=s9.get hd8;have hh9:=hh6.same s69;have hcs9:∀c∈cs,E3 H9 c:=fun c hc=>(hcs6 c hc).same s69
      dsimp only[Eb,CB,DE,S1,J3];refine⟨_,rfl,_,rfl,p4,d,ag,k',n',ps,cs,rfl,hh9,by omega,hd9,one,hcs9,hem,fun p hp=>?_,fun H10 s10=>⟨_,rfl,?_⟩⟩
      ·obtain⟨c,hc,g1,_⟩:=in2 p.2.tg (List.mem_map.mpr ⟨p,hp,rfl⟩);exact List.any_eq_true.mpr ⟨c,hc,decide_eq_true g1⟩
      have s110:=s19.trans s10;cases hct:cs.all fun c=>decide (c.kk=(ps.length:Int)) with
      |false=>
       refine Ao rfl (Ao rfl (no s110 fun z=>?_));rw[(emp z).1] at hct;cases hct
      |true=>
       refine As rfl ?_;have form:Form ps cs kp (PySem.Str.ofString "a"):=by
        match hc:cs,one with
        |[],_=>
         refine .inl ⟨?_,rfl⟩;cases ps with
         |nil=>rfl
         |cons p r=>
          obtain⟨c,hc',_⟩:=in2 p.2.tg (List.mem_cons_self ..);cases hc'
        |[c],_=>
         obtain⟨_,⟨p,ep,ep2⟩,⟨y,ey,ey2⟩,f1,_⟩:=told c rfl;exact .inr ⟨p,c,y,_,_,ep,rfl,ey,ey2,by rw[ep2,f1]⟩
        |_::_::_,one=>simp at one
       have s610:=s69.trans s10;have s410:=s6.trans s610;refine⟨_,rfl,_,rfl,p4,d,ag,k',n',ps,cs,kp,PySem.Str.ofString "a",rfl,hh6.same s610,s410.get hk,by omega,fun y hy=>?_,s10.get hd9,fun c hc=>(hcs9 c hc).same s10,hem,form,tb.same s110,fun H11 u11 tb11=>⟨_,rfl,?_⟩⟩
       ·obtain⟨bd,hb'⟩:=hkp y hy;exact⟨bd,s410.get hb'⟩
       have u1:Bm PT PU H H11:=(ER s110).trans u11;have nt:∀xs ps,HO.tup xs≠.tbl ps:=by intro _ _ z;cases z
       cases hho:cs.all fun c=>FI (PySem.Str.ofString "a") c.s with
       |false=>
        refine Ao rfl (Ao rfl (q false H11 ⟨fun y=>(by cases y),fun z=>?_⟩ u1 tb11));rw[(emp z).1] at hho;cases hho
       |true=>
        refine As rfl ?_;have c0:cs=[]:=by
         match hc:cs,one with
         |[],_=>rfl
         |[c],_=>
          exfalso;obtain⟨f3,⟨p,ep,ep2⟩,_,f4,f5⟩:=told c rfl;have hm:c∈[c]:=List.mem_singleton.mpr rfl;have g1:=(hi c hm).2;have g2:=of_decide_eq_true (List.all_eq_true.mp hct c hm);rw[ep] at g2;have g3:=QH (List.all_eq_true.mp hho c hm);apply f3;unfold VM;rw[f4,f5,g1,g2,g3];rfl
         |_::_::_,one=>simp at one
        subst c0;have p0:ps=[]:=by
         rcases form with⟨e,_⟩|⟨p,c,y,nm,og,_,e,_⟩
         ·exact e
         ·cases e
        subst p0;have u10:∀b xs,H10 b=some (.tup xs)->H11 b=some (.tup xs):=u11.tup (tb.same s110);have hh11:=(hh6.same s610).get u10;have hk11:=u10 _ _ (s410.get hk);have hd11:H11 d=some (.dT []):=u11.get (tb.same s110) (s10.get hd9) (by intro _ z;cases z);have r4':Rep All H11 sh v4:=CY (fun a o e z=>u1.get tb e fun ps w=>by
         subst w;rcases z with⟨_,z⟩|⟨_,z⟩<;>cases z) _ _ r4
        refine⟨_,rfl,_,rfl,_,rfl,x,_,_,_,rfl,rfl,AE.of (u1.tup tb _ _ hx),rfl,p4,d,v4,sh,ag,k',n',_,_,rfl,hh11.at_,hk11,by rw[List.length_map];omega,r4',oksh,?_,fun b H12 hb12 s12'=>⟨_,rfl,?_⟩⟩
        ·rcases ask.none (.int ag) (.tup ks) (.tup ns) sh rfl hp with e|e
         ·injection e with e
          rw[e] at ekp;rw[List.map_eq_nil_iff.mp ekp];exact .inl rfl
         ·exact .inr e
        have u2:=u1.trans (ER s12');have tb12:=tb11.same s12';cases b with
        |false=>
         refine Ao rfl (q false H12 ⟨fun y=>(by cases y),fun z=>?_⟩ u2 tb12);obtain⟨_,_,e1,e2⟩:=emp z;rw[e1] at hb12;exact absurd (hb12.mpr ⟨rfl,e2⟩) Bool.false_ne_true
        |true=>
         obtain⟨e1,e2⟩:=hb12.mp rfl;subst e2;have k0:=List.map_eq_nil_iff.mp e1;subst k0;have ks0:ks=[]:=List.map_eq_nil_iff.mp ekp.symm;have ns0:ns=[]:=List.map_eq_nil_iff.mp hps.symm;subst ks0;subst ns0;refine As rfl ?_;refine⟨_,rfl,_,rfl,p4,d,ag,k',n',rfl,hh11.same s12',s12'.get hd11,tb12.b,fun H13 st13 tb13=>⟨_,rfl,Ao rfl ?_⟩⟩;have tb13':=tb12.r st13 tb13;have hd13:H13 d=some (.dT []):=st13.get tb12.b (s12'.get hd11) (by intro _ z;cases z);refine⟨_,rfl,d,rfl,hd13,tb13,fun H14 st14 tb14=>?_⟩;exact q true H14 ⟨fun _=>⟨a0,a1⟩,fun _=>rfl⟩ ((u2.trans (Lw st13)).trans (Lw st14)) (tb13'.r st14 tb14)
end
end B
theorem SI:∀z∈Qa,z.length<=1000:=by decide +kernel
theorem B6:∀{d:Nat} {t:Tr},Oe d t->t.ok
 |_,.int _,_=>trivial
 |_,.non,_=>trivial
 |_,.bl _,_=>trivial
 |0,.str _,h=>h.elim
 |d+1,.str z,h=>by
  have:=SI z h;show z.length<=_
  first|exact this|omega
 |0,.tup _,h=>h.elim
 |d+1,.tup ts,h=>⟨by have:=h.1;omega,odds_ok fun x hx=>B6 (h.2 x hx)⟩
 |0,.lst _,h=>h.elim
 |d+1,.lst ts,h=>⟨by have:=h.1;omega,odds_ok fun x hx=>B6 (h.2 x hx)⟩
where odds_ok:∀{ts:List Tr},(∀x∈ts,x.ok)->Tr.oks ts
 |[],_=>trivial
 |t::ts,h=>⟨h t List.mem_cons_self,odds_ok fun x hx=>h x (List.mem_cons_of_mem _ hx)⟩
theorem Fb {n:Nat}:∀{ts:List Tr},(∀x∈ts,x.dep<=n)->Tr.deps ts<=n
 |[],_=>Nat.zero_le _
 |t::ts,h=>Nat.max_le.mpr ⟨h t List.mem_cons_self,Fb fun x hx=>h x (List.mem_cons_of_mem _ hx)⟩
theorem Co:∀{d:Nat} {t:Tr},Oe d t->t.dep<=d+1
 |d,.int _,_=>by show 1<=d+1;omega
 |d,.non,_=>by show 1<=d+1;omega
 |d,.bl _,_=>by show 1<=d+1;omega
 |d,.str _,_=>by show 1<=d+1;omega
 |0,.tup _,h=>h.elim
 |d+1,.tup ts,h=>by
  have:=Fb fun x hx=>Co (h.2 x hx)
  show 1+Tr.deps ts<=d+1+1;omega
 |0,.lst _,h=>h.elim
 |d+1,.lst ts,h=>by
  have:=Fb fun x hx=>Co (h.2 x hx)
  show 1+Tr.deps ts<=d+1+1;omega
theorem TR:∀{t:Tr} (n:Nat),t.ok->sh n t=true
 | .int _,n,_=>by cases n<;>rfl
 | .non,n,_=>by cases n<;>rfl
 | .bl _,n,_=>by cases n<;>rfl
 | .lst _,n,_=>by cases n<;>rfl
 | .str z,n,h=>by
  have e:sh n (.str z)=decide (z.length<=1000):=by cases n<;>rfl
  rw[e];exact decide_eq_true h
 | .tup ts,0,_=>rfl
 | .tup ts,n+1,h=>by
  show ts.all (sh n)=true;exact oks_sh n h.2
where oks_sh:∀{ts:List Tr} (n:Nat),Tr.oks ts->ts.all (sh n)=true
 |[],_,_=>rfl
 |t::ts,n,h=>by rw[List.all_cons,TR n h.1,oks_sh n h.2];rfl
theorem FZ {d:Nat}{ts:List Tr}(h:Oe d (.tup ts)):ts.length<=3/\∀x∈ts,∃d',Oe d' x:=by
 cases d with
 |zero=>exact h.elim
 |succ d=>exact⟨h.1,fun x hx=>⟨d,h.2 x hx⟩⟩
theorem PZ {d:Nat}{t:Tr}(h:Oe d t):Ed t=true:=by
 unfold Ed
 split
 ·have:=(FZ h).1;simp at this
 ·rfl
namespace B
theorem IX {d:Nat}{t:Tr}(h:Oe d t):¬C8 t:=fun z=>by
 obtain⟨n,a,b,hh,c,s,rfl,_⟩:=z;have:=(FZ h).1;simp at this
theorem Kr {d:Nat}{c:Tr}(h:Oe d c):∀ts,c=.tup ts->(∀x∈ts,C8 x)->ts.length=0:=fun ts e hc=>by
 subst e;cases ts with
 |nil=>rfl
 |cons x r=>
  obtain⟨d',ho⟩:=(FZ h).2 x List.mem_cons_self;exact absurd (hc x List.mem_cons_self) (IX ho)
theorem KF {ts:List Tr}(h:ts.length≠5):Asked (.tup ts):=
 ⟨fun a k n c s e=>absurd (by injection e with e;rw[e];rfl) h,fun a k n s e=>absurd (by injection e with e;rw[e];rfl) h,fun a k n x s e=>absurd (by injection e with e;rw[e];rfl) h⟩
theorem Px {d:Nat}{t:Tr}(h:Oe d t):Asked t:=by
 by_cases e:∃ts,t=.tup ts
 ·obtain⟨ts,rfl⟩:=e;exact KF (by have:=(FZ h).1;omega)
 ·exact⟨fun a k n c s z=>absurd ⟨_,z⟩ e,fun a k n s z=>absurd ⟨_,z⟩ e,fun a k n x s z=>absurd ⟨_,z⟩ e⟩
theorem E4 {a k n c s:Tr}(ok:(Tr.tup [a,k,n]).ok)(th:∀ns,n=.tup ns->∀x∈ns,Ed x=true)(hc:∀ts,c=.tup ts->(∀x∈ts,C8 x)->ts.length<=1)(h0:c=.tup []->k=.tup []\/s=.tup [])(h1:∀x,c=.tup [x]->C8 x->k=Xk/\n=.tup [Xl]/\x≠RM):Asked (.tup [a,k,n,c,s]):=by
 refine⟨fun a' k' n' c' s' e=>?_,fun a' k' n' s' e _=>?_,fun a' k' n' x s' e=>?_⟩
 ·cases e;refine⟨TR 4 ok,?_,hc⟩;cases n with
  |tup ns=>exact th ns rfl
  |_=>trivial
 ·cases e;exact h0 rfl
 ·cases e;exact h1 x rfl
end B
mutual
theorem O0 {H:Hp}:∀(t:Tr) (v:V),Rep (fun _=>True) H t v->Rep (fun b=>H b≠none) H t v
 | .non,_,h=>h
 | .bl _,_,h=>h
 | .int _,_,h=>h
 | .str _,_,h=>h
 | .tup ts,_,⟨a,vs,e,ha,hr⟩=>⟨a,vs,e,ha,IZ ts vs hr⟩
 | .lst ts,_,⟨a,vs,e,_,ha,hr⟩=>⟨a,vs,e,(fun z=>by rw[show H a=none from z] at ha;cases ha),ha,IZ ts vs hr⟩
theorem IZ {H:Hp}:∀(ts:List Tr) (vs:List V),Aq (fun _=>True) H ts vs->Aq (fun b=>H b≠none) H ts vs
 |[],_,h=>h
 |t::ts,_,⟨v,us,e,h1,h2⟩=>⟨v,us,e,O0 t v h1,IZ ts us h2⟩
end
section
variable {K:W.Frag}{F:Addr->Prop}
def Qd (F:Addr->Prop)(te:TE)(σ:St)(H:Hp)(t:Tr):Prop:=∀H1,Ah H H1->∀Q:VK,(∀v H',Ah H1 H'->Rep F H' t v->Q v H')->te σ H1 Q
def Vq (F:Addr->Prop)(ta:TA)(σ:St)(H:Hp)(ts:List Tr):Prop:=∀H1,Ah H H1->∀Q:List V->Hp->Prop,(∀vs H',Ah H1 H'->Aq F H' ts vs->Q vs H')->ta σ H1 Q
theorem Cz {i:Nat}{σ:St}{H:Hp}{t:Tr}{v:V}(h:σ[i]?=some (some v))(r:Rep F H t v):Qd F (Iv i) σ H t:=fun H1 s1 Q q=>⟨v,h,q v H1 (Ah.refl _) (Rep.same s1 _ _ r)⟩
theorem FN {n:Int}{σ:St}{H:Hp}:Qd F (tC (.int n)) σ H (.int n):=fun H1 _ Q q=>q _ H1 (Ah.refl _) rfl
theorem FM {z:Str}{σ:St}{H:Hp}:Qd F (tC (.str z)) σ H (.str z):=fun H1 _ Q q=>q _ H1 (Ah.refl _) rfl
theorem DA {σ:St}{H:Hp}:Vq F PP σ H []:=fun H1 _ Q q=>q _ H1 (Ah.refl _) rfl
theorem B3 {te:TE}{ta:TA}{σ:St}{H:Hp}{t:Tr}{ts:List Tr}(h1:Qd F te σ H t)(h2:Vq F ta σ H ts):Vq F (KY te ta) σ H (t::ts):=fun H1 s1 Q q=>
 h1 H1 s1 _ fun v H2 s2 r=>h2 H2 (s1.trans s2) _ fun vs H3 s3 rs=>q _ H3 (s2.trans s3) ⟨v,vs,rfl,Rep.same s3 _ _ r,rs⟩
theorem C5 {ta:TA}{σ:St}{H:Hp}{ts:List Tr}(h:Vq F ta σ H ts)(l:ts.length<=1000):Qd F (Wf ta) σ H (.tup ts):=fun H1 s1 Q q=>
 h H1 s1 _ fun vs H2 s2 rs=>⟨small (by rw[Aq.len _ _ rs];omega),fun p np=>q _ _ (s2.trans (Ai np _)) ⟨p,vs,rfl,Ad,Aq.same (Ai np _) _ _ rs⟩⟩
theorem RE {ta tb:TE}{σ:St}{H:Hp}{ts us:List Tr}(h1:Qd F ta σ H (.tup ts))(h2:Qd F tb σ H (.tup us))(l:ts.length+us.length<=1000):Qd F (KG (RS K) ta tb) σ H (.tup (ts++us)):=fun H1 s1 Q q=>
 h1 H1 s1 _ fun v H2 s2 r=>h2 H2 (s1.trans s2) _ fun v' H3 s3 r'=>by
  obtain⟨a,vs,rfl,ha,hr⟩:=Rep.same s3 _ _ r;obtain⟨b,ws,rfl,hb,hr'⟩:=r';have l1:=Aq.len _ _ hr;have l2:=Aq.len _ _ hr';refine⟨a,b,vs,ws,rfl,rfl,AE.of ha,AE.of hb,small (by omega),fun e=>?_,fun _ e=>?_,fun _ _ p np=>?_⟩
  ·have:ts=[]:=List.length_eq_zero_iff.mp (by rw[<-l1,e];rfl);subst this;exact q _ _ (s2.trans s3) ⟨b,ws,rfl,hb,hr'⟩
  ·have:us=[]:=List.length_eq_zero_iff.mp (by rw[<-l2,e];rfl);subst this;rw[List.append_nil] at q;exact q _ _ (s2.trans s3) ⟨a,vs,rfl,ha,hr⟩
  ·have s4:=Ai np (.tup (vs++ws));exact q _ _ ((s2.trans s3).trans s4) ⟨p,_,rfl,Ad,(Aq.same s4 _ _ hr).append (Aq.same s4 _ _ hr')⟩
theorem KH {H:Hp}:∀(k:Nat) (ts:List Tr) (vs:List V),Aq F H ts vs->Aq F H (ts.take k) (vs.take k)
 |0,_,_,_=>by rw[List.take_zero,List.take_zero];rfl
 |k+1,[],vs,h=>by cases(show vs=[] from h);rfl
 |k+1,t::ts,_,⟨v,us,e,h1,h2⟩=>by subst e;exact⟨v,_,rfl,h1,KH k ts us h2⟩
theorem Kl {H:Hp}:∀(k:Nat) (ts:List Tr) (vs:List V),Aq F H ts vs->Aq F H (ts.drop k) (vs.drop k)
 |0,_,_,h=>h
 |k+1,[],vs,h=>by cases(show vs=[] from h);rfl
 |k+1,t::ts,_,⟨v,us,e,h1,h2⟩=>by subst e;exact Kl k ts us h2
theorem Wb {i j k:Nat}{σ:St}{H:Hp}{ts:List Tr}{v:V}(h:σ[i]?=some (some v))(r:Rep F H (.tup ts) v)(hk:σ[j]?=some (some (.int (k:Int))))(l6:ts.length=6)(k5:k<=5):Qd F (WM (Uh K) (Iv i) Ld (RG (Iv j))) σ H (.tup (ts.take k)):=fun H1 s1 Q q=>by
 obtain⟨a,vs,rfl,ha,hr⟩:=Rep.same s1 _ _ r;have lv:=Aq.len _ _ hr;refine⟨_,h,_,hk,_,rfl,a,vs,rfl,AE.of ha,?_,fun p np=>?_⟩
 ·rw[lv,l6];have:k=0\/k=1\/k=2\/k=3\/k=4\/k=5:=by omega
  rcases this with rfl|rfl|rfl|rfl|rfl|rfl<;>decide
 ·rw[Np (Int.natCast_nonneg k),Int.toNat_natCast];have s2:=Ai np (.tup (vs.take k));exact q _ _ s2 ⟨p,_,rfl,Ad,KH k _ _ (Aq.same s2 _ _ hr)⟩
theorem V3 {i j k:Nat}{σ:St}{H:Hp}{ts:List Tr}{v:V}(h:σ[i]?=some (some v))(r:Rep F H (.tup ts) v)(hk:σ[j]?=some (some (.int (k:Int))))(l6:ts.length=6)(k5:k<=5):Qd F (WM (Uh K) (Iv i) (RG (KG (OC fun i j=>V.int (i+j)) (Iv j) (tC (V.int 1)))) Ld) σ H (.tup (ts.drop (k+1))):=fun H1 s1 Q q=>by
 obtain⟨a,vs,rfl,ha,hr⟩:=Rep.same s1 _ _ r;have lv:=Aq.len _ _ hr;refine⟨_,h,_,hk,_,_,rfl,rfl,_,rfl,a,vs,rfl,AE.of ha,?_,fun p np=>?_⟩
 ·rw[lv,l6];have:k=0\/k=1\/k=2\/k=3\/k=4\/k=5:=by omega
  rcases this with rfl|rfl|rfl|rfl|rfl|rfl<;>decide
 ·rw[Vi (by omega),show((k:Int)+1).toNat=k+1 by omega];have s2:=Ai np (.tup (vs.drop (k+1)));exact q _ _ s2 ⟨p,_,rfl,Ad,Kl (k+1) _ _ (Aq.same s2 _ _ hr)⟩
theorem We {te:TE}{j k:Nat}{σ:St}{H:Hp}{ts:List Tr}{t:Tr}(h:Qd F te σ H (.tup ts))(hk:σ[j]?=some (some (.int (k:Int))))(e:ts[k]?=some t):Qd F (KG (Uk K) te (Iv j)) σ H t:=fun H1 s1 Q q=>
 h H1 s1 _ fun v H2 s2 r=>by
  obtain⟨a,vs,rfl,ha,hr⟩:=r;have lv:=Aq.len _ _ hr;have lk:=(List.getElem?_eq_some_iff.mp e).1;have ek:vs[k]?=some (vs[k]'(by omega)):=List.getElem?_eq_getElem (by omega);obtain⟨t',e',r'⟩:=Aq.get hr ek;rw[e] at e';cases e';exact⟨_,hk,a,vs,_,_,rfl,rfl,AE.of ha,AZ ek,q _ _ s2 r'⟩
theorem RT {ta:TA}{σ:St}{H:Hp}{ts:List Tr}(h:Vq F ta σ H ts)(l:ts.length<=1000)(H1:Hp)(s1:Ah H H1){Q:VK}(q:∀us H' p,Ah H1 H'->Aq F H' ts us->H' p=none->Q (.ref p) (upd H' p (.lst us))):Vf ta σ H1 Q:=
 h H1 s1 _ fun us H2 s2 rs=>⟨small (by rw[Aq.len _ _ rs];omega),fun p np=>q us H2 p s2 rs np⟩
theorem Ss {sp:Sp}{dvs:List V}{E:XK}{ta:TA}{σ:St}{H:Hp}{ts:List Tr}(h:Vq F ta σ H ts)(H1:Hp)(s1:Ah H H1){Q:VK}(q:∀vs H',Ah H1 H'->Aq F H' ts vs->sp (vs++dvs) H' Q E):OW sp dvs E ta σ H1 Q:=h H1 s1 _ q
theorem CW {te:TE}{g:TG}{u:TS}{D:Ends}{σ:St}{H:Hp}(h:te σ H fun x H'=>g x σ H' fun σ' H''=>u D σ' H''):CB (Ml te g) u D σ H:=h
theorem RH {te:TE}{u:TS}{D:Ends}{σ:St}{H:Hp}(h:te σ H fun _ H'=>u D σ H'):CB (OU te) u D σ H:=h
theorem Kj {r:R2}{te2:TE}{sp:Sp}{dvs:List V}{E:XK}{ta:TA}{σ:St}{H:Hp}{ts:List Tr}(h:Vq F ta σ H ts)(H1:Hp)(s1:Ah H H1){Q:VK}(q:∀vs H',Ah H1 H'->Aq F H' ts vs->sp (vs++dvs) H' (fun x H2=>te2 σ H2 fun y H3=>r x y H3 Q) E):KG r (OW sp dvs E ta) te2 σ H1 Q:=h H1 s1 _ q
end
namespace B
structure GoodT (t:Tr):Prop where
 ok:t.ok
 dep:t.dep<=8
 ask:Asked t
abbrev tE:Tr:=.tup []
abbrev aS:Str:=PySem.Str.ofString "a"
abbrev UF (n:Int):Tr:=.tup [.tup [.str aS,.tup [.int n,.int 1]]]
abbrev U4:Tr:=.tup [.tup [.str aS,.int 5]]
abbrev Wy:Tr:=.tup [.str (PySem.Str.ofString "s"),.int 1,.str aS,.str (PySem.Str.ofString ""),.tup [.int 1,.int 0,.int 3]]
abbrev HJ:List Tr:=[.int 1,.int 0,.tup [.int 2,.tup []],.int 0,.int 1,.tup [.str aS]]
theorem O8:aS.length<=1000:=by decide +kernel
theorem V0:(PySem.Str.ofString "s").length<=1000:=by decide +kernel
theorem VW:(PySem.Str.ofString "").length<=1000:=by decide +kernel
theorem UL {ts:List Tr}(l:ts.length<=1000)(h:∀x∈ts,x.ok):(Tr.tup ts).ok:=⟨l,B6.odds_ok h⟩
theorem Bi:tE.ok:=⟨Nat.zero_le _,trivial⟩
theorem Oa:∀x∈HJ,x.ok:=by
 intro x hx;simp only[List.mem_cons,List.not_mem_nil,or_false] at hx;rcases hx with rfl|rfl|rfl|rfl|rfl|rfl
 ·trivial
 ·trivial
 ·exact⟨by show 2<=1000;decide,trivial,Bi,trivial⟩
 ·trivial
 ·trivial
 ·exact⟨by show 1<=1000;decide,O8,trivial⟩
theorem OF:∀x∈HJ,x.dep<=5:=by
 intro x hx;simp only[List.mem_cons,List.not_mem_nil,or_false] at hx;rcases hx with rfl|rfl|rfl|rfl|rfl|rfl<;>decide
theorem LU:U4.ok:=⟨by show 1<=1000;decide,⟨by show 2<=1000;decide,O8,trivial,trivial⟩,trivial⟩
theorem RR (n:Int):(UF n).ok:=⟨by show 1<=1000;decide,⟨by show 2<=1000;decide,O8,⟨by show 2<=1000;decide,trivial,trivial,trivial⟩,trivial⟩,trivial⟩
theorem Rw:Wy.ok:=⟨by show 5<=1000;decide,V0,trivial,O8,VW,⟨by show 3<=1000;decide,trivial,trivial,trivial,trivial⟩,trivial⟩
theorem DF {a k n c s:Tr}(h1:a.ok)(h2:k.ok)(h3:n.ok)(h4:c.ok)(h5:s.ok):(Tr.tup [a,k,n,c,s]).ok:=⟨by show 5<=1000;decide,h1,h2,h3,h4,h5,trivial⟩
theorem C2 {a k n c s:Tr}{m:Nat}(h1:a.dep<=m)(h2:k.dep<=m)(h3:n.dep<=m)(h4:c.dep<=m)(h5:s.dep<=m):(Tr.tup [a,k,n,c,s]).dep<=m+1:=by
 have:=Fb (n:=m) (ts:=[a,k,n,c,s]) fun x hx=>by
  simp only[List.mem_cons,List.not_mem_nil,or_false] at hx;rcases hx with rfl|rfl|rfl|rfl|rfl<;>assumption
 show 1+Tr.deps [a,k,n,c,s]<=m+1;omega
theorem OA {t:Tr}{m:Nat}(h:t.dep<=m):(Tr.tup [t]).dep<=m+1:=by
 have:=Fb (n:=m) (ts:=[t]) fun x hx=>by rw[List.mem_singleton.mp hx];exact h
 show 1+Tr.deps [t]<=m+1;omega
theorem CZ {a k n:Tr}(h1:a.ok)(h2:k.ok)(h3:n.ok):(Tr.tup [a,k,n]).ok:=⟨by show 3<=1000;decide,h1,h2,h3,trivial⟩
theorem EE:∀ns:List Tr,tE=.tup ns->∀x∈ns,Ed x=true:=fun ns e x hx=>by
 cases e;cases hx
theorem Fw:∀ts:List Tr,tE=.tup ts->(∀x∈ts,C8 x)->ts.length<=1:=fun ts e _=>by
 cases e;exact Nat.zero_le _
section
variable {o:Tr}(ho:Oe 4 o)(ag:Int)
include ho
theorem JA:∀ns,o=.tup ns->∀x∈ns,Ed x=true:=fun ns e x hx=>by
 subst e;obtain⟨d,h⟩:=(FZ ho).2 x hx;exact PZ h
theorem UN:GoodT o:=⟨B6 ho,Nat.le_trans (Co ho) (by decide),Px ho⟩
theorem UZ:GoodT (.tup [o,tE,tE,tE,tE]):=
 ⟨DF (B6 ho) Bi Bi Bi Bi,C2 (m:=7) (Nat.le_trans (Co ho) (by decide)) (by decide) (by decide) (by decide) (by decide),E4 (CZ (B6 ho) Bi Bi) EE Fw (fun _=>.inl rfl) fun x e=>by cases e⟩
theorem UI:GoodT (.tup [.int ag,o,tE,tE,tE]):=
 ⟨DF trivial (B6 ho) Bi Bi Bi,C2 (m:=7) (by show 1<=7;decide) (Nat.le_trans (Co ho) (by decide)) (by decide) (by decide) (by decide),E4 (CZ trivial (B6 ho) Bi) EE Fw (fun _=>.inr rfl) fun x e=>by cases e⟩
theorem UO:GoodT (.tup [.int ag,tE,o,tE,tE]):=
 ⟨DF trivial Bi (B6 ho) Bi Bi,C2 (m:=7) (by show 1<=7;decide) (by decide) (Nat.le_trans (Co ho) (by decide)) (by decide) (by decide),E4 (CZ trivial Bi (B6 ho)) (JA ho) Fw (fun _=>.inl rfl) fun x e=>by cases e⟩
theorem Mb:∀x,o=.tup [x]->C8 x->False:=fun x e h=>by
 subst e;obtain⟨d,h'⟩:=(FZ ho).2 x (List.mem_singleton.mpr rfl);exact IX h' h
theorem Uw:GoodT (.tup [.int ag,tE,tE,o,tE]):=
 ⟨DF trivial Bi Bi (B6 ho) Bi,C2 (m:=7) (by show 1<=7;decide) (by decide) (by decide) (Nat.le_trans (Co ho) (by decide)) (by decide),E4 (CZ trivial Bi Bi) EE (fun ts e h=>by rw[Kr ho ts e h];decide) (fun _=>.inl rfl) fun x e h=>(Mb ho x e h).elim⟩
theorem Vp:GoodT (.tup [.int ag,tE,tE,tE,o]):=
 ⟨DF trivial Bi Bi Bi (B6 ho),C2 (m:=7) (by show 1<=7;decide) (by decide) (by decide) (by decide) (Nat.le_trans (Co ho) (by decide)),E4 (CZ trivial Bi Bi) EE Fw (fun _=>.inl rfl) fun x e=>by cases e⟩
theorem U1:GoodT (.tup [.int ag,U4,tE,.tup [o],UF 0]):=
 ⟨DF trivial LU Bi ⟨by show 1<=1000;decide,B6 ho,trivial⟩ (RR 0),C2 (m:=7) (by show 1<=7;decide) (by decide) (by decide) (OA (m:=6) (Nat.le_trans (Co ho) (by decide))) (by decide),E4 (CZ trivial LU Bi) EE (fun ts e _=>by cases e;exact Nat.le_refl _) (fun e=>by cases e) fun x e h=>by cases e;exact(IX ho h).elim⟩
theorem SV (k:Nat):∀x∈HJ.take k++[o]++HJ.drop (k+1),x.ok/\x.dep<=5:=fun x hx=>by
 rcases List.mem_append.mp hx with hx|hx
 ·rcases List.mem_append.mp hx with hx|hx
  ·exact⟨Oa x (List.mem_of_mem_take hx),OF x (List.mem_of_mem_take hx)⟩
  ·rw[List.mem_singleton.mp hx];exact⟨B6 ho,Co ho⟩
 ·exact⟨Oa x (List.mem_of_mem_drop hx),OF x (List.mem_of_mem_drop hx)⟩
theorem Um {k:Nat}(k5:k<=5)(ne:∀t,HJ[k]?=some t->o≠t):GoodT (.tup [.int ag,U4,.tup [Wy],.tup [.tup (HJ.take k++[o]++HJ.drop (k+1))],UF 6]):=by
 have mk:=SV ho k;have l6:(HJ.take k++[o]++HJ.drop (k+1)).length<=1000:=by
  rw[List.length_append,List.length_append,List.length_take,List.length_drop];have:HJ.length=6:=rfl;have:[o].length=1:=rfl;omega
 have cok:(Tr.tup (HJ.take k++[o]++HJ.drop (k+1))).ok:=UL l6 fun x hx=>(mk x hx).1
 have cdep:(Tr.tup (HJ.take k++[o]++HJ.drop (k+1))).dep<=6:=by
  have:=Fb (n:=5) fun x hx=>(mk x hx).2
  show 1+Tr.deps _<=6;omega
 refine⟨DF trivial LU ⟨by show 1<=1000;decide,Rw,trivial⟩ ⟨by show 1<=1000;decide,cok,trivial⟩ (RR 6),C2 (m:=7) (by show 1<=7;decide) (by decide) (by decide) (OA (m:=6) cdep) (by decide),E4 (CZ trivial LU ⟨by show 1<=1000;decide,Rw,trivial⟩) (fun ns e x hx=>?_) (fun ts e _=>by cases e;exact Nat.le_refl _) (fun e=>by cases e) fun x e h=>?_⟩
 ·cases e;rw[List.mem_singleton.mp hx];rfl
 ·injection e with e
  injection e with e _
  subst e;refine⟨rfl,rfl,fun z=>?_⟩;have:k=0\/k=1\/k=2\/k=3\/k=4\/k=5:=by omega
  rcases this with rfl|rfl|rfl|rfl|rfl|rfl<;>exact ne _ rfl (by injection z with z;simpa using z)
theorem Uv:GoodT (.tup [o,o,o,o,o]):=by
 have d5:=Nat.le_trans (Co ho) (show 4+1<=7 by decide);have ok:=B6 ho;refine⟨DF ok ok ok ok ok,C2 (m:=7) d5 d5 d5 d5 d5,E4 (CZ ok ok ok) (JA ho) (fun ts e h=>by rw[Kr ho ts e h];decide) (fun e=>.inl e) fun x e h=>(Mb ho x e h).elim⟩
theorem UW:GoodT (.tup [o,o,o,o,o,o]):=by
 have ok:=B6 ho;refine⟨⟨by show 6<=1000;decide,ok,ok,ok,ok,ok,ok,trivial⟩,?_,KF (by show 6≠5;decide)⟩;have:=Fb (n:=5) (ts:=[o,o,o,o,o,o]) fun x hx=>by
  simp only[List.mem_cons,List.not_mem_nil,or_false,or_self] at hx;subst hx;exact Co ho
 show 1+Tr.deps [o,o,o,o,o,o]<=8;omega
theorem Qo {y:Int}(h:y%2=0\/y%2=1):GoodT (.tup (List.replicate (5+y%2).toNat [o]).flatten):=by
 rcases h with e|e<;>rw[e]
 ·exact Uv ho
 ·exact UW ho
end
theorem RV (n:Int):GoodT (.tup [.int n,tE,tE,tE,tE]):=
 ⟨DF trivial Bi Bi Bi Bi,C2 (m:=7) (by show 1<=7;decide) (by decide) (by decide) (by decide) (by decide),E4 (CZ trivial Bi Bi) EE Fw (fun _=>.inl rfl) fun x e=>by cases e⟩
end B
namespace B
section
variable {P:Program}{w:World}{K:W.Frag}{mg:Str->Option Value}{base:Heap}{f:Addr}{fd:FuncData}{PT PU:Addr}
theorem Bm.rep {F:Addr->Prop}{H H':Hp}(u:Bm PT PU H H')(t:Tb PT PU H){x:Tr}{v:V}(h:Rep F H x v):Rep F H' x v:=CY (fun a o e z=>u.get t e fun ps y=>by
 subst y;rcases z with⟨_,z⟩|⟨_,z⟩<;>cases z) _ _ h
def Lx (K:W.Frag)(PT PU:Addr):Sp:=fun vs H Q _=>∃(a:Addr) (ns:List Int),vs=[.ref a]/\AR K H a (ns.map V.int)/\ns.length<=63/\BJ PT LQ LP H/\BJ PU BQ BP H/\PU≠PT/\∀H',Q (.bl true) H'
theorem UT (T:Txt K mg)(F:Fun K "law" "law" Hj f fd)(Gy:Def P w K mg base 1 "_law_row" ["_law_cell","_law_many"] (FE K))(C4:Def P w K mg base 6 "_law_thing" ["_law_row_here","_law_at","_law_deep"] (Ep K))(EC:Def P w K mg base 9 "lets_by" ["account"] (Gr K PT PU))(CJ:Def P w K mg base 9 "_law_same" ["_law_one","_law_other"] (EI K))(CM:Def P w K mg base 21 "_law_copy" ["_law_thing_here"] (E6 K))(Dy:Def P w K mg base 1 "_law_is_empty" ["_law_thing_here"] (De K)):FnOk P w K mg base CP 22 f fd ["_law_script"] (Lx K PT PU):=by
 exists CS
 ·obtain⟨a,ns,rfl,_⟩:=h;rfl
 obtain⟨a,ns,rfl,hS,hl,tbT,tbU,neTU,q⟩:=h;have hu:=Cu hr;have hu9:=C1 hr;refine⟨_,(!Ae (!CA PassesOwn.never rfl (!Bf (!EG Tn (pv 0) (!FY) (!Gd (!Ac)))) (@An _ _ (1) _ CS.nd rfl (by trivial) (by trivial)) (!Ae (@A7 _ _ (2) _ _ _ _ CS.nd rfl (by trivial) (!Au Gy (by trivial) rfl (!Aa (pv 1) (!Aa (!Ac) (!Ab)))) (by rfl) (by trivial)) (!Ae (@A7 _ _ (3) _ _ _ _ CS.nd rfl (by trivial) (!Au C4 (by trivial) rfl (!Aa (pv 2) (!Aa (!Ac) (!Aa (!Ac) (!Ab))))) (by rfl) (by trivial)) (!Ae (@A7 _ _ (4) _ _ _ _ CS.nd rfl (by trivial) (!Am B2 (pv 2) (!Ac) (fun _ _=>rfl)) (by rfl) (by trivial)) (!Ae (@A7 _ _ (5) _ _ _ _ CS.nd rfl (by trivial) (!C0 (!Aa (pv 3) (!Aa (!Av (!Aa (pv 3) (!Aa (!Av (!Ab)) (!Aa (!Av (!Ab)) (!Aa (!Av (!Ab)) (!Aa (!Av (!Ab)) (!Ab))))))) (!Aa (!Av (!Aa (pv 4) (!Aa (pv 3) (!Aa (!Av (!Ab)) (!Aa (!Av (!Ab)) (!Aa (!Av (!Ab)) (!Ab))))))) (!Aa (!Av (!Aa (pv 4) (!Aa (!Av (!Ab)) (!Aa (pv 3) (!Aa (!Av (!Ab)) (!Aa (!Av (!Ab)) (!Ab))))))) (!Aa (!Av (!Aa (pv 4) (!Aa (!Av (!Ab)) (!Aa (!Av (!Ab)) (!Aa (pv 3) (!Aa (!Av (!Ab)) (!Ab))))))) (!Ab))))))) (by rfl) (by trivial)) (!Ae (@A7 _ _ (5) _ _ _ _ CS.nd rfl (by trivial) (!AK OB (pv 5) (!C0 (!Aa (!Av (!Aa (pv 4) (!Aa (!Av (!Ab)) (!Aa (!Av (!Ab)) (!Aa (!Av (!Ab)) (!Aa (pv 3) (!Ab))))))) (!Aa (!Av (!Aa (pv 4) (!Aa (!Av (!Aa (!Av (!Aa (!B5) (!Aa (!Ac) (!Ab)))) (!Ab))) (!Aa (!Av (!Ab)) (!Aa (!Av (!Aa (pv 3) (!Ab))) (!Aa (!Av (!Aa (!Av (!Aa (!B5) (!Aa (!Av (!Aa (!Ac) (!Aa (!Ac) (!Ab)))) (!Ab)))) (!Ab))) (!Ab))))))) (!Ab))))) (by rfl) (by trivial)) (!Ae (@A7 _ _ (6) _ _ _ _ CS.nd rfl (by trivial) (!Av (!Aa (!Ac) (!Aa (!Ac) (!Aa (!Av (!Aa (!Ac) (!Aa (!Av (!Ab)) (!Ab)))) (!Aa (!Ac) (!Aa (!Ac) (!Aa (!Av (!Aa (!B5) (!Ab))) (!Ab)))))))) (by rfl) (by trivial)) (!Ae (@A7 _ _ (7) _ _ _ _ CS.nd rfl (by trivial) (!Av (!Aa (!Av (!Aa (!B5) (!Aa (!Ac) (!Aa (!B5) (!Aa (!B5) (!Aa (!Av (!Aa (!Ac) (!Aa (!Ac) (!Aa (!Ac) (!Ab))))) (!Ab))))))) (!Ab))) (by rfl) (by trivial)) (!Ae (@A7 _ _ (8) _ _ _ _ CS.nd rfl (by trivial) (!AK Bz (!Am B2 (pv 2) (!Ac) (fun _ _=>rfl)) (!Ac)) (by rfl) (by trivial)) (!Ae (@A7 _ _ (6) _ _ _ _ CS.nd rfl (by trivial) (!AK Mi (!AK Mi (!EG Jc (pv 6) (!FY) (!Gd (pv 8))) (!Av (!Aa (pv 3) (!Ab)))) (!EG Jc (pv 6) (!Gd (!AK Cq (pv 8) (!Ac))) (!FY))) (by rfl) (by trivial)) (!Ae (!AU (!AI (!AH (!Au CJ (by trivial) rfl (!Aa (pv 3) (!Aa (!Am Ap (!Av (!Aa (!Ac) (!Aa (!Ac) (!Aa (!Av (!Aa (!Ac) (!Aa (!Av (!Ab)) (!Ab)))) (!Aa (!Ac) (!Aa (!Ac) (!Aa (!Av (!Aa (!B5) (!Ab))) (!Ab)))))))) (pv 8) (fun _ _=>rfl)) (!Ab)))) (by intro _;rfl))) (!Ag (!Ec (!GX PySem.F.plainAttrs_list PySem.F.slot_list_append PySem.F.type_list_append DM (pv 5) (!Aa (!Av (!Aa (pv 4) (!Aa (!Av (!Aa (!Av (!Aa (!B5) (!Aa (!Ac) (!Ab)))) (!Ab))) (!Aa (pv 7) (!Aa (!Av (!Aa (pv 6) (!Ab))) (!Aa (!Av (!Aa (!Av (!Aa (!B5) (!Aa (!Av (!Aa (!Ac) (!Aa (!Ac) (!Ab)))) (!Ab)))) (!Ab))) (!Ab))))))) (!Ab))))) (!Aw)) (!Ae (!Ec (!GX PySem.F.plainAttrs_list PySem.F.slot_list_append PySem.F.type_list_append DM (pv 5) (!Aa (!A9 Cv (by rfl) T.b_tuple Be (!Aa (!AK UJ (!C0 (!Aa (pv 3) (!Ab))) (!AK Cq (!Ac) (!AK Bz (!Am B2 (pv 2) (!Ac) (fun _ _=>rfl)) (!Ac)))) (!Ab))) (!Ab)))) (!Ae (!CA PassesOwn.never rfl (!Bf (pv 5)) (@An _ _ (9) _ CS.nd rfl (by trivial) (by trivial)) (!Ae (@A7 _ _ (10) _ _ _ _ CS.nd rfl (by trivial) (!Au CM (by trivial) rfl (!Aa (pv 9) (!Ab))) (by rfl) (by trivial)) (!Ae (@A7 _ _ (11) _ _ _ _ CS.nd rfl (by trivial) (!Au EC (by trivial) rfl (!Aa (pv 10) (!Ab))) (by rfl) (by trivial)) (!Ae (!AU (@PW.pt _ _ _ (!BO (!AI (!AH (!Ak AJ (by rfl) T.b_isinstance Ax (!Aa (pv 11) (!Aa (!BS rfl T.b_bool Hs) (!Ab)))) (by intro _;rfl))) (!Bs (!AO MK (pv 11) (!Au Dy (by trivial) rfl (!Aa (pv 9) (!Ab))) (AF _))))) (!Ag (!Al (!A1))) (!Aw)) (!Ag (!AU (!AI (!AH (!Au CJ (by trivial) rfl (!Aa (pv 10) (!Aa (pv 9) (!Ab)))) (by intro _;rfl))) (!Ag (!Al (!A1))) (!Aw)))))) (by intro _;rfl)) (!Ag (!AU (!AO MC (!Au EC (by trivial) rfl (!Aa (!Av (!Aa (!AK Bz (!AK Fs (!Am B2 (pv 2) (!Ac) (fun _ _=>rfl)) (!Ac)) (!AK Lc (!Ac) (!Ac))) (!Aa (!Av (!Ab)) (!Aa (!Av (!Ab)) (!Aa (!Av (!Ab)) (!Aa (!Av (!Ab)) (!Ab))))))) (!Ab))) (!A1) (AF _)) (!Ag (!Al (!A1))) (!Aw))))))))))))))) (by intro _;rfl)) (!Ag (!Al (!A5 R5 (!Au EC (by trivial) rfl (!Aa (!Av (!Aa (!Ac) (!Aa (!Av (!Ab)) (!Aa (!Av (!Ab)) (!Aa (!Av (!Ab)) (!Aa (!Av (!Ab)) (!Ab))))))) (!Ab))) (!A1) (AF _))))),?_⟩
 try dsimp only[Cg,Cx.nox,Cx.wish]
 have tb0:Tb PT PU H:=⟨Ne.symm neTU,tbT,tbU⟩
 refine⟨_,rfl,_,rfl,a,_,rfl,hS,fun sl nsl=>?_⟩;obtain⟨ms,em,lm,_⟩:=R4 ns none (some 12);rw[em];have s1:=Ai nsl (.lst (ms.map V.int));have h1:(upd H sl (.lst (ms.map V.int))) sl=some (.lst (ms.map V.int)):=Ad;generalize upd H sl (.lst (ms.map V.int))=H1 at s1 h1;have tb1:=tb0.same s1;refine⟨sl,rfl,⟨_,AR.of h1⟩,FJ (K:=K) (a:=sl) (xs:=ms.map V.int) (fun i σ H2=>∃v1 v2 v3 v4 v5 v6 v7 v8 v9 v10 v11,σ=[some (.ref a),v1,v2,v3,v4,v5,v6,v7,v8,v9,v10,v11]/\Bm PT PU H1 H2/\Tb PT PU H2) ⟨none,none,none,none,none,none,none,none,none,none,none,rfl,.refl _,tb1⟩ (fun i σ H2 _ ⟨_,_,_,_,_,_,_,_,_,_,_,_,u,_⟩=>AR.of (u.lst tb1 h1)) ?_ ?_⟩
 ·rintro i x σ H2 hi ⟨v1,v2,v3,v4,v5,v6,v7,v8,v9,v10,v11,rfl,u2,tb2⟩
  obtain⟨c,_,rfl⟩:=List.mem_map.mp (List.mem_of_getElem? hi);dsimp only[A4];refine CW ⟨_,rfl,c,40,rfl,by decide,by decide,fun r H3 rs s3 n3 h3 l3 b3=>?_⟩;refine CW ⟨_,rfl,r,rs,0,4,rfl,rfl,AR.of h3,l3,b3,by decide,by decide,by decide,fun ov o H4 s4 ho hrep=>?_⟩;have rF:Rep (fun b=>H4 b≠none) H4 o ov:=O0 _ _ (Rep.mono (fun _ _=>trivial) _ _ hrep);have rI:∀{H':Hp} (n:Int),Rep (fun b=>H4 b≠none) H' (.int n) (.int n):=fun _=>rfl
  have xx:∀j:Nat,j<40->∃y,Hz (rs.map V.int) (j:Int)=some (.int y)/\0<=y/\y<60:=fun j h0=>by
   refine⟨_,R1 (by omega) (by have:rs.length=40:=l3;omega),b3 _ ?_⟩;rw[List.getD,List.getElem?_eq_getElem (by have:rs.length=40:=l3;omega)];exact List.getElem_mem _
  obtain⟨ag,e39,ag0,ag1⟩:=xx 39 (by decide);obtain⟨y38,e38,y380,y381⟩:=xx 38 (by decide);obtain⟨y37,e37,y370,y371⟩:=xx 37 (by decide);obtain⟨y36,e36,y360,y361⟩:=xx 36 (by decide);have h4:=s4.get h3;refine CW ⟨_,rfl,r,_,_,_,rfl,rfl,AR.of h4,e39,?_⟩;refine CW (RT (F:=fun b=>H4 b≠none) (H:=H4) (ts:=[o,.tup [o,tE,tE,tE,tE],.tup [.int ag,o,tE,tE,tE],.tup [.int ag,tE,o,tE,tE],.tup [.int ag,tE,tE,o,tE]]) ?ev1 (Nat.le_of_ble_eq_true rfl) H4 (Ah.refl _) fun us H5 so1 s5 r5 n5=>?_)
  case ev1=>repeat (first|exact DA|refine B3 ?_ ?_|exact FN|exact FM|exact Cz rfl rF|exact Cz rfl (rI ag)|refine C5 ?_ (Nat.le_of_ble_eq_true rfl))
  have s6:=Ai n5 (.lst us);have hso1:(upd H5 so1 (.lst us)) so1=some (.lst us):=Ad;dsimp only[A4];generalize upd H5 so1 (.lst us)=H6 at s6 hso1;have s46:=s5.trans s6;refine CW ⟨_,rfl,RT (F:=fun b=>H4 b≠none) (H:=H4) (ts:=[.tup [.int ag,tE,tE,tE,o],.tup [.int ag,U4,tE,.tup [o],UF 0]]) ?ev2 (Nat.le_of_ble_eq_true rfl) H6 s46 fun us2 H7 so2 s7 r7 n7=>?_⟩
  case ev2=>repeat (first|exact DA|refine B3 ?_ ?_|exact FN|exact FM|exact Cz rfl rF|exact Cz rfl (rI ag)|refine C5 ?_ (Nat.le_of_ble_eq_true rfl))
  have s7':=Ai n7 (.lst us2);have hso2:(upd H7 so2 (.lst us2)) so2=some (.lst us2):=Ad;generalize upd H7 so2 (.lst us2)=H7' at s7' hso2;have lu:=Aq.len _ _ r5;have lu2:=Aq.len _ _ r7;refine⟨so1,so2,us,us2,rfl,rfl,AR.of ((s7.trans s7').get hso1),AR.of hso2,small (by rw[lu,lu2];show 5+2<=1000000;decide),fun so nso=>?_⟩;have s8:=Ai nso (.lst (us++us2));have hso:(upd H7' so (.lst (us++us2))) so=some (.lst (us++us2)):=Ad;dsimp only[A4];generalize upd H7' so (.lst (us++us2))=H8 at s8 hso;have s67:=s7.trans s7';have s47:=s46.trans s67;have s48:=s47.trans s8;have nF:¬(H4 so≠none):=fun z=>z (by
   cases y:H4 so with
   |none=>rfl
   |some u=>rw[s47.get y] at nso;cases nso)
  have r8:=(Aq.same (s6.trans (s67.trans s8)) _ _ r5).append (Aq.same (s7'.trans s8) _ _ r7);refine CW (C5 (F:=fun b=>H4 b≠none) (H:=H4) (ts:=HJ) ?ev3 (Nat.le_of_ble_eq_true rfl) H8 s48 _ fun cv H9 s9 r9=>?_)
  case ev3=>repeat (first|exact DA|refine B3 ?_ ?_|exact FN|exact FM|exact Cz rfl rF|exact Cz rfl (rI ag)|refine C5 ?_ (Nat.le_of_ble_eq_true rfl))
  dsimp only[A4];refine CW (C5 (F:=fun b=>H4 b≠none) (H:=H4) (ts:=[Wy]) ?ev4 (Nat.le_of_ble_eq_true rfl) H9 (s48.trans s9) _ fun nv H10 s10 r10=>?_)
  case ev4=>repeat (first|exact DA|refine B3 ?_ ?_|exact FN|exact FM|exact Cz rfl rF|exact Cz rfl (rI ag)|refine C5 ?_ (Nat.le_of_ble_eq_true rfl))
  dsimp only[A4];have s810:=s9.trans s10;have s410:=s48.trans s810;obtain⟨k,ek,k5⟩:∃k:Nat,y38%6=(k:Int)/\k<=5:=⟨(y38%6).toNat,by omega,by omega⟩
  refine CW ⟨_,rfl,r,_,_,_,rfl,rfl,AR.of (s410.get h4),e38,_,_,rfl,rfl,(by show(0:Int)<6;decide),?_⟩;dsimp only[A4];rw[ek];have r9':=Rep.same s10 _ _ r9;have rF10:=Rep.same s410 _ _ rF;have hl1:(HJ.take k).length+[o].length<=1000:=by
   rw[List.length_take];have:HJ.length=6:=rfl;have:[o].length=1:=rfl;omega
  have hl2:(HJ.take k++[o]).length+(HJ.drop (k+1)).length<=1000:=by
   rw[List.length_append,List.length_take,List.length_drop];have:HJ.length=6:=rfl;have:[o].length=1:=rfl;omega
  refine CW (RE (K:=K) (F:=fun b=>H4 b≠none) (H:=H10) (RE (K:=K) (Wb rfl r9' rfl rfl k5) (C5 (B3 (Cz rfl rF10) DA) (Nat.le_of_ble_eq_true rfl)) hl1) (V3 rfl r9' rfl rfl k5) hl2 H10 (Ah.refl _) _ fun cv2 H11 s11 r11=>?_);dsimp only[A4];have s811:=s810.trans s11;have s411:=s48.trans s811;obtain⟨tk,etk⟩:∃t,HJ[k]?=some t:=⟨_,List.getElem?_eq_getElem (show k<HJ.length from Nat.lt_succ_of_le k5)⟩
  have mtk:tk∈HJ:=List.mem_of_getElem? etk;have good7:∀t∈([o,Tr.tup [o,tE,tE,tE,tE],Tr.tup [Tr.int ag,o,tE,tE,tE],Tr.tup [Tr.int ag,tE,o,tE,tE],Tr.tup [Tr.int ag,tE,tE,o,tE]]++[Tr.tup [Tr.int ag,tE,tE,tE,o],Tr.tup [Tr.int ag,U4,tE,Tr.tup [o],UF 0]]),GoodT t:=fun t ht=>by
   simp only[List.cons_append,List.nil_append,List.mem_cons,List.not_mem_nil,or_false] at ht;rcases ht with rfl|rfl|rfl|rfl|rfl|rfl|rfl
   ·exact UN ho
   ·exact UZ ho
   ·exact UI ho ag
   ·exact UO ho ag
   ·exact Uw ho ag
   ·exact Vp ho ag
   ·exact U1 ho ag
  generalize ([o,Tr.tup [o,tE,tE,tE,tE],Tr.tup [Tr.int ag,o,tE,tE,tE],Tr.tup [Tr.int ag,tE,o,tE,tE],Tr.tup [Tr.int ag,tE,tE,o,tE]]++[Tr.tup [Tr.int ag,tE,tE,tE,o],Tr.tup [Tr.int ag,U4,tE,Tr.tup [o],UF 0]])=ts7 at r8 good7;have l7:(us++us2).length=7:=by rw[List.length_append,lu,lu2];rfl
  generalize us++us2=us7 at r8 hso l7;have s711:=s8.trans s811;refine OV (t:=DE _ _ _) (fun σ' H'=>∃us' ts',σ'=[some (.ref a),some (.int c),some (.ref r),some ov,some (.int ag),some (.ref so),some cv2,some nv,some (.int (k:Int)),v9,v10,v11]/\H' so=some (.lst us')/\Aq (fun b=>H4 b≠none) H' ts' us'/\(∀t∈ts',GoodT t)/\us'.length<=8/\Ah H7' H') (fun N hN=>?_) ?_
  ·dsimp only[DE,J3,tB];have rF11:=Rep.same s11 _ _ rF10;refine Ss (F:=fun b=>H4 b≠none) (H:=H11) (ts:=[o,tk]) (B3 (Cz rfl rF11) (B3 (We (K:=K) (ts:=HJ) (C5 ?ev5 (Nat.le_of_ble_eq_true rfl)) rfl etk) DA)) H11 (Ah.refl _) fun vs H12 s12 r12=>?_
   case ev5=>repeat (first|exact DA|refine B3 ?_ ?_|exact FN|exact FM|exact Cz rfl rF|exact Cz rfl (rI ag)|refine C5 ?_ (Nat.le_of_ble_eq_true rfl))
   obtain⟨va,_,rfl,ra,vb,_,rfl,rb,e⟩:=r12;cases e;have al:∀{H':Hp} {t:Tr} {v:V},Rep (fun b=>H4 b≠none) H' t v->Rep All H' t v:=fun h=>Rep.mono (fun _ _=>trivial) _ _ h
   refine⟨va,vb,o,tk,rfl,Nat.le_trans (Co ho) (by decide),al ra,al rb,B6 ho,Oa tk mtk,fun b H13 hb s13=>⟨_,rfl,?_⟩⟩;have s1113:=s12.trans s13;have s813:=s811.trans s1113;cases b with
   |true=>exact As rfl (hN _ _ ⟨us7,ts7,rfl,s813.get hso,Aq.same s813 _ _ r8,good7,by rw[l7];decide,s711.trans s1113⟩)
   |false=>
    refine Ao rfl ?_;have ne:∀t,HJ[k]?=some t->o≠t:=fun t e z=>by
     rw[etk] at e;cases e;exact absurd (hb.mpr z) Bool.false_ne_true
    have rc13:=Rep.same s1113 _ _ r11;have rn13:=Rep.same (s11.trans s1113) _ _ r10;have hso13:=s813.get hso;dsimp only[OU];refine⟨_,rfl,.inl ⟨rfl,_,AR.of hso13⟩,(B3 (C5 (F:=fun b=>H4 b≠none) (H:=H13) (ts:=[.int ag,U4,.tup [Wy],.tup [.tup (HJ.take k++[o]++HJ.drop (k+1))],UF 6]) ?ev6 (Nat.le_of_ble_eq_true rfl)) DA) H13 (Ah.refl _) _ fun xs H14 s14 r14=>?_⟩
    case ev6=>repeat (first|exact DA|exact Cz rfl rn13|exact Cz rfl rc13|refine B3 ?_ ?_|exact FN|exact FM|exact Cz rfl (rI ag)|refine C5 ?_ (Nat.le_of_ble_eq_true rfl))
    obtain⟨vH,_,rfl,rH,e⟩:=r14;cases e;have s814:=s813.trans s14;have hso14:=s814.get hso;refine⟨so,us7,vH,rfl,rfl,hso14,CV (by rw[l7];decide),hN _ _ ⟨us7++[vH],ts7++[_],rfl,Ad,(Aq.upd hso14 nF _ _ (Aq.same s814 _ _ r8)).append (Aq.one (Rep.upd hso14 nF _ _ rH)),fun t ht=>?_,by rw[List.length_append,l7];exact Nat.le_refl _,B4 ((s711.trans s1113).trans s14) nso _⟩⟩;rcases List.mem_append.mp ht with ht|ht
    ·exact good7 t ht
    ·rw[List.mem_singleton.mp ht];exact Um ho ag k5 ne
  rintro σ H12 ⟨us',ts',rfl,hso12,r12,g12,l12,s12⟩
  have s412:=s47.trans s12;have two:y37%2=0\/y37%2=1:=by omega
  refine RH ⟨_,rfl,.inl ⟨rfl,_,AR.of hso12⟩,_,rfl,V8,fun p1 np1=>?_⟩;have t1:=Ai np1 (.lst [ov]);have hp1:(upd H12 p1 (.lst [ov])) p1=some (.lst [ov]):=Ad;generalize upd H12 p1 (.lst [ov])=G1 at t1 hp1;refine⟨_,rfl,r,_,_,_,rfl,rfl,AR.of ((s412.trans t1).get h4),e37,_,_,rfl,rfl,(by show(0:Int)<2;decide),_,_,rfl,rfl,p1,_,[ov],rfl,rfl,hp1,by omega,by omega,small (by show 1*(5+y37%2).toNat<=1000000;omega),fun p2 np2=>?_⟩;have t2:=Ai np2 (.lst (List.replicate (5+y37%2).toNat [ov]).flatten);have hp2:(upd G1 p2 (.lst (List.replicate (5+y37%2).toNat [ov]).flatten)) p2=some (.lst (List.replicate (5+y37%2).toNat [ov]).flatten):=Ad;generalize upd G1 p2 (.lst (List.replicate (5+y37%2).toNat [ov]).flatten)=G2 at t2 hp2;refine⟨p2,_,rfl,.inl ⟨AR.of hp2,fun p3 np3=>?_⟩⟩;have t3:=Ai np3 (.tup (List.replicate (5+y37%2).toNat [ov]).flatten);have hp3:(upd G2 p3 (.tup (List.replicate (5+y37%2).toNat [ov]).flatten)) p3=some (.tup (List.replicate (5+y37%2).toNat [ov]).flatten):=Ad;generalize upd G2 p3 (.tup (List.replicate (5+y37%2).toNat [ov]).flatten)=G3 at t3 hp3;have t123:=(t1.trans t2).trans t3;have hso3:=t123.get hso12;have rI3:Rep (fun b=>H4 b≠none) G3 (.tup (List.replicate (5+y37%2).toNat [o]).flatten) (.ref p3):=⟨p3,_,rfl,hp3,Aq.rep (Aq.one (Rep.same (s412.trans t123) _ _ rF)) _⟩
  refine⟨so,us',.ref p3,rfl,rfl,hso3,CV (by omega),?_⟩;have r13:Aq (fun b=>H4 b≠none) (upd G3 so (.lst (us'++[.ref p3]))) (ts'++[_]) (us'++[.ref p3]):=(Aq.upd hso3 nF _ _ (Aq.same t123 _ _ r12)).append (Aq.one (Rep.upd hso3 nF _ _ rI3));have g13:∀t∈ts'++[.tup (List.replicate (5+y37%2).toNat [o]).flatten],GoodT t:=fun t ht=>by
   rcases List.mem_append.mp ht with ht|ht
   ·exact g12 t ht
   ·rw[List.mem_singleton.mp ht];exact Qo ho two
  have s13:Ah H7' (upd G3 so (.lst (us'++[.ref p3]))):=B4 (s12.trans t123) nso _;have hso13:(upd G3 so (.lst (us'++[.ref p3]))) so=some (.lst (us'++[.ref p3])):=Ad;have l13:(us'++[V.ref p3]).length<=9:=by rw[List.length_append];show us'.length+1<=9;omega
  dsimp only;generalize upd G3 so (.lst (us'++[.ref p3]))=H13 at r13 s13 hso13;generalize ts'++[.tup (List.replicate (5+y37%2).toNat [o]).flatten]=ts at r13 g13;generalize us'++[V.ref p3]=us9 at r13 hso13 l13;have s213:=((s3.trans s4).trans s47).trans s13;have tb13:=tb2.same s213;have h13:=(s47.trans s13).get h4;refine OV (t:=Vc _ _ _) (fun σ' H'=>∃v9 v10 v11,σ'=[some (.ref a),some (.int c),some (.ref r),some ov,some (.int ag),some (.ref so),some cv2,some nv,some (.int (k:Int)),v9,v10,v11]/\Bm PT PU H13 H'/\Tb PT PU H') (fun N hN=>?_) ?_
  ·refine⟨_,rfl,so,rfl,⟨_,AR.of hso13⟩,FJ (K:=K) (a:=so) (xs:=us9) (fun i σ' H'=>∃v9 v10 v11,σ'=[some (.ref a),some (.int c),some (.ref r),some ov,some (.int ag),some (.ref so),some cv2,some nv,some (.int (k:Int)),v9,v10,v11]/\Bm PT PU H13 H'/\Tb PT PU H') ⟨_,_,_,rfl,.refl _,tb13⟩ (fun i σ H' _ ⟨_,_,_,_,u,_⟩=>AR.of (u.lst tb13 hso13)) ?_ (fun σ H' z=>hN σ H' z)⟩
   rintro j v σ Ha hj ⟨w9,w10,w11,rfl,ua,tba⟩
   obtain⟨t,et,rt⟩:=Aq.get r13 hj;have g:=g13 t (List.mem_of_getElem? et);have ra:Rep All Ha t v:=Rep.mono (fun _ _=>trivial) _ _ (ua.rep tb13 rt);dsimp only[A4];refine CW ⟨_,rfl,v,t,rfl,Nat.le_trans g.dep (by decide),ra,g.ok,fun v' Hb sb rb=>?_⟩;have rb':Rep All Hb t v':=Rep.mono (fun _ _=>trivial) _ _ rb;have tbb:=tba.same sb;refine CW ⟨_,rfl,v',t,rfl,rb',g.ok,g.ask,tbb,fun b Hc hb uc tbc=>?_⟩;have okb:Ok Hc (.bl b):=trivial;have rc:Rep All Hc t v:=uc.rep tbb (Rep.same sb _ _ ra);have rc':Rep All Hc t v':=uc.rep tbb rb';dsimp only[A4,CB,DE,S1,J3];refine⟨_,rfl,_,_,_,_,rfl,okb.ty K,okb.kit K,_,rfl,As rfl ?_⟩;refine⟨_,rfl,_,rfl,v,t,rfl,rc,g.ok,fun b2 Hd hb2 sd=>⟨rfl,_,rfl,?_⟩⟩;have ebb:b=b2:=by rw[Bool.eq_iff_iff,hb,hb2]
   subst ebb;refine As (by rw[decide_eq_true rfl];rfl) ?_;refine⟨_,rfl,_,rfl,v',v,t,t,rfl,g.dep,Rep.same sd _ _ rc',Rep.same sd _ _ rc,g.ok,g.ok,fun b3 He hb3 se=>⟨_,rfl,?_⟩⟩;have e3:b3=true:=hb3.mpr rfl;subst e3;have sde:=sd.trans se;exact As rfl ⟨_,_,_,rfl,((ua.trans (ER sb)).trans uc).trans (ER sde),tbc.same sde⟩
  rintro σ Ha ⟨w9,w10,w11,rfl,ua,tba⟩
  have ha:Ha r=some (.lst (rs.map V.int)):=ua.lst tb13 h13;dsimp only[DE,Sh];have m0:0<=y36*16949152%1000000000/\y36*16949152%1000000000<=999999999:=by omega
  refine Kj (F:=All) (H:=Ha) (ts:=[.tup [.int (y36*16949152%1000000000),tE,tE,tE,tE]]) (B3 (C5 (B3 (fun H1 s1 Q q=>?evm) ?ev7) (Nat.le_of_ble_eq_true rfl)) DA) Ha (Ah.refl _) fun vs Hb sb rb=>?_
  case evm=>exact⟨_,rfl,r,_,_,_,rfl,rfl,AR.of (s1.get ha),e36,_,_,rfl,rfl,.inr ⟨by decide,by decide⟩,_,_,rfl,rfl,⟨by decide,by decide,by decide⟩,_,_,rfl,rfl,(by show(0:Int)<10^Int.toNat 9;decide),q _ _ (Ah.refl _) rfl⟩
  case ev7=>repeat (first|exact DA|refine B3 ?_ ?_|exact FN|exact FM|refine C5 ?_ (Nat.le_of_ble_eq_true rfl))
  obtain⟨vm,_,rfl,rm,e⟩:=rb;cases e;have gn:=RV (y36*16949152%1000000000);refine⟨vm,_,rfl,rm,gn.ok,gn.ask,tba.same sb,fun b Hc hb uc tbc=>?_⟩;have eb:b=true:=hb.mpr m0;subst eb;exact⟨_,_,rfl,rfl,_,rfl,As rfl ⟨_,_,_,_,_,_,_,_,_,_,_,rfl,(((u2.trans (ER s213)).trans ua).trans (ER sb)).trans uc,tbc⟩⟩
 ·rintro σ H2 ⟨v1,v2,v3,v4,v5,v6,v7,v8,v9,v10,v11,rfl,u2,tb2⟩
  dsimp only[Rf];refine Kj (F:=All) (H:=H2) (ts:=[.tup [.int 999999999,tE,tE,tE,tE]]) ?ev8 H2 (Ah.refl _) fun vs Hb sb rb=>?_
  case ev8=>repeat (first|exact DA|refine B3 ?_ ?_|exact FN|exact FM|refine C5 ?_ (Nat.le_of_ble_eq_true rfl))
  obtain⟨vm,_,rfl,rm,e⟩:=rb;cases e;have gn:=RV 999999999;refine⟨vm,_,rfl,rm,gn.ok,gn.ask,tb2.same sb,fun b Hc hb uc tbc=>?_⟩;have eb:b=true:=hb.mpr ⟨by decide,by decide⟩;subst eb;exact⟨_,_,rfl,rfl,q _⟩
end
end B
open B
theorem all_mk {l:W.OpenLaw} {w:World} {K:W.Frag} {h:Heap} {mg:Str->Option Value} {fa:Addr} (X:K.In h) (G:h.Ns mainGlobals mg) (hfa:mg "law"=some (.ref fa))
  {PU:Addr} {PT:Addr}
  {f0:Addr} {od0 an0:Option Addr} {sl0:Array (Option Value)} {oc0 kV0 dc0 pm0 cd0 ct0:Value}
  {f1:Addr} {od1 an1:Option Addr} {sl1:Array (Option Value)} {oc1 kV1 dc1 pm1 cd1 ct1:Value}
  {f2:Addr} {od2 an2:Option Addr} {sl2:Array (Option Value)} {oc2 kV2 dc2 pm2 cd2 ct2:Value}
  {f3:Addr} {od3 an3:Option Addr} {sl3:Array (Option Value)} {oc3 kV3 dc3 pm3 cd3 ct3:Value}
  {f4:Addr} {od4 an4:Option Addr} {sl4:Array (Option Value)} {oc4 kV4 dc4 pm4 cd4 ct4:Value}
  {f5:Addr} {od5 an5:Option Addr} {sl5:Array (Option Value)} {oc5 kV5 dc5 pm5 cd5 ct5:Value}
  {f6:Addr} {od6 an6:Option Addr} {sl6:Array (Option Value)} {oc6 kV6 dc6 pm6 cd6 ct6:Value}
  {f7:Addr} {od7 an7:Option Addr} {sl7:Array (Option Value)} {oc7 kV7 dc7 pm7 cd7 ct7:Value}
  {f8:Addr} {od8 an8:Option Addr} {sl8:Array (Option Value)} {oc8 kV8 dc8 pm8 cd8 ct8:Value}
  {f9:Addr} {od9 an9:Option Addr} {sl9:Array (Option Value)} {oc9 kV9 dc9 pm9 cd9 ct9:Value}
  {f10:Addr} {od10 an10:Option Addr} {sl10:Array (Option Value)} {oc10 kV10 dc10 pm10 cd10 ct10:Value}
  {f11:Addr} {od11 an11:Option Addr} {sl11:Array (Option Value)} {oc11 kV11 dc11 pm11 cd11 ct11:Value}
  {f12:Addr} {od12 an12:Option Addr} {sl12:Array (Option Value)} {oc12 kV12 dc12 pm12 cd12 ct12:Value}
  {f13:Addr} {od13 an13:Option Addr} {sl13:Array (Option Value)} {oc13 kV13 dc13 pm13 cd13 ct13:Value}
  {f14:Addr} {od14 an14:Option Addr} {sl14:Array (Option Value)} {oc14 kV14 dc14 pm14 cd14 ct14:Value}
  {f15:Addr} {od15 an15:Option Addr} {sl15:Array (Option Value)} {oc15 kV15 dc15 pm15 cd15 ct15:Value}
  {f16:Addr} {od16 an16:Option Addr} {sl16:Array (Option Value)} {oc16 kV16 dc16 pm16 cd16 ct16:Value}
  {f17:Addr} {od17 an17:Option Addr} {sl17:Array (Option Value)} {oc17 kV17 dc17 pm17 cd17 ct17:Value}
  {f18:Addr} {od18 an18:Option Addr} {sl18:Array (Option Value)} {oc18 kV18 dc18 pm18 cd18 ct18:Value}
  {f19:Addr} {od19 an19:Option Addr} {sl19:Array (Option Value)} {oc19 kV19 dc19 pm19 cd19 ct19:Value}
  {f20:Addr} {od20 an20:Option Addr} {sl20:Array (Option Value)} {oc20 kV20 dc20 pm20 cd20 ct20:Value}
  {f21:Addr} {od21 an21:Option Addr} {sl21:Array (Option Value)} {oc21 kV21 dc21 pm21 cd21 ct21:Value}
  {f22:Addr} {od22 an22:Option Addr} {sl22:Array (Option Value)} {oc22 kV22 dc22 pm22 cd22 ct22:Value}
  {f23:Addr} {od23 an23:Option Addr} {sl23:Array (Option Value)} {oc23 kV23 dc23 pm23 ct23:Value}
  {cc23:Addr}
  {f24:Addr} {od24 an24:Option Addr} {sl24:Array (Option Value)} {oc24 kV24 dc24 pm24 cd24 ct24:Value}
  {f25:Addr} {od25 an25:Option Addr} {sl25:Array (Option Value)} {oc25 kV25 dc25 pm25 cd25 ct25:Value}
  {f26:Addr} {od26 an26:Option Addr} {sl26:Array (Option Value)} {oc26 kV26 dc26 pm26 cd26 ct26:Value}
  {f27:Addr} {od27 an27:Option Addr} {sl27:Array (Option Value)} {oc27 kV27 dc27 pm27 cd27 ct27:Value}
  {f28:Addr} {od28 an28:Option Addr} {sl28:Array (Option Value)} {oc28 kV28 dc28 pm28 cd28 ct28:Value}
  {f29:Addr} {od29 an29:Option Addr} {sl29:Array (Option Value)} {oc29 kV29 dc29 pm29 cd29 ct29:Value}
  {f30:Addr} {od30 an30:Option Addr} {sl30:Array (Option Value)} {oc30 kV30 dc30 pm30 cd30 ct30:Value}
  {f31:Addr} {od31 an31:Option Addr} {sl31:Array (Option Value)} {oc31 kV31 dc31 pm31 ct31:Value}
  {cc31:Addr}
  {f32:Addr} {od32 an32:Option Addr} {sl32:Array (Option Value)} {oc32 kV32 dc32 pm32 cd32 ct32:Value}
  {f33:Addr} {od33 an33:Option Addr} {sl33:Array (Option Value)} {oc33 kV33 dc33 pm33 cd33 ct33:Value}
  {f34:Addr} {od34 an34:Option Addr} {sl34:Array (Option Value)} {oc34 kV34 dc34 pm34 cd34 ct34:Value}
  {f35:Addr} {od35 an35:Option Addr} {sl35:Array (Option Value)} {oc35 kV35 dc35 pm35 cd35 ct35:Value}
  {f36:Addr} {od36 an36:Option Addr} {sl36:Array (Option Value)} {oc36 kV36 dc36 pm36 cd36 ct36:Value}
  {f37:Addr} {od37 an37:Option Addr} {sl37:Array (Option Value)} {oc37 kV37 dc37 pm37 cd37 ct37:Value}
  {f38:Addr} {od38 an38:Option Addr} {sl38:Array (Option Value)} {oc38 kV38 dc38 pm38 cd38 ct38:Value}
  {f39:Addr} {od39 an39:Option Addr} {sl39:Array (Option Value)} {oc39 kV39 dc39 pm39 cd39 ct39:Value}
  {f40:Addr} {od40 an40:Option Addr} {sl40:Array (Option Value)} {oc40 kV40 dc40 pm40 cd40 ct40:Value}
  {f41:Addr} {od41 an41:Option Addr} {sl41:Array (Option Value)} {oc41 kV41 dc41 pm41 cd41 ct41:Value}
  {f42:Addr} {od42 an42:Option Addr} {sl42:Array (Option Value)} {oc42 kV42 dc42 pm42 cd42 ct42:Value}
  {f43:Addr} {od43 an43:Option Addr} {sl43:Array (Option Value)} {oc43 kV43 dc43 pm43 cd43 ct43:Value}
  {t_SIGNS:Tok}
  {t_MOST_NUMBER:Tok}
  {t_MOST_SIGNS:Tok}
  {t_PIECE:Tok}
  {t_ROW:Tok}
  {t_FOLDER:Tok}
  {t_FILE_ENTRY:Tok}
  {t_FOLDER_ENTRY:Tok}
  {t_NAME_SIGNS:Tok}
  {t_MOST_NAME_SIGNS:Tok}
  {t_MOST_CELL:Tok}
  {t_MOST_BIRTH:Tok}
  {t_SUM_RESTS:Tok}
  {t_MOST_PIECE_SIGNS:Tok}
  {t_MOST_LEVEL:Tok}
  {t_MOST_TAGS:Tok}
  {t_MOST_ENTRIES:Tok}
  {t_STEM:Tok}
  {t_SEAL:Tok}
  {t_MOST_KEEPERS:Tok}
  {t_MOST_NAMES:Tok}
  {t_MOST_TREE_ENTRIES:Tok}
  {t_MOST_TREE_DEEP:Tok}
  (a0:W.nsIn K mainGlobals "is_whole"=some (some (.ref f0))) (l0:K.lookup f0=some ⟨oc0,od0,.func (W.fnOf "is_whole" "is_whole" (Az Dn) (Ay Dn) (Af Dn) .none kV0 dc0 pm0 an0 cd0 ct0),sl0⟩) (c0:W.codeIn K cd0 "is_whole"=true) (k0:W.keepIn K (.ref f0)=true)
  (a1:W.nsIn K mainGlobals "is_between"=some (some (.ref f1))) (l1:K.lookup f1=some ⟨oc1,od1,.func (W.fnOf "is_between" "is_between" (Az Cb) (Ay Cb) (Af Cb) .none kV1 dc1 pm1 an1 cd1 ct1),sl1⟩) (c1:W.codeIn K cd1 "is_between"=true) (k1:W.keepIn K (.ref f1)=true)
  (a2:W.nsIn K mainGlobals "is_tuple_of"=some (some (.ref f2))) (l2:K.lookup f2=some ⟨oc2,od2,.func (W.fnOf "is_tuple_of" "is_tuple_of" (Az BW) (Ay BW) (Af BW) .none kV2 dc2 pm2 an2 cd2 ct2),sl2⟩) (c2:W.codeIn K cd2 "is_tuple_of"=true) (k2:W.keepIn K (.ref f2)=true)
  (a3:W.nsIn K mainGlobals "number_of"=some (some (.ref f3))) (l3:K.lookup f3=some ⟨oc3,od3,.func (W.fnOf "number_of" "number_of" (Az CG) (Ay CG) (Af CG) .none kV3 dc3 pm3 an3 cd3 ct3),sl3⟩) (c3:W.codeIn K cd3 "number_of"=true) (k3:W.keepIn K (.ref f3)=true)
  (a4:W.nsIn K mainGlobals "is_text"=some (some (.ref f4))) (l4:K.lookup f4=some ⟨oc4,od4,.func (W.fnOf "is_text" "is_text" (Az DL) (Ay DL) (Af DL) .none kV4 dc4 pm4 an4 cd4 ct4),sl4⟩) (c4:W.codeIn K cd4 "is_text"=true) (k4:W.keepIn K (.ref f4)=true)
  (a5:W.nsIn K mainGlobals "is_name"=some (some (.ref f5))) (l5:K.lookup f5=some ⟨oc5,od5,.func (W.fnOf "is_name" "is_name" (Az DJ) (Ay DJ) (Af DJ) .none kV5 dc5 pm5 an5 cd5 ct5),sl5⟩) (c5:W.codeIn K cd5 "is_name"=true) (k5:W.keepIn K (.ref f5)=true)
  (a6:W.nsIn K mainGlobals "is_tag"=some (some (.ref f6))) (l6:K.lookup f6=some ⟨oc6,od6,.func (W.fnOf "is_tag" "is_tag" (Az EH) (Ay EH) (Af EH) .none kV6 dc6 pm6 an6 cd6 ct6),sl6⟩) (c6:W.codeIn K cd6 "is_tag"=true) (k6:W.keepIn K (.ref f6)=true)
  (a7:W.nsIn K mainGlobals "is_block"=some (some (.ref f7))) (l7:K.lookup f7=some ⟨oc7,od7,.func (W.fnOf "is_block" "is_block" (Az Dm) (Ay Dm) (Af Dm) .none kV7 dc7 pm7 an7 cd7 ct7),sl7⟩) (c7:W.codeIn K cd7 "is_block"=true) (k7:W.keepIn K (.ref f7)=true)
  (a8:W.nsIn K mainGlobals "are_row_tags"=some (some (.ref f8))) (l8:K.lookup f8=some ⟨oc8,od8,.func (W.fnOf "are_row_tags" "are_row_tags" (Az BI) (Ay BI) (Af BI) .none kV8 dc8 pm8 an8 cd8 ct8),sl8⟩) (c8:W.codeIn K cd8 "are_row_tags"=true) (k8:W.keepIn K (.ref f8)=true)
  (a9:W.nsIn K mainGlobals "are_entries"=some (some (.ref f9))) (l9:K.lookup f9=some ⟨oc9,od9,.func (W.fnOf "are_entries" "are_entries" (Az B0) (Ay B0) (Af B0) .none kV9 dc9 pm9 an9 cd9 ct9),sl9⟩) (c9:W.codeIn K cd9 "are_entries"=true) (k9:W.keepIn K (.ref f9)=true)
  (a10:W.nsIn K mainGlobals "is_entry"=some (some (.ref f10))) (l10:K.lookup f10=some ⟨oc10,od10,.func (W.fnOf "is_entry" "is_entry" (Az Di) (Ay Di) (Af Di) .none kV10 dc10 pm10 an10 cd10 ct10),sl10⟩) (c10:W.codeIn K cd10 "is_entry"=true) (k10:W.keepIn K (.ref f10)=true)
  (a11:W.nsIn K mainGlobals "sum_of"=some (some (.ref f11))) (l11:K.lookup f11=some ⟨oc11,od11,.func (W.fnOf "sum_of" "sum_of" (Az EA) (Ay EA) (Af EA) .none kV11 dc11 pm11 an11 cd11 ct11),sl11⟩) (c11:W.codeIn K cd11 "sum_of"=true) (k11:W.keepIn K (.ref f11)=true)
  (a12:W.nsIn K mainGlobals "numbers_told"=some (some (.ref f12))) (l12:K.lookup f12=some ⟨oc12,od12,.func (W.fnOf "numbers_told" "numbers_told" (Az BL) (Ay BL) (Af BL) .none kV12 dc12 pm12 an12 cd12 ct12),sl12⟩) (c12:W.codeIn K cd12 "numbers_told"=true) (k12:W.keepIn K (.ref f12)=true)
  (a13:W.nsIn K mainGlobals "tags_in"=some (some (.ref f13))) (l13:K.lookup f13=some ⟨oc13,od13,.func (W.fnOf "tags_in" "tags_in" (Az DP) (Ay DP) (Af DP) .none kV13 dc13 pm13 an13 cd13 ct13),sl13⟩) (c13:W.codeIn K cd13 "tags_in"=true) (k13:W.keepIn K (.ref f13)=true)
  (a14:W.nsIn K mainGlobals "is_head"=some (some (.ref f14))) (l14:K.lookup f14=some ⟨oc14,od14,.func (W.fnOf "is_head" "is_head" (Az DK) (Ay DK) (Af DK) .none kV14 dc14 pm14 an14 cd14 ct14),sl14⟩) (c14:W.codeIn K cd14 "is_head"=true) (k14:W.keepIn K (.ref f14)=true)
  (a15:W.nsIn K mainGlobals "are_keepers"=some (some (.ref f15))) (l15:K.lookup f15=some ⟨oc15,od15,.func (W.fnOf "are_keepers" "are_keepers" (Az BY) (Ay BY) (Af BY) .none kV15 dc15 pm15 an15 cd15 ct15),sl15⟩) (c15:W.codeIn K cd15 "are_keepers"=true) (k15:W.keepIn K (.ref f15)=true)
  (a16:W.nsIn K mainGlobals "is_keeper"=some (some (.ref f16))) (l16:K.lookup f16=some ⟨oc16,od16,.func (W.fnOf "is_keeper" "is_keeper" (Az CI) (Ay CI) (Af CI) .none kV16 dc16 pm16 an16 cd16 ct16),sl16⟩) (c16:W.codeIn K cd16 "is_keeper"=true) (k16:W.keepIn K (.ref f16)=true)
  (a17:W.nsIn K mainGlobals "are_rising"=some (some (.ref f17))) (l17:K.lookup f17=some ⟨oc17,od17,.func (W.fnOf "are_rising" "are_rising" (Az Cd) (Ay Cd) (Af Cd) .none kV17 dc17 pm17 an17 cd17 ct17),sl17⟩) (c17:W.codeIn K cd17 "are_rising"=true) (k17:W.keepIn K (.ref f17)=true)
  (a18:W.nsIn K mainGlobals "are_names"=some (some (.ref f18))) (l18:K.lookup f18=some ⟨oc18,od18,.func (W.fnOf "are_names" "are_names" (Az CH) (Ay CH) (Af CH) .none kV18 dc18 pm18 an18 cd18 ct18),sl18⟩) (c18:W.codeIn K cd18 "are_names"=true) (k18:W.keepIn K (.ref f18)=true)
  (a19:W.nsIn K mainGlobals "is_stem"=some (some (.ref f19))) (l19:K.lookup f19=some ⟨oc19,od19,.func (W.fnOf "is_stem" "is_stem" (Az DN) (Ay DN) (Af DN) .none kV19 dc19 pm19 an19 cd19 ct19),sl19⟩) (c19:W.codeIn K cd19 "is_stem"=true) (k19:W.keepIn K (.ref f19)=true)
  (a20:W.nsIn K mainGlobals "is_seal"=some (some (.ref f20))) (l20:K.lookup f20=some ⟨oc20,od20,.func (W.fnOf "is_seal" "is_seal" (Az DS) (Ay DS) (Af DS) .none kV20 dc20 pm20 an20 cd20 ct20),sl20⟩) (c20:W.codeIn K cd20 "is_seal"=true) (k20:W.keepIn K (.ref f20)=true)
  (a21:W.nsIn K mainGlobals "are_at_one"=some (some (.ref f21))) (l21:K.lookup f21=some ⟨oc21,od21,.func (W.fnOf "are_at_one" "are_at_one" (Az Ci) (Ay Ci) (Af Ci) .none kV21 dc21 pm21 an21 cd21 ct21),sl21⟩) (c21:W.codeIn K cd21 "are_at_one"=true) (k21:W.keepIn K (.ref f21)=true)
  (a22:W.nsIn K mainGlobals "stems_in"=some (some (.ref f22))) (l22:K.lookup f22=some ⟨oc22,od22,.func (W.fnOf "stems_in" "stems_in" (Az Dc) (Ay Dc) (Af Dc) .none kV22 dc22 pm22 an22 cd22 ct22),sl22⟩) (c22:W.codeIn K cd22 "stems_in"=true) (k22:W.keepIn K (.ref f22)=true)
  (a23:W.nsIn K mainGlobals "seals_of"=some (some (.ref f23))) (l23:K.lookup f23=some ⟨oc23,od23,.func (W.fnOf "seals_of" "seals_of" (Az Do) (Ay Do) (Af Do) .none kV23 dc23 pm23 an23 (.ref cc23) ct23),sl23⟩) (c23:W.codeIn K (.ref cc23) "seals_of"=true) (k23:W.keepIn K (.ref f23)=true) (S0:W.codeHdIn K cc23 PT=true) (Ui:K.lookup PT=none)
  (a24:W.nsIn K mainGlobals "tags_kept"=some (some (.ref f24))) (l24:K.lookup f24=some ⟨oc24,od24,.func (W.fnOf "tags_kept" "tags_kept" (Az CN) (Ay CN) (Af CN) .none kV24 dc24 pm24 an24 cd24 ct24),sl24⟩) (c24:W.codeIn K cd24 "tags_kept"=true) (k24:W.keepIn K (.ref f24)=true)
  (a25:W.nsIn K mainGlobals "lets_by"=some (some (.ref f25))) (l25:K.lookup f25=some ⟨oc25,od25,.func (W.fnOf "lets_by" "lets_by" (Az DQ) (Ay DQ) (Af DQ) .none kV25 dc25 pm25 an25 cd25 ct25),sl25⟩) (c25:W.codeIn K cd25 "lets_by"=true) (k25:W.keepIn K (.ref f25)=true)
  (a26:W.nsIn K mainGlobals "are_cells"=some (some (.ref f26))) (l26:K.lookup f26=some ⟨oc26,od26,.func (W.fnOf "are_cells" "are_cells" (Az CL) (Ay CL) (Af CL) .none kV26 dc26 pm26 an26 cd26 ct26),sl26⟩) (c26:W.codeIn K cd26 "are_cells"=true) (k26:W.keepIn K (.ref f26)=true)
  (a27:W.nsIn K mainGlobals "is_cell"=some (some (.ref f27))) (l27:K.lookup f27=some ⟨oc27,od27,.func (W.fnOf "is_cell" "is_cell" (Az DR) (Ay DR) (Af DR) .none kV27 dc27 pm27 an27 cd27 ct27),sl27⟩) (c27:W.codeIn K cd27 "is_cell"=true) (k27:W.keepIn K (.ref f27)=true)
  (a28:W.nsIn K mainGlobals "are_there"=some (some (.ref f28))) (l28:K.lookup f28=some ⟨oc28,od28,.func (W.fnOf "are_there" "are_there" (Az CF) (Ay CF) (Af CF) .none kV28 dc28 pm28 an28 cd28 ct28),sl28⟩) (c28:W.codeIn K cd28 "are_there"=true) (k28:W.keepIn K (.ref f28)=true)
  (a29:W.nsIn K mainGlobals "block_in"=some (some (.ref f29))) (l29:K.lookup f29=some ⟨oc29,od29,.func (W.fnOf "block_in" "block_in" (Az Dh) (Ay Dh) (Af Dh) .none kV29 dc29 pm29 an29 cd29 ct29),sl29⟩) (c29:W.codeIn K cd29 "block_in"=true) (k29:W.keepIn K (.ref f29)=true)
  (a30:W.nsIn K mainGlobals "fit_heights"=some (some (.ref f30))) (l30:K.lookup f30=some ⟨oc30,od30,.func (W.fnOf "fit_heights" "fit_heights" (Az BV) (Ay BV) (Af BV) .none kV30 dc30 pm30 an30 cd30 ct30),sl30⟩) (c30:W.codeIn K cd30 "fit_heights"=true) (k30:W.keepIn K (.ref f30)=true)
  (a31:W.nsIn K mainGlobals "by_heights"=some (some (.ref f31))) (l31:K.lookup f31=some ⟨oc31,od31,.func (W.fnOf "by_heights" "by_heights" (Az Ck) (Ay Ck) (Af Ck) .none kV31 dc31 pm31 an31 (.ref cc31) ct31),sl31⟩) (c31:W.codeIn K (.ref cc31) "by_heights"=true) (k31:W.keepIn K (.ref f31)=true) (S5:W.codeHdIn K cc31 PU=true) (Ut:K.lookup PU=none)
  (a32:W.nsIn K mainGlobals "fit_kinds"=some (some (.ref f32))) (l32:K.lookup f32=some ⟨oc32,od32,.func (W.fnOf "fit_kinds" "fit_kinds" (Az CK) (Ay CK) (Af CK) .none kV32 dc32 pm32 an32 cd32 ct32),sl32⟩) (c32:W.codeIn K cd32 "fit_kinds"=true) (k32:W.keepIn K (.ref f32)=true)
  (a33:W.nsIn K mainGlobals "fit_counts"=some (some (.ref f33))) (l33:K.lookup f33=some ⟨oc33,od33,.func (W.fnOf "fit_counts" "fit_counts" (Az Cj) (Ay Cj) (Af Cj) .none kV33 dc33 pm33 an33 cd33 ct33),sl33⟩) (c33:W.codeIn K cd33 "fit_counts"=true) (k33:W.keepIn K (.ref f33)=true)
  (a34:W.nsIn K mainGlobals "fit_holders"=some (some (.ref f34))) (l34:K.lookup f34=some ⟨oc34,od34,.func (W.fnOf "fit_holders" "fit_holders" (Az BU) (Ay BU) (Af BU) .none kV34 dc34 pm34 an34 cd34 ct34),sl34⟩) (c34:W.codeIn K cd34 "fit_holders"=true) (k34:W.keepIn K (.ref f34)=true)
  (a35:W.nsIn K mainGlobals "fit_shares"=some (some (.ref f35))) (l35:K.lookup f35=some ⟨oc35,od35,.func (W.fnOf "fit_shares" "fit_shares" (Az Cn) (Ay Cn) (Af Cn) .none kV35 dc35 pm35 an35 cd35 ct35),sl35⟩) (c35:W.codeIn K cd35 "fit_shares"=true) (k35:W.keepIn K (.ref f35)=true)
  (a36:W.nsIn K mainGlobals "fit_trees"=some (some (.ref f36))) (l36:K.lookup f36=some ⟨oc36,od36,.func (W.fnOf "fit_trees" "fit_trees" (Az CD) (Ay CD) (Af CD) .none kV36 dc36 pm36 an36 cd36 ct36),sl36⟩) (c36:W.codeIn K cd36 "fit_trees"=true) (k36:W.keepIn K (.ref f36)=true)
  (a37:W.nsIn K mainGlobals "fit_contents"=some (some (.ref f37))) (l37:K.lookup f37=some ⟨oc37,od37,.func (W.fnOf "fit_contents" "fit_contents" (Az BH) (Ay BH) (Af BH) .none kV37 dc37 pm37 an37 cd37 ct37),sl37⟩) (c37:W.codeIn K cd37 "fit_contents"=true) (k37:W.keepIn K (.ref f37)=true)
  (a38:W.nsIn K mainGlobals "_law_row"=some (some (.ref f38))) (l38:K.lookup f38=some ⟨oc38,od38,.func (W.fnOf "_law_row" "_law_row" (Az Dk) (Ay Dk) (Af Dk) .none kV38 dc38 pm38 an38 cd38 ct38),sl38⟩) (c38:W.codeIn K cd38 "_law_row"=true) (k38:W.keepIn K (.ref f38)=true)
  (a39:W.nsIn K mainGlobals "_law_thing"=some (some (.ref f39))) (l39:K.lookup f39=some ⟨oc39,od39,.func (W.fnOf "_law_thing" "_law_thing" (Az By) (Ay By) (Af By) .none kV39 dc39 pm39 an39 cd39 ct39),sl39⟩) (c39:W.codeIn K cd39 "_law_thing"=true) (k39:W.keepIn K (.ref f39)=true)
  (a40:W.nsIn K mainGlobals "_law_copy"=some (some (.ref f40))) (l40:K.lookup f40=some ⟨oc40,od40,.func (W.fnOf "_law_copy" "_law_copy" (Az BN) (Ay BN) (Af BN) .none kV40 dc40 pm40 an40 cd40 ct40),sl40⟩) (c40:W.codeIn K cd40 "_law_copy"=true) (k40:W.keepIn K (.ref f40)=true)
  (a41:W.nsIn K mainGlobals "_law_same"=some (some (.ref f41))) (l41:K.lookup f41=some ⟨oc41,od41,.func (W.fnOf "_law_same" "_law_same" (Az BM) (Ay BM) (Af BM) .none kV41 dc41 pm41 an41 cd41 ct41),sl41⟩) (c41:W.codeIn K cd41 "_law_same"=true) (k41:W.keepIn K (.ref f41)=true)
  (a42:W.nsIn K mainGlobals "_law_is_empty"=some (some (.ref f42))) (l42:K.lookup f42=some ⟨oc42,od42,.func (W.fnOf "_law_is_empty" "_law_is_empty" (Az Bt) (Ay Bt) (Af Bt) .none kV42 dc42 pm42 an42 cd42 ct42),sl42⟩) (c42:W.codeIn K cd42 "_law_is_empty"=true) (k42:W.keepIn K (.ref f42)=true)
  (a43:W.nsIn K mainGlobals "law"=some (some (.ref f43))) (l43:K.lookup f43=some ⟨oc43,od43,.func (W.fnOf "law" "law" (Az Hj) (Ay Hj) (Af Hj) .none kV43 dc43 pm43 an43 cd43 ct43),sl43⟩) (c43:W.codeIn K cd43 "law"=true) (k43:W.keepIn K (.ref f43)=true)
  (QG:W.nsIn K mainGlobals "all"=some none)
  (Ny:W.nsIn K mainGlobals "bool"=some none)
  (NJ:W.nsIn K mainGlobals "dict"=some none)
  (Sa:W.nsIn K mainGlobals "int"=some none)
  (Ff:W.nsIn K mainGlobals "isinstance"=some none)
  (QS:W.nsIn K mainGlobals "len"=some none)
  (NF:W.nsIn K mainGlobals "list"=some none)
  (Qs:W.nsIn K mainGlobals "max"=some none)
  (Se:W.nsIn K mainGlobals "min"=some none)
  (Lm:W.nsIn K mainGlobals "range"=some none)
  (Gq:W.nsIn K mainGlobals "reversed"=some none)
  (R3:W.nsIn K mainGlobals "set"=some none)
  (Jq:W.nsIn K mainGlobals "sorted"=some none)
  (QM:W.nsIn K mainGlobals "str"=some none)
  (QT:W.nsIn K mainGlobals "sum"=some none)
  (Lj:W.nsIn K mainGlobals "tuple"=some none)
  (Lh:W.nsIn K mainGlobals "SIGNS"=some (some (.str (PySem.Str.ofString " !\"#$&'()*+,-./0123456789:;<=>?@ABCDEFGHIJKLMNOPQRSTUVWXYZ[\\]^_`abcdefghijklmnopqrstuvwxyz{|}~") t_SIGNS)))
  (Ei:W.nsIn K mainGlobals "MOST_NUMBER"=some (some (.int 999999999 t_MOST_NUMBER)))
  (Fe:W.nsIn K mainGlobals "MOST_SIGNS"=some (some (.int 400 t_MOST_SIGNS)))
  (K6:W.nsIn K mainGlobals "PIECE"=some (some (.int 0 t_PIECE)))
  (QO:W.nsIn K mainGlobals "ROW"=some (some (.int 1 t_ROW)))
  (Jh:W.nsIn K mainGlobals "FOLDER"=some (some (.int 2 t_FOLDER)))
  (ES:W.nsIn K mainGlobals "FILE_ENTRY"=some (some (.int 1 t_FILE_ENTRY)))
  (D1:W.nsIn K mainGlobals "FOLDER_ENTRY"=some (some (.int 2 t_FOLDER_ENTRY)))
  (EU:W.nsIn K mainGlobals "NAME_SIGNS"=some (some (.str (PySem.Str.ofString "0123456789abcdefghijklmnopqrstuvwxyz") t_NAME_SIGNS)))
  (C7:W.nsIn K mainGlobals "MOST_NAME_SIGNS"=some (some (.int 8 t_MOST_NAME_SIGNS)))
  (Fx:W.nsIn K mainGlobals "MOST_CELL"=some (some (.int 999999 t_MOST_CELL)))
  (Fk:W.nsIn K mainGlobals "MOST_BIRTH"=some (some (.int 999999999 t_MOST_BIRTH)))
  (Fy:W.nsIn K mainGlobals "SUM_RESTS"=some (some (.int 997 t_SUM_RESTS)))
  (Cy:W.nsIn K mainGlobals "MOST_PIECE_SIGNS"=some (some (.int 8 t_MOST_PIECE_SIGNS)))
  (EK:W.nsIn K mainGlobals "MOST_LEVEL"=some (some (.int 9 t_MOST_LEVEL)))
  (Fz:W.nsIn K mainGlobals "MOST_TAGS"=some (some (.int 8 t_MOST_TAGS)))
  (DW:W.nsIn K mainGlobals "MOST_ENTRIES"=some (some (.int 16 t_MOST_ENTRIES)))
  (Ni:W.nsIn K mainGlobals "STEM"=some (some (.int 1 t_STEM)))
  (NM:W.nsIn K mainGlobals "SEAL"=some (some (.int 2 t_SEAL)))
  (DY:W.nsIn K mainGlobals "MOST_KEEPERS"=some (some (.int 8 t_MOST_KEEPERS)))
  (Fi:W.nsIn K mainGlobals "MOST_NAMES"=some (some (.int 24 t_MOST_NAMES)))
  (Cr:W.nsIn K mainGlobals "MOST_TREE_ENTRIES"=some (some (.int 60 t_MOST_TREE_ENTRIES)))
  (Dl:W.nsIn K mainGlobals "MOST_TREE_DEEP"=some (some (.int 8 t_MOST_TREE_DEEP))) :
  ∃fd:FuncData,(∀(s:Shared) (v:Value),BindsTo s fd ⟨[v],[]⟩ [("_law_script",v)])/\(∀T∈[PU,PT],K.lookup T=none/\∃c,W.codeHdIn K c T=true)/\∀base:Heap,K.In base->base.Ns mainGlobals mg->Nx mg base->FnOk l.prog w K mg base CP 22 fa fd ["_law_script"] (Lx K PT PU):=by
 have e:=hfa.symm.trans (W.mg_of X G a43);cases e;have T:Txt K mg:=⟨W.mg_none_of X G QG,W.mg_none_of X G Ny,W.mg_none_of X G NJ,W.mg_none_of X G Sa,W.mg_none_of X G Ff,W.mg_none_of X G QS,W.mg_none_of X G NF,W.mg_none_of X G Qs,W.mg_none_of X G Se,W.mg_none_of X G Lm,W.mg_none_of X G Gq,W.mg_none_of X G R3,W.mg_none_of X G Jq,W.mg_none_of X G QM,W.mg_none_of X G QT,W.mg_none_of X G Lj,⟨_,W.mg_of X G Lh⟩,⟨_,W.mg_of X G Ei⟩,⟨_,W.mg_of X G Fe⟩,⟨_,W.mg_of X G K6⟩,⟨_,W.mg_of X G QO⟩,⟨_,W.mg_of X G Jh⟩,⟨_,W.mg_of X G ES⟩,⟨_,W.mg_of X G D1⟩,⟨_,W.mg_of X G EU⟩,⟨_,W.mg_of X G C7⟩,⟨_,W.mg_of X G Fx⟩,⟨_,W.mg_of X G Fk⟩,⟨_,W.mg_of X G Fy⟩,⟨_,W.mg_of X G Cy⟩,⟨_,W.mg_of X G EK⟩,⟨_,W.mg_of X G Fz⟩,⟨_,W.mg_of X G DW⟩,⟨_,W.mg_of X G Ni⟩,⟨_,W.mg_of X G NM⟩,⟨_,W.mg_of X G DY⟩,⟨_,W.mg_of X G Fi⟩,⟨_,W.mg_of X G Cr⟩,⟨_,W.mg_of X G Dl⟩⟩
 have F0:=AL (st:=Dn) l0 c0 k0;have b0:=F0.binds (ps:=["thing"]) fun _ _ _ _ _ _ us hl=>match us,hl with|[_],_=>rfl
 have F1:=AL (st:=Cb) l1 c1 k1;have b1:=F1.binds (ps:=["thing","least","most"]) fun _ _ _ _ _ _ us hl=>match us,hl with|[_,_,_],_=>rfl
 have F2:=AL (st:=BW) l2 c2 k2;have b2:=F2.binds (ps:=["thing","many"]) fun _ _ _ _ _ _ us hl=>match us,hl with|[_,_],_=>rfl
 have F3:=AL (st:=CG) l3 c3 k3;have b3:=F3.binds (ps:=["sign"]) fun _ _ _ _ _ _ us hl=>match us,hl with|[_],_=>rfl
 have F4:=AL (st:=DL) l4 c4 k4;have b4:=F4.binds (ps:=["thing","least","most"]) fun _ _ _ _ _ _ us hl=>match us,hl with|[_,_,_],_=>rfl
 have F5:=AL (st:=DJ) l5 c5 k5;have b5:=F5.binds (ps:=["thing"]) fun _ _ _ _ _ _ us hl=>match us,hl with|[_],_=>rfl
 have F6:=AL (st:=EH) l6 c6 k6;have b6:=F6.binds (ps:=["thing"]) fun _ _ _ _ _ _ us hl=>match us,hl with|[_],_=>rfl
 have F7:=AL (st:=Dm) l7 c7 k7;have b7:=F7.binds (ps:=["thing"]) fun _ _ _ _ _ _ us hl=>match us,hl with|[_],_=>rfl
 have F8:=AL (st:=BI) l8 c8 k8;have b8:=F8.binds (ps:=["thing","level"]) fun _ _ _ _ _ _ us hl=>match us,hl with|[_,_],_=>rfl
 have F9:=AL (st:=B0) l9 c9 k9;have b9:=F9.binds (ps:=["thing"]) fun _ _ _ _ _ _ us hl=>match us,hl with|[_],_=>rfl
 have F10:=AL (st:=Di) l10 c10 k10;have b10:=F10.binds (ps:=["thing"]) fun _ _ _ _ _ _ us hl=>match us,hl with|[_],_=>rfl
 have F11:=AL (st:=EA) l11 c11 k11;have b11:=F11.binds (ps:=["block"]) fun _ _ _ _ _ _ us hl=>match us,hl with|[_],_=>rfl
 have F12:=AL (st:=BL) l12 c12 k12;have b12:=F12.binds (ps:=["block"]) fun _ _ _ _ _ _ us hl=>match us,hl with|[_],_=>rfl
 have F13:=AL (st:=DP) l13 c13 k13;have b13:=F13.binds (ps:=["block"]) fun _ _ _ _ _ _ us hl=>match us,hl with|[_],_=>rfl
 have F14:=AL (st:=DK) l14 c14 k14;have b14:=F14.binds (ps:=["thing"]) fun _ _ _ _ _ _ us hl=>match us,hl with|[_],_=>rfl
 have F15:=AL (st:=BY) l15 c15 k15;have b15:=F15.binds (ps:=["thing"]) fun _ _ _ _ _ _ us hl=>match us,hl with|[_],_=>rfl
 have F16:=AL (st:=CI) l16 c16 k16;have b16:=F16.binds (ps:=["thing"]) fun _ _ _ _ _ _ us hl=>match us,hl with|[_],_=>rfl
 have F17:=AL (st:=Cd) l17 c17 k17;have b17:=F17.binds (ps:=["named"]) fun _ _ _ _ _ _ us hl=>match us,hl with|[_],_=>rfl
 have F18:=AL (st:=CH) l18 c18 k18;have b18:=F18.binds (ps:=["thing"]) fun _ _ _ _ _ _ us hl=>match us,hl with|[_],_=>rfl
 have F19:=AL (st:=DN) l19 c19 k19;have b19:=F19.binds (ps:=["thing"]) fun _ _ _ _ _ _ us hl=>match us,hl with|[_],_=>rfl
 have F20:=AL (st:=DS) l20 c20 k20;have b20:=F20.binds (ps:=["thing"]) fun _ _ _ _ _ _ us hl=>match us,hl with|[_],_=>rfl
 have F21:=AL (st:=Ci) l21 c21 k21;have b21:=F21.binds (ps:=["keepers","names"]) fun _ _ _ _ _ _ us hl=>match us,hl with|[_,_],_=>rfl
 have F22:=AL (st:=Dc) l22 c22 k22;have b22:=F22.binds (ps:=["head"]) fun _ _ _ _ _ _ us hl=>match us,hl with|[_],_=>rfl
 have F23:=AL (st:=Do) l23 c23 k23;have b23:=F23.binds (ps:=["head","stem"]) fun _ _ _ _ _ _ us hl=>match us,hl with|[_,_],_=>rfl
 have F24:=AL (st:=CN) l24 c24 k24;have b24:=F24.binds (ps:=["head","keeper"]) fun _ _ _ _ _ _ us hl=>match us,hl with|[_,_],_=>rfl
 have F25:=AL (st:=DQ) l25 c25 k25;have b25:=F25.binds (ps:=["account"]) fun _ _ _ _ _ _ us hl=>match us,hl with|[_],_=>rfl
 have F26:=AL (st:=CL) l26 c26 k26;have b26:=F26.binds (ps:=["thing"]) fun _ _ _ _ _ _ us hl=>match us,hl with|[_],_=>rfl
 have F27:=AL (st:=DR) l27 c27 k27;have b27:=F27.binds (ps:=["thing"]) fun _ _ _ _ _ _ us hl=>match us,hl with|[_],_=>rfl
 have F28:=AL (st:=CF) l28 c28 k28;have b28:=F28.binds (ps:=["head","cells"]) fun _ _ _ _ _ _ us hl=>match us,hl with|[_,_],_=>rfl
 have F29:=AL (st:=Dh) l29 c29 k29;have b29:=F29.binds (ps:=["cells","tag"]) fun _ _ _ _ _ _ us hl=>match us,hl with|[_,_],_=>rfl
 have F30:=AL (st:=BV) l30 c30 k30;have b30:=F30.binds (ps:=["cells"]) fun _ _ _ _ _ _ us hl=>match us,hl with|[_],_=>rfl
 have F31:=AL (st:=Ck) l31 c31 k31;have b31:=F31.binds (ps:=["cells"]) fun _ _ _ _ _ _ us hl=>match us,hl with|[_],_=>rfl
 have F32:=AL (st:=CK) l32 c32 k32;have b32:=F32.binds (ps:=["cells"]) fun _ _ _ _ _ _ us hl=>match us,hl with|[_],_=>rfl
 have F33:=AL (st:=Cj) l33 c33 k33;have b33:=F33.binds (ps:=["head","cells"]) fun _ _ _ _ _ _ us hl=>match us,hl with|[_,_],_=>rfl
 have F34:=AL (st:=BU) l34 c34 k34;have b34:=F34.binds (ps:=["head","cells"]) fun _ _ _ _ _ _ us hl=>match us,hl with|[_,_],_=>rfl
 have F35:=AL (st:=Cn) l35 c35 k35;have b35:=F35.binds (ps:=["head","cells","shares"]) fun _ _ _ _ _ _ us hl=>match us,hl with|[_,_,_],_=>rfl
 have F36:=AL (st:=CD) l36 c36 k36;have b36:=F36.binds (ps:=["head","cells"]) fun _ _ _ _ _ _ us hl=>match us,hl with|[_,_],_=>rfl
 have F37:=AL (st:=BH) l37 c37 k37;have b37:=F37.binds (ps:=["cells"]) fun _ _ _ _ _ _ us hl=>match us,hl with|[_],_=>rfl
 have F38:=AL (st:=Dk) l38 c38 k38;have b38:=F38.binds (ps:=["_law_cell","_law_many"]) fun _ _ _ _ _ _ us hl=>match us,hl with|[_,_],_=>rfl
 have F39:=AL (st:=By) l39 c39 k39;have b39:=F39.binds (ps:=["_law_row_here","_law_at","_law_deep"]) fun _ _ _ _ _ _ us hl=>match us,hl with|[_,_,_],_=>rfl
 have F40:=AL (st:=BN) l40 c40 k40;have b40:=F40.binds (ps:=["_law_thing_here"]) fun _ _ _ _ _ _ us hl=>match us,hl with|[_],_=>rfl
 have F41:=AL (st:=BM) l41 c41 k41;have b41:=F41.binds (ps:=["_law_one","_law_other"]) fun _ _ _ _ _ _ us hl=>match us,hl with|[_,_],_=>rfl
 have F42:=AL (st:=Bt) l42 c42 k42;have b42:=F42.binds (ps:=["_law_thing_here"]) fun _ _ _ _ _ _ us hl=>match us,hl with|[_],_=>rfl
 have F43:=AL (st:=Hj) l43 c43 k43;refine⟨W.fnOf "law" "law" (Az Hj) (Ay Hj) (Af Hj) .none kV43 dc43 pm43 an43 cd43 ct43,fun s v=>.of_eq rfl,fun T hT=>by
  simp only[List.mem_cons,List.not_mem_nil,or_false] at hT;rcases hT with rfl|rfl
  ·exact⟨Ut,_,S5⟩
  ·exact⟨Ui,_,S0⟩,fun base _ _ hBm=>?_⟩
 have BA:Def l.prog w K mg base 1 "is_whole" ["thing"] (Dr K):=⟨_,_,L9 T F0 ,W.mg_of X G a0,k0,b0⟩
 have Ar:Def l.prog w K mg base 1 "is_tuple_of" ["thing","many"] (AW K):=⟨_,_,Jt T F2 ,W.mg_of X G a2,k2,b2⟩
 have Ef:Def l.prog w K mg base 1 "number_of" ["sign"] (Fd K):=⟨_,_,Li T F3 ,W.mg_of X G a3,k3,b3⟩
 have DO:Def l.prog w K mg base 1 "is_text" ["thing","least","most"] (E7 K):=⟨_,_,Of T F4 ,W.mg_of X G a4,k4,b4⟩
 have Bu:Def l.prog w K mg base 1 "tags_in" ["block"] (Dj K):=⟨_,_,NQ T F13 ,W.mg_of X G a13,k13,b13⟩
 have Cf:Def l.prog w K mg base 1 "are_rising" ["named"] (Dp K):=⟨_,_,JZ T F17 ,W.mg_of X G a17,k17,b17⟩
 have Fh:Def l.prog w K mg base 1 "are_at_one" ["keepers","names"] (Ej K):=⟨_,_,J4 T F21 ,W.mg_of X G a21,k21,b21⟩
 have Gu:Def l.prog w K mg base 1 "stems_in" ["head"] (Ft K):=⟨_,_,M3 T F22 ,W.mg_of X G a22,k22,b22⟩
 have GO:Def l.prog w K mg base 1 "seals_of" ["head","stem"] (Fq K PT):=⟨_,_,Mj T F23 ⟨⟨cc23,rfl,S0⟩,hBm⟩ ,W.mg_of X G a23,k23,b23⟩
 have A3:Def l.prog w K mg base 1 "block_in" ["cells","tag"] (B7 K):=⟨_,_,MW T F29 ,W.mg_of X G a29,k29,b29⟩
 have Bl:Def l.prog w K mg base 1 "by_heights" ["cells"] (Cs K PU):=⟨_,_,J5 T F31 ⟨⟨cc31,rfl,S5⟩,hBm⟩ ,W.mg_of X G a31,k31,b31⟩
 have Gy:Def l.prog w K mg base 1 "_law_row" ["_law_cell","_law_many"] (FE K):=⟨_,_,Mo T F38 ,W.mg_of X G a38,k38,b38⟩
 have Dy:Def l.prog w K mg base 1 "_law_is_empty" ["_law_thing_here"] (De K):=⟨_,_,HH T F42 ,W.mg_of X G a42,k42,b42⟩
 have AA:Def l.prog w K mg base 2 "is_between" ["thing","least","most"] (Bc K):=⟨_,_,J0 T F1 BA,W.mg_of X G a1,k1,b1⟩
 have Ba:Def l.prog w K mg base 2 "is_name" ["thing"] (Da K):=⟨_,_,Nm T F5 DO,W.mg_of X G a5,k5,b5⟩
 have DV:Def l.prog w K mg base 2 "numbers_told" ["block"] (Dv K):=⟨_,_,Iy T F12 Ef,W.mg_of X G a12,k12,b12⟩
 have FR:Def l.prog w K mg base 2 "tags_kept" ["head","keeper"] (Fc K PT):=⟨_,_,Ll T F24 Gu GO,W.mg_of X G a24,k24,b24⟩
 have FC:Def l.prog w K mg base 2 "are_there" ["head","cells"] (EJ K):=⟨_,_,LJ T F28 Bu A3,W.mg_of X G a28,k28,b28⟩
 have Eh:Def l.prog w K mg base 2 "fit_heights" ["cells"] (DU K):=⟨_,_,IW T F30 Bu A3,W.mg_of X G a30,k30,b30⟩
 have Fp:Def l.prog w K mg base 2 "fit_kinds" ["cells"] (EV K):=⟨_,_,La T F32 A3,W.mg_of X G a32,k32,b32⟩
 have EN:Def l.prog w K mg base 2 "fit_counts" ["head","cells"] (Em K):=⟨_,_,JW T F33 Bu A3,W.mg_of X G a33,k33,b33⟩
 have EY:Def l.prog w K mg base 2 "fit_shares" ["head","cells","shares"] (Er K):=⟨_,_,JY T F35 Ar,W.mg_of X G a35,k35,b35⟩
 have FG:Def l.prog w K mg base 2 "fit_trees" ["head","cells"] (E8 K PU):=⟨_,_,LS T F36 Bl,W.mg_of X G a36,k36,b36⟩
 have D3:Def l.prog w K mg base 2 "fit_contents" ["cells"] (Dw K PU):=⟨_,_,IA T F37 Bl,W.mg_of X G a37,k37,b37⟩
 have Bp:Def l.prog w K mg base 3 "is_tag" ["thing"] (Dg K):=⟨_,_,Pl T F6 AA Ar,W.mg_of X G a6,k6,b6⟩
 have Ew:Def l.prog w K mg base 3 "sum_of" ["block"] (Ge K):=⟨_,_,Pz T F11 DV,W.mg_of X G a11,k11,b11⟩
 have FB:Def l.prog w K mg base 3 "is_keeper" ["thing"] (EX K):=⟨_,_,LX T F16 Ar Ba AA,W.mg_of X G a16,k16,b16⟩
 have El:Def l.prog w K mg base 3 "fit_holders" ["head","cells"] (DZ K PT PU):=⟨_,_,JO T F34 FR Bl Bu A3,W.mg_of X G a34,k34,b34⟩
 have D6:Def l.prog w K mg base 4 "are_row_tags" ["thing","level"] (DB K):=⟨_,_,Iw T F8 Bp,W.mg_of X G a8,k8,b8⟩
 have GC:Def l.prog w K mg base 4 "is_entry" ["thing"] (FL K):=⟨_,_,MI T F10 AA Bp Ar Ba,W.mg_of X G a10,k10,b10⟩
 have Ek:Def l.prog w K mg base 4 "are_keepers" ["thing"] (D0 K):=⟨_,_,JF T F15 Cf FB,W.mg_of X G a15,k15,b15⟩
 have HQ:Def l.prog w K mg base 4 "is_stem" ["thing"] (Gw K):=⟨_,_,NR T F19 Ba Bp Ar AA,W.mg_of X G a19,k19,b19⟩
 have HV:Def l.prog w K mg base 4 "is_seal" ["thing"] (GM K):=⟨_,_,Nf T F20 Ba AA Bp Ar,W.mg_of X G a20,k20,b20⟩
 have Eo:Def l.prog w K mg base 5 "are_entries" ["thing"] (D9 K):=⟨_,_,IS T F9 GC,W.mg_of X G a9,k9,b9⟩
 have FA:Def l.prog w K mg base 5 "are_names" ["thing"] (EZ K):=⟨_,_,LM T F18 Cf HQ HV,W.mg_of X G a18,k18,b18⟩
 have Gs:Def l.prog w K mg base 6 "is_block" ["thing"] (FD K):=⟨_,_,M8 T F7 Eo BA DO AA D6,W.mg_of X G a7,k7,b7⟩
 have HI:Def l.prog w K mg base 6 "is_head" ["thing"] (GA K):=⟨_,_,Nt T F14 Ek FA Fh Ar AA,W.mg_of X G a14,k14,b14⟩
 have C4:Def l.prog w K mg base 6 "_law_thing" ["_law_row_here","_law_at","_law_deep"] (Ep K):=⟨_,_,JX T F39 (W.mg_of X G a39) k39 b39,W.mg_of X G a39,k39,b39⟩
 have HN:Def l.prog w K mg base 7 "is_cell" ["thing"] (GK K):=⟨_,_,Nc T F27 Bp BA Ar Gs Ew,W.mg_of X G a27,k27,b27⟩
 have Fv:Def l.prog w K mg base 8 "are_cells" ["thing"] (ET K):=⟨_,_,Lb T F26 HN,W.mg_of X G a26,k26,b26⟩
 have EC:Def l.prog w K mg base 9 "lets_by" ["account"] (Gr K PT PU):=⟨_,_,Ob T F25 FG D3 Ar HI Fv FC Eh Fp EN El EY Ew,W.mg_of X G a25,k25,b25⟩
 have CJ:Def l.prog w K mg base 9 "_law_same" ["_law_one","_law_other"] (EI K):=⟨_,_,K8 T F41 (W.mg_of X G a41) k41 b41,W.mg_of X G a41,k41,b41⟩
 have CM:Def l.prog w K mg base 21 "_law_copy" ["_law_thing_here"] (E6 K):=⟨_,_,LO T F40 (W.mg_of X G a40) k40 b40,W.mg_of X G a40,k40,b40⟩
 exact UT T F43 Gy C4 EC CJ CM Dy
theorem walk {l:W.OpenLaw} {q:Program} {loose:List Str} {XP:(Str->Option Value)->Heap->Prop} {YP:World->Heap->Prop} {d:DefRec} {K:Params->W.Frag} {PU:Addr} {PT:Addr} (hn:l.most=some 63) (hdf:d.params.defaults=[]) (ne:PU≠PT)
  (hY:∀(w:World) (h:Heap),YP w h->(K w.params).In h) (hT:∀(w:World) (h:Heap),YP w h->∀T∈[PU,PT],h.get? T=some (W.tabObj #[]))
  (F:∀(w:World) (mg:Str->Option Value) (fa:Addr) (h:Heap),(K w.params).In h->h.Ns mainGlobals mg->mg d.name=some (.ref fa)->
   ∃fd:FuncData,(∀(s:Shared) (u:Value),BindsTo s fd ⟨[u],[]⟩ [("_law_script",u)])/\(∀T∈[PU,PT],(K w.params).lookup T=none/\∃c,W.codeHdIn (K w.params) c T=true)/\∀base:Heap,(K w.params).In base->base.Ns mainGlobals mg->Nx mg base->FnOk l.prog w (K w.params) mg base CP 22 fa fd ["_law_script"] (Lx (K w.params) PT PU)) :
  W.WalkO q loose XP YP l.row.toRowW d [] (fun f vs=>PySem.call f vs):=
 L2.Rp (n:=63) (k:=22) (x:="_law_script") (CX:=fun _=>CP) (sp:=fun w=>Lx (K w.params) PT PU) hn (by decide) hdf ⟨rfl,by decide,by decide⟩ hY hT F (fun _ _ a ns hl hO hS=>⟨a,ns,rfl,hS,hl,.inl (hO.1 _ (by simp)),.inl (hO.1 _ (by simp)),ne,fun _=>rfl⟩) fun _ _ _ _ _ z=>z
end K67
def PySem.W.Fast.tw15641715125113993005:Type:=PySem.Expr
theorem PySem.W.Fast.te15641715125113993005:PySem.Expr = PySem.W.Fast.tw15641715125113993005:=rfl
def PySem.W.Fast.tw90343872475197607:Type:=PySem.Params
theorem PySem.W.Fast.te90343872475197607:PySem.Params = PySem.W.Fast.tw90343872475197607:=rfl
open PySem PySem.W PyProof.Rows
set_option maxRecDepth 100000 in
set_option maxHeartbeats 0 in
theorem PySem.Challenge.cw_stemshelf_k67_anything_looked_at_holds : PySem.Challenge.rw_stemshelf_k67_anything_looked_at.Holds := by
 w_on;o_law;k_head;(case hw=>w_witness2)
 k_fill
 refine K67.walk (l:=PySem.Challenge.rw_stemshelf_k67_anything_looked_at) rfl rfl (by decide) (fun w h Y=>W.km_in_of Y) (fun w h Y=>W.km_tabs_of Y) ?F
 case F=>
  intro w mg fa h KX G hmg
  refine' K67.all_mk KX G hmg ?a0 ?l0 ?c0 ?k0 ?a1 ?l1 ?c1 ?k1 ?a2 ?l2 ?c2 ?k2 ?a3 ?l3 ?c3 ?k3 ?a4 ?l4 ?c4 ?k4 ?a5 ?l5 ?c5 ?k5 ?a6 ?l6 ?c6 ?k6 ?a7 ?l7 ?c7 ?k7 ?a8 ?l8 ?c8 ?k8 ?a9 ?l9 ?c9 ?k9 ?a10 ?l10 ?c10 ?k10 ?a11 ?l11 ?c11 ?k11 ?a12 ?l12 ?c12 ?k12 ?a13 ?l13 ?c13 ?k13 ?a14 ?l14 ?c14 ?k14 ?a15 ?l15 ?c15 ?k15 ?a16 ?l16 ?c16 ?k16 ?a17 ?l17 ?c17 ?k17 ?a18 ?l18 ?c18 ?k18 ?a19 ?l19 ?c19 ?k19 ?a20 ?l20 ?c20 ?k20 ?a21 ?l21 ?c21 ?k21 ?a22 ?l22 ?c22 ?k22 ?a23 ?l23 ?c23 ?k23 ?S0 ?Ui ?a24 ?l24 ?c24 ?k24 ?a25 ?l25 ?c25 ?k25 ?a26 ?l26 ?c26 ?k26 ?a27 ?l27 ?c27 ?k27 ?a28 ?l28 ?c28 ?k28 ?a29 ?l29 ?c29 ?k29 ?a30 ?l30 ?c30 ?k30 ?a31 ?l31 ?c31 ?k31 ?S5 ?Ut ?a32 ?l32 ?c32 ?k32 ?a33 ?l33 ?c33 ?k33 ?a34 ?l34 ?c34 ?k34 ?a35 ?l35 ?c35 ?k35 ?a36 ?l36 ?c36 ?k36 ?a37 ?l37 ?c37 ?k37 ?a38 ?l38 ?c38 ?k38 ?a39 ?l39 ?c39 ?k39 ?a40 ?l40 ?c40 ?k40 ?a41 ?l41 ?c41 ?k41 ?a42 ?l42 ?c42 ?k42 ?a43 ?l43 ?c43 ?k43 ?QG ?Ny ?NJ ?Sa ?Ff ?QS ?NF ?Qs ?Se ?Lm ?Gq ?R3 ?Jq ?QM ?QT ?Lj ?Lh ?Ei ?Fe ?K6 ?QO ?Jh ?ES ?D1 ?EU ?C7 ?Fx ?Fk ?Fy ?Cy ?EK ?Fz ?DW ?Ni ?NM ?DY ?Fi ?Cr ?Dl
  (case a0|l0|c0|k0|a1|l1|c1|k1|a2|l2|c2|k2|a3|l3|c3|k3|a4|l4|c4|k4|a5|l5|c5|k5|a6|l6|c6|k6|a7|l7|c7|k7|a8|l8|c8|k8|a9|l9|c9|k9|a10|l10|c10|k10|a11|l11|c11|k11|a12|l12|c12|k12|a13|l13|c13|k13|a14|l14|c14|k14|a15|l15|c15|k15|a16|l16|c16|k16|a17|l17|c17|k17|a18|l18|c18|k18|a19|l19|c19|k19|a20|l20|c20|k20|a21|l21|c21|k21|a22|l22|c22|k22|a23|l23|c23|k23=>k_is)
  (case S0|Ui=>kernel_rfl)
  (case a24|l24|c24|k24|a25|l25|c25|k25|a26|l26|c26|k26|a27|l27|c27|k27|a28|l28|c28|k28|a29|l29|c29|k29|a30|l30|c30|k30|a31|l31|c31|k31=>k_is)
  (case S5|Ut=>kernel_rfl)
  (case a32|l32|c32|k32|a33|l33|c33|k33|a34|l34|c34|k34|a35|l35|c35|k35|a36|l36|c36|k36|a37|l37|c37|k37|a38|l38|c38|k38|a39|l39|c39|k39|a40|l40|c40|k40|a41|l41|c41|k41|a42|l42|c42|k42|a43|l43|c43|k43|QG|Ny|NJ|Sa|Ff|QS|NF|Qs|Se|Lm|Gq|R3|Jq|QM|QT|Lj|Lh|Ei|Fe|K6|QO|Jh|ES|D1|EU|C7|Fx|Fk|Fy|Cy|EK|Fz|DW|Ni|NM|DY|Fi|Cr|Dl=>k_is)
