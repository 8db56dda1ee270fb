import PyProof.Rows.All
import Wide.All
import OpenK.AllK
import Wide.FinOn
import Lean
import PyProof.EqAt
import PyProof.EqKinds
import PyProof.TupleCall
import PySem.Challenge.RW_stemshelf_k37_heads_by_form
set_option Elab.async false
set_option linter.all false
set_option maxRecDepth 100000
namespace L2
open PySem PySem.Spec PyProof.Rows
abbrev Key:=Sum Int Str
def keyIs:Key→Value→Bool
  | .inl k,v=>Value.isInt k v
  | .inr x,v=>Value.isStrOf x v
def keyH (w:World):Key→Int
  | .inl k=>hashInt k
  | .inr x=>hashStr w x
theorem keyIs_shape:∀ {k:Key} {v:Value},keyIs k v = true→(∃ i t,k = Sum.inl i∧v = Value.int i t)∨(∃ x t,k = Sum.inr x∧v = Value.str x t)
  | .inl i,v,h=>by
    obtain ⟨t,e⟩:=Value.isInt_shape (k:=i) (v:=v) h
    exact .inl ⟨i,t,rfl,e⟩
  | .inr x,v,h=>by
    obtain ⟨t,e⟩:=Value.isStrOf_shape (x:=x) (v:=v) h
    exact .inr ⟨x,t,rfl,e⟩
theorem keyIs_int (i:Int) (t:Tok):keyIs (.inl i) (.int i t) = true:=by simp [keyIs,Value.isInt]
theorem keyIs_str (x:Str) (t:Tok):keyIs (.inr x) (.str x t) = true:=by simp [keyIs,Value.isStrOf]
theorem key_ll (a b:Int):decide ((Sum.inl a:Key) = Sum.inl b) = (a == b):=by
  by_cases e:a = b
  · subst e; simp
  · have h:¬ (Sum.inl a:Key) = Sum.inl b:=fun q=>e (Sum.inl.inj q)
    rw [decide_eq_false h]
    exact (beq_eq_false_iff_ne.mpr e).symm
theorem key_rr (a b:Str):decide ((Sum.inr a:Key) = Sum.inr b) = decide (a = b):=by
  by_cases e:a = b
  · subst e; simp
  · have h:¬ (Sum.inr a:Key) = Sum.inr b:=fun q=>e (Sum.inr.inj q)
    rw [decide_eq_false h,decide_eq_false e]
theorem key_lr (a:Int) (b:Str):decide ((Sum.inl a:Key) = Sum.inr b) = false:=decide_eq_false (fun q=>nomatch q)
theorem key_rl (a:Str) (b:Int):decide ((Sum.inr a:Key) = Sum.inl b) = false:=decide_eq_false (fun q=>nomatch q)
def mixKind (prog:Program) (w:World):PySem.KeyKind prog w Key where
  is:=keyIs
  hash:=keyH w
  inj:=fun v a b ha hb=>by
    rcases keyIs_shape ha with ⟨i,t,rfl,rfl⟩ | ⟨x,t,rfl,rfl⟩
    · rcases keyIs_shape hb with ⟨j,u,rfl,e⟩ | ⟨y,u,rfl,e⟩
      · injection e with e1 _; rw [e1]
      · exact nomatch e
    · rcases keyIs_shape hb with ⟨j,u,rfl,e⟩ | ⟨y,u,rfl,e⟩
      · exact nomatch e
      · injection e with e1 _; rw [e1]
  byValue:=fun k v h=>by
    rcases keyIs_shape h with ⟨i,t,rfl,rfl⟩ | ⟨x,t,rfl,rfl⟩ <;> rfl
  pyHash:=fun hv h=>by
    rcases keyIs_shape hv with ⟨i,t,rfl,rfl⟩ | ⟨x,t,rfl,rfl⟩
    · exact wpAny_pyHash_int h
    · exact wpAny_pyHash_str h
  eqBool:=fun hu hv h=>by
    rcases keyIs_shape hu with ⟨i,t,rfl,rfl⟩ | ⟨x,t,rfl,rfl⟩
    · rcases keyIs_shape hv with ⟨j,u,rfl,rfl⟩ | ⟨y,u,rfl,rfl⟩
      · rw [key_ll] at h; exact wpAny_eqBool_int h
      · rw [key_lr] at h; exact SeqAt.EqAt.int_str i t y u _ _ _ _ h
    · rcases keyIs_shape hv with ⟨j,u,rfl,rfl⟩ | ⟨y,u,rfl,rfl⟩
      · rw [key_rl] at h; exact SeqAt.EqAt.str_int x t j u _ _ _ _ h
      · rw [key_rr] at h; exact wpAny_eqBool_str h
  «strs»:=fun k x t v h=>by
    rcases keyIs_shape h with ⟨i,u,rfl,e⟩ | ⟨y,u,rfl,e⟩
    · exact nomatch e
    · injection e with e1 _
      subst e1
      cases v <;> rfl
theorem mixKind_int (prog:Program) (w:World) (i:Int) (t:Tok):(mixKind prog w).is (.inl i) (.int i t) = true:=keyIs_int i t
theorem mixKind_str (prog:Program) (w:World) (x:Str) (t:Tok):(mixKind prog w).is (.inr x) (.str x t) = true:=keyIs_str x t
end L2
namespace L2
open PySem PySem.Spec PyProof.Rows
inductive V where
  | non | bl (b:Bool) | int (i:Int) | str (x:Str) | byt (b:Array UInt8) | flt (b:UInt64) | ref (a:Addr) | ty (n:String)
  deriving DecidableEq
def RelV:V→Value→Prop
  | .non,u=>u = Value.none
  | .bl b,u=>u = Value.bool b
  | .int i,u=>∃ t,u = Value.int i t
  | .str x,u=>∃ t,u = Value.str x t
  | .byt b,u=>∃ t,u = Value.bytes b t
  | .flt b,u=>∃ t,u = Value.float b t
  | .ref a,u=>u = Value.ref a
  | .ty n,u=>u = Value.type n
abbrev Vals:List V→List Value→Prop:=Paired RelV
theorem Vals.length {xs:List V} {us:List Value} (r:Vals xs us):xs.length = us.length:=Paired.length r
theorem Vals.get:∀ {xs:List V} {us:List Value} {i:Nat} {x:V},Vals xs us→xs[i]? = some x→∃ u,us[i]? = some u∧RelV x u
  | _,_,_,_,.nil,e=>by simp at e
  | _,_,0,_,.cons r _,e=>by simp at e; subst e; exact ⟨_,rfl,r⟩
  | _,_,i + 1,x,.cons _ t,e=>by
    obtain ⟨u,h1,h2⟩:=Vals.get (i:=i) (x:=x) t (by simpa using e)
    exact ⟨u,by simpa using h1,h2⟩
theorem Vals.set {x:V} {u:Value} (r:RelV x u):∀ {xs:List V} {us:List Value} (i:Nat),Vals xs us→Vals (xs.set i x) (us.set i u)
  | _,_,_,.nil=>.nil
  | _,_,0,.cons _ t=>.cons r t
  | _,_,i + 1,.cons q t=>.cons q (Vals.set r i t)
theorem Vals.append:∀ {xs ys:List V} {us ws:List Value},Vals xs us→Vals ys ws→Vals (xs ++ ys) (us ++ ws)
  | _,_,_,_,.nil,s=>s
  | _,_,_,_,.cons r t,s=>.cons r (Vals.append t s)
theorem Vals.take:∀ {xs:List V} {us:List Value} (n:Nat),Vals xs us→Vals (xs.take n) (us.take n)
  | _,_,0,_=>.nil
  | _,_,_ + 1,.nil=>.nil
  | _,_,n + 1,.cons r t=>.cons r (Vals.take n t)
theorem Vals.drop:∀ {xs:List V} {us:List Value} (n:Nat),Vals xs us→Vals (xs.drop n) (us.drop n)
  | _,_,0,r=>r
  | _,_,_ + 1,.nil=>.nil
  | _,_,n + 1,.cons _ t=>Vals.drop n t
def RelO:Option V→Option Value→Prop
  | some v,some u=>RelV v u
  | none,none=>True
  | _,_=>False
def KV {κ:Type}:List (κ×V)→List (κ×Value)→Prop:=Paired fun (p:κ×V) (q:κ×Value)=>p.1 = q.1∧RelV p.2 q.2
def kV:Key→V
  | .inl i=>.int i
  | .inr x=>.str x
inductive HO where
  | lst (xs:List V)
  | tup (xs:List V)
  | dK (kvs:List (Key×V)) | dT (kvs:List (List Key×V))
  | set (S:Int→Bool) (n:Nat)
  | ins (C dx:Addr) (fs:List (Str×V))
  | own (x:Addr)
  | xd (fs:List (Str×V))
  | met (f x:Addr)
  | rng (lo hi:Int)
  | frz (o:Obj) (u:HO)
  | tbl (ps:Array Value)
  | ext (φ:Heap→Prop)
abbrev Hp:=Addr→Option HO
def upd (H:Hp) (a:Addr) (o:HO):Hp:=fun b=>if b = a then some o else H b
theorem upd_same {H:Hp} {a:Addr} {o:HO}:upd H a o a = some o:=by unfold upd; rw [if_pos rfl]
theorem upd_ne {H:Hp} {a b:Addr} {o:HO} (h:b≠a):upd H a o b = H b:=by unfold upd; rw [if_neg h]
theorem ne_of {H:Hp} {a b:Addr} {o u:HO} (h:H a = some o) (h':H b = some u) (d:o≠u):a≠b:=by
  intro e; subst e; rw [h] at h'; exact d (Option.some.inj h')
theorem ne_of_none {H:Hp} {a b:Addr} {o:HO} (h:H a = some o) (h':H b = none):a≠b:=by
  intro e; subst e; rw [h] at h'; cases h'
def enuV:List V→Bool
  | [.int _,_]=>true
  | _=>false
def TupN (b:Bool) (h:Heap) (a:Addr) (items:Array Value):Prop:=∃ o,h.get? a = some o∧o.cls = .type "tuple"∧∃ n,o.data = .seq items n∧(b = false→o.dict = none)
theorem TupN.is {b:Bool} {h:Heap} {a:Addr} {items:Array Value} (x:TupN b h a items):IsTup h a items:=let ⟨o,e,c,n,d,_⟩:=x; ⟨o,e,c,n,d⟩
theorem TupN.lt {b:Bool} {h:Heap} {a:Addr} {items:Array Value} (x:TupN b h a items):a < h.objs.size:=x.is.lt
theorem TupN.new {b:Bool} (h:Heap) (items:Array Value):TupN b (h.push { cls:=.type "tuple",data:=.seq items }) h.objs.size items:=⟨_,Heap.get?_push_size _ rfl,rfl,_,rfl,fun _=>rfl⟩
section
variable (P:Program) (w:World)
def ObjOk (H:Hp) (h:Heap) (a:Addr):HO→Prop
  | .lst xs=>xs.length≤sizeLine∧∃ (its:List Value) (n:Nat),Vals xs its∧h.get? a = some { cls:=.type "list",data:=.seq its.toArray n }
  | .tup xs=>xs.length≤sizeLine∧∃ its:List Value,Vals xs its∧TupN (enuV xs) h a its.toArray
  | .dK kvs=>kvs.length≤sizeLine∧(a == sysModules) = false∧∃ vs,KV kvs vs∧h.DictOf (mixKind P w) a vs
  | .dT kvs=>kvs.length≤sizeLine∧(a == sysModules) = false∧∃ xs:List (List Key×Addr×Value),
      Paired (fun (p:List Key×V) (q:List Key×Addr×Value)=>p.1 = q.1∧H q.2.1 = some (.tup (p.1.map kV))∧RelV p.2 q.2.2) kvs xs∧
      ∃ o es ep,h.get? a = some o∧o.ExactDict∧o.data = .dict es ep∧es.toList = xs.map (entryOfKey (tupleKind (mixKind P w)))∧(xs.map (·.1)).Nodup
  | .set S n=>h.SetOf (intKind P w) a S n
  | .ins C dx fs=>H dx = some (.own a)∧fs.length≤1000∧dx≠a∧h.get? a = some (PySem.W.instObj C dx)∧
      ∃ mA,h.Ns1 dx mA∧(∀ f,RelO (fs.lookup f) (mA f))∧PySem.Within mA (fs.map (·.1))
  | .own _=>∃ o,h.get? a = some o
  | .xd fs=>∃ mA,h.Ns1 a mA∧∀ f,RelO (fs.lookup f) (mA f)
  | .rng lo hi=>∃ t u v,h.get? a = some { cls:=.type "range",data:=.fields #[.int lo t,.int hi u,.int 1 v] }
  | .frz o u=>h.get? a = some o∧ObjOk H h a u
  | .tbl ps=>h.get? a = some { cls:=.none,data:=.fields ps }
  | .met f x=>h.get? a = some (PySem.W.methodObj (.ref f) (.ref x))
  | .ext φ=>φ h∧(∃ o,h.get? a = some o)∧∀ h1 h2:Heap,φ h1→(∀ o,h1.get? a = some o→h2.get? a = some o)→φ h2
def HOk (H:Hp) (h:Heap):Prop:=∀ a o,H a = some o→ObjOk P w H h a o
end
section
variable {P:Program} {w:World} {H H':Hp} {h h':Heap} {a:Addr} {o:HO}
theorem ObjOk.lt (x:ObjOk P w H h a o):a < h.objs.size:=by
  cases o with
  | lst xs=>obtain ⟨_,_,_,_,e⟩:=x; exact Heap.lt_size e
  | tup xs=>obtain ⟨_,_,_,p⟩:=x; exact p.lt
  | dK kvs=>obtain ⟨_,_,_,_,o,_,_,e,_⟩:=x; exact Heap.lt_size e
  | dT kvs=>obtain ⟨_,_,_,_,o,_,_,e,_⟩:=x; exact Heap.lt_size e
  | set S n=>obtain ⟨o,_,_,_,e,_⟩:=x; exact Heap.lt_size e
  | ins C dx fs=>obtain ⟨_,_,_,e,_⟩:=x; exact Heap.lt_size e
  | own y=>obtain ⟨_,e⟩:=x; exact Heap.lt_size e
  | xd fs=>obtain ⟨_,⟨_,_,_,e,_⟩,_⟩:=x; exact Heap.lt_size e
  | rng lo hi=>obtain ⟨_,_,_,e⟩:=x; exact Heap.lt_size e
  | frz ob u=>obtain ⟨e,_⟩:=x; exact Heap.lt_size e
  | tbl ps=>exact Heap.lt_size (show h.get? a = some _ from x)
  | met f y=>exact Heap.lt_size (show h.get? a = some _ from x)
  | ext φ=>obtain ⟨_,⟨_,e⟩,_⟩:=x; exact Heap.lt_size e
theorem Paired.mapP {α β:Type} {F G:α→β→Prop}:∀ {l₁:List α} {l₂:List β},Paired F l₁ l₂→(∀ a b,F a b→G a b)→Paired G l₁ l₂
  | _,_,.nil,_=>.nil
  | _,_,.cons r t,f=>.cons (f _ _ r) (Paired.mapP t f)
theorem ObjOk.stay (x:ObjOk P w H h a o) (k:∀ b u,(b = a∨H b = some (.own a))→h.get? b = some u→h'.get? b = some u)
    (ho:∀ b,H b = some (.own a)→H' b = some (.own a)) (ht:∀ b xs,H b = some (.tup xs)→H' b = some (.tup xs)):ObjOk P w H' h' a o:=by
  induction o with
  | lst xs=>obtain ⟨z,its,n,r,e⟩:=x; exact ⟨z,its,n,r,k _ _ (.inl rfl) e⟩
  | tup xs=>obtain ⟨z,its,r,ob,e,c⟩:=x; exact ⟨z,its,r,ob,k _ _ (.inl rfl) e,c⟩
  | dK kvs=>obtain ⟨z,y,vs,r,ob,es,ep,e,c⟩:=x; exact ⟨z,y,vs,r,ob,es,ep,k _ _ (.inl rfl) e,c⟩
  | dT kvs=>
    obtain ⟨z,y,xs,r,ob,es,ep,e,c⟩:=x
    exact ⟨z,y,xs,Paired.mapP r fun p q z=>⟨z.1,ht _ _ z.2.1,z.2.2⟩,ob,es,ep,k _ _ (.inl rfl) e,c⟩
  | set S n=>obtain ⟨ob,es,ep,t,e,c⟩:=x; exact ⟨ob,es,ep,t,k _ _ (.inl rfl) e,c⟩
  | ins C dx fs=>
    obtain ⟨d,z,ne,e,mA,⟨od,es,ep,e2,c⟩,r⟩:=x
    exact ⟨ho _ d,z,ne,k _ _ (.inl rfl) e,mA,⟨od,es,ep,k _ _ (.inr d) e2,c⟩,r⟩
  | own y=>obtain ⟨ob,e⟩:=x; exact ⟨ob,k _ _ (.inl rfl) e⟩
  | xd fs=>obtain ⟨mA,⟨od,es,ep,e,c⟩,r⟩:=x; exact ⟨mA,⟨od,es,ep,k _ _ (.inl rfl) e,c⟩,r⟩
  | rng lo hi=>obtain ⟨t,u,v,e⟩:=x; exact ⟨t,u,v,k _ _ (.inl rfl) e⟩
  | frz ob u ih=>obtain ⟨e,q⟩:=x; exact ⟨k _ _ (.inl rfl) e,ih q⟩
  | tbl ps=>
    have e:h.get? a = some { cls:=.none,data:=.fields ps }:=x
    show h'.get? a = some { cls:=.none,data:=.fields ps }
    exact k a _ (.inl rfl) e
  | met f y=>
    have e:h.get? a = some (PySem.W.methodObj (.ref f) (.ref y)):=x
    show h'.get? a = some (PySem.W.methodObj (.ref f) (.ref y))
    exact k a _ (.inl rfl) e
  | ext φ=>obtain ⟨p,⟨o,e⟩,st⟩:=x; exact ⟨st _ _ p fun o q=>k _ _ (.inl rfl) q,⟨o,k _ _ (.inl rfl) e⟩,st⟩
theorem HOk.lt (x:HOk P w H h) (e:H a = some o):a < h.objs.size:=(x a o e).lt
theorem HOk.fresh (x:HOk P w H h) (e:h.objs.size≤a):H a = none:=by
  cases q:H a with
  | none=>rfl
  | some u=>exact absurd (Nat.lt_of_lt_of_le (x.lt q) e) (Nat.lt_irrefl _)
theorem HOk.kept (x:HOk P w H h) (k:∀ b u,h.get? b = some u→h'.get? b = some u):HOk P w H h':=fun a o e=>
  (x a o e).stay (fun b u _ q=>k b u q) (fun _ q=>q) fun _ _ q=>q
theorem HOk.laid (x:HOk P w H h) (k:∀ b u,h.get? b = some u→h'.get? b = some u) (hp:h.objs.size≤a) (new:ObjOk P w (upd H a o) h' a o):HOk P w (upd H a o) h':=fun b u e=>by
  have hn:=x.fresh hp
  by_cases hb:b = a
  · subst hb; rw [upd_same] at e; cases e; exact new
  · rw [upd_ne hb] at e
    exact (x b u e).stay (fun c v _ q=>k c v q) (fun c q=>by rw [upd_ne (ne_of_none q hn)]; exact q) fun c xs q=>by rw [upd_ne (ne_of_none q hn)]; exact q
end
def Rd (H:Hp) (a:Addr) (u:HO):Prop:=H a = some u∨∃ o,H a = some (.frz o u)
theorem Rd.of {H:Hp} {a:Addr} {u:HO} (h:H a = some u):Rd H a u:=.inl h
theorem Rd.ok {P:Program} {w:World} {H:Hp} {h:Heap} {a:Addr} {u:HO} (r:Rd H a u) (x:HOk P w H h):ObjOk P w H h a u:=by
  rcases r with r | ⟨o,r⟩
  · exact x a u r
  · obtain ⟨_,q⟩:=x a _ r
    exact q
def Mut:Option HO→Prop
  | some (.lst _)=>True
  | some (.dK _)=>True
  | some (.dT _)=>True
  | some (.set _ _)=>True
  | some (.ins _ _ _)=>True
  | some (.ext _)=>True
  | _=>False
section
variable {P:Program} {w:World} {H:Hp} {h h':Heap} {x e:Addr} {o':HO}
theorem HOk.write (ok:HOk P w H h) (mu:Mut (H x)) (he:e = x∨H e = some (.own x)) (k:∀ b u,b≠e→h.get? b = some u→h'.get? b = some u) (heo:∃ u,h'.get? e = some u)
    (new:ObjOk P w (upd H x o') h' x o'):HOk P w (upd H x o') h':=fun b u q=>by
  have nown:∀ c y,H c = some (.own y)→c≠x:=fun c y r z=>by subst z; rw [r] at mu; exact mu
  have ntup:∀ c xs,H c = some (.tup xs)→c≠x:=fun c xs r z=>by subst z; rw [r] at mu; exact mu
  by_cases hb:b = x
  · subst hb; rw [upd_same] at q; cases q; exact new
  · rw [upd_ne hb] at q
    by_cases hbe:b = e
    · have q':H b = some (.own x):=by
        rcases he with z | z
        · exact absurd (hbe.trans z) hb
        · rw [hbe]; exact z
      rw [q] at q'; cases q'
      obtain ⟨v,hv⟩:=heo
      exact ⟨v,by rw [hbe]; exact hv⟩
    · refine (ok b u q).stay (fun c v hc r=>k c v ?_ r) (fun c r=>by rw [upd_ne (nown c b r)]; exact r) fun c xs r=>by rw [upd_ne (ntup c xs r)]; exact r
      rcases hc with rfl | hc
      · exact hbe
      · rintro rfl
        rcases he with z | z
        · exact nown c b hc z
        · rw [hc] at z; cases z; exact hb rfl
end
structure Un (fs ex:List Addr) (H H':Hp) (h h':Heap):Prop where
  keep:∀ b o,h.get? b = some o→H b = none→b ∉ fs→b ∉ ex→h'.get? b = some o
  slot:∀ b o,h.get? b = some o→H b = none→b∈fs→b ∉ ex→∃ sl,h'.get? b = some { o with slots:=sl }
  free:∀ b o,h.get? b = some o→H b = none→b ∉ ex→H' b = none
  there:∀ b o,h.get? b = some o→b ∉ ex→∃ o',h'.get? b = some o'
  tups:∀ b xs,H b = some (.tup xs)→H' b = some (.tup xs)
  frzs:∀ b o u,H b = some (.frz o u)→H' b = some (.frz o u)
  tbls:∀ b ps,H b = some (.tbl ps)→∃ more,H' b = some (.tbl (ps ++ more))
section
variable {fs fs' ex ex':List Addr} {H H1 H2:Hp} {h h1 h2 h':Heap} {a x e:Addr} {o:HO}
theorem Un.any (u:Un fs ex H H1 h h1) {b:Addr} {ob:Obj} (q:h.get? b = some ob) (n:H b = none) (hx:b ∉ ex):∃ sl,h1.get? b = some { ob with slots:=sl }:=by
  by_cases hb:b∈fs
  · exact u.slot b ob q n hb hx
  · exact ⟨ob.slots,u.keep b ob q n hb hx⟩
theorem Un.trans (a:Un fs ex H H1 h h1) (b:Un fs ex H1 H2 h1 h2):Un fs ex H H2 h h2 where
  keep:=fun c ob q n hc hx=>b.keep c ob (a.keep c ob q n hc hx) (a.free c ob q n hx) hc hx
  slot:=fun c ob q n hc hx=>by
    obtain ⟨sl,e1⟩:=a.slot c ob q n hc hx
    obtain ⟨sl',e2⟩:=b.slot c _ e1 (a.free c ob q n hx) hc hx
    exact ⟨sl',e2⟩
  free:=fun c ob q n hx=>by
    obtain ⟨o',e1⟩:=a.there c ob q hx
    exact b.free c o' e1 (a.free c ob q n hx) hx
  there:=fun c ob q hx=>by
    obtain ⟨o',e1⟩:=a.there c ob q hx
    exact b.there c o' e1 hx
  tups:=fun c xs q=>b.tups c xs (a.tups c xs q)
  frzs:=fun c ob xs q=>b.frzs c ob xs (a.frzs c ob xs q)
  tbls:=fun c ps q=>by
    obtain ⟨m1,e1⟩:=a.tbls c ps q
    obtain ⟨m2,e2⟩:=b.tbls c _ e1
    exact ⟨m1 ++ m2,by rw [e2,Array.append_assoc]⟩
theorem Un.kept (k:∀ b u,h.get? b = some u→h'.get? b = some u):Un fs ex H H h h':=
  ⟨fun b ob q _ _ _=>k b ob q,fun b ob q _ _ _=>⟨ob.slots,k b ob q⟩,fun _ _ _ n _=>n,fun b ob q _=>⟨ob,k b ob q⟩,fun _ _ q=>q,fun _ _ _ q=>q,fun _ ps q=>⟨#[],by rw [q]; simp⟩⟩
theorem Un.refl:Un fs ex H H h h:=Un.kept fun _ _ q=>q
theorem Un.laid (k:∀ b u,h.get? b = some u→h'.get? b = some u) (hp:h.objs.size≤a) (hn:H a = none):Un fs ex H (upd H a o) h h' where
  keep:=fun b u q _ _ _=>k b u q
  slot:=fun b u q _ _ _=>⟨u.slots,k b u q⟩
  free:=fun b u q n _=>by rw [upd_ne (Nat.ne_of_lt (Nat.lt_of_lt_of_le (Heap.lt_size q) hp))]; exact n
  there:=fun b u q _=>⟨u,k b u q⟩
  tups:=fun b xs q=>by rw [upd_ne (ne_of_none q hn)]; exact q
  frzs:=fun b u xs q=>by rw [upd_ne (ne_of_none q hn)]; exact q
  tbls:=fun b ps q=>⟨#[],by rw [upd_ne (ne_of_none q hn),q]; simp⟩
theorem Un.write (mu:Mut (H x)) (he:e = x∨H e = some (.own x)) (k:∀ b u,b≠e→h.get? b = some u→h'.get? b = some u) (heo:∃ u,h'.get? e = some u):Un fs ex H (upd H x o) h h':=by
  have hx:∀ b,H b = none→b≠x:=fun b n z=>by subst z; rw [n] at mu; exact mu
  have hb:∀ b,H b = none→b≠e:=fun b n z=>by
    subst z
    rcases he with r | r
    · exact hx b n r
    · rw [n] at r; cases r
  have hm:∀ b u,H b = some u→¬ Mut (some u)→b≠x:=fun b u q nm z=>by subst z; rw [q] at mu; exact nm mu
  refine ⟨fun b u q n _ _=>k b u (hb b n) q,fun b u q n _ _=>⟨u.slots,k b u (hb b n) q⟩,fun b u q n _=>by rw [upd_ne (hx b n)]; exact n,fun b u q _=>?_,
    fun b xs q=>by rw [upd_ne (hm b _ q fun z=>z)]; exact q,fun b u xs q=>by rw [upd_ne (hm b _ q fun z=>z)]; exact q,fun b ps q=>⟨#[],by rw [upd_ne (hm b _ q fun z=>z),q]; simp⟩⟩
  by_cases hbe:b = e
  · subst hbe; exact heo
  · exact ⟨u,k b u hbe q⟩
theorem Un.mono (u:Un fs ex H H1 h h1) (hs:∀ b∈fs,b∈fs') (hx:∀ b∈ex,b∈ex'):Un fs' ex' H H1 h h1:=
  ⟨fun b ob q n hb he=>u.keep b ob q n (fun z=>hb (hs b z)) fun z=>he (hx b z),fun _ _ q n _ he=>u.any q n fun z=>he (hx _ z),fun b ob q n he=>u.free b ob q n fun z=>he (hx b z),fun b ob q he=>u.there b ob q fun z=>he (hx b z),u.tups,u.frzs,u.tbls⟩
end
def trk (h:Heap) (H:Hp):List Addr:=(List.range h.objs.size).filter fun a=>(H a).isSome
def hidT (h:Heap) (H:Hp):Heap:=PySem.W.hideAll h (trk h H)
theorem hidT_size (h:Heap) (H:Hp):(hidT h H).objs.size = h.objs.size:=PySem.W.hideAll_size _ _
theorem hidT_get {h:Heap} {H:Hp} {b:Addr} {o:Obj} (e:h.get? b = some o) (n:H b = none):(hidT h H).get? b = some o:=
  PySem.W.hideAll_get _ e fun hm=>by
    have q:(H b).isSome = true:=(List.mem_filter.mp hm).2
    rw [n] at q; simp at q
theorem of_hidT {h:Heap} {H:Hp} {b:Addr} {o:Obj} (e:(hidT h H).get? b = some o):h.get? b = some o∧H b = none:=by
  have e':h.get? b = some o:=PySem.W.of_hideAll (trk h H) e
  refine ⟨e',?_⟩
  cases q:H b with
  | none=>rfl
  | some x=>
    have hm:b∈trk h H:=List.mem_filter.mpr ⟨List.mem_range.mpr (Heap.lt_size e'),by simp [q]⟩
    have z:(hidT h H).get? b = none:=PySem.W.hideAll_none (trk h H) hm
    rw [z] at e; cases e
def allNews (g h:Heap) (L:Addr):List (Addr×Obj):=(List.range h.objs.size).filterMap fun a=>if a = L∨(g.get? a).isSome = true then none else (h.get? a).map fun o=>(a,o)
def rest (g h:Heap) (L d:Addr):List (Addr×Obj):=(allNews g h L).filter fun p=>decide (p.1≠d)
end L2
namespace L2
open PySem PySem.Spec PyProof.Rows
structure Mod (K:PySem.W.Frag) (mg:Str→Option Value) (base:Heap):Prop where
  kin:K.In base
  glob:base.Ns mainGlobals mg
  blt:∃ mb,base.Ns builtinsNs mb∧∀ x:Str,x≠"__name__"→mb x = bootBuiltins x
  nolimit:base.NoLimit
structure Cx where
  prog:Program
  w:World
  K:PySem.W.Frag
  mg:Str→Option Value
  base:Heap
  A:Around
  N:List Str
  s₀:Shared
  H₀:Hp
  env:Env
  outer:List Env
  stack:List Env
  ex:List Addr
  fn:Str→Bool
  calm:Bool
  pn:List (Addr×Obj)
  xe:Value→Shared→Prop
def frs (l:List Env):List Addr:=l.filterMap (·.frame)
abbrev Cx.fs (X:Cx):List Addr:=frs X.outer
def Vis (sc:Scope) (x:Str):Prop:=sc.names.lookup x = some .local∨sc.names.lookup x = some .cell∨sc.names.lookup x = some .free
def Loc (sc:Scope) (x:Str):Prop:=sc.names.lookup x = some .local∨sc.names.lookup x = some .cell
def Look (env:Env) (h:Heap) (m:Str→Option Value) (x:Str) (u:Value):Prop:=
  (env.kindOf x = some .local∧m x = some u)∨((env.kindOf x = some .cell∨env.kindOf x = some .free)∧∃ c,env.cells.lookup x = some c∧h.IsCell c (some u))
structure Cx.Ok (X:Cx):Prop where
  mod:Mod X.K X.mg X.base
  kind:X.env.scope.kind = .function
  glob:X.env.globals = mainGlobals
  blt:X.env.builtins = builtinsNs
  above:X.s₀.heap.objs.size≤X.env.locals
  inj:∀ x y c,X.env.cells.lookup x = some c→X.env.cells.lookup y = some c→x = y
  has:∀ x,(X.env.kindOf x = some .cell∨X.env.kindOf x = some .free)→∃ c,X.env.cells.lookup x = some c
  cab:∀ x c,X.fn x = true→X.env.cells.lookup x = some c→X.s₀.heap.objs.size≤c
  hd:X.calm = true→X.A.handled = none
  frames:X.A.frames = some X.stack
  stk:X.stack = X.outer∨(X.stack = X.env :: X.outer∧X.env.frame = some X.env.locals)
  exf:∀ b∈X.ex,b≠X.env.locals∧∀ x c,X.env.cells.lookup x = some c→c≠b
  bs:∀ b o,X.base.get? b = some o→X.s₀.heap.get? b = some o∧X.H₀ b = none
  bsz:X.base.objs.size≤X.s₀.heap.objs.size
  noex:∀ b o,X.base.get? b = some o→b ∉ X.ex
  exfs:∀ b∈X.ex,b ∉ X.fs
  funs:X.s₀.heap.FunFrames X.base X.outer
  frf:∀ b∈X.fs,X.H₀ b = none
structure Inv (X:Cx) (pins:List (Addr×Obj)) (σ:List (Option V)) (H:Hp) (s:Shared):Prop where
  ok:X.Ok
  os:s.os = X.s₀.os
  bare:AllBare s.gens
  base:Un X.fs X.ex X.H₀ H X.s₀.heap s.heap
  loc:∃ m,s.heap.Ns X.env.locals m∧∀ (i:Nat) (x:Str) (v:V),X.N[i]? = some x→σ[i]? = some (some v)→Vis X.env.scope x→∃ u,RelV v u∧Look X.env s.heap m x u
  cell:∀ x c,X.env.cells.lookup x = some c→∃ v,s.heap.IsCell c v
  free:H X.env.locals = none
  freeC:∀ x c,X.env.cells.lookup x = some c→H c = none
  pin:∀ p∈X.pn ++ pins,s.heap.get? p.1 = some p.2∧H p.1 = none∧p.1≠X.env.locals∧p.1 ∉ X.fs∧∀ v,p.2.data≠.cell v
  hok:HOk X.prog X.w H s.heap
  len:σ.length = X.N.length
section
variable {X:Cx} {pins:List (Addr×Obj)} {σ:List (Option V)} {H H':Hp} {s:Shared} {h':Heap}
theorem Cx.Ok.nofr (ok:X.Ok) {b:Addr} {o:Obj} (e:X.base.get? b = some o):b ∉ X.fs:=fun hb=>by
  have:=(ok.funs.mem hb).1
  rw [e] at this; cases this
theorem Inv.bs (I:Inv X pins σ H s):∀ b o,X.base.get? b = some o→s.heap.get? b = some o∧H b = none:=fun b o e=>
  ⟨I.base.keep b o (I.ok.bs b o e).1 (I.ok.bs b o e).2 (I.ok.nofr e) (I.ok.noex b o e),I.base.free b o (I.ok.bs b o e).1 (I.ok.bs b o e).2 (I.ok.noex b o e)⟩
theorem Inv.bk (I:Inv X pins σ H s):∀ b o,X.base.get? b = some o→s.heap.get? b = some o:=fun b o e=>(I.bs b o e).1
theorem Inv.mod (I:Inv X pins σ H s):Mod X.K X.mg X.base:=I.ok.mod
theorem Inv.kIn (I:Inv X pins σ H s):X.K.In s.heap:=I.ok.mod.kin.keeps I.bk
theorem Inv.nolimit (I:Inv X pins σ H s):s.heap.NoLimit:=I.ok.mod.nolimit.keeps I.bk
theorem Inv.fr (I:Inv X pins σ H s):∃ m,Fr X.base X.env.locals s.heap m:=
  let ⟨m,hn,_⟩:=I.loc
  ⟨m,hn,I.bk,Nat.le_trans I.ok.bsz I.ok.above⟩
theorem Inv.lt (I:Inv X pins σ H s):X.env.locals < s.heap.objs.size:=let ⟨_,hn,_⟩:=I.loc; hn.lt
theorem Inv.sz (I:Inv X pins σ H s):X.s₀.heap.objs.size≤s.heap.objs.size:=Nat.le_trans I.ok.above (Nat.le_of_lt I.lt)
theorem Inv.nofs (I:Inv X pins σ H s) {a:Addr} (h:s.heap.objs.size≤a):a ∉ X.fs:=fun hb=>by
  obtain ⟨_,o,ho,_⟩:=I.ok.funs.mem hb
  exact absurd (Nat.lt_of_lt_of_le (Heap.lt_size ho) (Nat.le_trans I.sz h)) (Nat.lt_irrefl _)
theorem Inv.cne (I:Inv X pins σ H s):∀ x c,X.env.cells.lookup x = some c→c≠X.env.locals:=fun x c e z=>by
  obtain ⟨v,o,ho,hd⟩:=I.cell x c e
  obtain ⟨m,⟨o',es,ep,ho',hd',_⟩,_⟩:=I.loc
  rw [z,ho'] at ho; cases ho; rw [hd'] at hd; cases hd
theorem Inv.funs (I:Inv X pins σ H s):s.heap.FunFrames X.base X.outer:=by
  have all:∀ (l:List Env),(∀ b∈frs l,b∈X.fs)→X.s₀.heap.FunFrames X.base l→s.heap.FunFrames X.base l:=by
    intro l
    induction l with
    | nil=>intro _ _; trivial
    | cons env r ih=>
      intro hs hl
      obtain ⟨hk,⟨L,o,hf,hn,ho,hd⟩,hr⟩:=hl
      have hL:L∈X.fs:=hs L (by unfold frs; rw [List.filterMap_cons,hf]; exact List.mem_cons_self)
      obtain ⟨sl,e⟩:=I.base.slot L o ho (I.ok.frf L hL) hL fun z=>I.ok.exfs L z hL
      exact ⟨hk,⟨L,_,hf,hn,e,hd⟩,ih (fun b hb=>hs b (by unfold frs; rw [List.filterMap_cons,hf]; exact List.mem_cons_of_mem _ hb)) hr⟩
  exact all X.outer (fun _ hb=>hb) I.ok.funs
theorem Inv.stack (I:Inv X pins σ H s):s.heap.FunFrames X.base X.stack:=by
  rcases I.ok.stk with e | ⟨e,hf⟩
  · rw [e]; exact I.funs
  · rw [e]
    obtain ⟨m,hn,_⟩:=I.loc
    refine .cons (by rw [I.ok.kind]; decide) hf hn ?_ I.funs
    exact Heap.get?_none_of_le (Nat.le_trans I.ok.bsz I.ok.above)
theorem Inv.stkSub (I:Inv X pins σ H s):∀ b∈frs X.stack,b∈X.env.locals :: X.fs:=fun b hb=>by
  rcases I.ok.stk with e | ⟨e,hf⟩
  · rw [e] at hb; exact List.mem_cons_of_mem _ hb
  · rw [e] at hb
    unfold frs at hb
    rw [List.filterMap_cons,hf] at hb
    exact hb
theorem Inv.stkFree (I:Inv X pins σ H s):∀ b∈frs X.stack,H b = none:=fun b hb=>by
  rcases List.mem_cons.mp (I.stkSub b hb) with e | hb
  · rw [e]; exact I.free
  · obtain ⟨_,o,ho,_⟩:=I.ok.funs.mem hb
    exact I.base.free b o ho (I.ok.frf b hb) fun z=>I.ok.exfs b z hb
theorem Inv.step {g':Array GenState} {t':Nat} {d':Drawn} {ch:List Addr} (I:Inv X pins σ H s)
    (hch:∀ b∈ch,(b∈X.ex∨X.s₀.heap.objs.size≤b)∧b≠X.env.locals∧(∀ x c,X.env.cells.lookup x = some c→c≠b)∧∀ p∈X.pn ++ pins,p.1≠b)
    (keep:∀ b o,b≠X.env.locals→b ∉ X.fs→b ∉ ch→s.heap.get? b = some o→H b = none→h'.get? b = some o)
    (slot:∀ b o,b≠X.env.locals→b∈X.fs→b ∉ ch→s.heap.get? b = some o→H b = none→∃ sl,h'.get? b = some { o with slots:=sl }) (free:∀ b o,b ∉ ch→s.heap.get? b = some o→H b = none→H' b = none)
    (there:∀ b o,b ∉ ch→s.heap.get? b = some o→∃ o',h'.get? b = some o')
    (tups:∀ b xs,H b = some (.tup xs)→H' b = some (.tup xs)) (frzs:∀ b o u,H b = some (.frz o u)→H' b = some (.frz o u)) (tbls:∀ b ps,H b = some (.tbl ps)→∃ more,H' b = some (.tbl (ps ++ more)))
    (ns:∀ m,s.heap.Ns X.env.locals m→h'.Ns X.env.locals m) (hok:HOk X.prog X.w H' h') (hg:AllBare g') :
    Inv X pins σ H' { s with heap:=h',gens:=g',drawn:=d',toks:=t' }:=by
  have neL:∀ b o,X.s₀.heap.get? b = some o→b≠X.env.locals:=fun b o e=>Nat.ne_of_lt (Nat.lt_of_lt_of_le (Heap.lt_size e) I.ok.above)
  have neC:∀ b o,X.s₀.heap.get? b = some o→b ∉ X.ex→b ∉ ch:=fun b o e hx hb=>by
    rcases (hch b hb).1 with z | z
    · exact hx z
    · exact absurd (Nat.lt_of_lt_of_le (Heap.lt_size e) z) (Nat.lt_irrefl _)
  have cellK:∀ x c,X.env.cells.lookup x = some c→∀ v,s.heap.IsCell c v→h'.IsCell c v:=fun x c e v ⟨o,ho,hd⟩=>by
    have nch:c ∉ ch:=fun z=>(hch c z).2.2.1 x c e rfl
    by_cases hc:c∈X.fs
    · obtain ⟨sl,q⟩:=slot c o (I.cne x c e) hc nch ho (I.freeC x c e)
      exact ⟨_,q,hd⟩
    · exact ⟨o,keep c o (I.cne x c e) hc nch ho (I.freeC x c e),hd⟩
  refine ⟨I.ok,I.os,hg,⟨fun b o e n hb hx=>?_,fun b o e n hb hx=>?_,fun b o e n hx=>?_,fun b o e hx=>?_,fun b xs e=>tups b xs (I.base.tups b xs e),fun b o xs e=>frzs b o xs (I.base.frzs b o xs e),fun b ps e=>?_⟩,?_,fun x c e=>?_,?_,fun x c e=>?_,fun p hp=>?_,hok,I.len⟩
  · exact keep b o (neL b o e) hb (neC b o e hx) (I.base.keep b o e n hb hx) (I.base.free b o e n hx)
  · obtain ⟨sl,e1⟩:=I.base.slot b o e n hb hx
    obtain ⟨sl',e2⟩:=slot b _ (neL b o e) hb (neC b o e hx) e1 (I.base.free b o e n hx)
    exact ⟨sl',e2⟩
  · obtain ⟨o',e1⟩:=I.base.there b o e hx
    exact free b o' (neC b o e hx) e1 (I.base.free b o e n hx)
  · obtain ⟨o',e1⟩:=I.base.there b o e hx
    exact there b o' (neC b o e hx) e1
  · obtain ⟨m1,e1⟩:=I.base.tbls b ps e
    obtain ⟨m2,e2⟩:=tbls b _ e1
    exact ⟨m1 ++ m2,by rw [e2,Array.append_assoc]⟩
  · obtain ⟨m,hn,hl⟩:=I.loc
    refine ⟨m,ns m hn,fun i x v e1 e2 e3=>?_⟩
    obtain ⟨u,r,l⟩:=hl i x v e1 e2 e3
    refine ⟨u,r,?_⟩
    rcases l with l | ⟨k,c,e,z⟩
    · exact .inl l
    · exact .inr ⟨k,c,e,cellK x c e _ z⟩
  · obtain ⟨v,z⟩:=I.cell x c e
    exact ⟨v,cellK x c e v z⟩
  · obtain ⟨m,⟨o,_,_,ho,_⟩,_⟩:=I.loc
    exact free _ o (fun z=>(hch _ z).2.1 rfl) ho I.free
  · obtain ⟨v,o,ho,hd⟩:=I.cell x c e
    exact free c o (fun z=>(hch c z).2.2.1 x c e rfl) ho (I.freeC x c e)
  · obtain ⟨e,n,ne,nf,d⟩:=I.pin p hp
    have nch:p.1 ∉ ch:=fun z=>(hch p.1 z).2.2.2 p hp rfl
    exact ⟨keep p.1 p.2 ne nf nch e n,free p.1 p.2 nch e n,ne,nf,d⟩
theorem Inv.un {t':Nat} (I:Inv X pins σ H s) (u:Un X.fs [] H H' s.heap h') (hok:HOk X.prog X.w H' h'):Inv X pins σ H' { s with heap:=h',toks:=t' }:=by
  obtain ⟨m,⟨o,es,ep,ho,r⟩,_⟩:=id I.loc
  obtain ⟨sl,hL⟩:=u.any ho I.free (by simp)
  exact I.step (g':=s.gens) (d':=s.drawn) (ch:=[]) (fun _ z=>nomatch z) (fun b o _ hb _ e n=>u.keep b o e n hb (by simp)) (fun b o _ hb _ e n=>u.slot b o e n hb (by simp)) (fun b o _ e n=>u.free b o e n (by simp)) (fun b o _ e=>u.there b o e (by simp)) u.tups u.frzs u.tbls (fun m' hm=>by
    obtain ⟨o',es',ep',ho',r'⟩:=hm
    rw [ho] at ho'; cases ho'
    exact ⟨_,es',ep',hL,r'⟩) hok I.bare
theorem Inv.call {g':Array GenState} {t':Nat} {d':Drawn} {ch:List Addr} (I:Inv X pins σ H s) (u:Un (frs X.stack) ch H H' s.heap h') (hok:HOk X.prog X.w H' h') (hg:AllBare g')
    (hch:∀ b∈ch,(b∈X.ex∨X.s₀.heap.objs.size≤b)∧b≠X.env.locals∧(∀ x c,X.env.cells.lookup x = some c→c≠b)∧∀ p∈X.pn ++ pins,p.1≠b) :
    Inv X pins σ H' { s with heap:=h',gens:=g',drawn:=d',toks:=t' }:=by
  obtain ⟨m,⟨o,es,ep,ho,r⟩,_⟩:=id I.loc
  obtain ⟨sl,hL⟩:=u.any ho I.free fun z=>(hch _ z).2.1 rfl
  exact I.step (ch:=ch) hch (fun b o hL hb hc e n=>u.keep b o e n (fun z=>(List.mem_cons.mp (I.stkSub b z)).elim hL hb) hc) (fun b o _ _ hc e n=>u.any e n hc) (fun b o hc e n=>u.free b o e n hc) (fun b o hc e=>u.there b o e hc) u.tups u.frzs u.tbls (fun m' hm=>by
    obtain ⟨o',es',ep',ho',r'⟩:=hm
    rw [ho] at ho'; cases ho'
    exact ⟨_,es',ep',hL,r'⟩) hok hg
theorem Inv.turned {t':Nat} {it:Addr} (I:Inv X pins σ H s) (k:∀ b o,b≠it→s.heap.get? b = some o→h'.get? b = some o) (hn:H it = none) (hL:it≠X.env.locals)
    (h1:it∈X.ex∨X.s₀.heap.objs.size≤it) (h2:∀ x c,X.env.cells.lookup x = some c→c≠it) (h3:∀ p∈X.pn ++ pins,p.1≠it):Inv X pins σ H { s with heap:=h',toks:=t' }:=by
  have nit:∀ b u,H b = some u→b≠it:=fun b u e z=>by rw [z,hn] at e; cases e
  refine I.step (g':=s.gens) (d':=s.drawn) (ch:=[it]) (fun b hb=>?_) (fun b o _ _ hc e _=>k b o (fun z=>hc (by simp [z])) e) (fun b o _ _ hc e _=>⟨o.slots,k b o (fun z=>hc (by simp [z])) e⟩) (fun _ _ _ _ n=>n)
    (fun b o hc e=>⟨o,k b o (fun z=>hc (by simp [z])) e⟩) (fun _ _ e=>e) (fun _ _ _ e=>e) (fun b ps e=>⟨#[],by rw [e]; simp⟩) (fun m hm=>?_) (fun b u e=>?_) I.bare
  · have e:b = it:=by simpa using hb
    subst e
    exact ⟨h1,hL,h2,h3⟩
  · obtain ⟨o,es,ep,ho,r⟩:=hm
    exact ⟨o,es,ep,k _ o (Ne.symm hL) ho,r⟩
  · refine (I.hok b u e).stay (fun c v hc q=>k c v ?_ q) (fun _ q=>q) fun _ _ q=>q
    rcases hc with z | z
    · rw [z]; exact nit b u e
    · exact nit c _ z
theorem Inv.tok (I:Inv X pins σ H s) (t:Nat):Inv X pins σ H { s with toks:=t }:=I.un (h':=s.heap) (t':=t) Un.refl I.hok
theorem Inv.kept {t':Nat} (I:Inv X pins σ H s) (k:∀ b u,s.heap.get? b = some u→h'.get? b = some u):Inv X pins σ H { s with heap:=h',toks:=t' }:=I.un (Un.kept k) (I.hok.kept k)
theorem Inv.laid {a:Addr} {o:HO} {t':Nat} (I:Inv X pins σ H s) (k:∀ b u,s.heap.get? b = some u→h'.get? b = some u) (hp:s.heap.objs.size≤a) (new:ObjOk X.prog X.w (upd H a o) h' a o) :
    Inv X pins σ (upd H a o) { s with heap:=h',toks:=t' }:=I.un (Un.laid k hp (I.hok.fresh hp)) (I.hok.laid k hp new)
theorem Inv.write {x e:Addr} {o:HO} {t':Nat} (I:Inv X pins σ H s) (mu:Mut (H x)) (he:e = x∨H e = some (.own x)) (k:∀ b u,b≠e→s.heap.get? b = some u→h'.get? b = some u) (heo:∃ u,h'.get? e = some u)
    (new:ObjOk X.prog X.w (upd H x o) h' x o):Inv X pins σ (upd H x o) { s with heap:=h',toks:=t' }:=I.un (Un.write mu he k heo) (I.hok.write mu he k heo new)
theorem Inv.pins_of {pins':List (Addr×Obj)} (I:Inv X pins σ H s) (h:∀ p∈pins',s.heap.get? p.1 = some p.2∧H p.1 = none∧p.1≠X.env.locals∧p.1 ∉ X.fs∧∀ v,p.2.data≠.cell v):Inv X pins' σ H s:=
  ⟨I.ok,I.os,I.bare,I.base,I.loc,I.cell,I.free,I.freeC,fun p hp=>(List.mem_append.mp hp).elim (fun z=>I.pin p (List.mem_append_left _ z)) (h p),I.hok,I.len⟩
theorem nodup_ix {N:List Str} (hN:N.Nodup) {i j:Nat} {x:Str} (a:N[i]? = some x) (b:N[j]? = some x):i = j:=by
  obtain ⟨h1,e1⟩:=List.getElem?_eq_some_iff.mp a
  obtain ⟨h2,e2⟩:=List.getElem?_eq_some_iff.mp b
  exact (List.getElem_inj hN).mp (e1.trans e2.symm)
theorem store_ok2 {M:Model} {A:Around} {E:Value→Shared→Prop} {i:Nat} {x:Str} {v:V} {u:Value} {Q:Unit→Shared→Prop} (I:Inv X pins σ H s) (hN:X.N.Nodup) (hi:X.N[i]? = some x) (hx:Loc X.env.scope x) (r:RelV v u)
    (h:∀ s',Inv X pins (σ.set i (some v)) H s'→(∃ a,Heap.SameBut a s.heap s'.heap∧(a = X.env.locals∨X.env.cells.lookup x = some a))→Q () s') (hf:X.fn x = true∨X.env.scope.names.lookup x = some .local:=by first | exact .inl rfl | exact .inr rfl | assumption):wpAny M A (storeName X.env x u) Q E s:=by
  obtain ⟨m,hn,hl⟩:=id I.loc
  have hcls:(X.env.scope.kind == .class || (X.env.scope.kind == .module && X.env.locals != X.env.globals)) = false:=by rw [I.ok.kind]; rfl
  have hiσ:i < σ.length:=by rw [I.len]; exact (List.getElem?_eq_some_iff.mp hi).1
  have cne:=I.cne
  have tracked:∀ {a:Addr} {h':Heap},(∃ o,s.heap.get? a = some o∧H a = none)→Heap.SameBut a s.heap h'→HOk X.prog X.w H h':=fun {a h'} ha hs b ob e=>by
    obtain ⟨_,_,hfree⟩:=ha
    refine (I.hok b ob e).stay (fun c w' hc q=>(hs.2 c ?_).trans q) (fun _ q=>q) fun _ _ q=>q
    rintro rfl
    rcases hc with rfl | hc
    · rw [hfree] at e; cases e
    · rw [hfree] at hc; cases hc
  rcases hx with hk | hk
  · refine wpAny_storeName_local hk hn (fun h' hn' hs=>?_) hcls
    obtain ⟨oL,_,_,hoL,_⟩:=id hn
    refine h _ ⟨I.ok,I.os,I.bare,⟨fun b o e n hb hx=>?_,fun b o e n hb hx=>?_,I.base.free,fun b o e hx=>?_,I.base.tups,I.base.frzs,I.base.tbls⟩,⟨_,hn',fun j y v' e1 e2 e3=>?_⟩,fun y c e=>?_,I.free,I.freeC,fun p hp=>?_,tracked ⟨oL,hoL,I.free⟩ hs,by simpa using I.len⟩ ⟨_,hs,.inl rfl⟩
    · exact (hs.2 b (Nat.ne_of_lt (Nat.lt_of_lt_of_le (Heap.lt_size e) I.ok.above))).trans (I.base.keep b o e n hb hx)
    · obtain ⟨sl,e1⟩:=I.base.slot b o e n hb hx
      exact ⟨sl,(hs.2 b (Nat.ne_of_lt (Nat.lt_of_lt_of_le (Heap.lt_size e) I.ok.above))).trans e1⟩
    · obtain ⟨o',e1⟩:=I.base.there b o e hx
      exact ⟨o',(hs.2 b (Nat.ne_of_lt (Nat.lt_of_lt_of_le (Heap.lt_size e) I.ok.above))).trans e1⟩
    · by_cases hj:j = i
      · subst hj
        rw [hi] at e1; cases e1
        rw [List.getElem?_set_self hiσ] at e2
        cases e2
        exact ⟨u,r,.inl ⟨hk,by simp⟩⟩
      · rw [List.getElem?_set_ne (Ne.symm hj)] at e2
        obtain ⟨u',r',q⟩:=hl j y v' e1 e2 e3
        refine ⟨u',r',?_⟩
        rcases q with ⟨k,e⟩ | ⟨k,c,e,z⟩
        · refine .inl ⟨k,?_⟩
          have:y≠x:=fun e=>hj (nodup_ix hN e1 (e ▸ hi))
          simp [this,e]
        · exact .inr ⟨k,c,e,z.sameBut hs (cne y c e)⟩
    · obtain ⟨w',z⟩:=I.cell y c e
      exact ⟨w',z.sameBut hs (cne y c e)⟩
    · obtain ⟨e,n,ne,nf,d⟩:=I.pin p hp
      exact ⟨(hs.2 p.1 ne).trans e,n,ne,nf,d⟩
  · have hfn:X.fn x = true:=by
      rcases hf with z | z
      · exact z
      · rw [z] at hk; cases hk
    obtain ⟨c,hc⟩:=I.ok.has x (.inl hk)
    obtain ⟨w',z⟩:=I.cell x c hc
    refine wpAny_storeName_cell I.ok.kind hk hc z (fun h' hc' hs=>?_)
    obtain ⟨oc,hoc,hocd⟩:=id z
    refine h { s with heap:=h' } ⟨I.ok,I.os,I.bare,⟨fun b o e n hb hx=>?_,fun b o e n hb hx=>?_,I.base.free,fun b o e hx=>?_,I.base.tups,I.base.frzs,I.base.tbls⟩,⟨m,hn.sameBut hs (Ne.symm (cne x c hc)),fun j y v' e1 e2 e3=>?_⟩,fun y c' e=>?_,I.free,I.freeC,fun p hp=>?_,tracked ⟨oc,hoc,I.freeC x c hc⟩ hs,by simpa using I.len⟩ ⟨c,hs,.inr hc⟩
    · exact (hs.2 b (Nat.ne_of_lt (Nat.lt_of_lt_of_le (Heap.lt_size e) (I.ok.cab x c hfn hc)))).trans (I.base.keep b o e n hb hx)
    · obtain ⟨sl,e1⟩:=I.base.slot b o e n hb hx
      exact ⟨sl,(hs.2 b (Nat.ne_of_lt (Nat.lt_of_lt_of_le (Heap.lt_size e) (I.ok.cab x c hfn hc)))).trans e1⟩
    · obtain ⟨o',e1⟩:=I.base.there b o e hx
      exact ⟨o',(hs.2 b (Nat.ne_of_lt (Nat.lt_of_lt_of_le (Heap.lt_size e) (I.ok.cab x c hfn hc)))).trans e1⟩
    · by_cases hj:j = i
      · subst hj
        rw [hi] at e1; cases e1
        rw [List.getElem?_set_self hiσ] at e2
        cases e2
        exact ⟨u,r,.inr ⟨.inl hk,c,hc,hc'⟩⟩
      · rw [List.getElem?_set_ne (Ne.symm hj)] at e2
        obtain ⟨u',r',q⟩:=hl j y v' e1 e2 e3
        refine ⟨u',r',?_⟩
        rcases q with q | ⟨k,c',e,z'⟩
        · exact .inl q
        · refine .inr ⟨k,c',e,z'.sameBut hs ?_⟩
          rintro rfl
          exact hj (nodup_ix hN e1 (I.ok.inj _ _ _ e hc ▸ hi))
    · by_cases hcc:c' = c
      · subst hcc; exact ⟨_,hc'⟩
      · obtain ⟨w2,z2⟩:=I.cell y c' e
        exact ⟨w2,z2.sameBut hs hcc⟩
    · obtain ⟨e,n,ne,nf,d⟩:=I.pin p hp
      refine ⟨(hs.2 p.1 ?_).trans e,n,ne,nf,d⟩
      intro q
      rw [q,hoc] at e
      have q':oc = p.2:=Option.some.inj e
      exact d w' (by rw [← q']; exact hocd)
theorem store_ok {M:Model} {A:Around} {E:Value→Shared→Prop} {i:Nat} {x:Str} {v:V} {u:Value} {Q:Unit→Shared→Prop} (I:Inv X pins σ H s) (hN:X.N.Nodup) (hi:X.N[i]? = some x) (hx:Loc X.env.scope x) (r:RelV v u)
    (h:∀ s',Inv X pins (σ.set i (some v)) H s'→Q () s') (hf:X.fn x = true∨X.env.scope.names.lookup x = some .local:=by first | exact .inl rfl | exact .inr rfl | assumption):wpAny M A (storeName X.env x u) Q E s:=
  store_ok2 I hN hi hx r (fun s' I' _=>h s' I') hf
theorem Inv.call' {s':Shared} {ch:List Addr} (I:Inv X pins σ H s) (ho:s'.os = s.os) (u:Un (frs X.stack) ch H H' s.heap s'.heap) (hok:HOk X.prog X.w H' s'.heap) (hg:AllBare s'.gens)
    (hch:∀ b∈ch,(b∈X.ex∨X.s₀.heap.objs.size≤b)∧b≠X.env.locals∧(∀ x c,X.env.cells.lookup x = some c→c≠b)∧∀ p∈X.pn ++ pins,p.1≠b):Inv X pins σ H' s':=by
  obtain ⟨h',g',d',t',o'⟩:=s'
  have e:o' = s.os:=ho
  subst e
  exact I.call (g':=g') (t':=t') (d':=d') u hok hg hch
end
abbrev XK:=Value→Option Addr→Hp→Prop
abbrev St:=List (Option V)
abbrev VK:=V→Hp→Prop
abbrev TE:=St→Hp→VK→Prop
abbrev TT:=St→Hp→(Bool→Hp→Prop)→Prop
abbrev TA:=St→Hp→(List V→Hp→Prop)→Prop
structure Ends where
  nx:St→Hp→Prop
  rt:VK
  bk:St→Hp→Prop:=fun _ _=>False
  ct:St→Hp→Prop:=fun _ _=>False
abbrev TS:=Ends→St→Hp→Prop
def EP (X:Cx) (pins:List (Addr×Obj)) (σ:St) (Q:VK) (u:Value) (s':Shared):Prop:=∃ v H',Inv X pins σ H' s'∧RelV v u∧Q v H'
def TP (X:Cx) (pins:List (Addr×Obj)) (σ:St) (Q:Bool→Hp→Prop) (b:Bool) (s':Shared):Prop:=∃ H',Inv X pins σ H' s'∧Q b H'
def AP (X:Cx) (pins:List (Addr×Obj)) (σ:St) (Q:List V→Hp→Prop) (us:List Value) (s':Shared):Prop:=∃ vs H',Inv X pins σ H' s'∧Vals vs us∧Q vs H'
def SP (X:Cx) (pins:List (Addr×Obj)) (D:Ends) (f:Flow) (s':Shared):Prop:=
  match f with
  | .next=>∃ σ' H',Inv X pins σ' H' s'∧D.nx σ' H'
  | .brk=>∃ σ' H',Inv X pins σ' H' s'∧D.bk σ' H'
  | .cont=>∃ σ' H',Inv X pins σ' H' s'∧D.ct σ' H'
  | .ret u=>∃ v σ' H',Inv X pins σ' H' s'∧RelV v u∧D.rt v H'
def PE (X:Cx) (e:Expr) (t:TE):Prop:=
  ∀ (pins:List (Addr×Obj)) (s:Shared) (σ:St) (H:Hp) (Q:VK),Inv X pins σ H s→t σ H Q→wpAny (model X.prog X.w) X.A (eval e X.env) (EP X pins σ Q) X.xe s
def PT (X:Cx) (e:Expr) (t:TT):Prop:=
  ∀ (pins:List (Addr×Obj)) (s:Shared) (σ:St) (H:Hp) (Q:Bool→Hp→Prop),Inv X pins σ H s→t σ H Q→wpAny (model X.prog X.w) X.A (isTrue e X.env (eval e X.env)) (TP X pins σ Q) X.xe s
def PW (X:Cx) (e:Expr) (t:TT):Prop:=
  ∀ (whole:Sem Value) (pins:List (Addr×Obj)) (s:Shared) (σ:St) (H:Hp) (Q:Bool→Hp→Prop),Inv X pins σ H s→t σ H Q→wpAny (model X.prog X.w) X.A (isTrue e X.env whole) (TP X pins σ Q) X.xe s
theorem PW.pt {X:Cx} {e:Expr} {t:TT} (h:PW X e t):PT X e t:=h _
def PA (X:Cx) (es:List Expr) (t:TA):Prop:=
  ∀ (pos:Pos) (pins:List (Addr×Obj)) (s:Shared) (σ:St) (H:Hp) (Q:List V→Hp→Prop),Inv X pins σ H s→t σ H Q→wpAny (model X.prog X.w) X.A (spliced (backTo pos (starEach es X.env))) (AP X pins σ Q) X.xe s
def PS (X:Cx) (st:Stmt) (t:TS):Prop:=
  ∀ (pins:List (Addr×Obj)) (s:Shared) (σ:St) (H:Hp) (D:Ends),Inv X pins σ H s→t D σ H→wpAny (model X.prog X.w) X.A (exec st X.env) (SP X pins D) X.xe s
def PSs (X:Cx) (st:List Stmt) (t:TS):Prop:=
  ∀ (pins:List (Addr×Obj)) (s:Shared) (σ:St) (H:Hp) (D:Ends),Inv X pins σ H s→t D σ H→wpAny (model X.prog X.w) X.A (execs st X.env) (SP X pins D) X.xe s
theorem thn {α:Type} {t:Sem α} {Q Q':α→Shared→Prop} {M:Model} {A:Around} {E:Value→Shared→Prop} {s:Shared} (h:wpAny M A t Q E s) (hQ:∀ a s,Q a s→Q' a s):wpAny M A t Q' E s:=wpAny_mono h hQ fun _ _ x=>x
end L2
namespace L2
open PySem PySem.Spec PyProof.Rows
section
variable {X:Cx}
def tVar (i:Nat):TE:=fun σ H Q=>∃ v,σ[i]? = some (some v)∧Q v H
def tC (v:V):TE:=fun _ H Q=>Q v H
theorem pe_var {i:Nat} {x:Str} {pos:Pos} (hN:X.N[i]? = some x) (hv:Vis X.env.scope x) (hd:(x == ("__debug__":Str)) = false:=by decide) (hcd:(x == ("__classdict__":Str)) = false:=by decide):PE X (.Name x pos) (tVar i):=by
  intro pins s σ H Q I h
  obtain ⟨v,e,h⟩:=h
  obtain ⟨m,hn,hl⟩:=I.loc
  obtain ⟨u,r,l⟩:=hl i x v hN e hv
  have fin:EP X pins σ Q u s:=⟨v,H,I,r,h⟩
  rcases l with ⟨hk,hm⟩ | ⟨hk,c,hc,hcell⟩
  · exact wpAny_Name (wpAny_loadName_local I.ok.kind hk hn hm fin) hd
  · rcases hk with hk | hk
    · exact wpAny_Name (wpAny_loadName_cell I.ok.kind hk hc hcell fin) hd
    · exact wpAny_Name (wpAny_loadName_free I.ok.kind hk hc hcell fin hcd) hd
theorem pe_int {i j pos}:PE X (.Constant (.int i) j pos) (tC (.int i)):=fun _ _ _ H _ I h=>wpAny_Constant_int ⟨.int i,H,I.tok _,⟨_,rfl⟩,h⟩
theorem pe_bl {b j pos}:PE X (.Constant (.bool b) j pos) (tC (.bl b)):=fun _ _ _ H _ I h=>Constant_bool ⟨.bl b,H,I,rfl,h⟩
theorem pe_non {j pos}:PE X (.Constant .none j pos) (tC .non):=fun _ _ _ H _ I h=>Constant_none ⟨.non,H,I,rfl,h⟩
theorem pe_str {x j pos}:PE X (.Constant (.str x) j pos) (tC (.str x)):=fun _ _ _ H _ I h=>Calls.Constant_str ⟨.str x,H,I.tok _,⟨_,rfl⟩,h⟩
def Gl (X:Cx) (x:Str):Prop:=X.env.kindOf x = some .globalImplicit
theorem ld_glob {E:Value→Shared→Prop} {pins:List (Addr×Obj)} {s:Shared} {σ:St} {H:Hp} {x:Str} {u:Value} {pos:Pos} {Q:Value→Shared→Prop} (I:Inv X pins σ H s) (hg:Gl X x) (hm:X.mg x = some u) (h:Q u s)
    (hd:(x == ("__debug__":Str)) = false:=by decide):wpAny (model X.prog X.w) X.A (eval (.Name x pos) X.env) Q E s:=
  Calls.Name_function_global I.ok.kind hg (Calls.loadGlobal_global (by rw [I.ok.glob]; exact I.mod.glob.keeps I.bk) hm h) hd
theorem ld_blt {E:Value→Shared→Prop} {pins:List (Addr×Obj)} {s:Shared} {σ:St} {H:Hp} {x:Str} {u:Value} {pos:Pos} {Q:Value→Shared→Prop} (I:Inv X pins σ H s) (hg:Gl X x) (hm:X.mg x = none) (hv:bootBuiltins x = some u) (h:Q u s)
    (hn:x≠"__name__":=by decide) (hd:(x == ("__debug__":Str)) = false:=by decide):wpAny (model X.prog X.w) X.A (eval (.Name x pos) X.env) Q E s:=by
  obtain ⟨mb,h1,h2⟩:=I.mod.blt
  exact Calls.Name_function_global I.ok.kind hg (Calls.loadGlobal_builtin (by rw [I.ok.glob]; exact I.mod.glob.keeps I.bk) hm (by rw [I.ok.blt]; exact h1.keeps I.bk) ((h2 x hn).trans hv) h) hd
theorem pe_glob {x:Str} {v:V} {u:Value} {pos:Pos} (hg:Gl X x) (hm:X.mg x = some u) (r:RelV v u) (hd:(x == ("__debug__":Str)) = false:=by decide):PE X (.Name x pos) (tC v):=
  fun _ _ _ H _ I h=>ld_glob I hg hm ⟨v,H,I,r,h⟩ hd
theorem pe_bltn {x:Str} {v:V} {u:Value} {pos:Pos} (hg:Gl X x) (hm:X.mg x = none) (hv:bootBuiltins x = some u) (r:RelV v u) (hn:x≠"__name__":=by decide) (hd:(x == ("__debug__":Str)) = false:=by decide):PE X (.Name x pos) (tC v):=
  fun _ _ _ H _ I h=>ld_blt I hg hm hv ⟨v,H,I,r,h⟩ hn hd
variable {a b:Expr} {ta tb:TE} {pos:Pos}
def PC (X:Cx) (op:CmpOp) (a b:Expr) (t:TE):Prop:=
  ∀ (pins:List (Addr×Obj)) (s:Shared) (σ:St) (H:Hp) (Q:VK),Inv X pins σ H s→t σ H Q→
    wpAny (model X.prog X.w) X.A (eval a X.env) (fun v s₁=>wpAny (model X.prog X.w) X.A (eval b X.env) (fun u s₂=>wpAny (model X.prog X.w) X.A (compareOp op v u) (EP X pins σ Q) X.xe s₂) X.xe s₁) X.xe s
theorem nobehind (b:Expr) {op:CmpOp} (h:op≠.In) (h2:op≠.NotIn):behindInMarks op b = false:=by
  have e1:(op == CmpOp.In) = false:=by cases op <;> first | rfl | exact absurd rfl h
  have e2:(op == CmpOp.NotIn) = false:=by cases op <;> first | rfl | exact absurd rfl h2
  cases b <;> simp [behindInMarks,e1,e2]
def tNotN (ta:TE):TE:=fun σ H Q=>ta σ H fun x H1=>Q (.bl (!decide (x = .non))) H1
theorem RelV.none_iff {x:V} {v:Value} (r:RelV x v):(v == Value.none) = decide (x = .non):=by
  cases x with
  | non=>cases r; rfl
  | bl _=>cases r; rfl
  | int _=>obtain ⟨t,rfl⟩:=r; rfl
  | str _=>obtain ⟨t,rfl⟩:=r; rfl
  | byt _=>obtain ⟨t,rfl⟩:=r; rfl
  | flt _=>obtain ⟨t,rfl⟩:=r; rfl
  | ref _=>cases r; rfl
  | ty _=>cases r; rfl
theorem pc_notN {j pos'} (ha:PE X a ta):PC X .IsNot a (.Constant .none j pos') (tNotN ta):=by
  intro pins s σ H Q I h
  refine thn (ha pins s σ H _ I h) fun v s1 ⟨x,H1,I1,r1,q1⟩=>?_
  exact Constant_none (isnot_none_gen ⟨.bl _,H1,I1,by rw [r1.none_iff]; rfl,q1⟩)
def tB (t:TE):TT:=fun σ H Q=>t σ H fun x H1=>∃ c,x = .bl c∧Q c H1
theorem pe_cmp {op:CmpOp} {t:TE} (h:PC X op a b t) (h1:behindInMarks op b = false:=by first | exact nobehind _ (by decide) (by decide) | rfl):PE X (.Compare a [op] [b] pos) t:=fun pins s σ H Q I hw=>wpAny_Compare1 (h pins s σ H Q I hw) h1
theorem pt_cmp {op:CmpOp} {t:TE} (h:PC X op a b t) (h1:behindInMarks op b = false:=by first | exact nobehind _ (by decide) (by decide) | rfl):PT X (.Compare a [op] [b] pos) (tB t):=by
  intro pins s σ H Q I hw
  refine wpAny_isTrue_Compare1 (thn (h pins s σ H _ I hw) fun v s1 h1=>thn h1 fun u s2 h2=>thn h2 fun c s3 ⟨x,H1,I1,r1,q1⟩=>?_) h1
  obtain ⟨d,rfl,q⟩:=q1
  cases r1
  exact wpAny_truthy_bool ⟨H1,I1,q⟩
theorem pt_val {e:Expr} {t:TE} (h:PE X e t) (he:∀ whole,isTrue e X.env whole = (do let v ← whole; standAt e.pos; holding [v] (truthy v)):=by intro _; rfl):PT X e (tB t):=by
  intro pins s σ H Q I hw
  refine isTrue_plain (thn (h pins s σ H _ I hw) fun v s1 ⟨x,H1,I1,r1,q1⟩=>?_) (he _)
  obtain ⟨d,rfl,q⟩:=q1
  cases r1
  exact wpAny_truthy_bool ⟨H1,I1,q⟩
variable {tA tB':TT} {rest:List Expr}
def tAnd (t u:TT):TT:=fun σ H Q=>t σ H fun c H1=>if c = true then u σ H1 Q else Q false H1
def tOr (t u:TT):TT:=fun σ H Q=>t σ H fun c H1=>if c = true then Q true H1 else u σ H1 Q
def tNot (t:TT):TT:=fun σ H Q=>t σ H fun c H1=>Q (!c) H1
theorem pw_and1 (ha:PT X a tA):PW X (.BoolOp .And [a] pos) tA:=by
  intro wh pins s σ H Q I h
  refine isTrue_and (thn (ha pins s σ H Q I h) fun c s1 e=>?_)
  cases c with
  | true=>exact isTrue_and_nil e
  | false=>exact e
theorem pw_or1 (ha:PT X a tA):PW X (.BoolOp .Or [a] pos) tA:=by
  intro wh pins s σ H Q I h
  refine isTrue_or (thn (ha pins s σ H Q I h) fun c s1 e=>?_)
  cases c with
  | false=>exact isTrue_or_nil e
  | true=>exact e
theorem pw_and (ha:PT X a tA) (hb:PW X (.BoolOp .And (b :: rest) pos) tB'):PW X (.BoolOp .And (a :: b :: rest) pos) (tAnd tA tB'):=by
  intro wh pins s σ H Q I h
  refine isTrue_and (thn (ha pins s σ H _ I h) fun c s1 ⟨H1,I1,q1⟩=>?_)
  cases c with
  | true=>exact hb wh pins s1 σ H1 Q I1 q1
  | false=>exact ⟨H1,I1,q1⟩
theorem pw_or (ha:PT X a tA) (hb:PW X (.BoolOp .Or (b :: rest) pos) tB'):PW X (.BoolOp .Or (a :: b :: rest) pos) (tOr tA tB'):=by
  intro wh pins s σ H Q I h
  refine isTrue_or (thn (ha pins s σ H _ I h) fun c s1 ⟨H1,I1,q1⟩=>?_)
  cases c with
  | true=>exact ⟨H1,I1,q1⟩
  | false=>exact hb wh pins s1 σ H1 Q I1 q1
theorem pt_not (ha:PT X a tA):PT X (.UnaryOp .Not a pos) (tNot tA):=by
  intro pins s σ H Q I h
  exact isTrue_not (ha pins s σ H (fun c H1=>Q (!c) H1) I h)
def tAndV (ta tb:TE):TE:=fun σ H Q=>ta σ H fun x H1=>∃ c,x = .bl c∧if c = true then tb σ H1 Q else Q (.bl false) H1
def tOrV (ta tb:TE):TE:=fun σ H Q=>ta σ H fun x H1=>∃ c,x = .bl c∧if c = true then Q (.bl true) H1 else tb σ H1 Q
def tNotV (ta:TE):TE:=fun σ H Q=>ta σ H fun x H1=>∃ c,x = .bl c∧Q (.bl (!c)) H1
theorem pe_one {op} {t:TE} (h:PE X a t):PE X (.BoolOp op [a] pos) t:=fun pins s σ H Q I hw=>BoolOp_one (h pins s σ H Q I hw)
theorem pe_and (ha:PE X a ta) (hb:PE X (.BoolOp .And (b :: rest) pos) tb):PE X (.BoolOp .And (a :: b :: rest) pos) (tAndV ta tb):=by
  intro pins s σ H Q I h
  refine BoolOp_and (thn (ha pins s σ H _ I h) fun v s1 ⟨x,H1,I1,r1,q1⟩=>?_)
  obtain ⟨c,rfl,q1⟩:=q1
  cases r1
  refine wpAny_truthy_bool ?_
  cases c with
  | true=>exact hb pins s1 σ H1 Q I1 q1
  | false=>exact ⟨.bl false,H1,I1,rfl,q1⟩
theorem pe_or (ha:PE X a ta) (hb:PE X (.BoolOp .Or (b :: rest) pos) tb):PE X (.BoolOp .Or (a :: b :: rest) pos) (tOrV ta tb):=by
  intro pins s σ H Q I h
  refine BoolOp_or (thn (ha pins s σ H _ I h) fun v s1 ⟨x,H1,I1,r1,q1⟩=>?_)
  obtain ⟨c,rfl,q1⟩:=q1
  cases r1
  refine wpAny_truthy_bool ?_
  cases c with
  | false=>exact hb pins s1 σ H1 Q I1 q1
  | true=>exact ⟨.bl true,H1,I1,rfl,q1⟩
theorem pe_not (ha:PE X a ta):PE X (.UnaryOp .Not a pos) (tNotV ta):=by
  intro pins s σ H Q I h
  refine UnaryOp_ (thn (ha pins s σ H _ I h) fun v s1 ⟨x,H1,I1,r1,q1⟩=>?_)
  obtain ⟨c,rfl,q1⟩:=q1
  cases r1
  exact not_of (wpAny_truthy_bool ⟨.bl (!c),H1,I1,rfl,q1⟩)
end
end L2
namespace L2
open PySem PySem.Spec PyProof.Rows
def SqL (K:PySem.W.Frag) (H:Hp) (a:Addr) (xs:List V):Prop:=
  Rd H a (.lst xs)∨
    ∃ (o:Obj) (its:Array Value) (n:Nat),K.lookup a = some o∧o.cls = .type "list"∧o.dict = none∧o.data = .seq its n∧its.size≤sizeLine∧Vals xs its.toList
def SqT (K:PySem.W.Frag) (H:Hp) (a:Addr) (xs:List V):Prop:=
  Rd H a (.tup xs)∨
    ∃ (o:Obj) (its:Array Value) (n:Nat),K.lookup a = some o∧o.cls = .type "tuple"∧o.data = .seq its n∧its.size≤sizeLine∧Vals xs its.toList
def absV:Value→Option V
  | .none=>some .non
  | .bool b=>some (.bl b)
  | .int i _=>some (.int i)
  | .str x _=>some (.str x)
  | .bytes b _=>some (.byt b)
  | .float b _=>some (.flt b)
  | .ref a=>some (.ref a)
  | .type n=>some (.ty n)
  | _=>none
theorem RelV.abs {x:V} {u:Value} (r:RelV x u):absV u = some x:=by
  cases x with
  | non=>cases r; rfl
  | bl _=>cases r; rfl
  | int _=>obtain ⟨t,rfl⟩:=r; rfl
  | str _=>obtain ⟨t,rfl⟩:=r; rfl
  | byt _=>obtain ⟨t,rfl⟩:=r; rfl
  | flt _=>obtain ⟨t,rfl⟩:=r; rfl
  | ref _=>cases r; rfl
  | ty _=>cases r; rfl
theorem RelV.inj {x y:V} {u:Value} (r:RelV x u) (q:RelV y u):x = y:=Option.some.inj (r.abs.symm.trans q.abs)
theorem Vals.inj:∀ {xs ys:List V} {us:List Value},Vals xs us→Vals ys us→xs = ys
  | _,_,_,.nil,.nil=>rfl
  | _,_,_,.cons r t,.cons r' t'=>by rw [r.inj r',Vals.inj t t']
section
variable {X:Cx} {pins:List (Addr×Obj)} {σ:St} {H:Hp} {s:Shared} {a:Addr} {xs ys:List V}
theorem SqL.of {K:PySem.W.Frag} (h:H a = some (.lst xs)):SqL K H a xs:=.inl (.inl h)
theorem SqT.of {K:PySem.W.Frag} (h:H a = some (.tup xs)):SqT K H a xs:=.inl (.inl h)
theorem Inv.list (I:Inv X pins σ H s) (h:SqL X.K H a xs):∃ its:List Value,Vals xs its∧PlainL s.heap a its.toArray∧xs.length≤sizeLine:=by
  rcases h with h | ⟨o,its,n,hk,hc,hd,hs,hz,r⟩
  · obtain ⟨z,its,n,r,e⟩:=h.ok I.hok
    exact ⟨its,r,⟨_,n,e,rfl,rfl,rfl⟩,z⟩
  · refine ⟨its.toList,r,⟨o,n,I.kIn a o hk,hc,hd,by simpa using hs⟩,?_⟩
    have e:=r.length
    simp only [Array.length_toList] at e
    omega
theorem Inv.tuple (I:Inv X pins σ H s) (h:SqT X.K H a xs):∃ its:List Value,Vals xs its∧IsTup s.heap a its.toArray∧xs.length≤sizeLine:=by
  rcases h with h | ⟨o,its,n,hk,hc,hs,hz,r⟩
  · obtain ⟨z,its,r,p⟩:=h.ok I.hok
    exact ⟨its,r,p.is,z⟩
  · refine ⟨its.toList,r,⟨o,I.kIn a o hk,hc,n,by simpa using hs⟩,?_⟩
    have e:=r.length
    simp only [Array.length_toList] at e
    omega
theorem Inv.list_inj (I:Inv X pins σ H s) (h:SqL X.K H a xs) (h':SqL X.K H a ys):xs = ys:=by
  obtain ⟨its,r,⟨o,n,e,_,_,d⟩,_⟩:=I.list h
  obtain ⟨its',r',⟨o',n',e',_,_,d'⟩,_⟩:=I.list h'
  rw [e] at e'; cases e'
  rw [d] at d'
  injection d' with d1 _
  have:its = its':=by simpa using congrArg Array.toList d1
  subst this
  exact r.inj r'
theorem Inv.tuple_inj (I:Inv X pins σ H s) (h:SqT X.K H a xs) (h':SqT X.K H a ys):xs = ys:=by
  obtain ⟨its,r,⟨o,e,_,n,d⟩,_⟩:=I.tuple h
  obtain ⟨its',r',⟨o',e',_,n',d'⟩,_⟩:=I.tuple h'
  rw [e] at e'; cases e'
  rw [d] at d'
  injection d' with d1 _
  have:its = its':=by simpa using congrArg Array.toList d1
  subst this
  exact r.inj r'
end
abbrev Cx.wish (X:Cx) (E:Value→Shared→Prop):Cx:={ X with xe:=E }
abbrev Cx.nox (X:Cx):Cx:=X.wish fun _ _=>False
theorem Cx.Ok.wish {X:Cx} (ok:X.Ok) (E:Value→Shared→Prop):(X.wish E).Ok:=
  ⟨ok.mod,ok.kind,ok.glob,ok.blt,ok.above,ok.inj,ok.has,ok.cab,ok.hd,ok.frames,ok.stk,ok.exf,ok.bs,ok.bsz,ok.noex,ok.exfs,ok.funs,ok.frf⟩
theorem Cx.Ok.unwish {X:Cx} {E:Value→Shared→Prop} (ok:(X.wish E).Ok):X.Ok:=
  ⟨ok.mod,ok.kind,ok.glob,ok.blt,ok.above,ok.inj,ok.has,ok.cab,ok.hd,ok.frames,ok.stk,ok.exf,ok.bs,ok.bsz,ok.noex,ok.exfs,ok.funs,ok.frf⟩
section
variable {X:Cx} {pins:List (Addr×Obj)} {σ:St} {H:Hp} {s:Shared} {E:Value→Shared→Prop}
theorem Inv.wish (I:Inv X pins σ H s) (E:Value→Shared→Prop):Inv (X.wish E) pins σ H s:=⟨I.ok.wish E,I.os,I.bare,I.base,I.loc,I.cell,I.free,I.freeC,I.pin,I.hok,I.len⟩
theorem Inv.unwish (I:Inv (X.wish E) pins σ H s):Inv X pins σ H s:=⟨I.ok.unwish,I.os,I.bare,I.base,I.loc,I.cell,I.free,I.freeC,I.pin,I.hok,I.len⟩
theorem SP.unwish {D:Ends} {f:Flow} {s':Shared} (h:SP (X.wish E) pins D f s'):SP X pins D f s':=by
  cases f with
  | next=>obtain ⟨σ',H',I,q⟩:=h; exact ⟨σ',H',I.unwish,q⟩
  | brk=>obtain ⟨σ',H',I,q⟩:=h; exact ⟨σ',H',I.unwish,q⟩
  | cont=>obtain ⟨σ',H',I,q⟩:=h; exact ⟨σ',H',I.unwish,q⟩
  | ret u=>obtain ⟨v,σ',H',I,r,q⟩:=h; exact ⟨v,σ',H',I.unwish,r,q⟩
theorem PE.nox {e:Expr} {t:TE} (h:PE X.nox e t):PE X e t:=fun pins s σ H Q I hw=>
  wpAny_mono (h pins s σ H Q (I.wish _) hw) (fun _ _ ⟨v,H',I',r,q⟩=>⟨v,H',I'.unwish,r,q⟩) fun _ _ z=>False.elim z
theorem PT.nox {e:Expr} {t:TT} (h:PT X.nox e t):PT X e t:=fun pins s σ H Q I hw=>
  wpAny_mono (h pins s σ H Q (I.wish _) hw) (fun _ _ ⟨H',I',q⟩=>⟨H',I'.unwish,q⟩) fun _ _ z=>False.elim z
theorem PSs.nox {st:List Stmt} {t:TS} (h:PSs X.nox st t):PSs X st t:=fun pins s σ H D I hw=>
  wpAny_mono (h pins s σ H D (I.wish _) hw) (fun _ _ q=>q.unwish) fun _ _ z=>False.elim z
end
section
variable {X:Cx} {st:Stmt} {rest:List Stmt} {t u:TS} {e:Expr} {te:TE} {pos:Pos}
def tNext:TS:=fun D σ H=>D.nx σ H
def tSeq (t u:TS):TS:=fun D σ H=>t { D with nx:=u D } σ H
theorem pss_nil:PSs X [] tNext:=fun _ _ σ H _ I h=>wpAny_execs_nil ⟨σ,H,I,h⟩
theorem pss_cons (h1:PS X st t) (h2:PSs X rest u):PSs X (st :: rest) (tSeq t u):=by
  intro pins s σ H D I h
  refine wpAny_execs_cons (thn (h1 pins s σ H { D with nx:=u D } I h) fun f s1 q=>?_)
  cases f with
  | next=>
    obtain ⟨σ',H',I',q⟩:=q
    exact h2 pins s1 σ' H' D I' q
  | ret v=>exact q
  | brk=>exact q
  | cont=>exact q
theorem pss_one (h1:PS X st t):PSs X [st] t:=by
  intro pins s σ H D I h
  refine wpAny_execs_cons (thn (h1 pins s σ H D I h) fun f s1 q=>?_)
  cases f with
  | next=>exact wpAny_execs_nil q
  | ret v=>exact q
  | brk=>exact q
  | cont=>exact q
theorem Inv.quiet {pins:List (Addr×Obj)} {σ:St} {H:Hp} {s:Shared} (I:Inv X pins σ H s):interactive X.env = false:=by simp [interactive,I.ok.kind]
def tDrop (te:TE):TS:=fun D σ H=>te σ H fun _ H1=>D.nx σ H1
theorem ps_expr (he:PE X e te) (hs:swapsWith e none pos.line X.env = pure false:=by rfl):PS X (.Expr e pos) (tDrop te):=by
  intro pins s σ H D I h
  exact wpAny_Expr_any (thn (he pins s σ H _ I h) fun v s1 ⟨x,H1,I1,r1,q1⟩=>⟨σ,H1,I1,q1⟩) I.quiet hs
def tRet (te:TE):TS:=fun D σ H=>te σ H D.rt
theorem ps_ret (he:PE X e te):PS X (.Return (some e) pos) (tRet te):=by
  intro pins s σ H D I h
  exact wpAny_Return_some (thn (he pins s σ H _ I h) fun v s1 ⟨x,H1,I1,r1,q1⟩=>⟨x,σ,H1,I1,r1,q1⟩)
def tIfS (c:TT) (t u:TS):TS:=fun D σ H=>c σ H fun b H1=>if b = true then t D σ H1 else u D σ H1
theorem ps_if {c:Expr} {a b:List Stmt} {tc:TT} (hc:PT X c tc) (ha:PSs X a t) (hb:PSs X b u):PS X (.If c a b pos) (tIfS tc t u):=by
  intro pins s σ H D I h
  refine wpAny_If (thn (hc pins s σ H _ I h) fun d s1 ⟨H1,I1,q1⟩=>?_)
  cases d with
  | true=>exact ha pins s1 σ H1 D I1 q1
  | false=>exact hb pins s1 σ H1 D I1 q1
end
abbrev TG:=V→St→Hp→(St→Hp→Prop)→Prop
abbrev TGs:=List V→St→Hp→(St→Hp→Prop)→Prop
def PG (X:Cx) (target:Expr) (t:TG):Prop:=
  ∀ (pins:List (Addr×Obj)) (s:Shared) (σ:St) (H:Hp) (v:V) (u:Value) (Q:St→Hp→Prop),Inv X pins σ H s→RelV v u→t v σ H Q→
    wpAny (model X.prog X.w) X.A (assign target X.env u) (fun _ s'=>∃ σ' H',Inv X pins σ' H' s'∧Q σ' H') X.xe s
def PGs (X:Cx) (ts:List Expr) (t:TGs):Prop:=
  ∀ (pins:List (Addr×Obj)) (s:Shared) (σ:St) (H:Hp) (vs:List V) (us:List Value) (Q:St→Hp→Prop),Inv X pins σ H s→Vals vs us→t vs σ H Q→
    wpAny (model X.prog X.w) X.A (assignInOrder ((assignEach ts X.env).map (·.2)) us) (fun _ s'=>∃ σ' H',Inv X pins σ' H' s'∧Q σ' H') X.xe s
section
variable {X:Cx} {pos:Pos}
def gName (i:Nat):TG:=fun v σ H Q=>Q (σ.set i (some v)) H
theorem pg_name {i:Nat} {x:Str} (hN:X.N.Nodup) (hi:X.N[i]? = some x) (hx:Loc X.env.scope x) (hf:X.fn x = true∨X.env.scope.names.lookup x = some .local:=by first | exact .inl rfl | exact .inr rfl | assumption):PG X (.Name x pos) (gName i):=by
  intro pins s σ H v u Q I r h
  exact wpAny_assign_Name (store_ok I hN hi hx r (fun s' I'=>⟨_,H,I',h⟩) hf)
def gNil:TGs:=fun vs σ H Q=>vs = []∧Q σ H
def gCons (t:TG) (u:TGs):TGs:=fun vs σ H Q=>∃ v r,vs = v :: r∧t v σ H fun σ' H'=>u r σ' H' Q
theorem pgs_nil:PGs X [] gNil:=by
  intro pins s σ H vs us Q I r h
  obtain ⟨e,h⟩:=h
  subst e
  cases r
  exact assignInOrder_nil ⟨σ,H,I,h⟩
theorem pgs_cons {e:Expr} {es:List Expr} {t:TG} {u:TGs} (h1:PG X e t) (h2:PGs X es u)
    (hs:(assignEach (e :: es) X.env).map (·.2) = assign e X.env :: (assignEach es X.env).map (·.2):=by rfl):PGs X (e :: es) (gCons t u):=by
  intro pins s σ H vs us Q I r h
  obtain ⟨v,vr,e1,h⟩:=h
  subst e1
  cases r with
  | cons r rr=>
    rw [hs]
    refine assignInOrder_cons (thn (h1 pins s σ H _ _ _ I r h) fun _ s1 ⟨σ1,H1,I1,q1⟩=>?_)
    exact h2 pins s1 σ1 H1 _ _ Q I1 rr q1
def gTup (K:PySem.W.Frag) (n:Nat) (t:TGs):TG:=fun v σ H Q=>∃ a xs,v = .ref a∧SqT K H a xs∧xs.length = n∧t xs σ H Q
theorem pg_tup {es:List Expr} {k:Nat} {t:TGs} {n:Nat} (hc:X.calm = true) (h:PGs X es t)
    (hn:(assignEach es X.env).length = n:=by rfl) (hst:(assignEach es X.env).findIdx? (·.1) = none:=by rfl):PG X (.Tuple es k pos) (gTup X.K n t):=by
  intro pins s σ H v u Q I r hw
  obtain ⟨a,xs,e1,hq,hl,hw⟩:=hw
  subst e1
  cases r
  obtain ⟨its,rv,ht,hz⟩:=I.tuple hq
  refine assign_Tuple_tuple (I.ok.hd hc) ht (by simp [hn,← hl,rv.length]) hst fun h' hx=>?_
  have I1:Inv X pins σ H { s with heap:=h' }:=I.kept (t':=s.toks) fun b o e=>hx b o (Nat.ne_of_lt (Heap.lt_size e)) e
  exact h pins _ σ H xs _ Q I1 (by simpa using rv) hw
def tAsg (te:TE) (g:TG):TS:=fun D σ H=>te σ H fun x H1=>g x σ H1 D.nx
theorem ps_asg {tg e:Expr} {te:TE} {g:TG} (he:PE X e te) (hg:PG X tg g) (hs:swapsWithSole [tg] e pos.line X.env = pure false:=by rfl) (hw:swappedStores [tg] e X.env = pure none:=by rfl)
    (h1:(assignEach [tg] X.env).map (·.2) = [assign tg X.env]:=by rfl):PS X (.Assign [tg] e pos) (tAsg te g):=by
  intro pins s σ H D I h
  refine wpAny_Assign_stores (thn (he pins s σ H _ I h) fun v s1 ⟨x,H1,I1,r1,q1⟩=>?_) hs hw
  rw [h1]
  exact thn (hg pins s1 σ H1 x v _ I1 r1 q1) fun _ s2 q=>q
theorem ps_set {i:Nat} {x:Str} {e:Expr} {te:TE} {pos':Pos} (hN:X.N.Nodup) (hi:X.N[i]? = some x) (hx:Loc X.env.scope x) (he:PE X e te) (hs:swapsWith e (some (.Name x pos')) pos.line X.env = pure false:=by rfl) (hf:X.fn x = true∨X.env.scope.names.lookup x = some .local:=by first | exact .inl rfl | exact .inr rfl | assumption) :
    PS X (.Assign [.Name x pos'] e pos) (tAsg te (gName i)):=by
  intro pins s σ H D I h
  refine wpAny_Assign_Name (thn (he pins s σ H _ I h) fun v s1 ⟨y,H1,I1,r1,q1⟩=>?_) hs
  exact store_ok I1 hN hi hx r1 (fun s2 I2=>⟨_,H1,I2,q1⟩) hf
end
section
variable {X:Cx} {pos:Pos}
end
structure It where
  go:Nat→Hp→Prop
  yld:Nat→Hp→V→Hp→Prop
  stop:Nat→Hp→Prop
def FpOk (X:Cx) (pins:List (Addr×Obj)) (H:Hp) (b:Addr):Prop:=
  H b = none∧b≠X.env.locals∧b ∉ X.fs∧(b∈X.ex∨X.s₀.heap.objs.size≤b)∧(∀ x c,X.env.cells.lookup x = some c→c≠b)∧∀ p∈X.pn ++ pins,p.1≠b
theorem Inv.fpOk {X:Cx} {pins:List (Addr×Obj)} {σ:St} {H H':Hp} {s:Shared} {b:Addr} (I:Inv X pins σ H s) (hb:s.heap.objs.size≤b) (hn:H' b = none):FpOk X pins H' b:=by
  refine ⟨hn,Nat.ne_of_gt (Nat.lt_of_lt_of_le I.lt hb),I.nofs hb,.inr (Nat.le_trans I.sz hb),fun x c e z=>?_,fun p hp z=>?_⟩
  · obtain ⟨v,q⟩:=I.cell x c e
    exact absurd (Nat.lt_of_lt_of_le q.lt (by rw [z]; exact hb)) (Nat.lt_irrefl _)
  · exact absurd (Nat.lt_of_lt_of_le (Heap.lt_size (I.pin p hp).1) (by rw [z]; exact hb)) (Nat.lt_irrefl _)
structure Turn (P:Program) (w:World) (K:PySem.W.Frag) (tg:Expr) (J:It) (fp:List Addr) (it:Addr) (tn:Nat→Heap→Prop):Prop where
  mem:it∈fp
  obj:∀ i h,tn i h→∀ b∈fp,∃ o,h.get? b = some o∧∀ v,o.data≠.cell v
  keep:∀ i h h',tn i h→(∀ b∈fp,∀ o,h.get? b = some o→h'.get? b = some o)→tn i h'
  item:∀ (X:Cx),X.prog = P→X.w = w→X.K = K→X.calm = true→∀ (i:Nat) (pins:List (Addr×Obj)) (s:Shared) (σ:St) (H:Hp) (E:Value→Shared→Prop),Inv X pins σ H s→(∀ b∈fp,FpOk X pins H b)→tn i s.heap→J.go i H→
    wpAny (model P w) X.A (pyNext (.ref it)) (fun r s1=>∃ u,r = some u∧
      wpAny (model P w) X.A (letOwnedTupleGo tg (.ref it) u) (fun _ s2=>∃ x H',Inv X pins σ H' s2∧RelV x u∧J.yld i H x H'∧tn (i + 1) s2.heap∧∀ b∈fp,H' b = none) E s1) E s
  done:∀ (X:Cx),X.prog = P→X.w = w→X.K = K→X.calm = true→∀ (i:Nat) (pins:List (Addr×Obj)) (s:Shared) (σ:St) (H:Hp) (E:Value→Shared→Prop),Inv X pins σ H s→(∀ b∈fp,FpOk X pins H b)→tn i s.heap→J.stop i H→
    wpAny (model P w) X.A (pyNext (.ref it)) (fun r s1=>r = none∧Inv X pins σ H s1) E s
  self:∀ (A:Around) (i:Nat) (s:Shared) (Q:Value→Shared→Prop) (E:Value→Shared→Prop),tn i s.heap→Q (.ref it) s→wpAny (model P w) A (pyIter (.ref it)) Q E s
abbrev TI:=St→Hp→(It→Hp→Prop)→Prop
def PIE (X:Cx) (pins:List (Addr×Obj)) (σ:St) (tg:Expr) (R:It→Hp→Prop) (itv:Value) (s2:Shared):Prop:=
  ∃ (it:Addr) (fp:List Addr) (tn:Nat→Heap→Prop) (J:It) (H':Hp),itv = .ref it∧Inv X pins σ H' s2∧Turn X.prog X.w X.K tg J fp it tn∧tn 0 s2.heap∧(∀ b∈fp,FpOk X pins H' b)∧R J H'
def PI (X:Cx) (tg iter:Expr) (wi:TI):Prop:=
  ∀ (pins:List (Addr×Obj)) (s:Shared) (σ:St) (H:Hp) (R:It→Hp→Prop),Inv X pins σ H s→wi σ H R→
    wpAny (model X.prog X.w) X.A (eval iter X.env) (fun v s1=>wpAny (model X.prog X.w) X.A (pyIter v) (PIE X pins σ tg R) X.xe s1) X.xe s
theorem go_of {M:Model} {A:Around} {E:Value→Shared→Prop} {s:Shared} {tg:Expr} {it:Addr} {u:Value} {o:Obj} {n:String} {vs:Array Value} {Q:Unit→Shared→Prop} (ho:s.heap.get? it = some o) (hc:o.cls = .type n) (hd:o.data = .fields vs)
    (hn:["enumerate","zip","dict_itemiterator","dict_reverseitemiterator","odict_iterator","itertools.zip_longest","itertools.pairwise"].contains n = false) (hQ:Q () s):wpAny M A (letOwnedTupleGo tg (.ref it) u) Q E s:=by
  unfold letOwnedTupleGo
  cases tg <;> first
    | exact wpAny_pure hQ
    | (cases u <;> first
        | exact wpAny_pure hQ
        | (refine wpAny_bind (wpAny_load ho ?_)
           rw [hc,hd]
           show wpAny M A (if (["enumerate","zip","dict_itemiterator","dict_reverseitemiterator","odict_iterator","itertools.zip_longest","itertools.pairwise"].contains n && vs[0]? == some (rawInt _)) = true then _ else _) Q E s
           rw [if_neg (by intro h; rw [hn,Bool.false_and] at h; cases h)]
           exact wpAny_pure hQ))
def Itl (K:PySem.W.Frag) (a:Addr):It:=
  ⟨fun i H=>∃ xs x,SqL K H a xs∧xs[i]? = some x,fun i H x H'=>H' = H∧∀ xs,SqL K H a xs→xs[i]? = some x,fun i H=>∃ xs,SqL K H a xs∧xs.length≤i⟩
def Itt (K:PySem.W.Frag) (a:Addr):It:=
  ⟨fun i H=>∃ xs x,SqT K H a xs∧xs[i]? = some x,fun i H x H'=>H' = H∧∀ xs,SqT K H a xs→xs[i]? = some x,fun i H=>∃ xs,SqT K H a xs∧xs.length≤i⟩
def Itr (lo:Int) (n:Nat):It:=⟨fun i _=>i < n,fun i H x H'=>H' = H∧x = .int (lo + i),fun i _=>n≤i⟩
theorem turn_list {P:Program} {w:World} {K:PySem.W.Frag} {tg:Expr} (a it:Addr):Turn P w K tg (Itl K a) [it] it (fun i h=>h.IsListIter it a i) where
  mem:=by simp
  obj:=fun i h st b hb=>by
    have e:b = it:=by simpa using hb
    subst e
    obtain ⟨o,e,c,d⟩:=st
    exact ⟨o,e,fun v z=>by rw [d] at z; cases z⟩
  keep:=fun i h h' st k=>st.at fun o e=>k it (by simp) o e
  item:=by
    intro X hP hw hK hc i pins s σ H E I hf st hg
    subst hP hw hK
    obtain ⟨xs,x,hq,hx⟩:=hg
    obtain ⟨its,rv,p,hz⟩:=I.list hq
    obtain ⟨u,hu,ru⟩:=rv.get hx
    obtain ⟨f0,f1,f2,f3,f4,f5⟩:=hf it (by simp)
    refine wpAny_pyNext_list_item st p.isList (x:=u) (by simpa using hu) fun h' st' sb=>?_
    have I1:Inv X pins σ H { s with heap:=h' }:=I.turned (t':=s.toks) (fun b o hb e=>(sb.2 b hb).trans e) f0 f1 f3 f4 f5
    obtain ⟨o,e,c,d⟩:=id st'
    exact ⟨u,rfl,go_of (s:={ s with heap:=h' }) e c d (by decide) ⟨x,H,I1,ru,⟨rfl,fun ys hy=>by rw [I.list_inj hy hq]; exact hx⟩,st',fun b hb=>(hf b hb).1⟩⟩
  done:=by
    intro X hP hw hK hc i pins s σ H E I hf st hg
    subst hP hw hK
    obtain ⟨xs,hq,hx⟩:=hg
    obtain ⟨its,rv,p,hz⟩:=I.list hq
    obtain ⟨f0,f1,f2,f3,f4,f5⟩:=hf it (by simp)
    have hl:=rv.length
    exact wpAny_pyNext_list_end (I.ok.hd hc) st p.isList (by simp; omega) fun h' eb=>⟨rfl,I.turned (t':=s.toks) (fun b o hb e=>eb b o hb e) f0 f1 f3 f4 f5⟩
  self:=fun _ _ _ _ _ st h=>wpAny_pyIter_listiter st h
theorem turn_tuple {P:Program} {w:World} {K:PySem.W.Frag} {tg:Expr} (a it:Addr):Turn P w K tg (Itt K a) [it] it (fun i h=>h.IsTupleIter it a i) where
  mem:=by simp
  obj:=fun i h st b hb=>by
    have e:b = it:=by simpa using hb
    subst e
    obtain ⟨o,e,c,d⟩:=st
    exact ⟨o,e,fun v z=>by rw [d] at z; cases z⟩
  keep:=fun i h h' st k=>st.at fun o e=>k it (by simp) o e
  item:=by
    intro X hP hw hK hc i pins s σ H E I hf st hg
    subst hP hw hK
    obtain ⟨xs,x,hq,hx⟩:=hg
    obtain ⟨its,rv,p,hz⟩:=I.tuple hq
    obtain ⟨u,hu,ru⟩:=rv.get hx
    obtain ⟨f0,f1,f2,f3,f4,f5⟩:=hf it (by simp)
    refine wpAny_pyNext_tuple_item st (show s.heap.IsTuple a its.toArray from p) (x:=u) (by simpa using hu) fun h' st' sb=>?_
    have I1:Inv X pins σ H { s with heap:=h' }:=I.turned (t':=s.toks) (fun b o hb e=>(sb.2 b hb).trans e) f0 f1 f3 f4 f5
    obtain ⟨o,e,c,d⟩:=id st'
    exact ⟨u,rfl,go_of (s:={ s with heap:=h' }) e c d (by decide) ⟨x,H,I1,ru,⟨rfl,fun ys hy=>by rw [I.tuple_inj hy hq]; exact hx⟩,st',fun b hb=>(hf b hb).1⟩⟩
  done:=by
    intro X hP hw hK hc i pins s σ H E I hf st hg
    subst hP hw hK
    obtain ⟨xs,hq,hx⟩:=hg
    obtain ⟨its,rv,p,hz⟩:=I.tuple hq
    obtain ⟨f0,f1,f2,f3,f4,f5⟩:=hf it (by simp)
    have hl:=rv.length
    exact wpAny_pyNext_tuple_end (I.ok.hd hc) st (show s.heap.IsTuple a its.toArray from p) (by simp; omega) fun h' eb=>⟨rfl,I.turned (t':=s.toks) (fun b o hb e=>eb b o hb e) f0 f1 f3 f4 f5⟩
  self:=fun _ _ _ _ _ st h=>wpAny_pyIter_tupleiter st h
theorem turn_range {P:Program} {w:World} {K:PySem.W.Frag} {tg:Expr} (it:Addr) (lo:Int) (n:Nat):Turn P w K tg (Itr lo n) [it] it (fun i h=>IsRangeIter h it (lo + (i:Nat) * 1) ((n:Int) - (i:Nat)) 1) where
  mem:=by simp
  obj:=fun i h st b hb=>by
    have e:b = it:=by simpa using hb
    subst e
    exact ⟨_,st,fun v z=>by
      have z':Data.fields _ = Data.cell v:=z
      cases z'⟩
  keep:=fun i h h' st k=>k it (by simp) _ st
  item:=by
    intro X hP hw hK hc i pins s σ H E I hf st hg
    subst hP hw hK
    obtain ⟨f0,f1,f2,f3,f4,f5⟩:=hf it (by simp)
    have W:=Walks.range (prog:=X.prog) (w:=X.w) (I.ok.hd hc) it lo 1 n
    refine W.item i s _ _ hg st fun v h' tk hv st' kk=>?_
    obtain ⟨t,rfl⟩:=hv
    have I1:Inv X pins σ H { s with heap:=h',toks:=tk }:=I.turned (fun b o hb e=>kk b o (by simpa using hb) e) f0 f1 f3 f4 f5
    refine ⟨_,rfl,go_of (s:={ s with heap:=h',toks:=tk }) (n:="range_iterator") st' rfl rfl (by decide) ⟨.int (lo + i),H,I1,⟨t,?_⟩,⟨rfl,rfl⟩,st',fun b hb=>(hf b hb).1⟩⟩
    rw [Int.mul_one]
  done:=by
    intro X hP hw hK hc i pins s σ H E I hf st hg
    subst hP hw hK
    obtain ⟨f0,f1,f2,f3,f4,f5⟩:=hf it (by simp)
    exact wpAny_pyNext_range_end (I.ok.hd hc) st (by have:n≤i:=hg; omega) fun h' eb=>⟨rfl,I.turned (t':=s.toks) (fun b o hb e=>eb b o hb e) f0 f1 f3 f4 f5⟩
  self:=fun _ _ _ _ _ st h=>wpAny_pyIter_rangeiter st h
end L2
namespace L2
open PySem PySem.Spec PyProof.Rows
section
variable {X:Cx} {tg:Expr}
def iList (K:PySem.W.Frag) (tl:TE):TI:=fun σ H R=>tl σ H fun x H1=>∃ a,x = .ref a∧(∃ xs,SqL K H1 a xs)∧R (Itl K a) H1
def iTup (K:PySem.W.Frag) (tl:TE):TI:=fun σ H R=>tl σ H fun x H1=>∃ a,x = .ref a∧(∃ xs,SqT K H1 a xs)∧R (Itt K a) H1
theorem pi_list {l:Expr} {tl:TE} (hl:PE X l tl):PI X tg l (iList X.K tl):=by
  intro pins s σ H R I h
  refine thn (hl pins s σ H _ I h) fun v s1 ⟨x,H1,I1,r1,q1⟩=>?_
  obtain ⟨a,e,⟨xs,hq⟩,q⟩:=q1
  subst e
  cases r1
  obtain ⟨its,rv,p,hz⟩:=I1.list hq
  refine wpAny_pyIter_list p.isList ?_
  refine ⟨s1.heap.objs.size,[s1.heap.objs.size],_,_,H1,rfl,I1.kept (t':=s1.toks) fun b o e=>Heap.get?_push_of_some _ e,turn_list a _,⟨_,Heap.get?_push_size _ rfl,rfl,rfl⟩,fun b hb=>?_,q⟩
  have e:b = s1.heap.objs.size:=by simpa using hb
  subst e
  exact I1.fpOk (Nat.le_refl _) (I1.hok.fresh (Nat.le_refl _))
theorem pi_tup {l:Expr} {tl:TE} (hl:PE X l tl):PI X tg l (iTup X.K tl):=by
  intro pins s σ H R I h
  refine thn (hl pins s σ H _ I h) fun v s1 ⟨x,H1,I1,r1,q1⟩=>?_
  obtain ⟨a,e,⟨xs,hq⟩,q⟩:=q1
  subst e
  cases r1
  obtain ⟨its,rv,p,hz⟩:=I1.tuple hq
  refine wpAny_pyIter_tuple (show s1.heap.IsTuple a its.toArray from p) ?_
  refine ⟨s1.heap.objs.size,[s1.heap.objs.size],_,_,H1,rfl,I1.kept (t':=s1.toks) fun b o e=>Heap.get?_push_of_some _ e,turn_tuple a _,⟨_,Heap.get?_push_size _ rfl,rfl,rfl⟩,fun b hb=>?_,q⟩
  have e:b = s1.heap.objs.size:=by simpa using hb
  subst e
  exact I1.fpOk (Nat.le_refl _) (I1.hok.fresh (Nat.le_refl _))
theorem range_it {pins:List (Addr×Obj)} {σ:St} {H:Hp} {s:Shared} {R:It→Hp→Prop} {E:Value→Shared→Prop} {lo hi:Int} {t u v:Tok} {tk:Nat} (I:Inv X pins σ H s) (h1:-(2 ^ 62)≤lo) (h2:lo < 2 ^ 62) (h3:-(2 ^ 62)≤hi) (h4:hi < 2 ^ 62)
    (q:R (Itr lo (hi - lo).toNat) H):wpAny (model X.prog X.w) X.A (pyIter (.ref s.heap.objs.size)) (PIE X pins σ tg R) E { s with heap:=s.heap.push { cls:=.type "range",data:=.fields #[.int lo t,.int hi u,.int 1 v] },toks:=tk }:=by
  refine wpAny_pyIter_range (IsRange.new ..) (small_one h1 h2 h3 h4) ?_
  have I1:Inv X pins σ H { s with heap:=s.heap.push { cls:=.type "range",data:=.fields #[.int lo t,.int hi u,.int 1 v] },toks:=tk }:=I.kept fun b o e=>Heap.get?_push_of_some _ e
  refine ⟨(s.heap.push { cls:=.type "range",data:=.fields #[.int lo t,.int hi u,.int 1 v] }).objs.size,[(s.heap.push { cls:=.type "range",data:=.fields #[.int lo t,.int hi u,.int 1 v] }).objs.size],_,_,H,rfl,
    I1.kept (t':=tk) fun b o e=>Heap.get?_push_of_some _ e,turn_range _ lo (hi - lo).toNat,?_,fun b hb=>?_,q⟩
  · have e1:lo + ((0:Nat):Int) * 1 = lo:=by simp
    have e2:(((hi - lo).toNat:Nat):Int) - ((0:Nat):Int) = Builtin.Range.rangeSize lo hi 1:=by rw [rangeSize_one]; split <;> omega
    show IsRangeIter _ _ (lo + ((0:Nat):Int) * 1) ((((hi - lo).toNat:Nat):Int) - ((0:Nat):Int)) 1
    rw [e1,e2]
    exact Heap.get?_push_size _ rfl
  · have e:b = (s.heap.push { cls:=.type "range",data:=.fields #[.int lo t,.int hi u,.int 1 v] }).objs.size:=by simpa using hb
    subst e
    exact I1.fpOk (Nat.le_refl _) (I1.hok.fresh (Nat.le_refl _))
def iRng1 (ta:TA):TI:=fun σ H R=>ta σ H fun vs H1=>∃ j:Int,vs = [.int j]∧-(2 ^ 62)≤j∧j < 2 ^ 62∧R (Itr 0 j.toNat) H1
theorem pi_range1 {a:Expr} {ta:TA} {p pos:Pos} (hg:Gl X "range") (hm:X.mg "range" = none) (ha:PA X [a] ta) (hs:starEach [a] X.env = [(false,eval a X.env)]:=by rfl):PI X tg (.Call (.Name "range" p) [a] [] pos) (iRng1 ta):=by
  intro pins s σ H R I h
  refine Call_ (ld_blt I hg hm boot_range (PyProof.Rows.callWith_type1 (thn (ha pos pins s σ H _ I h) fun us s1 ⟨vs,H1,I1,r1,q1⟩=>?_) hs rfl))
  obtain ⟨j,e,q1,q2,q⟩:=q1
  subst e
  cases r1 with
  | cons r rr=>
    cases rr
    obtain ⟨t,rfl⟩:=r
    exact call_range_1 (range_it I1 (by omega) (by omega) q1 q2 (by simpa using q))
def tFor (wi:TI) (g:TG) (tb:TS):TS:=fun D σ H=>wi σ H fun J H1=>∃ W:Nat→Nat→St→Hp→Prop,(∃ m,W 0 m σ H1)∧∀ i m σ H,W i m σ H→
  (J.stop i H∧D.nx σ H)∨(J.go i H∧∃ N:St→Hp→Prop,(∀ σ' H',N σ' H'→∃ m',m' < m∧W (i + 1) m' σ' H')∧∀ x H',J.yld i H x H'→g x σ H' fun σ2 H2=>tb { D with nx:=N,ct:=N,bk:=D.nx } σ2 H2)
def pinsAt (fp:List Addr) (h:Heap):List (Addr×Obj):=fp.filterMap fun b=>(h.get? b).map fun o=>(b,o)
theorem mem_pinsAt {fp:List Addr} {h:Heap} {b:Addr} {o:Obj} (hb:b∈fp) (e:h.get? b = some o):(b,o)∈pinsAt fp h:=List.mem_filterMap.mpr ⟨b,hb,by rw [e]; rfl⟩
theorem of_pinsAt {fp:List Addr} {h:Heap} {p:Addr×Obj} (hp:p∈pinsAt fp h):p.1∈fp∧h.get? p.1 = some p.2:=by
  obtain ⟨b,hb,e⟩:=List.mem_filterMap.mp hp
  cases q:h.get? b with
  | none=>rw [q] at e; cases e
  | some o=>
    rw [q] at e
    have e':(b,o) = p:=Option.some.inj e
    subst e'
    exact ⟨hb,q⟩
theorem Inv.pinned {pins:List (Addr×Obj)} {σ:St} {H:Hp} {s:Shared} {fp:List Addr} (I:Inv X pins σ H s) (hf:∀ b∈fp,FpOk X pins H b) (ho:∀ b∈fp,∃ o,s.heap.get? b = some o∧∀ v,o.data≠.cell v):Inv X (pins ++ pinsAt fp s.heap) σ H s:=
  I.pins_of fun p hp=>(List.mem_append.mp hp).elim (fun z=>I.pin p (List.mem_append_right _ z)) fun z=>by
    obtain ⟨hb,e⟩:=of_pinsAt z
    obtain ⟨f0,f1,f2,_⟩:=hf p.1 hb
    obtain ⟨o,e',d⟩:=ho p.1 hb
    rw [e] at e'; cases e'
    exact ⟨e,f0,f1,f2,d⟩
theorem Inv.unpinned {pins pl:List (Addr×Obj)} {σ:St} {H:Hp} {s:Shared} (I:Inv X (pins ++ pl) σ H s):Inv X pins σ H s:=I.pins_of fun p hp=>I.pin p (List.mem_append_right _ (List.mem_append_left _ hp))
theorem ps_for {iter:Expr} {body:List Stmt} {wi:TI} {g:TG} {tb:TS} {pos:Pos} (hp:PassesOwn (model X.prog X.w) X.A X.env X.xe) (hc:X.calm = true) (hi:PI X tg iter wi) (hg:PG X tg g) (hb:PSs X body tb)
    (hs:∀ x,foldedSetIterable iter X.env x = pure x:=by intro _; rfl):PS X (.For tg iter body [] pos) (tFor wi g tb):=by
  intro pins s σ H D I h
  refine wpAny_For (thn (hi pins s σ H _ I h) fun v s1 h1=>thn h1 fun itv s2 h2=>?_) hs
  obtain ⟨it,fp,tn,J,H2,e,I2,T,st2,f2,W,⟨m0,w0⟩,turn⟩:=h2
  subst e
  have stat:∀ {H':Hp},(∀ b∈fp,H' b = none)→∀ b∈fp,FpOk X pins H' b:=fun hn b hb=>⟨hn b hb,(f2 b hb).2⟩
  refine codeAny_forLoop_any (fun n s'=>∃ i σ' H',Inv X pins σ' H' s'∧tn i s'.heap∧(∀ b∈fp,H' b = none)∧W i n σ' H') ?_ m0 ⟨0,σ,H2,I2,st2,fun b hb=>(f2 b hb).1,w0⟩
  rintro n s3 ⟨i,σ3,H3,I3,st3,fr3,w3⟩
  rcases turn i n σ3 H3 w3 with ⟨stop,qn⟩ | ⟨go,N,hN,step⟩
  · refine wpAny_passesOwn hp (thn (T.done X rfl rfl rfl hc i pins s3 σ3 H3 X.xe I3 (stat fr3) st3 stop) fun r s4 ⟨hr,I4⟩=>?_)
    subst hr
    exact wpAny_execs_nil ⟨σ3,H3,I4,qn⟩
  · refine wpAny_passesOwn hp (thn (T.item X rfl rfl rfl hc i pins s3 σ3 H3 X.xe I3 (stat fr3) st3 go) fun r s4 ⟨u,hr,h4⟩=>?_)
    subst hr
    refine wpAny_passesOwn hp (thn h4 fun _ s5 ⟨x,H5,I5,r5,y5,st5,fr5⟩=>?_)
    have I5':=I5.pinned (stat fr5) (T.obj _ _ st5)
    refine wpAny_passesOwn hp (thn (hg _ s5 σ3 H5 x u _ I5' r5 (step x H5 y5)) fun _ s6 ⟨σ6,H6,I6,q6⟩=>?_)
    refine wpAny_passesOwn hp (thn (hb _ s6 σ6 H6 _ I6 q6) fun f s7 q7=>?_)
    have again:∀ {σ7:St} {H7:Hp},Inv X (pins ++ pinsAt fp s5.heap) σ7 H7 s7→N σ7 H7→∃ m,m < n∧∃ i σ' H',Inv X pins σ' H' s7∧tn i s7.heap∧(∀ b∈fp,H' b = none)∧W i m σ' H':=fun {σ7 H7} I7 n7=>by
      obtain ⟨m',hm,w7⟩:=hN σ7 H7 n7
      refine ⟨m',hm,i + 1,σ7,H7,I7.unpinned,T.keep _ _ _ st5 fun b hb o e=>(I7.pin (b,o) (List.mem_append_right _ (List.mem_append_right _ (mem_pinsAt hb e)))).1,fun b hb=>?_,w7⟩
      obtain ⟨o,e,d⟩:=T.obj _ _ st5 b hb
      exact (I7.pin (b,o) (List.mem_append_right _ (List.mem_append_right _ (mem_pinsAt hb e)))).2.1
    cases f with
    | next=>obtain ⟨σ7,H7,I7,n7⟩:=q7; exact again I7 n7
    | cont=>obtain ⟨σ7,H7,I7,n7⟩:=q7; exact again I7 n7
    | brk=>obtain ⟨σ7,H7,I7,q7⟩:=q7; exact ⟨σ7,H7,I7.unpinned,q7⟩
    | ret v=>obtain ⟨x7,σ7,H7,I7,r7,q7⟩:=q7; exact ⟨x7,σ7,H7,I7.unpinned,r7,q7⟩
end
theorem for_list {K:PySem.W.Frag} {a:Addr} {xs:List V} {g:TG} {tb:TS} {D:Ends} {σ:St} {H:Hp} (Pv:Nat→St→Hp→Prop) (h0:Pv 0 σ H) (hl:∀ i σ H,i≤xs.length→Pv i σ H→SqL K H a xs)
    (hs:∀ i x σ H,xs[i]? = some x→Pv i σ H→g x σ H fun σ2 H2=>tb { D with nx:=Pv (i + 1),ct:=Pv (i + 1),bk:=D.nx } σ2 H2) (hd:∀ σ H,Pv xs.length σ H→D.nx σ H) :
    ∃ W:Nat→Nat→St→Hp→Prop,(∃ m,W 0 m σ H)∧∀ i m σ H,W i m σ H→
      ((Itl K a).stop i H∧D.nx σ H)∨((Itl K a).go i H∧∃ N:St→Hp→Prop,(∀ σ' H',N σ' H'→∃ m',m' < m∧W (i + 1) m' σ' H')∧∀ x H',(Itl K a).yld i H x H'→g x σ H' fun σ2 H2=>tb { D with nx:=N,ct:=N,bk:=D.nx } σ2 H2):=by
  refine ⟨fun i m σ H=>m = xs.length - i∧i≤xs.length∧Pv i σ H,⟨xs.length,by simp,Nat.zero_le _,h0⟩,?_⟩
  rintro i m σ H ⟨rfl,hi,p⟩
  have q:=hl i σ H hi p
  by_cases hlt:i < xs.length
  · refine .inr ⟨⟨xs,xs[i],q,by simp [hlt]⟩,Pv (i + 1),fun σ' H' p'=>⟨xs.length - (i + 1),by omega,rfl,hlt,p'⟩,fun x H' y=>?_⟩
    obtain ⟨e,y⟩:=y
    subst e
    exact hs i x σ _ (y xs q) p
  · have e:i = xs.length:=by omega
    subst e
    exact .inl ⟨⟨xs,q,Nat.le_refl _⟩,hd σ H p⟩
theorem for_range {lo:Int} {n:Nat} {g:TG} {tb:TS} {D:Ends} {σ:St} {H:Hp} (Pv:Nat→St→Hp→Prop) (h0:Pv 0 σ H)
    (hs:∀ i σ H,i < n→Pv i σ H→g (.int (lo + i)) σ H fun σ2 H2=>tb { D with nx:=Pv (i + 1),ct:=Pv (i + 1),bk:=D.nx } σ2 H2) (hd:∀ σ H,Pv n σ H→D.nx σ H) :
    ∃ W:Nat→Nat→St→Hp→Prop,(∃ m,W 0 m σ H)∧∀ i m σ H,W i m σ H→
      ((Itr lo n).stop i H∧D.nx σ H)∨((Itr lo n).go i H∧∃ N:St→Hp→Prop,(∀ σ' H',N σ' H'→∃ m',m' < m∧W (i + 1) m' σ' H')∧∀ x H',(Itr lo n).yld i H x H'→g x σ H' fun σ2 H2=>tb { D with nx:=N,ct:=N,bk:=D.nx } σ2 H2):=by
  refine ⟨fun i m σ H=>m = n - i∧i≤n∧Pv i σ H,⟨n,by simp,Nat.zero_le _,h0⟩,?_⟩
  rintro i m σ H ⟨rfl,hi,p⟩
  by_cases hlt:i < n
  · refine .inr ⟨hlt,Pv (i + 1),fun σ' H' p'=>⟨n - (i + 1),by omega,rfl,hlt,p'⟩,fun x H' y=>?_⟩
    obtain ⟨e,y⟩:=y
    subst e y
    exact hs i σ _ hlt p
  · have e:i = n:=by omega
    subst e
    exact .inl ⟨Nat.le_refl _,hd σ H p⟩
end L2
namespace L2
open PySem PySem.Spec PyProof.Rows
abbrev R2:=V→V→Hp→VK→Prop
def OpR (X:Cx) (f:Value→Value→Sem Value) (r:R2):Prop:=
  ∀ (pins:List (Addr×Obj)) (s:Shared) (σ:St) (H:Hp) (x y:V) (v u:Value) (Q:VK),Inv X pins σ H s→RelV x v→RelV y u→r x y H Q→
    wpAny (model X.prog X.w) X.A (f v u) (EP X pins σ Q) X.xe s
def UnR (X:Cx) (f:Value→Sem Value) (r:V→Hp→VK→Prop):Prop:=
  ∀ (pins:List (Addr×Obj)) (s:Shared) (σ:St) (H:Hp) (x:V) (v:Value) (Q:VK),Inv X pins σ H s→RelV x v→r x H Q→
    wpAny (model X.prog X.w) X.A (f v) (EP X pins σ Q) X.xe s
def CallR (X:Cx) (f:Value) (r:List V→Hp→VK→Prop):Prop:=
  ∀ (pins:List (Addr×Obj)) (s:Shared) (σ:St) (H:Hp) (xs:List V) (us:List Value) (Q:VK),Inv X pins σ H s→Vals xs us→r xs H Q→
    wpAny (model X.prog X.w) X.A (call f us) (EP X pins σ Q) X.xe s
def tOp (r:R2) (ta tb:TE):TE:=fun σ H Q=>ta σ H fun x H1=>tb σ H1 fun y H2=>r x y H2 Q
def tUn (r:V→Hp→VK→Prop) (ta:TE):TE:=fun σ H Q=>ta σ H fun x H1=>r x H1 Q
def rI (C:Int→Int→Prop) (g:Int→Int→V):R2:=fun x y H Q=>∃ i j,x = .int i∧y = .int j∧C i j∧Q (g i j) H
def rI0 (g:Int→Int→V):R2:=fun x y H Q=>∃ i j,x = .int i∧y = .int j∧Q (g i j) H
def rU (g:Int→V):V→Hp→VK→Prop:=fun x H Q=>∃ i,x = .int i∧Q (g i) H
section
variable {X:Cx} {a b c:Expr} {ta tb tc:TE} {pos:Pos}
theorem binT (ha:PE X a ta) (hb:PE X b tb) {pins:List (Addr×Obj)} {s:Shared} {σ:St} {H:Hp} {R:V→V→Hp→Prop} (I:Inv X pins σ H s)
    (h:ta σ H fun x H1=>tb σ H1 fun y H2=>R x y H2) {Q:Value→Shared→Prop} {f:Value→Value→Sem Value}
    (hf:∀ v u s2 x y H2,Inv X pins σ H2 s2→RelV x v→RelV y u→R x y H2→wpAny (model X.prog X.w) X.A (f v u) Q X.xe s2) :
    wpAny (model X.prog X.w) X.A (eval a X.env) (fun v s₁=>wpAny (model X.prog X.w) X.A (eval b X.env) (fun u s₂=>wpAny (model X.prog X.w) X.A (f v u) Q X.xe s₂) X.xe s₁) X.xe s:=by
  refine thn (ha pins s σ H _ I h) fun v s1 ⟨x,H1,I1,r1,q1⟩=>?_
  refine thn (hb pins s1 σ H1 _ I1 q1) fun u s2 ⟨y,H2,I2,r2,q2⟩=>?_
  exact hf v u s2 x y H2 I2 r1 r2 q2
theorem pe_op {op:Operator} {r:R2} (ho:OpR X (binaryOp op) r) (ha:PE X a ta) (hb:PE X b tb):PE X (.BinOp a op b pos) (tOp r ta tb):=by
  intro pins s σ H Q I h
  exact wpAny_BinOp (binT ha hb I h fun v u s2 x y H2 I2 rx ry q=>ho pins s2 σ H2 x y v u Q I2 rx ry q)
theorem pe_un {op:UnaryOp} {r:V→Hp→VK→Prop} (ho:UnR X (unaryOp op) r) (ha:PE X a ta):PE X (.UnaryOp op a pos) (tUn r ta):=by
  intro pins s σ H Q I h
  exact UnaryOp_ (thn (ha pins s σ H _ I h) fun v s1 ⟨x,H1,I1,r1,q1⟩=>ho pins s1 σ H1 x v Q I1 r1 q1)
theorem opI {f:Value→Value→Sem Value} {C:Int→Int→Prop} {g:Int→Int→Int}
    (rule:∀ (i j:Int) (t u:Tok) (s:Shared) (Q:Value→Shared→Prop) (E:Value→Shared→Prop),C i j→Q (.int (g i j) s.toks) { s with toks:=s.toks + 1 }→wpAny (model X.prog X.w) X.A (f (.int i t) (.int j u)) Q E s) :
    OpR X f (rI C fun i j=>.int (g i j)):=by
  intro pins s σ H x y v u Q I rx ry h
  obtain ⟨i,j,rfl,rfl,hc,q⟩:=h
  obtain ⟨t,rfl⟩:=rx
  obtain ⟨t',rfl⟩:=ry
  exact rule i j t t' s _ _ hc ⟨.int (g i j),H,I.tok _,⟨_,rfl⟩,q⟩
theorem opI0 {f:Value→Value→Sem Value} {g:Int→Int→Int}
    (rule:∀ (i j:Int) (t u:Tok) (s:Shared) (Q:Value→Shared→Prop) (E:Value→Shared→Prop),Q (.int (g i j) s.toks) { s with toks:=s.toks + 1 }→wpAny (model X.prog X.w) X.A (f (.int i t) (.int j u)) Q E s) :
    OpR X f (rI0 fun i j=>.int (g i j)):=by
  intro pins s σ H x y v u Q I rx ry h
  obtain ⟨i,j,rfl,rfl,q⟩:=h
  obtain ⟨t,rfl⟩:=rx
  obtain ⟨t',rfl⟩:=ry
  exact rule i j t t' s _ _ ⟨.int (g i j),H,I.tok _,⟨_,rfl⟩,q⟩
theorem opB0 {f:Value→Value→Sem Value} {g:Int→Int→Bool}
    (rule:∀ (i j:Int) (t u:Tok) (s:Shared) (Q:Value→Shared→Prop) (E:Value→Shared→Prop),Q (.bool (g i j)) s→wpAny (model X.prog X.w) X.A (f (.int i t) (.int j u)) Q E s) :
    OpR X f (rI0 fun i j=>.bl (g i j)):=by
  intro pins s σ H x y v u Q I rx ry h
  obtain ⟨i,j,rfl,rfl,q⟩:=h
  obtain ⟨t,rfl⟩:=rx
  obtain ⟨t',rfl⟩:=ry
  exact rule i j t t' s _ _ ⟨.bl (g i j),H,I,rfl,q⟩
def CDiv (i j:Int):Prop:=0 < j∧j < 1073741824
def CPow (i j:Int):Prop:=0≤j∧j≤1000000∧i.natAbs < 2 ^ 64
def CMul (i j:Int):Prop:=(-(2 ^ 64) < i∧i < 2 ^ 64)∨(-(2 ^ 64) < j∧j < 2 ^ 64)
theorem CMul.ok {i j:Int} (h:CMul i j):IntMulOk i j:=by
  rcases h with ⟨h1,h2⟩ | ⟨h1,h2⟩
  · exact .of_left (intBits_le_64 h1 h2)
  · exact .of_right (intBits_le_64 h1 h2)
theorem op_add:OpR X (binaryOp .Add) (rI0 fun i j=>.int (i + j)):=opI0 fun _ _ _ _ _ _ _ q=>add_int q
theorem op_sub:OpR X (binaryOp .Sub) (rI0 fun i j=>.int (i - j)):=opI0 fun _ _ _ _ _ _ _ q=>sub_int q
theorem op_mul:OpR X (binaryOp .Mult) (rI CMul fun i j=>.int (i * j)):=opI fun _ _ _ _ _ _ _ hc q=>mul_int q hc.ok
theorem op_fdiv:OpR X (binaryOp .FloorDiv) (rI CDiv fun i j=>.int (i / j)):=opI fun i j _ _ _ _ _ hc q=>by
  have h1:(0:Int) < j:=hc.1
  have h2:j < 1073741824:=hc.2
  exact floordiv_int (by omega) (by rw [Int.fdiv_eq_ediv_of_nonneg i (by omega)]; exact q) (.inl (PyProof.noPylong_small (by omega)))
theorem op_mod:OpR X (binaryOp .Mod) (rI (fun _ j=>0 < j) fun i j=>.int (i % j)):=opI fun i j _ _ _ _ _ hc q=>by
  have h1:(0:Int) < j:=hc
  exact mod_int' (by omega) (by rw [Int.fmod_eq_emod_of_nonneg i (by omega)]; exact q)
theorem op_pow:OpR X (binaryOp .Pow) (rI CPow fun i j=>.int (i ^ j.toNat)):=opI fun _ _ _ _ _ _ _ hc q=>pow_int_small hc.1 hc.2.1 hc.2.2 q
theorem unI {f:Value→Sem Value} {g:Int→Int}
    (rule:∀ (i:Int) (t:Tok) (s:Shared) (Q:Value→Shared→Prop) (E:Value→Shared→Prop),Q (.int (g i) s.toks) { s with toks:=s.toks + 1 }→wpAny (model X.prog X.w) X.A (f (.int i t)) Q E s) :
    UnR X f (rU fun i=>.int (g i)):=by
  intro pins s σ H x v Q I rx h
  obtain ⟨i,rfl,q⟩:=h
  obtain ⟨t,rfl⟩:=rx
  exact rule i t s _ _ ⟨.int (g i),H,I.tok _,⟨_,rfl⟩,q⟩
theorem un_neg:UnR X (unaryOp .USub) (rU fun i=>.int (-i)):=unI fun _ _ _ _ _ q=>neg_int q
end
def scal:V→V→Bool
  | .non,.non=>true | .non,.int _=>true | .int _,.non=>true | .non,.bl _=>true | .bl _,.non=>true | .non,.str _=>true | .str _,.non=>true
  | .int _,.int _=>true | .bl _,.bl _=>true | .str _,.str _=>true | .byt _,.byt _=>true
  | .int _,.str _=>true | .str _,.int _=>true | .bl _,.str _=>true | .str _,.bl _=>true
  | _,_=>false
def rEq:R2:=fun x y H Q=>scal x y = true∧Q (.bl (decide (x = y))) H
def rNe:R2:=fun x y H Q=>scal x y = true∧Q (.bl (!decide (x = y))) H
theorem dec_int {i j:Int}:decide (V.int i = V.int j) = (i == j):=by
  rw [Bool.eq_iff_iff]
  simp
theorem dec_bl {i j:Bool}:decide (V.bl i = V.bl j) = (i == j):=by
  rw [Bool.eq_iff_iff]
  simp
theorem dec_str {i j:Str}:decide (V.str i = V.str j) = (i == j):=by
  rw [Bool.eq_iff_iff]
  simp
theorem dec_byt {i j:Array UInt8}:decide (V.byt i = V.byt j) = (i.toList == j.toList):=by
  rw [Bool.eq_iff_iff]
  cases i
  cases j
  simp
section
variable {X:Cx} {a b c:Expr} {ta tb tc:TE} {pos:Pos}
theorem fin_bl {pins:List (Addr×Obj)} {σ:St} {H:Hp} {s:Shared} {Q:VK} {k k':Bool} (I:Inv X pins σ H s) (q:Q (.bl k) H) (e:k = k'):EP X pins σ Q (.bool k') s:=by
  subst e
  exact ⟨.bl k,H,I,rfl,q⟩
theorem op_eq:OpR X (compareOp .Eq) rEq:=by
  intro pins s σ H x y v u Q I rx ry h
  obtain ⟨hs,q⟩:=h
  cases x with
  | non=>
    cases rx
    cases y with
    | non=>cases ry; exact PySem.EqNone.eq_none_none (fin_bl I q (by simp))
    | bl j=>cases ry; exact PySem.EqNone.eq_none_bool (fin_bl I q (by simp))
    | int j=>obtain ⟨t',rfl⟩:=ry; exact PySem.EqNone.eq_none_int (fin_bl I q (by simp))
    | str j=>obtain ⟨t',rfl⟩:=ry; exact PySem.EqNone.eq_none_str (fin_bl I q (by simp))
    | _=>exact absurd (show false = true from hs) Bool.false_ne_true
  | bl i=>
    cases rx
    cases y with
    | non=>cases ry; exact PySem.EqNone.eq_bool_none (fin_bl I q (by simp))
    | bl j=>cases ry; exact eq_bool (fin_bl I q dec_bl)
    | str j=>obtain ⟨t',rfl⟩:=ry; exact PySem.EqMixed.eq_bool_str (fin_bl I q (by simp))
    | _=>exact absurd (show false = true from hs) Bool.false_ne_true
  | int i=>
    obtain ⟨t,rfl⟩:=rx
    cases y with
    | non=>cases ry; exact PySem.EqNone.eq_int_none (fin_bl I q (by simp))
    | int j=>obtain ⟨t',rfl⟩:=ry; exact eq_int (fin_bl I q dec_int)
    | str j=>obtain ⟨t',rfl⟩:=ry; exact PySem.EqMixed.eq_int_str (fin_bl I q (by simp))
    | _=>exact absurd (show false = true from hs) Bool.false_ne_true
  | str i=>
    obtain ⟨t,rfl⟩:=rx
    cases y with
    | non=>cases ry; exact PySem.EqNone.eq_str_none (fin_bl I q (by simp))
    | bl j=>cases ry; exact PySem.EqMixed.eq_str_bool (fin_bl I q (by simp))
    | int j=>obtain ⟨t',rfl⟩:=ry; exact PySem.EqMixed.eq_str_int (fin_bl I q (by simp))
    | str j=>obtain ⟨t',rfl⟩:=ry; exact eq_str (fin_bl I q dec_str)
    | _=>exact absurd (show false = true from hs) Bool.false_ne_true
  | byt i=>
    obtain ⟨t,rfl⟩:=rx
    cases y with
    | byt j=>obtain ⟨t',rfl⟩:=ry; exact PySem.W.eq_bytes (fin_bl I q dec_byt)
    | _=>exact absurd (show false = true from hs) Bool.false_ne_true
  | _=>cases y <;> exact absurd (show false = true from hs) Bool.false_ne_true
theorem op_ne:OpR X (compareOp .NotEq) rNe:=by
  intro pins s σ H x y v u Q I rx ry h
  obtain ⟨hs,q⟩:=h
  cases x with
  | non=>
    cases rx
    cases y with
    | non=>cases ry; exact PySem.EqNone.ne_none_none (fin_bl I q (by simp))
    | bl j=>cases ry; exact PySem.EqNone.ne_none_bool (fin_bl I q (by simp))
    | int j=>obtain ⟨t',rfl⟩:=ry; exact PySem.EqNone.ne_none_int (fin_bl I q (by simp))
    | str j=>obtain ⟨t',rfl⟩:=ry; exact PySem.EqNone.ne_none_str (fin_bl I q (by simp))
    | _=>exact absurd (show false = true from hs) Bool.false_ne_true
  | bl i=>
    cases rx
    cases y with
    | non=>cases ry; exact PySem.EqNone.ne_bool_none (fin_bl I q (by simp))
    | bl j=>cases ry; exact ne_bool (fin_bl I q (congrArg not dec_bl))
    | str j=>obtain ⟨t',rfl⟩:=ry; exact PySem.EqMixed.ne_bool_str (fin_bl I q (by simp))
    | _=>exact absurd (show false = true from hs) Bool.false_ne_true
  | int i=>
    obtain ⟨t,rfl⟩:=rx
    cases y with
    | non=>cases ry; exact PySem.EqNone.ne_int_none (fin_bl I q (by simp))
    | int j=>obtain ⟨t',rfl⟩:=ry; exact ne_int (fin_bl I q (congrArg not dec_int))
    | str j=>obtain ⟨t',rfl⟩:=ry; exact PySem.EqMixed.ne_int_str (fin_bl I q (by simp))
    | _=>exact absurd (show false = true from hs) Bool.false_ne_true
  | str i=>
    obtain ⟨t,rfl⟩:=rx
    cases y with
    | non=>cases ry; exact PySem.EqNone.ne_str_none (fin_bl I q (by simp))
    | bl j=>cases ry; exact PySem.EqMixed.ne_str_bool (fin_bl I q (by simp))
    | int j=>obtain ⟨t',rfl⟩:=ry; exact PySem.EqMixed.ne_str_int (fin_bl I q (by simp))
    | str j=>obtain ⟨t',rfl⟩:=ry; exact ne_str (fin_bl I q (congrArg not dec_str))
    | _=>exact absurd (show false = true from hs) Bool.false_ne_true
  | byt i=>
    obtain ⟨t,rfl⟩:=rx
    cases y with
    | byt j=>obtain ⟨t',rfl⟩:=ry; exact PySem.W.ne_bytes (fin_bl I q (congrArg not dec_byt))
    | _=>exact absurd (show false = true from hs) Bool.false_ne_true
  | _=>cases y <;> exact absurd (show false = true from hs) Bool.false_ne_true
theorem op_lt:OpR X (compareOp .Lt) (rI0 fun i j=>.bl (decide (i < j))):=opB0 fun _ _ _ _ _ _ _ q=>lt_int q
theorem op_le:OpR X (compareOp .LtE) (rI0 fun i j=>.bl (decide (i≤j))):=opB0 fun _ _ _ _ _ _ _ q=>le_int q
theorem op_gt:OpR X (compareOp .Gt) (rI0 fun i j=>.bl (decide (j < i))):=opB0 fun _ _ _ _ _ _ _ q=>gt_int q
theorem op_in_str:OpR X (compareOp .In) (fun x y H Q=>∃ i j,x = .str i∧y = .str j∧Q (.bl (!(Builtin.Str.occurrences j i 0 j.length 1).isEmpty)) H):=by
  intro pins s σ H x y v u Q I rx ry h
  obtain ⟨i,j,rfl,rfl,q⟩:=h
  obtain ⟨t,rfl⟩:=rx
  obtain ⟨t',rfl⟩:=ry
  exact in_str (fin_bl I q rfl)
theorem nomark (b:Expr) {op:CmpOp} (h:op≠.In:=by decide) (h2:op≠.NotIn:=by decide):behindInMarks op b = false:=by
  have e1:(op == CmpOp.In) = false:=by cases op <;> first | rfl | exact absurd rfl h
  have e2:(op == CmpOp.NotIn) = false:=by cases op <;> first | rfl | exact absurd rfl h2
  cases b <;> simp [behindInMarks,e1,e2]
theorem pe_cmpR {op:CmpOp} {r:R2} (ho:OpR X (compareOp op) r) (ha:PE X a ta) (hb:PE X b tb) (hm:behindInMarks op b = false):PE X (.Compare a [op] [b] pos) (tOp r ta tb):=by
  intro pins s σ H Q I h
  exact wpAny_Compare1 (binT ha hb I h fun v u s2 x y H2 I2 rx ry q=>ho pins s2 σ H2 x y v u Q I2 rx ry q) hm
def tTest (t:TE):TT:=fun σ H Q=>t σ H fun x H'=>∃ k,x = .bl k∧Q k H'
theorem pt_cmpR {op:CmpOp} {r:R2} (ho:OpR X (compareOp op) r) (ha:PE X a ta) (hb:PE X b tb) (hm:behindInMarks op b = false):PT X (.Compare a [op] [b] pos) (tTest (tOp r ta tb)):=by
  intro pins s σ H Q I h
  refine wpAny_isTrue_Compare1 (thn (ha pins s σ H _ I h) fun v s1 ⟨x,H1,I1,r1,q1⟩=>thn (hb pins s1 σ H1 _ I1 q1) fun u s2 ⟨y,H2,I2,r2,q2⟩=>
    thn (ho pins s2 σ H2 x y v u _ I2 r1 r2 q2) fun c s3 ⟨z,H3,I3,r3,k,e,q3⟩=>?_) hm
  subst e
  cases r3
  exact wpAny_truthy_bool ⟨H3,I3,q3⟩
def tChain (r r':R2) (ta tb tc:TE):TE:=fun σ H Q=>ta σ H fun x H1=>tb σ H1 fun y H2=>r x y H2 fun z H3=>∃ k,z = .bl k∧
  (if k = true then tc σ H3 fun w' H4=>r' y w' H4 Q else Q (.bl false) H3)
theorem pe_chain {op op':CmpOp} {r r':R2} (ho:OpR X (compareOp op) r) (ho':OpR X (compareOp op') r') (ha:PE X a ta) (hb:PE X b tb) (hc:PE X c tc)
    (hm:lastMarks [op,op'] [b,c] = false:=by with_unfolding_all rfl):PE X (.Compare a [op,op'] [b,c] pos) (tChain r r' ta tb tc):=by
  intro pins s σ H Q I h
  refine Compare_chain (thn (ha pins s σ H _ I h) fun v s1 ⟨x,H1,I1,r1,q1⟩=>chain_link (thn (hb pins s1 σ H1 _ I1 q1) fun u s2 ⟨y,H2,I2,r2,q2⟩=>
    thn (ho pins s2 σ H2 x y v u _ I2 r1 r2 q2) fun d s3 ⟨z,H3,I3,r3,k,e,q3⟩=>?_)) hm
  subst e
  cases r3
  refine wpAny_truthy_bool ?_
  cases k with
  | false=>exact ite_ff ⟨.bl false,H3,I3,rfl,q3⟩
  | true=>exact ite_tt (chain_last (thn (hc pins s3 σ H3 _ I3 q3) fun w' s4 ⟨z',H4,I4,r4,q4⟩=>ho' pins s4 σ H4 y z' u w' Q I4 r2 r4 q4))
theorem pt_chain {op op':CmpOp} {r r':R2} (ho:OpR X (compareOp op) r) (ho':OpR X (compareOp op') r') (ha:PE X a ta) (hb:PE X b tb) (hc:PE X c tc)
    (hm:lastMarks [op,op'] [b,c] = false:=by with_unfolding_all rfl):PT X (.Compare a [op,op'] [b,c] pos) (tTest (tChain r r' ta tb tc)):=by
  intro pins s σ H Q I h
  refine isTrue_chain (thn (ha pins s σ H _ I h) fun v s1 ⟨x,H1,I1,r1,q1⟩=>test_link (thn (hb pins s1 σ H1 _ I1 q1) fun u s2 ⟨y,H2,I2,r2,q2⟩=>
    thn (ho pins s2 σ H2 x y v u _ I2 r1 r2 q2) fun d s3 ⟨z,H3,I3,r3,k,e,q3⟩=>?_)) hm
  subst e
  cases r3
  refine wpAny_truthy_bool ?_
  cases k with
  | false=>
    obtain ⟨k',e',q'⟩:=q3
    cases e'
    exact ite_ff ⟨H3,I3,q'⟩
  | true=>
    refine ite_tt (test_last (thn (hc pins s3 σ H3 _ I3 q3) fun w' s4 ⟨z',H4,I4,r4,q4⟩=>thn (ho' pins s4 σ H4 y z' u w' _ I4 r2 r4 q4) fun d' s5 ⟨z2,H5,I5,r5,k2,e2,q5⟩=>?_))
    subst e2
    cases r5
    exact wpAny_truthy_bool ⟨H5,I5,q5⟩
theorem line63:(sizeLine:Nat) < 2 ^ 63:=by rw [sizeLine_eq]; decide
theorem op_add_str:OpR X (binaryOp .Add) (fun x y H Q=>∃ i j,x = .str i∧y = .str j∧i.length + j.length≤sizeLine∧Q (.str (i ++ j)) H):=by
  intro pins s σ H x y v u Q I rx ry h
  obtain ⟨i,j,rfl,rfl,hz,q⟩:=h
  obtain ⟨t,rfl⟩:=rx
  obtain ⟨t',rfl⟩:=ry
  exact add_str (fun t' tk=>⟨.str (i ++ j),H,I.tok _,⟨_,rfl⟩,q⟩) hz
theorem vals1 {x:V} {us:List Value} (r:Vals [x] us):∃ u,us = [u]∧RelV x u:=by
  cases r with
  | cons r1 r2=>cases r2; exact ⟨_,rfl,r1⟩
theorem vals2 {x y:V} {us:List Value} (r:Vals [x,y] us):∃ u w',us = [u,w']∧RelV x u∧RelV y w':=by
  cases r with
  | cons r1 r2=>
    cases r2 with
    | cons r3 r4=>cases r4; exact ⟨_,_,rfl,r1,r3⟩
theorem call_abs:CallR X (.builtin "abs") (fun xs H Q=>∃ i,xs = [.int i]∧Q (.int (if i < 0 then -i else i)) H):=by
  intro pins s σ H xs us Q I r h
  obtain ⟨i,rfl,q⟩:=h
  obtain ⟨u,rfl,t,rfl⟩:=vals1 r
  exact call_abs_int fun u tk=>⟨.int (if i < 0 then -i else i),H,I.tok _,⟨_,rfl⟩,q⟩
theorem call_int1:CallR X (.type "int") (fun xs H Q=>(∃ i,xs = [.int i]∧Q (.int i) H)∨∃ k,xs = [.bl k]∧Q (.int (if k then 1 else 0)) H):=by
  intro pins s σ H xs us Q I r h
  rcases h with ⟨i,rfl,q⟩ | ⟨k,rfl,q⟩
  · obtain ⟨u,rfl,t,rfl⟩:=vals1 r
    exact call_int_int ⟨.int i,H,I,⟨_,rfl⟩,q⟩
  · obtain ⟨u,rfl,r1⟩:=vals1 r
    cases r1
    exact call_int_bool ⟨.int (if k then 1 else 0),H,I.tok _,⟨_,rfl⟩,q⟩
end
end L2
namespace L2
open PySem PySem.Spec PyProof.Rows
structure ObjM (h:Heap) (x dx C:Addr) (mA:Str→Option Value):Prop where
  obj:h.get? x = some (PySem.W.instObj C dx)
  ns:h.Ns1 dx mA
  ne:dx≠x
theorem lookIn_ns {h:Heap} {dx:Addr} {mA:Str→Option Value} (n:h.Ns1 dx mA):∃ od,h.get? dx = some od∧∀ name,PySem.W.lookIn name od = some (mA name):=by
  obtain ⟨o,es,ep,ho,hd,hk,_,hm⟩:=n
  refine ⟨o,ho,fun name=>?_⟩
  have e:=hm name
  unfold nsFind findBy at e
  rw [← Array.find?_toList] at e
  unfold PySem.W.lookIn
  rw [hd]
  dsimp only
  split
  · rename_i y q
    rw [q] at e
    exact congrArg some e
  · rename_i q
    rw [q] at e
    have a:es.toList.any (·.refKey) = false:=by
      rw [List.any_eq_false]
      intro y hy
      obtain ⟨z,t,hkey⟩:=hk y (Array.mem_toList_iff.mp hy)
      simp [DictEntry.refKey,hkey]
    have a':¬ es.toList.any (·.refKey) = true:=by rw [a]; exact Bool.false_ne_true
    rw [if_neg a']
    exact congrArg some e
theorem ObjM.look {h:Heap} {x dx C:Addr} {mA:Str→Option Value} (I:ObjM h x dx C mA):∃ od,PySem.W.InstAt h x (PySem.W.instObj C dx) C (some od)∧∀ name,PySem.W.lookIn name od = some (mA name):=
  let ⟨od,ho,hl⟩:=lookIn_ns I.ns
  ⟨od,⟨I.obj,rfl,rfl,ho⟩,hl⟩
section
variable {prog:Program} {w:World} {A:Around} {E:Value→Shared→Prop} {s:Shared} {K:PySem.W.Frag} {x dx C f:Addr} {mA:Str→Option Value} {name:Str} {v:Value}
theorem set_map {ns:List Str} {Q:Unit→Shared→Prop} (X:K.In s.heap) (I:ObjM s.heap x dx C mA)
    (hs:PySem.W.findIn K (.ref C) "__setattr__" = some (some (.builtin "object.__setattr__"))) (hp:PySem.W.plainOver K C = true) (ht:PySem.W.takerIn K C name = some none) (hh:PySem.W.hasDictIn K C = true)
    (hw:PySem.Within mA ns) (hsz:ns.length≤sizeLine)
    (h:∀ h',ObjM h' x dx C (fun y=>if y = name then some v else mA y)→Heap.SameBut dx s.heap h'→Q () { s with heap:=h',toks:=s.toks + 2 }) :
    wpAny (model prog w) A (setAttr (.ref x) name v) Q E s:=by
  obtain ⟨od,J,hl⟩:=I.look
  refine PySem.W.set_plain X J hs (PySem.W.osa_open (s:={ s with toks:=s.toks + 1 }) (r:=none) X J hp ht fun b=>?_)
  obtain ⟨cd,hc,hd'⟩:=PySem.W.any_some hh
  have hx:s.heap.get? x = some ⟨.ref C,some dx,.plain,#[]⟩:=I.obj
  refine wpAny_bind (wpAny_pure (wpAny_bind (wpAny_bind (wpAny_loadPart hx (wpAny_bind (PySem.W.Looks.here (s:={ s with toks:=s.toks + 1 }) (PySem.W.looks_clsIn X hc) ?_))))))
  rw [hd']
  refine wpAny_pure (a:=some dx) (wpAny_bind (wpAny_pure (wpAny_bind ?_)))
  refine wpAny_nsSet1 (s:={ s with toks:=s.toks + 1 }) I.ns fun h' hn2 hs2=>?_
  obtain ⟨oD,esD,epD,hoD,hdD,hcD⟩:=hn2.count (PySem.Within.cons name v hw)
  refine wpAny_bind (wpAny_lookBehind hoD (by rw [hdD]; exact pastItsLine_dict (Nat.le_trans hcD (by rw [List.length_cons]; omega))) ?_)
  exact wpAny_pure (h _ ⟨(hs2.2 _ (Ne.symm I.ne)).trans I.obj,hn2,I.ne⟩ hs2)
end
theorem RelO.some_of {v:V} {o:Option Value} (r:RelO (some v) o):∃ u,o = some u∧RelV v u:=by
  cases o with
  | none=>exact (show False from r).elim
  | some u=>exact ⟨u,rfl,r⟩
section
variable {P:Program} {w:World} {H H':Hp} {h h':Heap} {a C dx:Addr} {fs fs':List (Str×V)}
theorem ins_get (hok:HOk P w H h) (e:H a = some (.ins C dx fs)):∃ mA,ObjM h a dx C mA∧(∀ f,RelO (fs.lookup f) (mA f))∧PySem.Within mA (fs.map (·.1))∧fs.length≤1000∧H dx = some (.own a):=by
  obtain ⟨d,z,ne,ob,mA,n,r,q⟩:=(show ObjOk P w H h a (.ins C dx fs) from hok a _ e)
  exact ⟨mA,⟨ob,n,ne⟩,r,q,z,d⟩
end
structure Cls (K:PySem.W.Frag) (C:Addr):Prop where
  pg:PySem.W.plainGet K C Str.empty = true
  hd:PySem.W.hasDictIn K C = true
  po:PySem.W.plainOver K C = true
  sa:PySem.W.findIn K (.ref C) "__setattr__" = some (some (.builtin "object.__setattr__"))
theorem Cls.get {K:PySem.W.Frag} {C:Addr} (c:Cls K C) (f:Str):PySem.W.plainGet K C f = true:=c.pg
structure Con (K:PySem.W.Frag) (C:Addr) (f:Str) (v:V) (u:Value):Prop where
  at_:PySem.W.findIn K (.ref C) f = some (some u)
  rel:RelV v u
  get:PySem.W.specialIn K u "__get__" = some none
  cp:PySem.W.copiedNames.contains f = false
structure Meth (K:PySem.W.Frag) (C:Addr) (m:Str) (f:Addr):Prop where
  at_:PySem.W.findIn K (.ref C) m = some (some (.ref f))
  fn:PySem.W.isFn K (.ref f) = true
  kp:PySem.W.keepIn K (.ref f) = true
section
variable {X:Cx} {pins:List (Addr×Obj)} {σ:St} {H:Hp} {s:Shared} {a C dx:Addr} {fs:List (Str×V)} {f:Str} {v:V} {A:Around} {E:Value→Shared→Prop}
theorem Inv.made (I:Inv X pins σ H s):Inv X pins σ (upd (upd H s.heap.objs.size (.own (s.heap.objs.size + 1))) (s.heap.objs.size + 1) (.ins C s.heap.objs.size []))
    { s with heap:=(s.heap.push PySem.W.emptyDict).push (PySem.W.instObj C s.heap.objs.size) }:=by
  have e1:(s.heap.push PySem.W.emptyDict).get? s.heap.objs.size = some PySem.W.emptyDict:=Heap.get?_push_size s.heap rfl
  have e2:((s.heap.push PySem.W.emptyDict).push (PySem.W.instObj C s.heap.objs.size)).get? (s.heap.objs.size + 1) = some (PySem.W.instObj C s.heap.objs.size):=by
    have:=Heap.get?_push_size (s.heap.push PySem.W.emptyDict) (o:=PySem.W.instObj C s.heap.objs.size) rfl
    rwa [Heap.size_push] at this
  have e3:(s.heap.push PySem.W.emptyDict).Ns s.heap.objs.size (fun _=>none):=⟨PySem.W.emptyDict,#[],_,e1,rfl,(fun e he=>absurd he (by simp)),fun _=>rfl⟩
  have I1:=I.laid (a:=s.heap.objs.size) (o:=.own (s.heap.objs.size + 1)) (h':=s.heap.push PySem.W.emptyDict) (t':=s.toks) (fun b u q=>Heap.get?_push_of_some _ q) (Nat.le_refl _) ⟨_,e1⟩
  refine I1.laid (a:=s.heap.objs.size + 1) (o:=.ins C s.heap.objs.size []) (t':=s.toks) (fun b u q=>Heap.get?_push_of_some _ q) (Nat.le_of_eq (Heap.size_push _ _)) ?_
  have ne:s.heap.objs.size≠s.heap.objs.size + 1:=Nat.ne_of_lt (Nat.lt_succ_self _)
  refine ⟨by rw [upd_ne ne,upd_same],Nat.zero_le _,ne,e2,fun _=>none,(Heap.Ns1.of_empty e3).at fun o q=>Heap.get?_push_of_some _ q,fun _=>True.intro,fun y hy=>absurd rfl hy⟩
end
section
variable {X:Cx} {o e value:Expr} {f:Str} {pos pos' tpos:Pos} {ta tv:TE}
end
section
variable {X:Cx} {pins:List (Addr×Obj)} {σ:St} {H:Hp} {s:Shared} {A:Around} {E:Value→Shared→Prop} {Q:Value→Shared→Prop} {c:Value} {b:Bool}
inductive TyOf (K:PySem.W.Frag) (H:Hp):V→Value→Prop where
  | non:TyOf K H .non (.type "NoneType")
  | bl (x:Bool):TyOf K H (.bl x) (.type "bool")
  | int (i:Int):TyOf K H (.int i) (.type "int")
  | str (x:Str):TyOf K H (.str x) (.type "str")
  | flt (x:UInt64):TyOf K H (.flt x) (.type "float")
  | lst {a:Addr} {xs:List V} (e:H a = some (.lst xs)):TyOf K H (.ref a) (.type "list")
  | frz {a:Addr} {o:Obj} {xs:List V} (e:H a = some (.frz o (.lst xs))):TyOf K H (.ref a) (.type "list")
  | tup {a:Addr} {xs:List V} (e:H a = some (.tup xs)):TyOf K H (.ref a) (.type "tuple")
  | dK {a:Addr} {kvs:List (Key×V)} (e:H a = some (.dK kvs)):TyOf K H (.ref a) (.type "dict")
  | dT {a:Addr} {kvs:List (List Key×V)} (e:H a = some (.dT kvs)):TyOf K H (.ref a) (.type "dict")
  | ins {a C dx:Addr} {fs:List (Str×V)} (e:H a = some (.ins C dx fs)) (cl:Cls K C) (ha:PySem.W.findIn K (.ref C) "__class__" = some (some (.builtin "object.__class__")))
      (hn:PySem.W.specialIn K (.builtin "object.__class__") "__get__" = some (some (.builtin "getset_descriptor.__get__"))) (htk:PySem.W.takesIn K (.builtin "object.__class__") = some true)
      (hm:PySem.W.mroIn K C (.type "object") = some true):TyOf K H (.ref a) (.ref C)
theorem isinst_ok {x:V} {u t:Value} (I:Inv X pins σ H s) (rx:RelV x u) (ty:TyOf X.K H x t) (e:PySem.W.kitOne X.K t c = some b) (h:∀ tk,Q (.bool b) { s with toks:=tk }) :
    wpAny (model X.prog X.w) A (call (.builtin "isinstance") [u,c]) Q E s:=by
  cases ty with
  | non=>cases (show u = Value.none from rx); exact PySem.W.kia_one PySem.W.kitx_none I.kIn True.intro e (fun z=>nomatch z) h
  | bl y=>cases (show u = Value.bool y from rx); exact PySem.W.kia_one PySem.W.kitx_bool I.kIn True.intro e (fun z=>nomatch z) h
  | int i=>obtain ⟨t,q⟩:=(show ∃ t,u = Value.int i t from rx); cases q; exact PySem.W.kia_one PySem.W.kitx_int I.kIn True.intro e (fun z=>nomatch z) h
  | str y=>obtain ⟨t,q⟩:=(show ∃ t,u = Value.str y t from rx); cases q; exact PySem.W.kia_one PySem.W.kitx_str I.kIn True.intro e (fun z=>nomatch z) h
  | flt y=>obtain ⟨t,q⟩:=(show ∃ t,u = Value.float y t from rx); cases q; exact PySem.W.kia_one PySem.W.kitx_float I.kIn True.intro e (fun z=>nomatch z) h
  | @lst a xs ea=>
    cases (show u = Value.ref a from rx)
    obtain ⟨_,_,n,_,h1⟩:=(show ObjOk X.prog X.w H s.heap a (.lst xs) from I.hok a _ ea)
    exact PySem.W.kia_one PySem.W.kitx_list I.kIn ⟨_,h1,rfl⟩ e (fun z=>nomatch z) h
  | @frz a ob xs ea=>
    cases (show u = Value.ref a from rx)
    obtain ⟨_,_,_,n,_,h1⟩:=(show ObjOk X.prog X.w H s.heap a (.frz ob (.lst xs)) from I.hok a _ ea)
    exact PySem.W.kia_one PySem.W.kitx_list I.kIn ⟨_,h1,rfl⟩ e (fun z=>nomatch z) h
  | @tup a xs ea=>
    cases (show u = Value.ref a from rx)
    obtain ⟨_,_,_,p⟩:=(show ObjOk X.prog X.w H s.heap a (.tup xs) from I.hok a _ ea)
    obtain ⟨o,h1,h2,_⟩:=p
    exact PySem.W.kia_one PySem.W.kitx_tuple I.kIn ⟨o,h1,h2⟩ e (fun z=>nomatch z) h
  | @dK a kvs ea=>
    cases (show u = Value.ref a from rx)
    obtain ⟨_,_,vs,_,p⟩:=(show ObjOk X.prog X.w H s.heap a (.dK kvs) from I.hok a _ ea)
    obtain ⟨o,es,ep,h1,h2,_⟩:=p
    exact PySem.W.kia_one PySem.W.kitx_dict I.kIn ⟨o,h1,h2.1⟩ e (fun z=>nomatch z) h
  | @dT a kvs ea=>
    cases (show u = Value.ref a from rx)
    obtain ⟨_,_,xs,_,o,es,ep,h1,h2,_⟩:=(show ObjOk X.prog X.w H s.heap a (.dT kvs) from I.hok a _ ea)
    exact PySem.W.kia_one PySem.W.kitx_dict I.kIn ⟨o,h1,h2.1⟩ e (fun z=>nomatch z) h
  | @ins a C dx fs ea cl ha hn htk hm=>
    cases (show u = Value.ref a from rx)
    obtain ⟨mA,O,_⟩:=ins_get I.hok ea
    obtain ⟨od,J,_⟩:=O.look
    exact PySem.W.kia_one (PySem.W.kitx_own (cl.get _) cl.hd ha hn htk hm) I.kIn J e (fun z=>nomatch z) h
end
end L2
namespace L2
open PySem PySem.Spec PyProof.Rows
structure Room (k:Nat) (A:Around):Prop where
  hd:A.handled = none
  dp:A.depth + 3 * k + 5 < recursionLimit
  un:A.units + 16 * k + 200 < cLine
theorem Room.mono {j k:Nat} {A:Around} (r:Room k A) (h:j≤k):Room j A:=⟨r.hd,by have:=r.dp; omega,by have:=r.un; omega⟩
theorem Room.deeper {k:Nat} {A:Around} (r:Room (k + 1) A) (env:Env):Room k (A.deeper env):=
  ⟨r.hd,by have:=r.dp; show A.depth + 1 + 3 * k + 5 < _; omega,by have:=r.un; show A.units + 3 + 16 * k + 200 < _; omega⟩
theorem Room.in1 {k:Nat} {A:Around} (r:Room (k + 1) A):Room k A.in1:=
  ⟨r.hd,by have:=r.dp; show A.depth + 3 * k + 5 < _; omega,by have:=r.un; show A.units + 1 + 16 * k + 200 < _; omega⟩
theorem Room.depth {k:Nat} {A:Around} (r:Room k A):A.depth < recursionLimit:=by have:=r.dp; omega
theorem Room.units {k:Nat} {A:Around} (r:Room k A):A.units + 64 < cLine:=by have:=r.un; omega
def tNil:TA:=fun _ H Q=>Q [] H
def tCons (ta:TE) (tr:TA):TA:=fun σ H Q=>ta σ H fun x H1=>tr σ H1 fun xs H2=>Q (x :: xs) H2
section
variable {X:Cx} {e:Expr} {es:List Expr} {te:TE} {t:TA} {pos:Pos}
theorem pa_nil:PA X [] tNil:=fun _ _ _ _ H Q I h=>Calls.spliced_nil ⟨[],H,I,.nil,h⟩
theorem pa_cons (ha:PE X e te) (hr:PA X es t) (hs:starEach (e :: es) X.env = (false,eval e X.env) :: starEach es X.env:=by rfl):PA X (e :: es) (tCons te t):=by
  intro pos pins s σ H Q I h
  rw [hs]
  show wpAny _ _ (spliced ((false,eval e X.env) :: backTo pos (starEach es X.env))) _ _ s
  refine Calls.spliced_cons (thn (ha pins s σ H _ I h) fun u s1 ⟨x,H1,I1,r1,q1⟩=>?_)
  exact thn (hr pos pins s1 σ H1 _ I1 q1) fun us s2 ⟨xs,H2,I2,r2,q2⟩=>⟨x :: xs,H2,I2,.cons r1 r2,q2⟩
def tTup (t:TA):TE:=fun σ H Q=>t σ H fun xs H1=>xs.length≤sizeLine∧∀ p,H1 p = none→Q (.ref p) (upd H1 p (.tup xs))
def tLst (t:TA):TE:=fun σ H Q=>t σ H fun xs H1=>xs.length≤sizeLine∧∀ p,H1 p = none→Q (.ref p) (upd H1 p (.lst xs))
theorem pe_tup {x1} (h:PA X es t):PE X (.Tuple es x1 pos) (tTup t):=by
  intro pins s σ H Q I hq
  refine wpAny_Tuple_spliced (thn (h pos pins s σ H _ I hq) fun us s1 ⟨xs,H1,I1,r,z,q⟩=>⟨by rw [← r.length]; exact z,?_⟩)
  have hf:H1 s1.heap.objs.size = none:=I1.hok.fresh (Nat.le_refl _)
  refine ⟨.ref s1.heap.objs.size,upd H1 s1.heap.objs.size (.tup xs),I1.laid (t':=s1.toks) (fun b u e=>Heap.get?_push_of_some _ e) (Nat.le_refl _) ?_,rfl,q _ hf⟩
  exact ⟨z,us,r,⟨_,Heap.get?_push_size _ rfl,rfl,_,rfl,fun _=>rfl⟩⟩
theorem pe_lst (h:PA X es t):PE X (.List es pos) (tLst t):=by
  intro pins s σ H Q I hq
  refine wpAny_List_spliced (thn (h pos pins s σ H _ I hq) fun us s1 ⟨xs,H1,I1,r,z,q⟩=>⟨by rw [← r.length]; exact z,?_⟩)
  have hf:H1 s1.heap.objs.size = none:=I1.hok.fresh (Nat.le_refl _)
  refine ⟨.ref s1.heap.objs.size,upd H1 s1.heap.objs.size (.lst xs),I1.laid (t':=s1.toks) (fun b u e=>Heap.get?_push_of_some _ e) (Nat.le_refl _) ?_,rfl,q _ hf⟩
  exact ⟨z,us,0,r,Heap.get?_push_size _ rfl⟩
end
abbrev Sp:=List V→Hp→VK→XK→Prop
abbrev CXT:=List Env→Hp→Shared→XK→Value→Shared→Prop
structure Env0 (P:Program) (w:World) (K:PySem.W.Frag) (mg:Str→Option Value) (base:Heap) (A:Around) (outer:List Env) (s:Shared) (H:Hp):Prop where
  frames:A.frames = some outer
  mod:Mod K mg base
  bs:∀ b o,base.get? b = some o→s.heap.get? b = some o∧H b = none
  bsz:base.objs.size≤s.heap.objs.size
  funs:s.heap.FunFrames base outer
  frf:∀ b∈frs outer,H b = none
  hok:HOk P w H s.heap
  bare:AllBare s.gens
def CE (outer:List Env) (P:Program) (w:World) (H:Hp) (s:Shared) (Q:VK) (u:Value) (s':Shared):Prop:=
  ∃ v H',s'.os = s.os∧AllBare s'.gens∧Un (frs outer) [] H H' s.heap s'.heap∧HOk P w H' s'.heap∧RelV v u∧Q v H'
def CR (CX:CXT) (outer:List Env) (P:Program) (w:World) (H:Hp) (s:Shared) (Q:VK) (E:XK) (r:Result) (s':Shared):Prop:=
  match r with
  | .ok (.ret u)=>CE outer P w H s Q u s'
  | .ok _=>False
  | .error e=>CX outer H s E e s'
structure FnOk (P:Program) (w:World) (K:PySem.W.Frag) (mg:Str→Option Value) (base:Heap) (CX:CXT) (k:Nat) (f:Addr) (fd:FuncData) (ps:List Str) (sp:Sp):Prop where
  len:∀ vs H Q E,sp vs H Q E→vs.length = ps.length
  run:∀ (A:Around) (outer:List Env) (s:Shared) (H:Hp) (args:Args) (us:List Value) (vs:List V) (Q:VK) (E:XK),Room k A→Env0 P w K mg base A outer s H→BindsTo s fd args (ps.zip us)→Vals vs us→sp vs H Q E→
    codeAny (model P w) A (.call (.ref f) args) (CR CX outer P w H s Q E) s
theorem FnOk.mono {P:Program} {w:World} {K:PySem.W.Frag} {mg:Str→Option Value} {base:Heap} {CX:CXT} {j k:Nat} {f:Addr} {fd:FuncData} {ps:List Str} {sp:Sp} (F:FnOk P w K mg base CX j f fd ps sp) (h:j≤k) :
    FnOk P w K mg base CX k f fd ps sp:=⟨F.len,fun A outer s H args us vs Q E hr=>F.run A outer s H args us vs Q E (hr.mono h)⟩
theorem FnOk.imp {P:Program} {w:World} {K:PySem.W.Frag} {mg:Str→Option Value} {base:Heap} {CX:CXT} {k:Nat} {f:Addr} {fd:FuncData} {ps:List Str} {sp sp':Sp} (F:FnOk P w K mg base CX k f fd ps sp)
    (h:∀ vs H Q E,sp' vs H Q E→sp vs H Q E):FnOk P w K mg base CX k f fd ps sp':=
  ⟨fun vs H Q E q=>F.len vs H Q E (h _ _ _ _ q),fun A outer s H args us vs Q E hr he hb hv hs=>F.run A outer s H args us vs Q E hr he hb hv (h _ _ _ _ hs)⟩
theorem Env0.in1 {P:Program} {w:World} {K:PySem.W.Frag} {mg:Str→Option Value} {base:Heap} {A:Around} {outer:List Env} {s:Shared} {H:Hp} (e:Env0 P w K mg base A outer s H) :
    Env0 P w K mg base A.in1 outer s H:=⟨e.frames,e.mod,e.bs,e.bsz,e.funs,e.frf,e.hok,e.bare⟩
section
variable {X:Cx} {pins:List (Addr×Obj)} {σ:St} {H:Hp} {s s':Shared}
theorem Inv.env0 (I:Inv X pins σ H s):Env0 X.prog X.w X.K X.mg X.base X.A X.stack s H:=
  ⟨I.ok.frames,I.ok.mod,I.bs,Nat.le_trans I.ok.bsz I.sz,I.stack,I.stkFree,I.hok,I.bare⟩
theorem Inv.after {Q:VK} {u:Value} (I:Inv X pins σ H s) (h:CE X.stack X.prog X.w H s Q u s'):EP X pins σ Q u s':=by
  obtain ⟨v,H',os,bare,un,hok,r,q⟩:=h
  obtain ⟨hh,g,d,t,os'⟩:=s'
  obtain rfl:os' = s.os:=os
  exact ⟨v,H',I.call (h':=hh) (g':=g) (d':=d) (t':=t) (ch:=[]) un hok bare (fun b z=>absurd z (by simp)),r,q⟩
end
def tCall (sp:Sp) (dvs:List V) (E:XK) (t:TA):TE:=fun σ H Q=>t σ H fun vs H1=>sp (vs ++ dvs) H1 Q E
def Binds (K:PySem.W.Frag) (fd:FuncData) (ps:List Str) (ds:List Value):Prop:=
  ∀ (s:Shared) (us:List Value),K.In s.heap→(us ++ ds).length = ps.length→BindsTo s fd ⟨us,[]⟩ (ps.zip (us ++ ds))
theorem Binds.all {K:PySem.W.Frag} {fd:FuncData} {ps:List Str} (h:∀ us:List Value,us.length = ps.length→bindArgs fd ⟨us,[]⟩ = pure (ps.zip us)):Binds K fd ps []:=fun s us _ hl=>by
  rw [List.append_nil] at hl ⊢
  exact .of_eq (h us hl)
def Passes (CX:CXT) (X:Cx) (E:XK):Prop:=∀ (pins:List (Addr×Obj)) (σ:St) (H:Hp) (s:Shared) (e:Value) (s':Shared),Inv X pins σ H s→CX X.stack H s E e s'→X.xe e s'
section
variable {X:Cx} {CX:CXT} {k:Nat} {f C:Addr} {fd:FuncData} {ps:List Str} {sp:Sp} {dvs:List V} {ds:List Value} {E:XK} {x m:Str} {p pos apos:Pos} {e o:Expr} {es:List Expr} {ta:TE} {t:TA}
theorem run_fn {pins:List (Addr×Obj)} {σ:St} {H:Hp} {s:Shared} {Q:VK} {us:List Value} {vs:List V} (F:FnOk X.prog X.w X.K X.mg X.base CX k f fd ps sp) (hr:Room k X.A) (hb:Binds X.K fd ps ds) (hd:Vals dvs ds) (hx:Passes CX X E)
    (I:Inv X pins σ H s) (r:Vals vs us) (h:sp (vs ++ dvs) H Q E):wpAny (model X.prog X.w) X.A (call (.ref f) us) (EP X pins σ Q) X.xe s:=by
  have r2:Vals (vs ++ dvs) (us ++ ds):=r.append hd
  have hl:(us ++ ds).length = ps.length:=by rw [← r2.length]; exact F.len _ _ _ _ h
  refine wpAny_call (codeAny_mono (F.run X.A X.stack s H ⟨us,[]⟩ (us ++ ds) (vs ++ dvs) Q E hr I.env0 (hb s us I.kIn hl) r2 h) fun r s' hq=>?_)
  cases r with
  | error e=>exact hx pins σ H s e s' I hq
  | ok fl=>
    cases fl with
    | ret u=>exact I.after hq
    | next=>exact False.elim hq
    | brk=>exact False.elim hq
    | cont=>exact False.elim hq
theorem pe_call (F:FnOk X.prog X.w X.K X.mg X.base CX k f fd ps sp) (hr:Room k X.A) (hg:Gl X x) (hm:X.mg x = some (.ref f)) (hk:PySem.W.keepIn X.K (.ref f) = true) (hb:Binds X.K fd ps ds) (hd:Vals dvs ds) (hx:Passes CX X E)
    (ha:PA X (e :: es) t) (hdb:(x == ("__debug__":Str)) = false:=by decide) (he:starEach (e :: es) X.env = (false,eval e X.env) :: starEach es X.env:=by rfl) (hpl:(backTo pos (starEach es X.env)).any (·.1) = false:=by rfl) :
    PE X (.Call (.Name x p) (e :: es) [] pos) (tCall sp dvs E t):=by
  intro pins s σ H Q I h
  refine wpAny_Call_Name_kw (ld_glob I hg hm ?_ hdb)
  refine PySem.W.callWith_K (h₀:=X.base) I.ok.mod.kin hk (thn (ha pos pins s σ H _ I h) fun us s1 ⟨vs,H1,I1,r,q⟩=>⟨I1.kIn,?_⟩) he hpl
  exact run_fn F hr hb hd hx I1 r q
structure Mk (K:PySem.W.Frag) (C f:Addr):Prop where
  makes:PySem.W.makesIn K C = true
  init:PySem.W.findIn K (.ref C) "__init__" = some (some (.ref f))
  fn:PySem.W.isFn K (.ref f) = true
  kp:PySem.W.keepIn K (.ref C) = true
end
section
variable {X:Cx} {CX:CXT} {k:Nat} {f C:Addr} {fd:FuncData} {ps ks:List Str} {sp:Sp} {E:XK} {x m:Str} {p pos apos kpos:Pos} {e o:Expr} {es:List Expr} {kws:List Keyword} {te ta:TE} {t tk:TA} {nm:Option Str}
structure KBinds (K:PySem.W.Frag) (fd:FuncData) (ps ks:List Str) (g:List Value→List Value→List Value) (gV:List V→List V→List V):Prop where
  to:∀ (s:Shared) (us ws:List Value),K.In s.heap→(g us ws).length = ps.length→BindsTo s fd ⟨us,ks.zip ws⟩ (ps.zip (g us ws))
  rel:∀ {vs:List V} {us:List Value} {zs:List V} {ws:List Value},Vals vs us→Vals zs ws→Vals (gV vs zs) (g us ws)
variable {g:List Value→List Value→List Value} {gV:List V→List V→List V}
end
structure FnScope (N P:List Str) (sc:Scope):Prop where
  kind:sc.kind = .function
  co:sc.isCoroutine = false
  gen:sc.isGenerator = false
  nd:N.Nodup
  pre:N.take P.length = P
  par:∀ x∈P,sc.names.lookup x = some .local∨sc.names.lookup x = some .cell
  nofree:∀ y∈sc.names,y.2≠.free
theorem bindL_out {kindOf:Str→Option NameKind} {x:Str}:∀ {binds:List (Str×Value)} {m:Str→Option Value},(∀ v,(x,v) ∉ binds)→bindL kindOf binds m x = m x
  | [],_,_=>rfl
  | (n,v) :: r,m,h=>by
    unfold bindL
    rw [bindL_out fun w hw=>h w (List.mem_cons_of_mem _ hw)]
    split
    · have:x≠n:=by rintro rfl; exact h v List.mem_cons_self
      simp [this]
    · rfl
theorem bindC_out {kindOf:Str→Option NameKind} {x:Str}:∀ {binds:List (Str×Value)} {m:Str→Option Value},(∀ v,(x,v) ∉ binds)→bindC kindOf binds m x = m x
  | [],_,_=>rfl
  | (n,v) :: r,m,h=>by
    unfold bindC
    rw [bindC_out fun w hw=>h w (List.mem_cons_of_mem _ hw)]
    split
    · rfl
    · have:x≠n:=by rintro rfl; exact h v List.mem_cons_self
      simp [this]
theorem bindL_get {kindOf:Str→Option NameKind} {x:Str} {v:Value}:∀ {P:List Str} {vs:List Value} {i:Nat} {m:Str→Option Value},P.Nodup→P[i]? = some x→vs[i]? = some v→kindOf x = some .local→
    bindL kindOf (P.zip vs) m x = some v
  | [],_,_,_,_,h,_,_=>by simp at h
  | _ :: _,[],_,_,_,_,h,_=>by simp at h
  | p :: P,w :: vs,0,m,nd,h1,h2,hk=>by
    simp at h1 h2; subst h1; subst h2
    show bindL kindOf ((p,w) :: P.zip vs) m p = _
    unfold bindL
    rw [bindL_out fun v hv=>(List.nodup_cons.mp nd).1 (List.of_mem_zip hv).1,if_pos hk]
    simp
  | p :: P,w :: vs,i + 1,m,nd,h1,h2,hk=>by
    show bindL kindOf ((p,w) :: P.zip vs) m x = _
    unfold bindL
    exact bindL_get (i:=i) (List.nodup_cons.mp nd).2 (by simpa using h1) (by simpa using h2) hk
theorem bindC_get {kindOf:Str→Option NameKind} {x:Str} {v:Value}:∀ {P:List Str} {vs:List Value} {i:Nat} {m:Str→Option Value},P.Nodup→P[i]? = some x→vs[i]? = some v→kindOf x≠some .local→
    bindC kindOf (P.zip vs) m x = some v
  | [],_,_,_,_,h,_,_=>by simp at h
  | _ :: _,[],_,_,_,_,h,_=>by simp at h
  | p :: P,w :: vs,0,m,nd,h1,h2,hk=>by
    simp at h1 h2; subst h1; subst h2
    show bindC kindOf ((p,w) :: P.zip vs) m p = _
    unfold bindC
    rw [bindC_out fun v hv=>(List.nodup_cons.mp nd).1 (List.of_mem_zip hv).1,if_neg hk]
    simp
  | p :: P,w :: vs,i + 1,m,nd,h1,h2,hk=>by
    show bindC kindOf ((p,w) :: P.zip vs) m x = _
    unfold bindC
    exact bindC_get (i:=i) (List.nodup_cons.mp nd).2 (by simpa using h1) (by simpa using h2) hk
def start (N:List Str) (vs:List V):St:=vs.map some ++ List.replicate (N.length - vs.length) none
def cxOf (CX:CXT) (P:Program) (w:World) (K:PySem.W.Frag) (mg:Str→Option Value) (base:Heap) (N:List Str) (qual:Str) (scope:Scope) (f:Addr) (cd:Value) (A:Around) (outer:List Env) (s:Shared) (H:Hp) (E:XK):Cx where
  prog:=P
  w:=w
  K:=K
  mg:=mg
  base:=base
  A:=A.deeper (envOfC qual scope s.heap.objs.size f cd)
  N:=N
  s₀:=s
  H₀:=H
  env:=envOfC qual scope s.heap.objs.size f cd
  outer:=outer
  stack:=envOfC qual scope s.heap.objs.size f cd :: outer
  ex:=[]
  calm:=true
  fn:=fun _=>true
  pn:=[]
  xe:=fun e s'=>wpAny (model P w) (A.deeper (envOfC qual scope s.heap.objs.size f cd)) (leaving (envOfC qual scope s.heap.objs.size f cd) e) (fun _ s''=>CX outer H s E e s'') (fun e' s''=>CX outer H s E e' s'') s'
theorem cell_has {sc:Scope} {n:Nat} {x:Str} (h:sc.names.lookup x = some .cell):∃ c,(cellsFrom n sc.names []).lookup x = some c:=by
  have q:=PySem.W.cellsFrom_some sc.names n [] (.inl h)
  exact Option.isSome_iff_exists.mp q
theorem inv_start {CX:CXT} {P:Program} {w:World} {K:PySem.W.Frag} {mg:Str→Option Value} {base:Heap} {N ps:List Str} {qual:Str} {scope:Scope} {f:Addr} {cd:Value} {A:Around} {outer:List Env} {s s1:Shared} {H:Hp} {E:XK} {us:List Value} {vs:List V}
    (S:FnScope N ps scope) (hd:A.handled = none) (e0:Env0 P w K mg base A outer s H) (hl:vs.length = ps.length) (r:Vals vs us)
    (x:InCallC s s.heap.objs.size (bindL (envOfC qual scope s.heap.objs.size f cd).kindOf (ps.zip us) fun _=>none) (cellsFrom (s.heap.objs.size + 1) scope.names []) (bindC (envOfC qual scope s.heap.objs.size f cd).kindOf (ps.zip us) fun _=>none) s1) :
    Inv (cxOf CX P w K mg base N qual scope f cd A outer s H E) [] (start N vs) H s1:=by
  have hpl:ps.length≤N.length:=by have:=congrArg List.length S.pre; rw [List.length_take] at this; omega
  obtain ⟨h1,tk,rfl,hk⟩:=x.done
  have noA:∀ b:Addr,b ∉ (cxOf CX P w K mg base N qual scope f cd A outer s H E).ex:=fun b z=>absurd (show b∈([]:List Addr) from z) (by simp)
  refine ⟨⟨e0.mod,S.kind,rfl,rfl,Nat.le_refl _,fun y z c h1 h2=>?_,fun y hy=>?_,fun y c _ h=>?_,fun _=>hd,Around.frames_deeper e0.frames,.inr ⟨rfl,rfl⟩,fun b z=>absurd z (noA b),e0.bs,e0.bsz,fun b _ _=>noA b,fun b z=>absurd z (noA b),e0.funs,e0.frf⟩,
    rfl,e0.bare,Un.kept hk,⟨_,x.toInCall.ns,fun i y v h1 h2 h3=>?_⟩,fun y c h=>⟨_,x.cell y c h⟩,e0.hok.fresh (Nat.le_refl _),fun y c h=>?_,fun p hp=>absurd (show p∈([]:List (Addr×Obj)) from hp) (by simp),e0.hok.kept hk,?_⟩
  · exact name_of_addr x.apart (PySem.mem_of_lookup h1) (PySem.mem_of_lookup h2)
  · have hy:scope.names.lookup y = some .cell∨scope.names.lookup y = some .free:=hy
    rcases hy with hy | hy
    · exact cell_has hy
    · exact absurd rfl (S.nofree _ (PySem.mem_of_lookup hy))
  · exact Nat.le_of_lt (x.above y c (PySem.mem_of_lookup h))
  · have hi:i < vs.length:=by
      unfold start at h2
      by_cases hi:i < vs.length
      · exact hi
      · rw [List.getElem?_append_right (by simpa using hi)] at h2
        rw [List.getElem?_replicate] at h2
        split at h2 <;> cases h2
    have ha:vs[i]? = some v:=by
      unfold start at h2
      rw [List.getElem?_append_left (by simpa using hi),List.getElem?_map] at h2
      cases e:vs[i]? with
      | none=>rw [e] at h2; cases h2
      | some a=>rw [e] at h2; cases h2; rfl
    obtain ⟨u,hu,rv⟩:=r.get ha
    have hp:ps[i]? = some y:=by
      rw [← S.pre,List.getElem?_take_of_lt (by omega)]; exact h1
    have ndP:ps.Nodup:=by rw [← S.pre]; exact S.nd.sublist (List.take_sublist _ _)
    refine ⟨u,rv,?_⟩
    rcases S.par y (List.mem_of_getElem? hp) with k | k
    · exact .inl ⟨k,bindL_get ndP hp hu k⟩
    · obtain ⟨c,e⟩:=cell_has (n:=s.heap.objs.size + 1) k
      refine .inr ⟨.inl k,c,e,?_⟩
      have q:=x.cell y c e
      rw [bindC_get ndP hp hu (by show scope.names.lookup y≠_; rw [k]; decide)] at q
      exact q
  · exact e0.hok.fresh (Nat.le_of_lt (x.above y c (PySem.mem_of_lookup h)))
  · unfold start
    show _ = N.length
    rw [List.length_append,List.length_map,List.length_replicate]
    omega
theorem fn_of {CX:CXT} {P:Program} {w:World} {K:PySem.W.Frag} {mg:Str→Option Value} {base:Heap} {k:Nat} {f:Addr} {name qual:Str} {params:Arguments} {body:List Stmt} {scope:Scope} {dV kV doc pm cdv ct oc:Value} {an od:Option Addr}
    {osl:Array (Option Value)} {N ps:List Str} {sp:Sp} (lk:K.lookup f = some ⟨oc,od,.func (PySem.W.fnOf name qual params body scope dV kV doc pm an cdv ct),osl⟩) (hcd:PySem.W.codeIn K cdv qual = true) (S:FnScope N ps scope)
    (len:∀ vs H Q E,sp vs H Q E→vs.length = ps.length)
    (hbody:∀ (A:Around) (outer:List Env) (s:Shared) (H:Hp) (vs:List V) (Q:VK) (E:XK),Room k (A.deeper (envOfC qual scope s.heap.objs.size f cdv))→sp vs H Q E→
      ∃ t,PSs (cxOf CX P w K mg base N qual scope f cdv A outer s H E) body t∧t { nx:=fun _ H'=>Q .non H',rt:=Q } (start N vs) H) :
    FnOk P w K mg base CX (k + 1) f (PySem.W.fnOf name qual params body scope dV kV doc pm an cdv ct) ps sp:=by
  refine ⟨len,fun A outer s H args us vs Q E hr e0 hb r hsp=>?_⟩
  have hl:=len _ _ _ _ hsp
  have KX:K.In s.heap:=e0.mod.kin.keeps fun b o e=>(e0.bs b o e).1
  have lim:s.heap.NoLimit:=e0.mod.nolimit.keeps fun b o e=>(e0.bs b o e).1
  have hkind:∀ y∈ps.zip us,scope.names.lookup y.1 = some .local∨(scope.names.lookup y.1 = some .cell∧((cellsFrom (s.heap.objs.size + 1) scope.names []).lookup y.1).isSome = true):=fun ⟨n,v⟩ hy=>by
    rcases S.par n (List.of_mem_zip hy).1 with q | q
    · exact .inl q
    · exact .inr ⟨q,PySem.W.cellsFrom_some _ _ _ (.inl q)⟩
  refine codeAny_call_function hr.depth (KX _ _ lk) rfl S.co S.gen rfl (PySem.W.codeRec_of KX hcd) (hb _ _ _ _ ?_)
  refine wpAny_newFunctionEnv_cells S.kind hkind fun env he s1 x=>?_
  subst he
  refine ⟨lim.keeps x.toInCall.keep,codeAny_func ?_⟩
  obtain ⟨t,ht,hq⟩:=hbody A outer s H vs Q E (hr.deeper _) hsp
  have I:Inv (cxOf CX P w K mg base N qual scope f cdv A outer s H E) [] (start N vs) H s1:=inv_start S hr.hd e0 hl r x
  refine wpAny_mono (ht [] s1 (start N vs) H _ I hq) (fun fl s' hs=>?_) fun e s' hs=>hs
  have fin:∀ {σ':St} {H':Hp} {v:V} {u:Value},Inv (cxOf CX P w K mg base N qual scope f cdv A outer s H E) [] σ' H' s'→RelV v u→Q v H'→CE outer P w H s Q u s':=
    fun {σ' H' v u} J rv q=>⟨v,H',J.os,J.bare,J.base,J.hok,rv,q⟩
  cases fl with
  | ret u=>
    obtain ⟨v,σ',H',J,rv,q⟩:=hs
    exact fin J rv q
  | next=>
    obtain ⟨σ',H',J,q⟩:=hs
    exact fin (v:=V.non) (u:=Value.none) J rfl q
  | brk=>
    obtain ⟨_,_,_,q⟩:=hs
    exact False.elim q
  | cont=>
    obtain ⟨_,_,_,q⟩:=hs
    exact False.elim q
end L2
namespace L2
open PySem PySem.Spec PyProof.Rows
section
variable {X:Cx} {x:Str} {p pos:Pos} {e:Expr} {es:List Expr} {t:TA} {id T:String} {r:List V→Hp→VK→Prop}
def tCB (r:List V→Hp→VK→Prop) (t:TA):TE:=fun σ H Q=>t σ H fun vs H1=>r vs H1 Q
theorem pe_callB (hc:CallR X (.builtin id) r) (hg:Gl X x) (hm:X.mg x = none) (hv:bootBuiltins x = some (.builtin id)) (ha:PA X (e :: es) t) (hn:x≠"__name__":=by decide) (hdb:(x == ("__debug__":Str)) = false:=by decide)
    (he:starEach (e :: es) X.env = (false,eval e X.env) :: starEach es X.env:=by rfl) (hpl:(backTo pos (starEach es X.env)).any (·.1) = false:=by rfl):PE X (.Call (.Name x p) (e :: es) [] pos) (tCB r t):=by
  intro pins s σ H Q I h
  refine wpAny_Call_Name_kw (ld_blt I hg hm hv ?_ hn hdb)
  exact PyProof.Rows.callWith_builtin1 (thn (ha pos pins s σ H _ I h) fun us s1 ⟨vs,H1,I1,r1,q1⟩=>hc pins s1 σ H1 vs us Q I1 r1 q1) he hpl
theorem pe_callTy (hc:CallR X (.type T) r) (hg:Gl X x) (hm:X.mg x = none) (hv:bootBuiltins x = some (.type T)) (ha:PA X (e :: es) t) (hn:x≠"__name__":=by decide) (hdb:(x == ("__debug__":Str)) = false:=by decide)
    (he:starEach (e :: es) X.env = (false,eval e X.env) :: starEach es X.env:=by rfl) (hpl:(backTo pos (starEach es X.env)).any (·.1) = false:=by rfl):PE X (.Call (.Name x p) (e :: es) [] pos) (tCB r t):=by
  intro pins s σ H Q I h
  refine wpAny_Call_Name_kw (ld_blt I hg hm hv ?_ hn hdb)
  exact PyProof.Rows.callWith_type1 (thn (ha pos pins s σ H _ I h) fun us s1 ⟨vs,H1,I1,r1,q1⟩=>hc pins s1 σ H1 vs us Q I1 r1 q1) he hpl
end
end L2
namespace HT
open PySem PyProof.Rows
section
open PySem.SeqAt
open PySem.AutoSeq1 (wpAny_loadPart')
open PySem.MeetsSeq PySem.MeetsSeq2 PySem.MeetsSeq3
end
section
variable {prog:Program} {w:World} {A:Around} {E:Value→Shared→Prop} {s:Shared}
theorem cat_tup {t b:Addr} {vs ws:List Value} {Q:Value→Shared→Prop} (ht:IsTup s.heap t vs.toArray) (hb:IsTup s.heap b ws.toArray) (hv:vs≠[])
    (h1:ws = []→Q (.ref t) s) (h2:ws≠[]→Q (.ref s.heap.objs.size) { s with heap:=s.heap.push { cls:=.type "tuple",data:=.seq (vs ++ ws).toArray } })
    (hsz:vs.length + ws.length≤sizeLine):wpAny (model prog w) A (binaryOp .Add (.ref t) (.ref b)) Q E s:=by
  obtain ⟨⟨cls,dd,data,sl⟩,ho,hc,n,hd⟩:=id ht
  obtain ⟨⟨cls2,dd2,data2,sl2⟩,ho2,hc2,n2,hd2⟩:=id hb
  simp only at hc hd hc2 hd2
  subst hc hd hc2 hd2
  have e:vs.toArray ++ ws.toArray = (vs ++ ws).toArray:=by simp
  by_cases hw:ws = []
  · exact concat_meets ⟨_,ho,rfl⟩ ⟨_,ho2,rfl⟩ noFill_tuple_add seq_tuple_add PySem.F.slot_tuple_add PySem.F.entry_tuple_add (PySem.F.args_tuple_add_2 _ _)
      (tuple_addW1 t b vs.toArray ws.toArray n n2 dd dd2 sl sl2 (by simpa using hv) (by simp [hw])) ⟨ho,ho2,h1 hw⟩
  · refine concat_meets ⟨_,ho,rfl⟩ ⟨_,ho2,rfl⟩ noFill_tuple_add seq_tuple_add PySem.F.slot_tuple_add PySem.F.entry_tuple_add (PySem.F.args_tuple_add_2 _ _)
      (tuple_addW2 t b vs.toArray ws.toArray n n2 dd dd2 sl sl2 (by simpa using hv) (by simpa using hw) (by rw [List.size_toArray,List.size_toArray]; exact hsz)) ⟨ho,ho2,?_⟩
    rw [e]
    exact h2 hw
def sIx (n d:Nat):Option Int→Nat
  | none=>d
  | some v=>if v < 0 then (v + (n:Int)).toNat else min v.toNat n
theorem sIx_none (n d:Nat):sIx n d none = d:=rfl
theorem sIx_nat (n d k:Nat):sIx n d (some (k:Int)) = min k n:=by
  show (if (k:Int) < 0 then ((k:Int) + (n:Int)).toNat else min (k:Int).toNat n) = min k n
  rw [if_neg (by omega),Int.toNat_natCast]
theorem sIx_le (n d:Nat) (hd:d≤n) (o:Option Int):sIx n d o≤n:=by
  cases o with
  | none=>exact hd
  | some v=>
    show (if v < 0 then (v + (n:Int)).toNat else min v.toNat n)≤n
    by_cases hv:v < 0
    · rw [if_pos hv]; omega
    · rw [if_neg hv]; exact Nat.min_le_right _ _
theorem clip_eq (v:Int) (n d:Nat):(if v < 0 then max (v + (n:Int)) 0 else min v (n:Int)) = ((sIx n d (some v):Nat):Int):=by
  show (if v < 0 then max (v + (n:Int)) 0 else min v (n:Int)) = (((if v < 0 then (v + (n:Int)).toNat else min v.toNat n):Nat):Int)
  by_cases hv:v < 0
  · simp only [if_pos hv]; omega
  · simp only [if_neg hv]; omega
theorem adjust_gen (lo hi:Option Int) (n:Nat):Builtin.Slice.sliceAdjust lo hi 1 (n:Int) = (((sIx n 0 lo:Nat):Int),((sIx n n hi:Nat):Int)):=by
  have h1:¬ ((1:Int) < 0):=by omega
  unfold Builtin.Slice.sliceAdjust
  simp only [h1,if_false]
  refine Prod.ext ?_ ?_
  · cases lo with
    | none=>rfl
    | some v=>exact clip_eq v n 0
  · cases hi with
    | none=>rfl
    | some v=>exact clip_eq v n n
theorem places_gen (i j:Nat):Builtin.Slice.slicePlaces (i:Int) (j:Int) 1 = j - i:=by
  unfold Builtin.Slice.slicePlaces
  have h1:(1:Int) > 0:=by omega
  simp only [h1,if_true,Int.ediv_one]
  split <;> omega
theorem slicePart_ {v:Value} {o:Option Int} {Q:Option Int→Shared→Prop} (p:IsPart v o) (h:Q o s):wpAny (model prog w) A (Builtin.Slice.slicePartIndex v) Q E s:=by
  cases p with
  | none=>exact slicePart_none h
  | int i t=>exact slicePart_int h
theorem sliceApplied_gen {sl:Addr} {vl vu:Value} {lo hi:Option Int} {n:Nat} {Q:Int×Int×Nat→Shared→Prop} (hs:s.heap.IsSliceOf sl vl vu .none) (pl:IsPart vl lo) (pu:IsPart vu hi)
    (h:Q (((sIx n 0 lo:Nat):Int),1,sIx n n hi - sIx n 0 lo) s):wpAny (model prog w) A (Builtin.Slice.sliceApplied (.ref sl) (pure (n:Int))) Q E s:=by
  obtain ⟨os,hos,hcs,hds⟩:=id hs
  unfold Builtin.Slice.sliceApplied Builtin.Slice.sliceFields
  refine wpAny_bind (wpAny_bind (wpAny_field hos hds (x:=vl) rfl (wpAny_bind (wpAny_field hos hds (x:=vu) rfl (wpAny_bind (wpAny_field hos hds (x:=.none) rfl (wpAny_pure ?_)))))))
  refine wpAny_bind (slicePart_none ?_)
  show wpAny _ _ (if ((1:Int) == 0) = true then _ else _) _ _ s
  rw [if_neg (by decide)]
  refine wpAny_bind (slicePart_ pl (wpAny_bind (slicePart_ pu (wpAny_bind (wpAny_pure ?_)))))
  show wpAny _ _ (match Builtin.Slice.sliceAdjust lo hi 1 (n:Int) with | (lo,hi)=>pure (lo,(1:Int),Builtin.Slice.slicePlaces lo hi 1)) _ _ s
  rw [adjust_gen lo hi n]
  show wpAny _ _ (pure (((sIx n 0 lo:Nat):Int),(1:Int),Builtin.Slice.slicePlaces ((sIx n 0 lo:Nat):Int) ((sIx n n hi:Nat):Int) 1)) _ _ s
  rw [places_gen]
  exact wpAny_pure h
theorem pick_gen (xs:Array Value) (i k:Nat):((List.range k).filterMap fun (m:Nat)=>xs[((i:Int) + (m:Int) * 1).toNat]?).toArray = ((xs.toList.drop i).take k).toArray:=by
  have e:(fun (m:Nat)=>xs[((i:Int) + (m:Int) * 1).toNat]?) = fun m=>xs[i + m]?:=by
    funext m
    have:((i:Int) + (m:Int) * 1).toNat = i + m:=by omega
    rw [this]
  rw [e]
  have:=pick_run xs i k
  rw [List.filterMap_map] at this
  have e2:((fun x=>xs[x]?)∘fun x=>i + x) = fun m=>xs[i + m]?:=rfl
  rw [e2] at this
  rw [this]
theorem getItem_tuple_cut {t sl:Addr} {items:Array Value} {vl vu:Value} {lo hi:Option Int} {Q:Value→Shared→Prop} (ht:IsTup s.heap t items) (hs:s.heap.IsSliceOf sl vl vu .none) (pl:IsPart vl lo) (pu:IsPart vu hi)
    (hw:¬ (sIx items.size 0 lo = 0∧sIx items.size items.size hi = items.size))
    (h:Q (.ref s.heap.objs.size) { s with heap:=s.heap.push { cls:=.type "tuple",data:=.seq ((items.toList.drop (sIx items.size 0 lo)).take (sIx items.size items.size hi - sIx items.size 0 lo)).toArray } })
    (hsz:items.size≤sizeLine):wpAny (model prog w) A (getItem (.ref t) (.ref sl)) Q E s:=by
  have htake:sizeOk (.seq ((items.toList.drop (sIx items.size 0 lo)).take (sIx items.size items.size hi - sIx items.size 0 lo)).toArray):=by
    show ((items.toList.drop (sIx items.size 0 lo)).take (sIx items.size items.size hi - sIx items.size 0 lo)).toArray.size≤sizeLine
    rw [List.size_toArray,List.length_take,List.length_drop,Array.length_toList]
    omega
  have hj:sIx items.size items.size hi≤items.size:=sIx_le _ _ (Nat.le_refl _) hi
  obtain ⟨os,hos,hcs,hds⟩:=id hs
  have hTs:s.TypeIs (.ref sl) "slice":=⟨os,hos,hcs⟩
  unfold getItem
  try with_reducible refine wpAny_holding ?_
  first | refine wpAny_bind (wpAny_pure ?_) | skip
  refine wpAny_bind (wpAny_sequenceKey ht.typeIs (by decide) ?_)
  refine wpAny_bind (wpAny_callSpecial?_slot (name:=Str.ofString "__getitem__") ht.typeIs PyProof.Rows.slot_tuple_getitem
    (wpAny_call_entry PyProof.Rows.slot_tuple_getitem ht.typeIs entry_tuple_getitem ?_ (args_tuple_getitem _ _)))
  show wpAny _ _ (Builtin.Tuple.tupleItemsOf (.ref t) >>= _) _ _ s
  refine wpAny_bind (tupleItemsOf_ ht ?_)
  refine wpAny_bind (wpAny_typeOf hTs ?_)
  rw [if_pos (by decide)]
  refine wpAny_bind (sliceApplied_gen hs pl pu ?_)
  have hno:¬ ((((sIx items.size 0 lo:Nat):Int) == 0 && (1:Int) == 1 && (sIx items.size items.size hi - sIx items.size 0 lo) == items.size) = true):=by
    intro q
    rw [Bool.and_eq_true,Bool.and_eq_true] at q
    have q1:((sIx items.size 0 lo:Nat):Int) = 0:=eq_of_beq q.1.1
    have q2:sIx items.size items.size hi - sIx items.size 0 lo = items.size:=eq_of_beq q.2
    exact hw ⟨by omega,by omega⟩
  show wpAny _ _ (if (((sIx items.size 0 lo:Nat):Int) == 0 && (1:Int) == 1 && (sIx items.size items.size hi - sIx items.size 0 lo) == items.size) = true then _ else _) _ _ s
  rw [if_neg hno,pick_gen]
  first
    | exact wpAny_bind (m:=Builtin.Tuple.tupleExact _) (wpAny_newObj_type (wpAny_pure ⟨_,rfl,wpAny_pure h⟩) htake)
    | exact wpAny_bind (m:=Builtin.Tuple.tupleExact _) (wpAny_newObj_type (wpAny_bind (wpAny_pure (wpAny_pure ⟨_,rfl,wpAny_pure h⟩))) htake)
    | exact wpAny_bind (wpAny_bind (m:=Builtin.Tuple.tupleExact _) (wpAny_newObj_type (wpAny_pure (wpAny_pure ⟨_,rfl,wpAny_pure h⟩)) htake))
    | exact wpAny_bind (wpAny_bind (m:=Builtin.Tuple.tupleExact _) (wpAny_newObj_type (wpAny_pure ⟨_,rfl,wpAny_pure h⟩) htake))
end
end HT
namespace L2
open PySem PySem.Spec PyProof.Rows
abbrev TO:=St→Hp→(Option Int→Hp→Prop)→Prop
def PO (X:Cx) (e:Option Expr) (t:TO):Prop:=
  ∀ (pins:List (Addr×Obj)) (s:Shared) (σ:St) (H:Hp) (Q:Option Int→Hp→Prop),Inv X pins σ H s→t σ H Q→
    wpAny (model X.prog X.w) X.A (evalPart e X.env) (fun u s'=>∃ o H',Inv X pins σ H' s'∧IsPart u o∧Q o H') X.xe s
def tNoPart:TO:=fun _ H Q=>Q none H
def tPart (t:TE):TO:=fun σ H Q=>t σ H fun x H1=>∃ i,x = .int i∧Q (some i) H1
theorem intsAre_of {ns:List Int}:∀ {us:List Value},Vals (ns.map V.int) us→IntsAre us ns:=by
  induction ns with
  | nil=>intro us r; rw [List.map_nil] at r; cases r; exact .nil
  | cons n ns ih=>
    intro us r
    rw [List.map_cons] at r
    cases r with
    | cons r1 r2=>
      obtain ⟨t,e⟩:=r1
      subst e
      exact .cons n t (ih r2)
section
variable {X:Cx} {e:Expr} {te:TE} {lo hi:Option Expr} {tl th:TO} {pos p2:Pos}
theorem po_none:PO X none tNoPart:=by
  intro pins s σ H Q I h
  rw [evalPart_none]
  exact wpAny_pure ⟨none,H,I,.none,h⟩
theorem po_some (h:PE X e te):PO X (some e) (tPart te):=by
  intro pins s σ H Q I hw
  rw [evalPart_some]
  refine thn (h pins s σ H _ I hw) fun u s1 ⟨x,H1,I1,r1,q1⟩=>?_
  obtain ⟨i,rfl,q⟩:=q1
  obtain ⟨t,rfl⟩:=r1
  exact ⟨some i,H1,I1,.int i t,q⟩
def SlR (X:Cx) (r:V→Option Int→Option Int→Hp→VK→Prop):Prop:=
  ∀ (pins:List (Addr×Obj)) (s:Shared) (σ:St) (H:Hp) (x:V) (v vl vu:Value) (lo hi:Option Int) (sl:Addr) (Q:VK),Inv X pins σ H s→RelV x v→s.heap.IsSliceOf sl vl vu .none→IsPart vl lo→IsPart vu hi→r x lo hi H Q→
    ∃ T id,typeLookup (.type T) "__getitem__" = pure (some (.builtin id))∧s.TypeIs v T∧wpAny (model X.prog X.w) X.A (getItem v (.ref sl)) (EP X pins σ Q) X.xe s
def tSl (r:V→Option Int→Option Int→Hp→VK→Prop) (te:TE) (tl th:TO):TE:=fun σ H Q=>te σ H fun x H1=>tl σ H1 fun l H2=>th σ H2 fun u H3=>r x l u H3 Q
theorem pe_slice {r:V→Option Int→Option Int→Hp→VK→Prop} (hr:SlR X r) (he:PE X e te) (hl:PO X lo tl) (hu:PO X hi th):PE X (.Subscript e (.Slice lo hi none p2) pos) (tSl r te tl th):=by
  intro pins s σ H Q I h
  refine Subscript_ (thn (he pins s σ H _ I h) fun v s1 ⟨x,H1,I1,r1,q1⟩=>?_)
  refine wpAny_Slice (thn (hl pins s1 σ H1 _ I1 q1) fun vl s2 ⟨l,H2,I2,pl,q2⟩=>thn (hu pins s2 σ H2 _ I2 q2) fun vu s3 ⟨u,H3,I3,pu,q3⟩=>?_)
  rw [evalPart_none]
  refine wpAny_pure ?_
  have I4:Inv X pins σ H3 { s3 with heap:=s3.heap.push { cls:=.type "slice",data:=.fields #[vl,vu,.none] } }:=I3.kept (t':=s3.toks) fun b ob q=>Heap.get?_push_of_some _ q
  obtain ⟨T,id,hT,ht,hg⟩:=hr pins { s3 with heap:=s3.heap.push { cls:=.type "slice",data:=.fields #[vl,vu,.none] } } σ H3 x v vl vu l u s3.heap.objs.size Q I4 r1 (Heap.IsSliceOf.new ..) pl pu q3
  show wpAny (model X.prog X.w) X.A (subscriptTail e (.Slice lo hi none p2) v (.ref s3.heap.objs.size)) (EP X pins σ Q) X.xe { s3 with heap:=s3.heap.push { cls:=.type "slice",data:=.fields #[vl,vu,.none] } }
  exact tail_any (ops:=[.ref s3.heap.objs.size,v]) ht hT hg (by with_unfolding_all rfl)
def cutV (xs:List V) (lo hi:Option Int):List V:=(xs.drop (HT.sIx xs.length 0 lo)).take (HT.sIx xs.length xs.length hi - HT.sIx xs.length 0 lo)
theorem cutV_length (xs:List V) (lo hi:Option Int):(cutV xs lo hi).length≤xs.length:=by
  unfold cutV
  rw [List.length_take,List.length_drop]
  omega
def rSlT (K:PySem.W.Frag):V→Option Int→Option Int→Hp→VK→Prop:=fun x lo hi H Q=>∃ a xs,x = .ref a∧SqT K H a xs∧
  ¬ (HT.sIx xs.length 0 lo = 0∧HT.sIx xs.length xs.length hi = xs.length)∧∀ p,H p = none→Q (.ref p) (upd H p (.tup (cutV xs lo hi)))
theorem sl_tup:SlR X (rSlT X.K):=by
  intro pins s σ H x v vl vu lo hi sl Q I rx hs pl pu h
  obtain ⟨a,xs,rfl,hx,hw,q⟩:=h
  cases rx
  obtain ⟨its,r,ht,hz⟩:=I.tuple hx
  have hlen:its.toArray.size = xs.length:=by rw [List.size_toArray]; exact r.length.symm
  refine ⟨"tuple",_,PyProof.Rows.slot_tuple_getitem.lookup,ht.typeIs,?_⟩
  refine HT.getItem_tuple_cut ht hs pl pu (by rw [hlen]; exact hw) ?_ (by rw [hlen]; exact hz)
  rw [hlen]
  refine ⟨.ref s.heap.objs.size,_,I.laid (t':=s.toks) (o:=.tup (cutV xs lo hi)) (fun b ob q=>Heap.get?_push_of_some _ q) (Nat.le_refl _) ?_,rfl,q _ (I.hok.fresh (Nat.le_refl _))⟩
  exact ⟨Nat.le_trans (cutV_length xs lo hi) hz,_,(r.drop (HT.sIx xs.length 0 lo)).take (HT.sIx xs.length xs.length hi - HT.sIx xs.length 0 lo),TupN.new _ _⟩
def rCatT (K:PySem.W.Frag):R2:=fun x y H Q=>∃ a b xs ys,x = .ref a∧y = .ref b∧SqT K H a xs∧SqT K H b ys∧xs≠[]∧xs.length + ys.length≤sizeLine∧
  (ys = []→Q (.ref a) H)∧(ys≠[]→∀ p,H p = none→Q (.ref p) (upd H p (.tup (xs ++ ys))))
theorem Vals.nil_iff {xs:List V} {us:List Value} (r:Vals xs us):us = []↔xs = []:=by
  cases r with
  | nil=>simp
  | cons _ _=>simp
theorem op_catT:OpR X (binaryOp .Add) (rCatT X.K):=by
  intro pins s σ H x y v u Q I rx ry h
  obtain ⟨a,b,xs,ys,rfl,rfl,ha,hb,hx,hz,q1,q2⟩:=h
  cases rx
  cases ry
  obtain ⟨its,r1,p1,_⟩:=I.tuple ha
  obtain ⟨its2,r2,p2,_⟩:=I.tuple hb
  refine HT.cat_tup p1 p2 (fun z=>hx (r1.nil_iff.mp z)) (fun z=>⟨.ref a,H,I,rfl,q1 (r2.nil_iff.mp z)⟩) (fun z=>?_) (by rw [← r1.length,← r2.length]; exact hz)
  refine ⟨.ref s.heap.objs.size,_,I.laid (t':=s.toks) (o:=.tup (xs ++ ys)) (fun b ob q=>Heap.get?_push_of_some _ q) (Nat.le_refl _) ?_,rfl,q2 (fun w=>z (r2.nil_iff.mpr w)) _ (I.hok.fresh (Nat.le_refl _))⟩
  exact ⟨by rw [List.length_append]; exact hz,_,r1.append r2,TupN.new _ _⟩
end
end L2
namespace L2
open PySem PySem.Spec PyProof.Rows
def ixN (n:Nat) (i:Int):Option Nat:=if 0≤i then (if i < n then some i.toNat else none) else if -(n:Int)≤i then some (i + n).toNat else none
def atI {α:Type} (xs:List α) (i:Int):Option α:=(ixN xs.length i).bind fun j=>xs[j]?
theorem ixN_seq {n:Nat} {i:Int} {j:Nat} (h:ixN n i = some j):seqIndex? i n = some j∧j < n∧-(n:Int)≤i∧i < n:=by
  unfold ixN at h
  by_cases h0:0≤i
  · rw [if_pos h0] at h
    by_cases h1:i < n
    · rw [if_pos h1] at h
      have e:i.toNat = j:=Option.some.inj h
      exact ⟨by rw [seqIndex_of h0 h1,e],by omega,by omega,h1⟩
    · rw [if_neg h1] at h; cases h
  · rw [if_neg h0] at h
    by_cases h1:-(n:Int)≤i
    · rw [if_pos h1] at h
      have e:(i + n).toNat = j:=Option.some.inj h
      exact ⟨by rw [seqIndex_neg (by omega) h1,e],by omega,h1,by omega⟩
    · rw [if_neg h1] at h; cases h
theorem atI_get {α:Type} {xs:List α} {i:Int} {v:α} (h:atI xs i = some v):∃ j,seqIndex? i xs.length = some j∧xs[j]? = some v∧j < xs.length∧-(xs.length:Int)≤i∧i < xs.length:=by
  unfold atI at h
  cases e:ixN xs.length i with
  | none=>rw [e] at h; cases h
  | some j=>
    rw [e] at h
    obtain ⟨h1,h2,h3,h4⟩:=ixN_seq e
    exact ⟨j,h1,h,h2,h3,h4⟩
theorem atI_nat {α:Type} {xs:List α} {j:Nat} {v:α} (h:xs[j]? = some v):atI xs (j:Int) = some v:=by
  have hj:j < xs.length:=(List.getElem?_eq_some_iff.mp h).1
  have e:ixN xs.length (j:Int) = some j:=by
    unfold ixN
    rw [if_pos (by omega),if_pos (by omega)]; simp
  unfold atI; rw [e]; exact h
theorem atI_last {α:Type} (xs:List α) (v:α):atI (xs ++ [v]) (-1) = some v:=by
  have hl:(xs ++ [v]).length = xs.length + 1:=by simp
  have e:ixN (xs ++ [v]).length (-1) = some xs.length:=by
    unfold ixN
    rw [hl,if_neg (by decide),if_pos (by omega)]
    congr 1
    omega
  unfold atI
  rw [e]
  show (xs ++ [v])[xs.length]? = some v
  simp
def PlainIx (b:Expr):Prop:=∀ o i,subscripted b false o i = operate [o,i] (getItem o i)
def IxR (X:Cx) (r:R2):Prop:=
  ∀ (value slice:Expr) (pins:List (Addr×Obj)) (s:Shared) (σ:St) (H:Hp) (x y:V) (v u:Value) (Q:VK),Inv X pins σ H s→RelV x v→RelV y u→r x y H Q→
    subscripted slice false v u = operate [v,u] (getItem v u)→wpAny (model X.prog X.w) X.A (subscriptTail value slice v u) (EP X pins σ Q) X.xe s
def MtR (X:Cx) (id:String) (r:V→List V→Hp→VK→Prop):Prop:=
  ∀ (pins:List (Addr×Obj)) (s:Shared) (σ:St) (H:Hp) (x:V) (xs:List V) (v:Value) (us:List Value) (Q:VK),Inv X pins σ H s→RelV x v→Vals xs us→r x xs H Q→
    wpAny (model X.prog X.w) X.A (call (.builtin id) (v :: us)) (EP X pins σ Q) X.xe s
section
variable {X:Cx} {a b:Expr} {ta tb:TE} {pos:Pos}
theorem pe_ix {r:R2} (hr:IxR X r) (ha:PE X a ta) (hb:PE X b tb) (hs:PlainIx b):PE X (.Subscript a b pos) (tOp r ta tb):=by
  intro pins s σ H Q I h
  exact Subscript_ (binT ha hb I h fun v u s2 x y H2 I2 rx ry q=>hr a b pins s2 σ H2 x y v u Q I2 rx ry q (hs _ _))
def rIxL (K:PySem.W.Frag):R2:=fun x y H Q=>∃ p xs i v,x = .ref p∧y = .int i∧SqL K H p xs∧atI xs i = some v∧Q v H
def rIxT (K:PySem.W.Frag):R2:=fun x y H Q=>∃ p xs i v,x = .ref p∧y = .int i∧SqT K H p xs∧atI xs i = some v∧Q v H
def rIxS:R2:=fun x y H Q=>∃ z i c,x = .str z∧y = .int i∧z.length≤sizeLine∧atI z.cps.toList i = some c∧Q (.str ⟨#[c]⟩) H
theorem ix_list:IxR X (rIxL X.K):=by
  intro value slice pins s σ H x y v u Q I rx ry h hs
  obtain ⟨p,xs,i,z,rfl,rfl,hq,he,q⟩:=h
  cases rx
  obtain ⟨t,rfl⟩:=ry
  obtain ⟨its,r,pl,hz⟩:=I.list hq
  obtain ⟨j,h1,h2,h3,h4,h5⟩:=atI_get he
  obtain ⟨w,ew,rw'⟩:=r.get h2
  have hl:=r.length
  have hn:=line63
  have fin:EP X pins σ Q w s:=⟨z,H,I,rw',q⟩
  by_cases h0:0≤i
  · have hj:i.toNat = j:=by
      rw [seqIndex_of h0 h5] at h1
      exact Option.some.inj h1
    exact item_listR pl.isList h0 (by omega) (by rw [hj]; simpa using ew) fin hs
  · have hj:(i + (its.toArray.size:Int)).toNat = j:=by
      rw [seqIndex_neg (by omega) h4] at h1
      rw [List.size_toArray,← hl]
      exact Option.some.inj h1
    exact subscriptTail_builtinR (x:=w) pl.isList.typeIs slot_list_getitem.lookup
      (wpAny_getItem_list_neg (Q:=fun r s'=>r = w∧EP X pins σ Q r s') pl.isList (by omega) (by rw [List.size_toArray] <;> omega) (by omega) (by rw [hj]; simpa using ew) ⟨rfl,fin⟩) hs
theorem ix_tup:IxR X (rIxT X.K):=by
  intro value slice pins s σ H x y v u Q I rx ry h hs
  obtain ⟨p,xs,i,z,rfl,rfl,hq,he,q⟩:=h
  cases rx
  obtain ⟨t,rfl⟩:=ry
  obtain ⟨its,r,pl,hz⟩:=I.tuple hq
  obtain ⟨j,h1,h2,h3,h4,h5⟩:=atI_get he
  obtain ⟨w,ew,rw'⟩:=r.get h2
  have hl:=r.length
  have hn:=line63
  have fin:EP X pins σ Q w s:=⟨z,H,I,rw',q⟩
  exact subscriptTail_builtinR (x:=w) pl.typeIs slot_tuple_getitem.lookup
    (getItem_tuple (j:=j) (Q:=fun r s'=>r = w∧EP X pins σ Q r s') pl (by omega) (by omega) (by rw [List.size_toArray,← hl]; exact h1) (by simpa using ew) ⟨rfl,fin⟩) hs
theorem ix_str:IxR X rIxS:=by
  intro value slice pins s σ H x y v u Q I rx ry h hs
  obtain ⟨z,i,c,rfl,rfl,hz,he,q⟩:=h
  obtain ⟨t,rfl⟩:=rx
  obtain ⟨t',rfl⟩:=ry
  obtain ⟨j,h1,h2,h3,h4,h5⟩:=atI_get he
  have hl:z.cps.toList.length = z.length:=by simp [Str.length]
  rw [hl] at h1 h4 h5
  have hn:=line63
  exact tail_any (typeIs_str s z t) slot_str_getitem.lookup (getItem_str (c:=c) (by
    have e1:decide (i < -(2 ^ 63:Int)) = false:=decide_eq_false (by omega)
    have e2:decide (i ≥ 2 ^ 63) = false:=decide_eq_false (by omega)
    rw [e1,e2,Bool.or_false]) (by rw [h1]; simpa using h2) ⟨.str ⟨#[c]⟩,H,I.tok _,⟨_,rfl⟩,q⟩) hs
theorem Inv.lst {pins:List (Addr×Obj)} {σ:St} {H:Hp} {s:Shared} {p:Addr} {xs:List V} (I:Inv X pins σ H s) (h:H p = some (.lst xs)) :
    ∃ (its:List Value) (n:Nat),Vals xs its∧s.heap.get? p = some { cls:=.type "list",data:=.seq its.toArray n }∧xs.length≤sizeLine:=by
  obtain ⟨z,its,n,r,e⟩:=I.hok p _ h
  exact ⟨its,n,r,e,z⟩
theorem slice_bounds (lo hi:Option Int) (n:Nat):(sliceBounds lo hi none n).1 = ((HT.sIx n 0 lo:Nat):Int)∧(sliceBounds lo hi none n).2.1 = ((HT.sIx n n hi:Nat):Int)∧(sliceBounds lo hi none n).2.2 = 1:=by
  refine ⟨?_,?_,rfl⟩
  · cases lo with
    | none=>simp [sliceBounds,HT.sIx]
    | some i=>
      simp only [sliceBounds,HT.sIx,Option.getD_none,show (1:Int) > 0 by decide,if_true]
      by_cases h:i < 0
      · simp only [h,if_true] <;> omega
      · simp only [h,if_false] <;> omega
  · cases hi with
    | none=>simp [sliceBounds,HT.sIx]
    | some i=>
      simp only [sliceBounds,HT.sIx,Option.getD_none,show (1:Int) > 0 by decide,if_true]
      by_cases h:i < 0
      · simp only [h,if_true] <;> omega
      · simp only [h,if_false] <;> omega
theorem slicePick_cut (its:List Value) (lo hi:Option Int):slicePick its.toArray lo hi none = ((its.drop (HT.sIx its.length 0 lo)).take (HT.sIx its.length its.length hi - HT.sIx its.length 0 lo)).toArray:=by
  obtain ⟨h1,h2,h3⟩:=slice_bounds lo hi its.toArray.size
  unfold slicePick
  rw [h1,h2,h3]
  simp only [sliceRange_one,pick_run,List.size_toArray] <;> rfl
def rSlL (K:PySem.W.Frag):V→Option Int→Option Int→Hp→VK→Prop:=fun x lo hi H Q=>∃ a xs,x = .ref a∧SqL K H a xs∧∀ p,H p = none→Q (.ref p) (upd H p (.lst (cutV xs lo hi)))
theorem sl_list:SlR X (rSlL X.K):=by
  intro pins s σ H x v vl vu lo hi sl Q I rx hs pl pu h
  obtain ⟨a,xs,rfl,hx,q⟩:=h
  cases rx
  obtain ⟨its,r,ht,hz⟩:=I.list hx
  have hlen:=r.length
  refine ⟨"list",_,slot_list_getitem.lookup,ht.isList.typeIs,?_⟩
  refine wpAny_getItem_list_slice ht.isList hs pl pu .none (by simp) ?_ (by rw [List.size_toArray] <;> omega)
  rw [slicePick_cut,← hlen]
  refine ⟨.ref s.heap.objs.size,_,I.laid (t':=s.toks) (o:=.lst (cutV xs lo hi)) (fun b ob q=>Heap.get?_push_of_some _ q) (Nat.le_refl _) ?_,rfl,q _ (I.hok.fresh (Nat.le_refl _))⟩
  exact ⟨Nat.le_trans (cutV_length xs lo hi) hz,_,0,(r.drop (HT.sIx xs.length 0 lo)).take (HT.sIx xs.length xs.length hi - HT.sIx xs.length 0 lo),Heap.get?_push_size _ rfl⟩
def flatV:V→Bool
  | .non=>true
  | .bl _=>true
  | .int _=>true
  | .str _=>true
  | _=>false
def eqV:V→V→Bool
  | .non,.non=>true
  | .bl a,.bl b=>a == b
  | .bl a,.int b=>(if a then 1 else 0) == b
  | .int a,.bl b=>a == (if b then 1 else 0)
  | .int a,.int b=>a == b
  | .str a,.str b=>a == b
  | _,_=>false
theorem eqAt_V {A:Around} {s:Shared} {y x:V} {u v:Value} (ry:RelV y u) (rx:RelV x v) (fy:flatV y = true) (fx:flatV x = true):SeqAt.EqAt A s u v (eqV y x):=by
  cases y with
  | non=>
    cases ry
    cases x with
    | non=>cases rx; exact SeqAt.EqAt.same _
    | bl b=>cases rx; exact SeqAt.EqAt.none_bool b
    | int b=>obtain ⟨t,rfl⟩:=rx; exact SeqAt.EqAt.none_int b t
    | str b=>obtain ⟨t,rfl⟩:=rx; exact SeqAt.EqAt.none_str b t
    | _=>exact absurd (show false = true from fx) Bool.false_ne_true
  | bl a=>
    cases ry
    cases x with
    | non=>cases rx; exact SeqAt.EqAt.bool_none a
    | bl b=>cases rx; exact SeqAt.EqAt.bool_bool a b
    | int b=>obtain ⟨t,rfl⟩:=rx; exact SeqAt.EqAt.bool_int a b t
    | str b=>obtain ⟨t,rfl⟩:=rx; exact SeqAt.EqAt.bool_str a b t
    | _=>exact absurd (show false = true from fx) Bool.false_ne_true
  | int a=>
    obtain ⟨t',rfl⟩:=ry
    cases x with
    | non=>cases rx; exact SeqAt.EqAt.int_none a t'
    | bl b=>cases rx; exact SeqAt.EqAt.int_bool a t' b
    | int b=>obtain ⟨t,rfl⟩:=rx; exact SeqAt.EqAt.int_int a t' b t
    | str b=>obtain ⟨t,rfl⟩:=rx; exact SeqAt.EqAt.int_str a t' b t
    | _=>exact absurd (show false = true from fx) Bool.false_ne_true
  | str a=>
    obtain ⟨t',rfl⟩:=ry
    cases x with
    | non=>cases rx; exact SeqAt.EqAt.str_none a t'
    | bl b=>cases rx; exact SeqAt.EqAt.str_bool a t' b
    | int b=>obtain ⟨t,rfl⟩:=rx; exact SeqAt.EqAt.str_int a t' b t
    | str b=>obtain ⟨t,rfl⟩:=rx; exact SeqAt.EqAt.str_str a t' b t
    | _=>exact absurd (show false = true from fx) Bool.false_ne_true
  | _=>exact absurd (show false = true from fy) Bool.false_ne_true
def eqU (x:V) (u:Value):Bool:=match u with
  | .none=>eqV .non x
  | .bool b=>eqV (.bl b) x
  | .int i _=>eqV (.int i) x
  | .str z _=>eqV (.str z) x
  | _=>false
theorem eqU_of {x y:V} {u:Value} (r:RelV y u) (f:flatV y = true):eqU x u = eqV y x:=by
  cases y with
  | non=>cases r; rfl
  | bl b=>cases r; rfl
  | int i=>obtain ⟨t,rfl⟩:=r; rfl
  | str z=>obtain ⟨t,rfl⟩:=r; rfl
  | _=>exact absurd (show false = true from f) Bool.false_ne_true
theorem any_eqU {x:V}:∀ {xs:List V} {us:List Value},Vals xs us→xs.all flatV = true→us.any (eqU x) = xs.any fun y=>eqV y x
  | _,_,.nil,_=>rfl
  | y :: xs,u :: us,.cons r t,f=>by
    rw [List.all_cons,Bool.and_eq_true] at f
    rw [List.any_cons,List.any_cons,eqU_of r f.1,any_eqU t f.2]
theorem mem_eqAt {A:Around} {s:Shared} {x:V} {v:Value} (rx:RelV x v) (fx:flatV x = true):∀ {xs:List V} {us:List Value},Vals xs us→xs.all flatV = true→∀ u∈us,SeqAt.EqAt A s u v (eqU x u)
  | _,_,.nil,_=>fun u hu=>by cases hu
  | y :: xs,u :: us,.cons r t,f=>fun u' hu=>by
    rw [List.all_cons,Bool.and_eq_true] at f
    rcases List.mem_cons.mp hu with rfl | hu
    · rw [eqU_of r f.1]; exact eqAt_V r rx f.1 fx
    · exact mem_eqAt rx fx t f.2 u' hu
def inV (x:V) (xs:List V):Bool:=xs.any fun y=>eqV y x
def rIn (K:PySem.W.Frag) (neg:Bool):R2:=fun x y H Q=>∃ p xs,y = .ref p∧(SqL K H p xs∨SqT K H p xs)∧flatV x = true∧xs.all flatV = true∧Q (.bl (if neg then !inV x xs else inV x xs)) H
theorem op_in_seq:OpR X (compareOp .In) (rIn X.K false):=by
  intro pins s σ H x y v u Q I rx ry h
  obtain ⟨p,xs,rfl,hq,fx,fs,q⟩:=h
  cases ry
  rcases hq with hq | hq
  · obtain ⟨its,r,pl,hz⟩:=I.list hq
    refine SeqAt.in_listAt (eqU x) pl.isList (fun w hw=>mem_eqAt rx fx r fs w (by simpa using hw)) ⟨.bl _,H,I,rfl,?_⟩
    rw [show its.toArray.any (eqU x) = its.any (eqU x) by simp,any_eqU r fs]
    exact q
  · obtain ⟨its,r,pl,hz⟩:=I.tuple hq
    refine SeqAt.in_tupleAt (eqU x) pl (fun w hw=>mem_eqAt rx fx r fs w (by simpa using hw)) ⟨.bl _,H,I,rfl,?_⟩
    rw [show its.toArray.any (eqU x) = its.any (eqU x) by simp,any_eqU r fs]
    exact q
theorem op_notIn_seq:OpR X (compareOp .NotIn) (rIn X.K true):=by
  intro pins s σ H x y v u Q I rx ry h
  obtain ⟨p,xs,rfl,hq,fx,fs,q⟩:=h
  cases ry
  rcases hq with hq | hq
  · obtain ⟨its,r,pl,hz⟩:=I.list hq
    refine SeqAt.notIn_listAt (eqU x) pl.isList (fun w hw=>mem_eqAt rx fx r fs w (by simpa using hw)) ⟨.bl _,H,I,rfl,?_⟩
    rw [show its.toArray.any (eqU x) = its.any (eqU x) by simp,any_eqU r fs]
    exact q
  · obtain ⟨its,r,pl,hz⟩:=I.tuple hq
    refine SeqAt.notIn_tupleAt (eqU x) pl (fun w hw=>mem_eqAt rx fx r fs w (by simpa using hw)) ⟨.bl _,H,I,rfl,?_⟩
    rw [show its.toArray.any (eqU x) = its.any (eqU x) by simp,any_eqU r fs]
    exact q
theorem call_len_seq:CallR X (.builtin "len") (fun xs H Q=>∃ p ys,xs = [.ref p]∧(SqL X.K H p ys∨SqT X.K H p ys)∧Q (.int ys.length) H):=by
  intro pins s σ H xs us Q I r h
  obtain ⟨p,ys,rfl,hq,q⟩:=h
  obtain ⟨u,rfl,rx⟩:=vals1 r
  cases rx
  have hn:=line63
  rcases hq with hq | hq
  · obtain ⟨its,r',pl,hz⟩:=I.list hq
    have hlen:=r'.length
    exact Calls.call_len_list pl.isList (by simp only [List.size_toArray] <;> omega) ⟨.int ys.length,H,I.tok _,⟨s.toks + 1,by rw [List.size_toArray,hlen]⟩,q⟩
  · obtain ⟨its,r',pl,hz⟩:=I.tuple hq
    have hlen:=r'.length
    exact len_tuple pl (by simp only [List.size_toArray] <;> omega) ⟨.int ys.length,H,I.tok _,⟨s.toks + 1,by rw [List.size_toArray,hlen]⟩,q⟩
theorem call_len_str:CallR X (.builtin "len") (fun xs H Q=>∃ z,xs = [.str z]∧z.length≤sizeLine∧Q (.int z.length) H):=by
  intro pins s σ H xs us Q I r h
  obtain ⟨z,rfl,hz,q⟩:=h
  obtain ⟨u,rfl,t,rfl⟩:=vals1 r
  have hn:=line63
  exact len_str (by omega) ⟨.int z.length,H,I.tok _,⟨_,rfl⟩,q⟩
theorem call_list_of:CallR X (.type "list") (fun xs H Q=>∃ p ys,xs = [.ref p]∧(SqL X.K H p ys∨SqT X.K H p ys)∧∀ l,H l = none→Q (.ref l) (upd H l (.lst ys))):=by
  intro pins s σ H xs us Q I r h
  obtain ⟨p,ys,rfl,hq,q⟩:=h
  obtain ⟨u,rfl,rx⟩:=vals1 r
  cases rx
  have fin:∀ (its:List Value),Vals ys its→ys.length≤sizeLine→∀ (h':Heap) (c':Nat),(∀ b o',s.heap.get? b = some o'→h'.get? b = some o')→
      h'.get? s.heap.objs.size = some { cls:=.type "list",dict:=none,data:=.seq its.toArray c',slots:=#[] }→EP X pins σ Q (.ref s.heap.objs.size) { s with heap:=h' }:=fun its r' hz h' c' kp e=>
    ⟨.ref s.heap.objs.size,_,I.laid (t':=s.toks) kp (Nat.le_refl _) (show ObjOk X.prog X.w _ h' _ (.lst ys) from ⟨hz,its,c',r',e⟩),rfl,q _ (I.hok.fresh (Nat.le_refl _))⟩
  rcases hq with hq | hq
  · obtain ⟨its,r',pl,hz⟩:=I.list hq
    have hlen:=r'.length
    obtain ⟨o,ho,hc,n,hd⟩:=pl.isList
    exact call_list_seq p (.inl rfl) ho hc hd (fun h' c' kp e=>fin its r' hz h' c' kp e) (by simp only [List.size_toArray] <;> omega)
  · obtain ⟨its,r',pl,hz⟩:=I.tuple hq
    have hlen:=r'.length
    obtain ⟨o,ho,hc,n,hd⟩:=pl
    exact call_list_seq p (.inr rfl) ho hc hd (fun h' c' kp e=>fin its r' hz h' c' kp e) (by simp only [List.size_toArray] <;> omega)
theorem call_tuple_of:CallR X (.type "tuple") (fun xs H Q=>∃ p ys,xs = [.ref p]∧((SqL X.K H p ys∧∀ l,H l = none→Q (.ref l) (upd H l (.tup ys)))∨(SqT X.K H p ys∧Q (.ref p) H))):=by
  intro pins s σ H xs us Q I r h
  obtain ⟨p,ys,rfl,h⟩:=h
  obtain ⟨u,rfl,rx⟩:=vals1 r
  cases rx
  rcases h with ⟨hq,q⟩ | ⟨hq,q⟩
  · obtain ⟨its,r',pl,hz⟩:=I.list hq
    have hlen:=r'.length
    refine call_tuple_list pl.isList (fun h' kp=>?_) (by simp only [List.size_toArray] <;> omega)
    have I1:Inv X pins σ H { s with heap:=h' }:=I.kept (t':=s.toks) kp
    have I2:Inv X pins σ (upd H h'.objs.size (.tup ys)) { s with heap:=h'.push { cls:=.type "tuple",data:=.seq its.toArray } }:=
      I1.laid (t':=s.toks) (fun b o e=>Heap.get?_push_of_some _ e) (Nat.le_refl _) (show ObjOk X.prog X.w _ _ _ (.tup ys) from ⟨hz,its,r',TupN.new _ _⟩)
    exact ⟨.ref h'.objs.size,_,I2,rfl,q _ (I1.hok.fresh (Nat.le_refl _))⟩
  · obtain ⟨its,r',pl,hz⟩:=I.tuple hq
    exact call_tuple_same pl ⟨.ref p,H,I,rfl,q⟩
def tyV (K:PySem.W.Frag) (T:String) (x:V) (H:Hp):Prop:=match x with
  | .str _=>T = "str"
  | .int _=>T = "int"
  | .ref p=>(T = "list"∧∃ xs,SqL K H p xs)∨(T = "tuple"∧∃ o,K.lookup p = some o∧o.cls = .type "tuple"∧o.dict = none)∨
      (T = "dict"∧((∃ kvs,H p = some (.dK kvs))∨∃ kvs,H p = some (.dT kvs)))∨(T = "set"∧∃ S n,H p = some (.set S n))
  | _=>False
theorem tyV_is {pins:List (Addr×Obj)} {σ:St} {H:Hp} {s:Shared} {T:String} {x:V} {v:Value} (I:Inv X pins σ H s) (r:RelV x v) (ty:tyV X.K T x H) :
    s.TypeIs v T∧∀ a,v = .ref a→∃ ob,s.heap.get? a = some ob∧ob.dict = none:=by
  cases x with
  | str z=>
    obtain ⟨t,rfl⟩:=r
    cases (show T = "str" from ty)
    exact ⟨typeIs_str s z t,fun _ e=>nomatch e⟩
  | int i=>
    obtain ⟨t,rfl⟩:=r
    cases (show T = "int" from ty)
    exact ⟨typeIs_int s i t,fun _ e=>nomatch e⟩
  | ref p=>
    cases r
    rcases ty with ⟨rfl,xs,hq⟩ | ⟨rfl,o,hk,hc,hd⟩ | ⟨rfl,hk⟩ | ⟨rfl,S,n,hk⟩
    · obtain ⟨its,_,pl,_⟩:=I.list hq
      refine ⟨pl.isList.typeIs,fun a e=>?_⟩
      cases e
      obtain ⟨o,n,e,c,hd,_⟩:=pl
      exact ⟨o,e,hd⟩
    · refine ⟨⟨o,I.kIn p o hk,hc⟩,fun a e=>?_⟩
      cases e
      exact ⟨o,I.kIn _ o hk,hd⟩
    · have z:∃ o,s.heap.get? p = some o∧o.ExactDict:=by
        rcases hk with ⟨kvs,hk⟩ | ⟨kvs,hk⟩
        · obtain ⟨_,_,_,_,o,_,_,e,ex,_⟩:=I.hok p _ hk
          exact ⟨o,e,ex⟩
        · obtain ⟨_,_,_,_,o,_,_,e,ex,_⟩:=I.hok p _ hk
          exact ⟨o,e,ex⟩
      obtain ⟨o,e,ex⟩:=z
      refine ⟨⟨o,e,ex.1⟩,fun a e2=>?_⟩
      cases e2
      exact ⟨o,e,ex.2.1⟩
    · obtain ⟨o,_,_,_,e,ex,_⟩:=I.hok p _ hk
      refine ⟨⟨o,e,ex.1⟩,fun a e2=>?_⟩
      cases e2
      exact ⟨o,e,ex.2.1⟩
  | _=>exact False.elim ty
def tBM (K:PySem.W.Frag) (T:String) (r:V→List V→Hp→VK→Prop) (to:TE) (t:TA):TE:=fun σ H Q=>to σ H fun x H1=>tyV K T x H1∧t σ H1 fun xs H2=>r x xs H2 Q
variable {o e:Expr} {es:List Expr} {to:TE} {t:TA} {name:Str} {apos cpos:Pos} {T id:String} {r:V→List V→Hp→VK→Prop}
theorem pe_bm (pa:PlainAttrs T) (slot:Slot T name id) (hty:typeOf (.builtin id) = pure (.type "method_descriptor")) (hm:MtR X id r) (ho:PE X o to) (ha:PA X (e :: es) t)
    (hbase:attributeBase o name X.env (eval o X.env) = eval o X.env:=by rfl)
    (hfew:((backTo cpos (starEach (e :: es) X.env)).all (fun x=>!x.1) && (backToKw cpos (keywordEach [] X.env)).all (fun x=>x.1.isSome)
      && decide ((e :: es).length + ([]:List Keyword).length + (if ([]:List Keyword).isEmpty then 0 else 1) < 30)) = true:=by rfl)
    (hline:(apos.endLine == cpos.line) = true:=by rfl) (hs:starEach (e :: es) X.env = (false,eval e X.env) :: starEach es X.env:=by rfl) (hplain:(backTo cpos (starEach es X.env)).any (·.1) = false:=by rfl) :
    PE X (.Call (.Attribute o name apos) (e :: es) [] cpos) (tBM X.K T r to t):=by
  intro pins s σ H Q I h
  refine wpAny_Call_method_late hbase hfew hline rfl (thn (ho pins s σ H _ I h) fun v s1 ⟨x,H1,I1,r1,ty,q1⟩=>?_)
  obtain ⟨h1,h2⟩:=tyV_is I1 r1 ty
  refine ⟨T,id,pa,slot,hty,h1,h2,?_⟩
  have hA:=ha cpos pins s1 σ H1 _ I1 q1
  rw [hs] at hA ⊢
  refine Calls.callWith_builtin (by show (false || (backTo cpos (starEach es X.env)).any (·.1)) = false; rw [hplain] <;> rfl) (Calls.evalArgs_plain ?_)
  exact thn hA fun us s2 ⟨vs,H2,I2,r2,q2⟩=>hm pins s2 σ H2 x vs v us Q I2 r1 r2 q2
end
end L2
namespace L2
open PySem PySem.Spec PyProof.Rows
def MtM (X:Cx) (id:String) (r:V→List V→Hp→VK→Prop):Prop:=
  ∀ (pins:List (Addr×Obj)) (s:Shared) (σ:St) (H:Hp) (x:V) (xs:List V) (v:Value) (us:List Value) (Q:VK),Inv X pins σ H s→RelV x v→Vals xs us→r x xs H Q→
    wpAny (model X.prog X.w) X.A (call (.builtin id) (v :: us)) (EP X pins σ Q) X.xe s
theorem Vals.one:∀ {x:V} {us:List Value},Vals [x] us→∃ u,us = [u]∧RelV x u
  | _,_,.cons r .nil=>⟨_,rfl,r⟩
theorem Vals.zero:∀ {us:List Value},Vals [] us→us = []
  | _,.nil=>rfl
theorem Vals.dropLast {xs:List V} {us:List Value} (h:Vals xs us):Vals xs.dropLast us.dropLast:=by
  induction h with
  | nil=>exact .nil
  | cons r t ih=>
    cases t with
    | nil=>exact .nil
    | cons q t'=>exact .cons r ih
theorem Vals.eraseIdx:∀ {xs:List V} {us:List Value} (i:Nat),Vals xs us→Vals (xs.eraseIdx i) (us.eraseIdx i)
  | _,_,_,.nil=>.nil
  | _,_,0,.cons _ t=>t
  | _,_,i + 1,.cons r t=>.cons r (Vals.eraseIdx i t)
theorem Vals.reverse {xs:List V} {us:List Value} (h:Vals xs us):Vals xs.reverse us.reverse:=by
  induction h with
  | nil=>exact .nil
  | cons r t ih=>rw [List.reverse_cons,List.reverse_cons]; exact Vals.append ih (.cons r .nil)
theorem Vals.rep {xs:List V} {us:List Value} (h:Vals xs us):∀ k:Nat,Vals (List.replicate k xs).flatten (List.replicate k us).flatten
  | 0=>.nil
  | k + 1=>by
    rw [List.replicate_succ,List.replicate_succ,List.flatten_cons,List.flatten_cons]
    exact Vals.append h (Vals.rep h k)
theorem len_erase {α:Type}:∀ (l:List α) (i:Nat),(l.eraseIdx i).length≤l.length
  | [],_=>Nat.le_refl _
  | _ :: _,0=>Nat.le_succ _
  | _ :: r,i + 1=>Nat.succ_le_succ (len_erase r i)
section
variable {X:Cx} {pins:List (Addr×Obj)} {σ:St} {H:Hp} {s:Shared} {l b:Addr} {xs ys zs:List V}
theorem Inv.lset {its its':List Value} {n:Nat} {f:Array Value→Array Value} {t':Nat} (I:Inv X pins σ H s) (hH:H l = some (.lst xs))
    (e:s.heap.get? l = some { cls:=.type "list",data:=.seq its.toArray n }) (hf:f its.toArray = its'.toArray) (hv:Vals ys its') (hz:ys.length≤sizeLine) :
    Inv X pins σ (upd H l (.lst ys)) { s with heap:=s.heap.update l (Obj.mapSeq f),toks:=t' }:=by
  have q:=PySem.IsL.update e f
  rw [hf] at q
  refine I.write (x:=l) (e:=l) (by rw [hH]; exact trivial) (.inl rfl) (fun b' u hb hu=>(Heap.get?_update_other s.heap (Obj.mapSeq f) (Ne.symm hb)).trans hu) ⟨_,q⟩ ?_
  exact ⟨hz,its',_,hv,q⟩
theorem Inv.lnew {its:List Value} {t':Nat} (I:Inv X pins σ H s) (hv:Vals ys its) (hz:ys.length≤sizeLine) :
    Inv X pins σ (upd H s.heap.objs.size (.lst ys)) { s with heap:=s.heap.push { cls:=.type "list",data:=.seq its.toArray },toks:=t' }:=
  I.laid (fun _ _ q=>Heap.get?_push_of_some _ q) (Nat.le_refl _) ⟨hz,its,0,hv,Heap.get?_push_size _ rfl⟩
theorem Inv.fresh (I:Inv X pins σ H s):H s.heap.objs.size = none:=I.hok.fresh (Nat.le_refl _)
theorem Inv.lstM (I:Inv X pins σ H s) (hH:H l = some (.lst xs)):xs.length≤sizeLine∧∃ (its:List Value) (n:Nat),Vals xs its∧xs.length = its.length∧s.heap.get? l = some { cls:=.type "list",data:=.seq its.toArray n }:=by
  obtain ⟨z,its,n,r,e⟩:=I.hok l _ hH
  exact ⟨z,its,n,r,r.length,e⟩
end
section
variable {X:Cx}
def rAppend:V→List V→Hp→VK→Prop:=fun x vs H Q=>∃ l xs y,x = .ref l∧vs = [y]∧H l = some (.lst xs)∧xs.length < sizeLine∧Q .non (upd H l (.lst (xs ++ [y])))
theorem mt_append:MtM X "list.append" rAppend:=by
  intro pins s σ H x vs v us Q I rx rv h
  obtain ⟨l,xs,y,rfl,rfl,hH,hz,q⟩:=h
  cases rx
  obtain ⟨u,rfl,ru⟩:=rv.one
  obtain ⟨z,its,n,r,hl,e⟩:=I.lstM hH
  refine call_meets F.slot_list_append ⟨_,e,rfl⟩ F.entry_list_append (F.args_list_append_2 _ _) (PySem.list_append l its.toArray n u (by rw [List.size_toArray]; omega)) ⟨e,?_⟩
  refine ⟨.non,_,I.lset (its':=its ++ [u]) hH e (by simp) (r.append (.cons ru .nil)) ?_,rfl,q⟩
  rw [List.length_append,List.length_singleton]
  omega
def rPopAt:V→List V→Hp→VK→Prop:=fun x vs H Q=>∃ l xs i k y,x = .ref l∧vs = [.int i]∧H l = some (.lst xs)∧-(2 ^ 63)≤i∧i < 2 ^ 63∧seqIndex? i xs.length = some k∧xs[k]? = some y∧Q y (upd H l (.lst (xs.eraseIdx k)))
theorem mt_popAt:MtM X "list.pop" rPopAt:=by
  intro pins s σ H x vs v us Q I rx rv h
  obtain ⟨l,xs,i,k,y,rfl,rfl,hH,h1,h2,hk,hy,q⟩:=h
  cases rx
  obtain ⟨u,rfl,ru⟩:=rv.one
  obtain ⟨t,rfl⟩:=ru
  obtain ⟨z,its,n,r,hl,e⟩:=I.lstM hH
  obtain ⟨w,hw,rw'⟩:=r.get hy
  refine call_meets F.slot_list_pop ⟨_,e,rfl⟩ F.entry_list_pop (F.args_list_pop_2 _ _)
    (MeetsSeq.list_pop_at l its.toArray n i t k w (fitsIndex_both h1 h2) (by rw [List.size_toArray,← hl]; exact hk) (by rw [← Array.getElem?_toList]; exact hw) (by rw [List.size_toArray]; omega)) ⟨e,?_⟩
  refine ⟨y,_,I.lset (its':=its.eraseIdx k) hH e ?_ (r.eraseIdx k) ?_,rw',q⟩
  · show its.toArray.eraseIdxIfInBounds k = (its.eraseIdx k).toArray
    rw [List.eraseIdxIfInBounds_toArray]
  · have:=len_erase xs k
    omega
end
section
variable {prog:Program} {w:World} {A:Around} {E:Value→Shared→Prop} {s:Shared}
end
section
variable {X:Cx}
end
end L2
namespace Att
open PySem PySem.W PySem.Calls PyProof.Rows
theorem ints_of_wellAll {P:Params} {h:Heap}:∀ (ns:List Int) (vs:List Value),WellAll P h vs (ns.map WData.int)→IntsAre vs ns:=by
  intro ns
  induction ns with
  | nil=>
    intro vs w
    rw [List.map_nil] at w
    cases w
    exact .nil
  | cons n ns ih=>
    intro vs w
    rw [List.map_cons] at w
    cases w with
    | cons a b=>
      cases a
      exact .cons _ _ (ih _ b)
theorem script_of {l:OpenLaw} {n:Nat} (hn:l.most = some n) {P:Params} {h:Heap} {args:List WData} {vals:List Value}
    (hpre:l.row.toRowW.claim.pre args = true) (hwl:WellAll P h vals args) :
    ∃ a vs ns,vals = [Value.ref a]∧args = [WData.list (ns.map WData.int)]∧h.get? a = some { cls:=.type "list",data:=.seq vs.toArray }∧IntsAre vs ns∧ns.length≤n:=by
  have hsh:WShape.hasAll [] args [.list .int] = true:=(pre_splitW hpre).1
  have hc:l.pre.holds [] { args:=args } = true:=(pre_splitW hpre).2
  obtain ⟨d,r,rfl,h1,h2⟩:=hasAllW_cons hsh
  obtain rfl:=hasAllW_nil h2
  obtain ⟨xs,rfl,h3⟩:=hasW_list h1
  obtain ⟨ns,rfl⟩:=items_int h3
  have hlen:ns.length≤n:=by
    unfold OpenLaw.pre at hc
    have h4:(WTm.not (.lt (.lit (.int (n:Int))) (.len (.arg 0)))).holds [] { args:=[.list (ns.map .int)] } = true:=by
      have h4:=(holds_andW hc).1
      rw [hn] at h4
      exact h4
    have h5:=condW_of h4 (w_not (w_lt w_lit (w_len_list (w_arg rfl))))
    rw [List.length_map] at h5
    refine Nat.le_of_not_lt fun q=>?_
    have q':(n:Int) < ((ns.length:Nat):Int):=by omega
    first
      | (rw [decide_eq_true q'] at h5; exact absurd h5 (by decide))
      | (simp at h5; omega)
  cases hwl with
  | cons w1 w2=>
    cases w2
    cases w1 with
    | list ho hall=>exact ⟨_,_,ns,rfl,rfl,ho,ints_of_wellAll ns _ hall,hlen⟩
theorem post_true (l:OpenLaw) (args:List WData):l.row.toRowW.claim.post args (.bool true) args = true:=
  postW_of (r:=l.row.toRowW) (X:=(true == true))
    (show WShape.has [] (.bool true) .bool = true by first | rfl | decide | simp [WShape.has,WShape.arms,WShape.armsAll])
    (show (WTm.eq .res (.lit (.bool true))).value [] { args:=args,res:=some (.bool true),after:=args } = some (.bool (true == true)) from w_eq_bool (w_res rfl) w_lit) rfl
theorem attach_call {l:OpenLaw} {n:Nat} {q:Program} {loose:List Str} {XP:(Str→Option Value)→Heap→Prop} {YP:World→Heap→Prop} {d:DefRec}
    (hn:l.most = some n) (hdf:d.params.defaults = [])
    (call:∀ (w:World) (s₀ s₁:Shared) (mg mb:Str→Option Value) (fa:Addr) (o:Obj) (pm cd doc:Value) (a:Addr) (vs:List Value) (ns:List Int),
      Ground q loose [] XP w s₀ mg mb s₁.heap→YP w s₁.heap→
      s₁.heap.get? fa = some o→o.data = .func (docDef d.name d.params d.body d.scope pm cd doc)→s₁.heap.CodeRec cd d.name→mg d.name = some (.ref fa)→
      s₁.heap.get? a = some { cls:=.type "list",data:=.seq vs.toArray }→IntsAre vs ns→ns.length≤n→s₁.gens = #[]→
      codeAny (model l.prog w) callerA (.call (.ref fa) ⟨[.ref a],[]⟩) (fun r s'=>r = .ok (.ret (.bool true))∧OldK s₁.heap s'.heap∧s'.os = s₁.os∧AllBare s'.gens) s₁) :
    WalkO q loose XP YP l.row.toRowW d [] (fun f vs=>PySem.call f vs):=by
  intro w s₀ s₁ mg mb G Y fa o pm cd doc dV kV ho hd hcd hD hmg hg args vals as hpre hlay hrd hwl hlo
  obtain rfl:dV = .none:=Dflts.none hD hdf
  obtain rfl:kV = .none:=Dflts.noKw hD
  obtain ⟨a,vs,ns,rfl,rfl,hobj,hints,hlen⟩:=script_of hn hpre hwl
  refine enter_call (codeAny_mono (call w s₀ s₁ mg mb fa o pm cd doc a vs ns G Y ho (fd_plain hd) hcd hmg hobj hints hlen hg) fun r s' hq=>?_)
  obtain ⟨rfl,h2,h3,h4⟩:=hq
  exact ⟨.inl ⟨.bool true,.bool true,[],rfl,fun _=>rfl,.bool true,post_true l _,fun _=>⟨List.Pairwise.nil,fun _ hm=>(nomatch hm)⟩⟩,h2,h3,h4⟩
section
variable {prog:Program} {w:World} {A:Around} {E:Value→Shared→Prop} {s:Shared} {K:Frag}
def noObjs (h:Heap):Heap:={ h with objs:=#[] }
theorem noObjs_get (h:Heap) (b:Addr):(noObjs h).get? b = none:=by
  cases e:(noObjs h).get? b with
  | none=>rfl
  | some o=>exact absurd (Heap.lt_size e) (Nat.not_lt_zero _)
def ledger (h:Heap) (L d:Addr):List (Addr×Obj):=(List.range h.objs.size).filterMap fun a=>if a = L∨a = d then none else (h.get? a).map fun o=>(a,o)
theorem mem_ledger {h:Heap} {L d a:Addr} {o:Obj}:(a,o)∈ledger h L d↔a≠L∧a≠d∧h.get? a = some o:=by
  unfold ledger
  rw [List.mem_filterMap]
  constructor
  · rintro ⟨b,_,e⟩
    split at e
    · cases e
    · rename_i hb
      obtain ⟨o',ho,e'⟩:=Option.map_eq_some_iff.mp e
      cases e'
      exact ⟨fun q=>hb (.inl q),fun q=>hb (.inr q),ho⟩
  · rintro ⟨n1,n2,ho⟩
    refine ⟨a,List.mem_range.mpr (Heap.lt_size ho),?_⟩
    rw [if_neg (show ¬ (a = L∨a = d) from fun q=>q.elim n1 n2),ho] <;> rfl
theorem news_ledger {h:Heap} {L d:Addr} {od:Obj} (hne:d≠L) (ho:h.get? d = some od):News (noObjs h) L h ([] ++ (d,od) :: ledger h L d):=by
  rintro ⟨a,o⟩ hp
  rcases List.mem_cons.mp hp with e | hp
  · cases e
    exact ⟨ho,hne,noObjs_get _ _⟩
  · obtain ⟨n1,n2,e⟩:=mem_ledger.mp hp
    exact ⟨e,n1,noObjs_get _ _⟩
theorem fr_all {h:Heap} {L:Addr} {m:Str→Option Value} (n:h.Ns L m):Fr (noObjs h) L h m:=
  ⟨n,fun b o e=>(by rw [noObjs_get] at e; cases e),Nat.zero_le _⟩
theorem set_field {x C dx L:Addr} {ox:Obj} {m:Str→Option Value} {es es':List DictEntry} {n n':Nat} {name:Str} {v:Value} {Q:Unit→Shared→Prop}
    (X:K.In s.heap) (I:PySem.W.InstAt s.heap x ox C (some (dictOf es n))) (hd:ox.dict = some dx) (hL:s.heap.Ns L m) (hne:dx≠L)
    (hs:findIn K (.ref C) "__setattr__" = some (some (.builtin "object.__setattr__"))) (hp:plainOver K C = true) (ht:takerIn K C name = some none) (hh:hasDictIn K C = true) (hl:(getL name es).isSome = true)
    (e:(putL name (PyData.keyHash w.params name) (.str name (s.toks + 1)) v es,putN name es n) = (es',n')) (hz:es'.length≤1000)
    (h:∀ h':Heap,h'.Ns L m→h'.get? dx = some (dictOf es' n')→(∀ b o,b≠dx→b≠L→s.heap.get? b = some o→h'.get? b = some o)→Q () { s with heap:=h',toks:=s.toks + 2 }) :
    wpAny (model prog w) A (setAttr (.ref x) name v) Q E s:=by
  obtain ⟨e1,e2⟩:=Prod.mk.inj e
  have hdx:s.heap.get? dx = some (dictOf es n):=by
    have:=I.dict
    rw [hd] at this
    exact this
  refine set_plain X I hs (osa_dict (s:={ s with toks:=s.toks + 1 }) (h₀:=noObjs s.heap) (L:=L) (m:=m) (od:=dictOf es n) (od':=dictOf es' n') (es:=es') (n:=n') (pre:=[]) (post:=ledger s.heap L dx)
    (fr_all hL) (news_ledger hne hdx) X I hd hp ht hh hl (fun _ q=>nomatch q) (fun ⟨_,_⟩ q=>(mem_ledger.mp q).2.1) (by rw [putName_dict,e1,e2]) rfl hz fun h' F' N'=>?_)
  exact h h' F'.ns (N'.get (List.Mem.head _)) fun b o n1 n2 ho=>N'.get (List.Mem.tail _ (mem_ledger.mpr ⟨n2,n1,ho⟩))
end
end Att
namespace L2
open PySem PySem.Spec PyProof.Rows
theorem vals_ints:∀ {vs:List Value} {ns:List Int},IntsAre vs ns→Vals (ns.map V.int) vs
  | _,_,.nil=>.nil
  | _,_,.cons n t h=>.cons ⟨t,rfl⟩ (vals_ints h)
def Only (H:Hp):Prop:=∀ b,H b = none∨∃ o xs,H b = some (.frz o (.lst xs))
theorem law_call {P:Program} {w:World} {K:PySem.W.Frag} {mg mb:Str→Option Value} {CX:CXT} {k:Nat} {fa a:Addr} {fd:FuncData} {x:Str} {sp:Sp} {s₁:Shared} {vs:List Value} {ns:List Int}
    (KX:K.In s₁.heap) (hns:s₁.heap.Ns mainGlobals mg) (hb:s₁.heap.Ns builtinsNs mb) (hbb:∀ x:Str,x≠"__name__"→mb x = bootBuiltins x) (hlim:s₁.heap.NoLimit) (hg:s₁.gens = #[])
    (ha:s₁.heap.get? a = some { cls:=.type "list",data:=.seq vs.toArray }) (hi:IntsAre vs ns) (hl:ns.length≤sizeLine) (hr:Room k callerA)
    (F:∀ base:Heap,K.In base→base.Ns mainGlobals mg→FnOk P w K mg base CX k fa fd [x] sp) (hbind:∀ (s:Shared) (u:Value),BindsTo s fd ⟨[u],[]⟩ [(x,u)])
    (hsp:∀ H:Hp,Only H→SqL K H a (ns.map V.int)→sp [.ref a] H (fun v _=>v = .bl true) fun _ _ _=>False)
    (hCX:∀ H e s',CX [] H s₁ (fun _ _ _=>False) e s'→False) :
    codeAny (model P w) callerA (.call (.ref fa) ⟨[.ref a],[]⟩) (fun r s'=>r = .ok (.ret (.bool true))∧OldK s₁.heap s'.heap∧s'.os = s₁.os∧AllBare s'.gens) s₁:=by
  have rv:=vals_ints hi
  have lenV:=hi.length
  have core:∀ H:Hp,Only H→SqL K H a (ns.map V.int)→HOk P w H s₁.heap→(∀ b,H b≠none→b = a)→(H a≠none→K.lookup a = none)→
      codeAny (model P w) callerA (.call (.ref fa) ⟨[.ref a],[]⟩) (fun r s'=>r = .ok (.ret (.bool true))∧OldK s₁.heap s'.heap∧s'.os = s₁.os∧AllBare s'.gens) s₁:=by
    intro H hO hS hok hA hK
    have base_of:∀ {b:Addr} {o:Obj},s₁.heap.get? b = some o→H b = none→(hidT s₁.heap H).get? b = some o:=fun e n=>hidT_get e n
    have noA:∀ {b:Addr} {o:Obj} {es:Array DictEntry} {ep:Nat},s₁.heap.get? b = some o→o.data = .dict es ep→H b = none:=fun {b o es ep} e d=>by
      cases q:H b with
      | none=>rfl
      | some u=>
        have e':b = a:=hA b (by rw [q]; simp)
        subst e'
        rw [ha] at e; cases e
        have d':Data.seq vs.toArray _ = Data.dict es ep:=d
        cases d'
    have nsK:∀ {b:Addr} {m:Str→Option Value},s₁.heap.Ns b m→(hidT s₁.heap H).Ns b m:=fun {b m} ⟨o,es,ep,e,d,r⟩=>⟨o,es,ep,base_of e (noA e d),d,r⟩
    have hKb:K.In (hidT s₁.heap H):=fun b o e=>base_of (KX b o e) (by
      cases q:H b with
      | none=>rfl
      | some u=>
        have e':b = a:=hA b (by rw [q]; simp)
        subst e'
        rw [hK (by rw [q]; simp)] at e; cases e)
    have hM:Mod K mg (hidT s₁.heap H):=⟨hKb,nsK hns,⟨mb,nsK hb,hbb⟩,let ⟨mc,h1,h2⟩:=hlim; ⟨mc,nsK h1,h2⟩⟩
    have e0:Env0 P w K mg (hidT s₁.heap H) callerA [] s₁ H:=⟨rfl,hM,fun b o e=>of_hidT e,Nat.le_of_eq (hidT_size _ _),trivial,fun b hb=>absurd (show b∈([]:List Addr) from hb) (by simp),hok,.of_eq hg⟩
    refine codeAny_mono ((F _ hKb (nsK hns)).run callerA [] s₁ H ⟨[.ref a],[]⟩ [.ref a] [.ref a] _ _ hr e0 (hbind s₁ (.ref a)) (.cons rfl .nil) (hsp H hO hS)) fun r s' h=>?_
    cases r with
    | error e=>exact (hCX H e s' h).elim
    | ok fl=>
      cases fl with
      | next=>exact False.elim h
      | brk=>exact False.elim h
      | cont=>exact False.elim h
      | ret u=>
        obtain ⟨v,H',os,bare,un,hok',r',q⟩:=h
        have q':v = .bl true:=q
        subst q'
        obtain rfl:u = Value.bool true:=r'
        refine ⟨rfl,OldK.of_keep fun b o e=>?_,os,bare⟩
        cases q:H b with
        | none=>exact un.keep b o e q (by intro z; exact absurd (show b∈([]:List Addr) from z) (by simp)) (by simp)
        | some u=>
          rcases hO b with z | ⟨ob,xs,z⟩
          · rw [q] at z; cases z
          · have z2:=un.frzs b ob _ z
            obtain ⟨e1,_⟩:=hok b _ z
            obtain ⟨e2,_⟩:=hok' b _ z2
            rw [e] at e1; cases e1
            exact e2
  cases hk:K.lookup a with
  | some o=>
    have e:=KX a o hk
    rw [ha] at e
    cases e
    refine core (fun _=>none) (fun _=>.inl rfl) (.inr ⟨_,vs.toArray,_,hk,rfl,rfl,rfl,by rw [List.size_toArray,lenV]; exact hl,by simpa using rv⟩) (fun b u z=>by have z':(none:Option HO) = some u:=z; cases z') (fun b z=>absurd rfl z) fun z=>absurd rfl z
  | none=>
    refine core (fun b=>if b = a then some (.frz { cls:=.type "list",data:=.seq vs.toArray } (.lst (ns.map V.int))) else none) (fun b=>?_) (.inl (.inr ⟨{ cls:=.type "list",data:=.seq vs.toArray },if_pos rfl⟩)) (fun b u z=>?_) (fun b z=>?_) fun _=>hk
    · by_cases hb:b = a
      · exact .inr ⟨_,_,if_pos hb⟩
      · exact .inl (if_neg hb)
    · by_cases hb:b = a
      · have z':=(if_pos hb).symm.trans z
        cases z'
        subst hb
        exact ⟨ha,by rw [List.length_map]; exact hl,vs,_,rv,ha⟩
      · have z':=(if_neg hb).symm.trans z
        cases z'
    · by_cases hb:b = a
      · exact hb
      · exact absurd (if_neg hb) z
end L2
namespace L2
open PySem PySem.Spec PyProof.Rows
theorem walk_of {l:PySem.W.OpenLaw} {n k:Nat} {q:Program} {loose:List Str} {XP:(Str→Option Value)→Heap→Prop} {YP:World→Heap→Prop} {d:DefRec} {K:Params→PySem.W.Frag} {CX:World→CXT} {sp:World→Sp} {x:Str}
    (hn:l.most = some n) (hn2:n≤sizeLine) (hdf:d.params.defaults = []) (hr:Room k callerA)
    (hY:∀ (w:World) (h:Heap),YP w h→(K w.params).In h)
    (F:∀ (w:World) (mg:Str→Option Value) (fa:Addr) (h:Heap),(K w.params).In h→h.Ns mainGlobals mg→mg d.name = some (.ref fa)→
      ∃ fd:FuncData,(∀ (s:Shared) (u:Value),BindsTo s fd ⟨[u],[]⟩ [(x,u)])∧
        ∀ base:Heap,(K w.params).In base→base.Ns mainGlobals mg→FnOk l.prog w (K w.params) mg base (CX w) k fa fd [x] (sp w))
    (hsp:∀ (w:World) (H:Hp) (a:Addr) (ns:List Int),ns.length≤n→Only H→SqL (K w.params) H a (ns.map V.int)→sp w [.ref a] H (fun v _=>v = .bl true) fun _ _ _=>False)
    (hCX:∀ (w:World) (H:Hp) (s:Shared) (e:Value) (s':Shared),CX w [] H s (fun _ _ _=>False) e s'→False) :
    PySem.W.WalkO q loose XP YP l.row.toRowW d [] (fun f vs=>PySem.call f vs):=by
  refine Att.attach_call hn hdf fun w s₀ s₁ mg mb fa o pm cd doc a vs ns G Y ho hd hcd hmg hobj hints hlen hg=>?_
  have KX:=hY w _ Y
  obtain ⟨fd,hb,hF⟩:=F w mg fa _ KX G.T.g hmg
  exact law_call KX G.T.g G.T.b G.T.builtins G.T.nolimit hg hobj hints (Nat.le_trans hlen hn2) hr hF hb (fun H hO hS=>hsp w H a ns hlen hO hS) fun H e s'=>hCX w H s₁ e s'
end L2
namespace L2
open PySem PySem.Spec PyProof.Rows
def defArgs (s:Stmt):Arguments:=match s with
  | .FunctionDef _ a _ _ _ _ _ _ _ _=>a
  | _=>{ posonlyargs:=[],args:=[],vararg:=none,kwonlyargs:=[],kw_defaults:=[],kwarg:=none,defaults:=[] }
def defBody (s:Stmt):List Stmt:=match s with
  | .FunctionDef _ _ b _ _ _ _ _ _ _=>b
  | _=>[]
def defScope (s:Stmt):Scope:=match s with
  | .FunctionDef _ _ _ _ _ _ sc _ _ _=>sc
  | _=>{ kind:=.function,names:=[],isGenerator:=false,isCoroutine:=false }
abbrev CX0:CXT:=fun _ _ _ _ _ _=>False
abbrev E0:XK:=fun _ _ _=>False
theorem pass0 {X:Cx}:Passes CX0 X E0:=fun _ _ _ _ _ _ _ h=>h.elim
structure Fun (K:PySem.W.Frag) (x qual:Str) (st:Stmt) (f:Addr) (fd:FuncData):Prop where
  ex:∃ (oc:Value) (od:Option Addr) (kV doc pm:Value) (an:Option Addr) (cdv ct:Value) (osl:Array (Option Value)),
    fd = PySem.W.fnOf x qual (defArgs st) (defBody st) (defScope st) .none kV doc pm an cdv ct∧K.lookup f = some ⟨oc,od,.func fd,osl⟩∧PySem.W.codeIn K cdv qual = true
  kp:PySem.W.keepIn K (.ref f) = true
section
variable {P:Program} {w:World} {K:PySem.W.Frag} {mg:Str→Option Value} {base:Heap}
theorem Fun.ok {x qual:Str} {st:Stmt} {f:Addr} {fd:FuncData} {N ps:List Str} {k:Nat} {sp:Sp} (F:Fun K x qual st f fd) (S:FnScope N ps (defScope st)) (len:∀ vs H Q E,sp vs H Q E→vs.length = ps.length)
    (hbody:∀ (cdv:Value) (A:Around) (outer:List Env) (s:Shared) (H:Hp) (vs:List V) (Q:VK) (E:XK),Room k (A.deeper (envOfC qual (defScope st) s.heap.objs.size f cdv))→sp vs H Q E→
      ∃ t,PSs (cxOf CX0 P w K mg base N qual (defScope st) f cdv A outer s H E).nox (defBody st) t∧t { nx:=fun _ H'=>Q .non H',rt:=Q } (start N vs) H):FnOk P w K mg base CX0 (k + 1) f fd ps sp:=by
  obtain ⟨oc,od,kV,doc,pm,an,cdv,ct,osl,rfl,lk,hcd⟩:=F.ex
  refine fn_of lk hcd S len fun A outer s H vs Q E hr hsp=>?_
  obtain ⟨t,h,q⟩:=hbody cdv A outer s H vs Q E hr hsp
  exact ⟨t,h.nox,q⟩
theorem Fun.binds {x qual:Str} {st:Stmt} {f:Addr} {fd:FuncData} {ps:List Str} (F:Fun K x qual st f fd)
    (h:∀ (kV doc pm:Value) (an:Option Addr) (cdv ct:Value) (us:List Value),us.length = ps.length→bindArgs (PySem.W.fnOf x qual (defArgs st) (defBody st) (defScope st) .none kV doc pm an cdv ct) ⟨us,[]⟩ = pure (ps.zip us)):Binds K fd ps []:=by
  obtain ⟨oc,od,kV,doc,pm,an,cdv,ct,osl,rfl,lk,hcd⟩:=F.ex
  exact .all (h kV doc pm an cdv ct)
theorem fun_mk {x qual:Str} {st:Stmt} {f:Addr} {oc:Value} {od an:Option Addr} {osl:Array (Option Value)} {kV doc pm cdv ct:Value} (l:K.lookup f = some ⟨oc,od,.func (PySem.W.fnOf x qual (defArgs st) (defBody st) (defScope st) .none kV doc pm an cdv ct),osl⟩)
    (c:PySem.W.codeIn K cdv qual = true) (k:PySem.W.keepIn K (.ref f) = true):Fun K x qual st f (PySem.W.fnOf x qual (defArgs st) (defBody st) (defScope st) .none kV doc pm an cdv ct):=⟨⟨oc,od,kV,doc,pm,an,cdv,ct,osl,rfl,l,c⟩,k⟩
end
theorem hu_of {A:Around} {k:Nat} (hr:Room k A):A.units + 1 < cLine:=Nat.lt_of_le_of_lt (Nat.add_le_add_left (by decide:1≤64) _) hr.units
section
variable {X:Cx}
theorem pv (i:Nat) {x:Str} {pos:Pos} (hN:X.N[i]? = some x:=by rfl) (hv:Vis X.env.scope x:=by first | exact Or.inl rfl | exact Or.inr (Or.inl rfl) | exact Or.inr (Or.inr rfl)) (hd:(x == ("__debug__":Str)) = false:=by decide)
    (hcd:(x == ("__classdict__":Str)) = false:=by decide):PE X (.Name x pos) (tVar i):=pe_var hN hv hd hcd
end
theorem ite2 {c A B:Prop} [Decidable c] (h1:c→A) (h2:¬ c→B):if c then A else B:=by
  by_cases h:c
  · rw [if_pos h]
    exact h1 h
  · rw [if_neg h]
    exact h2 h
def Same (H H':Hp):Prop:=∀ b o,H b = some o→H' b = some o
theorem Same.refl (H:Hp):Same H H:=fun _ _ h=>h
theorem Same.trans {H H1 H2:Hp} (a:Same H H1) (b:Same H1 H2):Same H H2:=fun c o h=>b c o (a c o h)
theorem Same.free {H H':Hp} (e:Same H H') {l:Addr} (h:H' l = Option.none):H l = Option.none:=by
  cases q:H l with
  | none=>rfl
  | some o=>
    rw [e l o q] at h
    cases h
theorem Same.seq {K:PySem.W.Frag} {H H':Hp} {a:Addr} {xs:List V} (e:Same H H') (h:SqL K H a xs):SqL K H' a xs:=by
  rcases h with (h | ⟨o,h⟩) | h
  · exact .inl (.inl (e _ _ h))
  · exact .inl (.inr ⟨o,e _ _ h⟩)
  · exact .inr h
end L2
set_option maxHeartbeats 1000000
namespace L2
open PySem PySem.Spec PyProof.Rows
section
variable {prog:Program} {w:World} {A:Around} {env:Env} {elt target iter:Expr} {ifs:List Expr} {scope:Scope} {pos:Pos} {it acc:Value}
abbrev testsOf (env:Env) (ifs:List Expr):Sem Bool:=forIn ifs true fun c r=>(if r = true then (do let ok ← isTrue c env (eval c env); pure (ForInStep.yield ok)) else pure (ForInStep.yield r))
abbrev OneTurn (prog:Program) (w:World) (A:Around) (env:Env) (elt target:Expr) (ifs:List Expr) (it acc:Value) (Ee:Value→Shared→Prop) (over on:Shared→Prop):Shared→Prop:=
  wpAny (model prog w) A (pyNext it) (fun | none,s1=>over s1 | some v,s1=>wpAny (model prog w) A (letOwnedTupleGo target it v) (fun _ s2=>wpAny (model prog w) A (assign target env v) (fun _ s3=>wpAny (model prog w) A (testsOf env ifs) (fun ok s4=>
    if ok = true then wpAny (model prog w) A (eval elt env) (fun x s5=>wpAny (model prog w) A (call (.builtin "list.append") [acc,x]) (fun _=>on) (fun _ _=>False) s5) Ee s4 else on s4) Ee s3) Ee s2) (fun _ _=>False) s1) (fun _ _=>False)
theorem comp_turnsX {R:Result→Shared→Prop} {Ee:Value→Shared→Prop} (I:Nat→Shared→Prop) (hE:∀ x s,Ee x s→notedBy (model prog w) A env (fun x s=>R (.error x) s) x s)
    (turn:∀ n s,I n s→OneTurn prog w A env elt target ifs it acc Ee (R (.ok .next)) (fun s'=>∃ m,m < n∧I m s') s) (n:Nat) {s:Shared} (h:I n s) :
    codeAny (model prog w) A (.compLoop (.ListComp elt [⟨target,iter,ifs,0⟩] scope pos) 0 it acc env) R s:=by
  have none':∀ {Z:Value→Shared→Prop} (x:Value) (s:Shared),False→Z x s:=fun _ _ z=>z.elim
  refine codeAny_loop rfl I (fun k s1 h1=>?_) n h
  change wpAny _ A ((compTurn (.ListComp elt [⟨target,iter,ifs,0⟩] scope pos) 0 it acc env).onRaise (fun x=>do noteFrame x env; theTreesLotGoes x)) _ _ s1
  refine wpAny_noted ?_
  rw [compTurn_list]
  refine wpAny_bind (wpAny_standAt (wpAny_bind (wpAny_mono (turn k s1 h1) (fun r s2 h2=>?_) none')))
  match r,h2 with
  | none,h2=>exact wpAny_pure h2
  | some v,h2=>
    refine wpAny_bind (wpAny_mono h2 (fun _ s3 h3=>wpAny_bind (wpAny_mono h3 (fun _ s4 h4=>wpAny_bind (wpAny_mono h4 (fun ok s5 h5=>?_) hE)) hE)) none')
    match ok,h5 with
    | false,h5=>exact wpAny_pure ⟨rfl,h5⟩
    | true,h5=>exact wpAny_bind (wpAny_bind (wpAny_mono h5 (fun x s6 h6=>wpAny_bind (wpAny_mono h6 (fun _ s7 h7=>wpAny_pure (wpAny_pure ⟨rfl,h7⟩)) none')) hE))
theorem comp_turns {R:Result→Shared→Prop} (I:Nat→Shared→Prop) (turn:∀ n s,I n s→OneTurn prog w A env elt target ifs it acc (fun _ _=>False) (R (.ok .next)) (fun s'=>∃ m,m < n∧I m s') s) (n:Nat) {s:Shared} (h:I n s) :
    codeAny (model prog w) A (.compLoop (.ListComp elt [⟨target,iter,ifs,0⟩] scope pos) 0 it acc env) R s:=comp_turnsX I (fun _ _ z=>z.elim) turn n h
end
def PIfs (X:Cx) (ifs:List Expr) (t:TT):Prop:=
  ∀ (pins:List (Addr×Obj)) (s:Shared) (σ:St) (H:Hp) (Q:Bool→Hp→Prop),Inv X pins σ H s→t σ H Q→
    wpAny (model X.prog X.w) X.A (forIn ifs true fun c r=>if r = true then do let ok ← isTrue c X.env (eval c X.env); pure (ForInStep.yield ok) else pure (ForInStep.yield r)) (TP X pins σ Q) X.xe s
def tYes:TT:=fun _ H Q=>Q true H
theorem pifs_nil {X:Cx}:PIfs X [] tYes:=fun _ _ _ H _ I h=>wpAny_tests_nil ⟨H,I,h⟩
theorem pifs_one {X:Cx} {c:Expr} {t:TT} (h:PT X c t):PIfs X [c] t:=fun pins s σ H Q I q=>wpAny_tests_one (h pins s σ H Q I q)
def cxComp (X:Cx) (scope:Scope) (cl:List (Str×Addr)) (N:List Str) (C:Addr) (s:Shared) (H:Hp) (fp:List Addr):Cx:=
  { prog:=X.prog,w:=X.w,K:=X.K,mg:=X.mg,base:=X.base,A:=X.A,N:=N,s₀:=s,H₀:=H,env:=compEnvC scope cl C X.env,outer:=X.stack,stack:=X.stack,ex:=fp,fn:=fun _=>false,calm:=X.calm,pn:=[],xe:=fun _ _=>False }
def stC (fr:List (Option Nat)) (σ:St):St:=fr.map fun o=>o.bind fun i=>(σ[i]?).bind id
def tCompK (fr:List (Option Nat)) (g:TG) (tt:TT) (te:TE) (σ:St) (Q:VK) (J:It) (H1:Hp):Prop:=∀ l,H1 l = none→∃ W:Nat→Nat→St→Hp→Prop,(∃ m,W 0 m (stC fr σ) (upd H1 l (.lst [])))∧∀ i m σ H,W i m σ H→
  (J.stop i H∧Q (.ref l) H)∨(J.go i H∧∀ x H',J.yld i H x H'→g x σ H' fun σ2 H2=>tt σ2 H2 fun b H3=>if b = true then te σ2 H3 fun v H4=>∃ xs,H4 l = some (.lst xs)∧xs.length < sizeLine∧∃ m',m' < m∧W (i + 1) m' σ2 (upd H4 l (.lst (xs ++ [v])))
    else ∃ m',m' < m∧W (i + 1) m' σ2 H3)
def tComp (fr:List (Option Nat)) (wi:TI) (g:TG) (tt:TT) (te:TE):TE:=fun σ H Q=>wi σ H (tCompK fr g tt te σ Q)
def compChk (XN:List Str) (xs sc:Scope) (N:List Str) (fr:List (Option Nat)):Bool:=
  decide (sc.kind = .function) && decide (fr.length = N.length) && (sc.names.all fun y=>!decide (y.2 = .cell)) && (sc.names.all fun y=>!decide (y.2 = .local) || decide (sc.names.lookup y.1 = some .local)) &&
  (sc.names.all fun y=>!decide (y.2 = .free) || (decide (xs.names.lookup y.1 = some .cell) || decide (xs.names.lookup y.1 = some .free))) &&
  ((N.zip fr).all fun p=>match p.2 with | none=>true | some i=>decide (XN[i]? = some p.1) && decide (sc.names.lookup p.1 = some .free))
def ClOk (cells:List (Str×Addr)):List (Str×Addr)→Prop
  | []=>True
  | p :: r=>cells.lookup p.1 = some p.2∧ClOk cells r
theorem ClOk.get {cells:List (Str×Addr)}:∀ {cl:List (Str×Addr)},ClOk cells cl→∀ {x:Str} {c:Addr},cl.lookup x = some c→cells.lookup x = some c
  | [],_,_,_,h=>by cases h
  | (y,d) :: r,k,x,c,h=>by
    rw [List.lookup_cons] at h
    cases e:x == y with
    | true=>
      rw [e] at h
      cases h
      rw [eq_of_beq e]
      exact k.1
    | false=>
      rw [e] at h
      exact ClOk.get k.2 h
def ClAll (cl:List (Str×Addr)):List (Str×NameKind)→Prop
  | []=>True
  | p :: r=>(p.2 = .free→∃ c,cl.lookup p.1 = some c)∧ClAll cl r
theorem ClAll.get {cl:List (Str×Addr)}:∀ {ns:List (Str×NameKind)},ClAll cl ns→∀ y∈ns,y.2 = .free→∃ c,cl.lookup y.1 = some c
  | [],_,_,h=>by cases h
  | p :: r,k,y,h=>by
    rcases List.mem_cons.mp h with rfl | h
    · exact k.1
    · exact ClAll.get k.2 y h
theorem relabel_cell {env:Env}:∀ {names:List (Str×NameKind)} {x:Str} {k:NameKind},(names.map fun (n,k)=>if (k == NameKind.free && env.scope.kind == .function && env.kindOf n == some .cell) then (n,NameKind.cell) else (n,k)).lookup x = some k→
    names.lookup x = some k∨(k = .cell∧names.lookup x = some .free)
  | [],_,_,h=>by cases h
  | (n,k0) :: r,x,k,h=>by
    have ih:=@relabel_cell env r x k
    by_cases hc:(k0 == NameKind.free && env.scope.kind == .function && env.kindOf n == some .cell) = true
    · simp only [List.map_cons,if_pos hc,List.lookup_cons] at h
      rw [List.lookup_cons]
      cases e:x == n with
      | true=>
        rw [e] at h
        cases h
        simp only [Bool.and_eq_true] at hc
        have:k0 = .free:=by simpa using hc.1.1
        exact .inr ⟨rfl,by rw [this]⟩
      | false=>rw [e] at h; exact ih h
    · simp only [List.map_cons,if_neg hc,List.lookup_cons] at h
      rw [List.lookup_cons]
      cases e:x == n with
      | true=>rw [e] at h; exact .inl h
      | false=>rw [e] at h; exact ih h
theorem relabel_free {env:Env}:∀ {names:List (Str×NameKind)} {x:Str},names.lookup x = some .free→
    (names.map fun (n,k)=>if (k == NameKind.free && env.scope.kind == .function && env.kindOf n == some .cell) then (n,NameKind.cell) else (n,k)).lookup x = some .cell∨
    (names.map fun (n,k)=>if (k == NameKind.free && env.scope.kind == .function && env.kindOf n == some .cell) then (n,NameKind.cell) else (n,k)).lookup x = some .free
  | [],_,h=>by cases h
  | (n,k0) :: r,x,h=>by
    have ih:=@relabel_free env r x
    rw [List.lookup_cons] at h
    by_cases hc:(k0 == NameKind.free && env.scope.kind == .function && env.kindOf n == some .cell) = true
    · simp only [List.map_cons,if_pos hc,List.lookup_cons]
      cases e:x == n with
      | true=>exact .inl rfl
      | false=>rw [e] at h; exact ih h
    · simp only [List.map_cons,if_neg hc,List.lookup_cons]
      cases e:x == n with
      | true=>rw [e] at h; exact .inr h
      | false=>rw [e] at h; exact ih h
section
variable {X:Cx}
theorem comp_core (N:List Str) (fr:List (Option Nat)) {elt tg iter:Expr} {ifs:List Expr} {scope:Scope} {pos fpos:Pos} {wi:TI} {g:TG} {tt:TT} {te:TE} {cl:List (Str×Addr)}
    (hc:X.calm = true) (hi:PI X tg iter wi) (hchk:compChk X.N X.env.scope scope N fr = true) (hclos:closureFor scope X.env = pure cl) (hcl:ClOk X.env.cells cl) (hall:ClAll cl scope.names)
    (hb:∀ (C:Addr) (s:Shared) (H:Hp) (fp:List Addr),PG (cxComp X scope cl N C s H fp) tg g∧PIfs (cxComp X scope cl N C s H fp) ifs tt∧PE (cxComp X scope cl N C s H fp) elt te)
    (hs:∀ x,foldedSetIterable iter X.env x = pure x) {pins:List (Addr×Obj)} {s:Shared} {σ:St} {H:Hp} {Q:VK} {use:Option (Value→Sem Unit)} {Qc:Value→Shared→Prop} (I:Inv X pins σ H s) (h:tComp fr wi g tt te σ H Q)
    (hfin:∀ (l:Addr) (H':Hp) (s':Shared) (C:Addr),Inv X pins σ H' s'→FpOk X pins H' C→(∃ m,s'.heap.Ns C m)→Q (.ref l) H'→compPost (model X.prog X.w) X.A X.xe use Qc (.ref l) C (.ok .next) s') :
    wpAny (model X.prog X.w) X.A (comprehension (.ListComp elt [⟨tg,iter,ifs,0⟩] scope pos) scope X.env fpos (newList []) (firstAsync [⟨tg,iter,ifs,0⟩]) (firstIter [⟨tg,iter,ifs,0⟩] X.env) use) Qc X.xe s:=by
  simp only [compChk,Bool.and_eq_true,decide_eq_true_eq,List.all_eq_true,Bool.or_eq_true,Bool.not_eq_true',decide_eq_false_iff_not] at hchk
  obtain ⟨⟨⟨⟨⟨hkind,hlen⟩,hcell⟩,hnames⟩,hfree⟩,hfr⟩:=hchk
  have hnames':∀ x∈scope.names,x.2 = .local→scope.names.lookup x.1 = some .local:=fun y hy e=>(hnames y hy).resolve_left fun z=>z e
  have hcell':∀ x∈scope.names,x.2≠.cell:=fun y hy=>hcell y hy
  refine wpAny_comprehension_free (use:=use) rfl hs hclos hkind hnames' (thn (hi pins s σ H _ I h) fun v s1 h1=>thn h1 fun itv s2 h2=>?_)
  obtain ⟨it,fp,tn,J,H2,e,I2,T,st2,f2,hQ⟩:=h2
  subst e
  refine wpAny_newObj_type (hd:=by size_fits) (wpAny_newFunctionEnv hcell' (by intro y hy; simp at hy) (fun h₁ hns hsb=>?_) hkind)
  dsimp only at hns hsb ⊢
  obtain ⟨W,⟨m0,w0⟩,turn⟩:=hQ s2.heap.objs.size I2.fresh
  have I3:Inv X pins σ (upd H2 s2.heap.objs.size (.lst [])) { s2 with heap:=s2.heap.push { cls:=.type "list",data:=.seq ([]:List Value).toArray },toks:=s2.toks }:=I2.lnew (its:=[]) .nil (Nat.zero_le _)
  generalize hh3:s2.heap.push { cls:=.type "list",dict:=none,data:=.seq ([]:List Value).toArray } = h3 at hns hsb ⊢
  rw [show s2.heap.push { cls:=.type "list",data:=.seq ([]:List Value).toArray } = h3 from hh3] at I3
  generalize hH3:upd H2 s2.heap.objs.size (.lst []) = H3 at I3 w0
  generalize hl:s2.heap.objs.size = l at turn hH3 ⊢
  have hl3:l < h3.objs.size:=by rw [← hh3,← hl,Heap.size_push]; exact Nat.lt_succ_self _
  generalize hs3:({ s2 with heap:=h3,toks:=s2.toks }:Shared) = s3 at I3
  have es3:s3.heap = h3:=by rw [← hs3]
  have eos:s3.os = s2.os:=by rw [← hs3]
  have egens:s3.gens = s2.gens:=by rw [← hs3]
  generalize hC:h3.objs.size = C at hns hsb ⊢
  have old:∀ b o,h3.get? b = some o→h₁.get? b = some o:=fun b o e=>
    hsb.extBut b o (by rw [← hC]; exact Nat.ne_of_lt (Heap.lt_size e)) (Heap.get?_push_of_some _ e)
  have f3:∀ b∈fp,FpOk X pins H3 b:=fun b hb=>by
    obtain ⟨g0,g1⟩:=f2 b hb
    refine ⟨?_,g1⟩
    rw [← hH3]
    have:b≠l:=by
      obtain ⟨o,e,_⟩:=T.obj _ _ st2 b hb
      rw [← hl]; exact Nat.ne_of_lt (Heap.lt_size e)
    rw [upd_ne this]; exact g0
  have st3:tn 0 h₁:=T.keep _ _ _ st2 fun b hb o e=>old b o (by rw [← hh3]; exact Heap.get?_push_of_some _ e)
  have ok:(cxComp X scope cl N C s3 H3 fp).Ok:=by
    refine ⟨I3.ok.mod,?_,I3.ok.glob,I3.ok.blt,?_,fun x y c e1 e2=>I3.ok.inj x y c (hcl.get e1) (hcl.get e2),fun x hx=>?_,fun x c hx=>(by cases hx),I3.ok.hd,I3.ok.frames,.inl rfl,fun b hb=>?_,fun b o e=>?_,?_,fun b o e hb=>?_,fun b hb hb2=>?_,?_,fun b hb=>?_⟩
    · exact hkind
    · show s3.heap.objs.size≤C
      rw [es3,hC]; exact Nat.le_refl _
    · have hx':(relabel scope X.env).names.lookup x = some .cell∨(relabel scope X.env).names.lookup x = some .free:=hx
      have:scope.names.lookup x = some .free:=by
        rcases hx' with z | z
        · rcases relabel_cell z with q | ⟨_,q⟩
          · exact absurd rfl (hcell' _ (PySem.mem_of_lookup q))
          · exact q
        · rcases relabel_cell z with q | ⟨q,_⟩
          · exact q
          · cases q
      exact hall.get _ (PySem.mem_of_lookup this) rfl
    · obtain ⟨g0,g1,g2,g3,g4,g5⟩:=f3 b hb
      obtain ⟨o,e,_⟩:=T.obj _ _ st2 b hb
      refine ⟨?_,fun x c e=>g4 x c (hcl.get e)⟩
      show b≠C
      rw [← hC]
      exact Nat.ne_of_lt (Heap.lt_size (by rw [← hh3]; exact Heap.get?_push_of_some _ e))
    · have q:=I3.bs b o e
      exact q
    · show X.base.objs.size≤s3.heap.objs.size
      exact Nat.le_trans I3.ok.bsz I3.sz
    · obtain ⟨g0,g1,g2,g3,g4,g5⟩:=f3 b hb
      rcases g3 with z | z
      · exact I3.ok.noex b o e z
      · exact absurd (Nat.lt_of_lt_of_le (Heap.lt_size e) (Nat.le_trans I3.ok.bsz z)) (Nat.lt_irrefl _)
    · obtain ⟨g0,g1,g2,g3,g4,g5⟩:=f3 b hb
      rcases List.mem_cons.mp (I3.stkSub b hb2) with z | z
      · exact g1 z
      · exact g2 z
    · show s3.heap.FunFrames X.base X.stack
      exact I3.stack
    · exact I3.stkFree b hb
  have I4:Inv (cxComp X scope cl N C s3 H3 fp) [] (stC fr σ) H3 { s2 with heap:=h₁,toks:=s2.toks + ([]:List (Str×Value)).length }:=by
    have hk3:∀ b o,s3.heap.get? b = some o→h₁.get? b = some o:=fun b o e=>old b o (by rw [← es3]; exact e)
    refine ⟨ok,eos.symm ▸ rfl,egens ▸ I3.bare,Un.kept hk3,⟨_,hns,fun i x v e1 e2 e3=>?_⟩,fun x c e=>?_,?_,fun x c e=>I3.freeC x c (hcl.get e),fun p hp=>(by cases hp),I3.hok.kept hk3,?_⟩
    ·
      have e1':N[i]? = some x:=e1
      have e2':(fr[i]?).map (fun o=>o.bind fun i=>(σ[i]?).bind id) = some (some v):=by
        have:(stC fr σ)[i]? = some (some v):=e2
        rw [stC,List.getElem?_map] at this
        exact this
      cases q:fr[i]? with
      | none=>rw [q] at e2'; cases e2'
      | some o=>
        rw [q] at e2'
        cases o with
        | none=>cases e2'
        | some j=>
          have e2'':(σ[j]?).bind id = some v:=Option.some.inj e2'
          obtain ⟨p1,p2⟩:X.N[j]? = some x∧scope.names.lookup x = some .free:=by
            have hz:(x,some j)∈N.zip fr:=by
              have:(N.zip fr)[i]? = some (x,some j):=by
                rw [List.getElem?_zip_eq_some]; exact ⟨e1',q⟩
              exact List.mem_of_getElem? this
            have:=hfr _ hz
            simpa using this
          have hv:X.env.scope.names.lookup x = some .cell∨X.env.scope.names.lookup x = some .free:=by
            rcases hfree _ (PySem.mem_of_lookup p2) with z | z
            · exact absurd rfl z
            · simpa using z
          have e3':σ[j]? = some (some v):=by
            cases q3:σ[j]? with
            | none=>rw [q3] at e2''; cases e2''
            | some w'=>rw [q3] at e2''; have:w' = some v:=e2''; rw [this]
          obtain ⟨m,hn,hl'⟩:=I3.loc
          obtain ⟨u,ru,lk⟩:=hl' j x v p1 e3' (.inr hv)
          refine ⟨u,ru,.inr ⟨relabel_free p2,?_⟩⟩
          rcases lk with ⟨lk,_⟩ | ⟨_,c,ec,cc⟩
          · have lk':X.env.scope.names.lookup x = some .local:=lk
            rcases hv with z | z <;> (rw [z] at lk'; cases lk')
          · obtain ⟨c',ec'⟩:=hall.get _ (PySem.mem_of_lookup p2) rfl
            have:=hcl.get ec'
            rw [ec] at this; cases this
            obtain ⟨o,ho,hd⟩:=cc
            exact ⟨c,ec',o,hk3 _ _ ho,hd⟩
    · obtain ⟨v,o,ho,hd⟩:=I3.cell x c (hcl.get e)
      exact ⟨v,o,hk3 _ _ ho,hd⟩
    · show H3 C = none
      exact I3.hok.fresh (by rw [es3,hC]; exact Nat.le_refl _)
    · show (stC fr σ).length = N.length
      rw [stC,List.length_map]; exact hlen
  obtain ⟨hg,ht,he⟩:=hb C s3 H3 fp
  have fpc:∀ {H':Hp},(∀ b∈fp,H' b = none)→∀ b∈fp,FpOk (cxComp X scope cl N C s3 H3 fp) [] H' b:=fun hn b hb=>by
    obtain ⟨q1,q2⟩:=ok.exf b hb
    exact ⟨hn b hb,q1,ok.exfs b hb,.inl hb,q2,fun p hp=>by cases hp⟩
  have fin:∀ (σ':St) (H':Hp) (s':Shared),Inv (cxComp X scope cl N C s3 H3 fp) [] σ' H' s'→Q (.ref l) H'→compPost (model X.prog X.w) X.A X.xe use Qc (.ref l) C (.ok .next) s':=fun σ' H' s' I' q=>by
    obtain ⟨m,hn,_⟩:=I'.loc
    have nC:∀ b o,s3.heap.get? b = some o→b≠C:=fun b o e=>by
      rw [← hC,← es3]; exact Nat.ne_of_lt (Heap.lt_size e)
    have fC:H' C = none:=I'.free
    have u:=I'.base
    refine hfin l H' s' C ?_ (I3.fpOk (by rw [es3,hC]; exact Nat.le_refl _) fC) ⟨m,hn⟩ q
    refine I3.call' (s':=s') (ch:=fp) I'.os ⟨fun b o e n hb hx=>u.keep b o e n hb hx,fun b o e n hb hx=>u.slot b o e n hb hx,u.free,fun b o e hx=>u.there b o e hx,u.tups,u.frzs,u.tbls⟩ (fun b o e=>I'.hok b o e) I'.bare fun b hb=>?_
    obtain ⟨g0,g1,g2,g3,g4,g5⟩:=f3 b hb
    exact ⟨g3,g1,g4,g5⟩
  have loop:codeAny (model X.prog X.w) X.A (.compLoop (.ListComp elt [⟨tg,iter,ifs,0⟩] scope pos) 0 (.ref it) (.ref l) (compEnvC scope cl C X.env)) (compPost (model X.prog X.w) X.A X.xe use Qc (.ref l) C)
      { s2 with heap:=h₁,toks:=s2.toks + ([]:List (Str×Value)).length }:=by
    refine comp_turns (fun n s'=>∃ i σ' H',Inv (cxComp X scope cl N C s3 H3 fp) [] σ' H' s'∧tn i s'.heap∧(∀ b∈fp,H' b = none)∧W i n σ' H') ?_ m0 ⟨0,_,H3,I4,st3,fun b hb=>(f3 b hb).1,w0⟩
    rintro n s5 ⟨i,σ5,H5,I5,st5,fr5,w5⟩
    rcases turn i n σ5 H5 w5 with ⟨stop,qn⟩ | ⟨go,step⟩
    · refine thn (T.done (cxComp X scope cl N C s3 H3 fp) rfl rfl rfl hc i [] s5 σ5 H5 (fun _ _=>False) I5 (fpc fr5) st5 stop) fun r s6 ⟨hr,I6⟩=>?_
      subst hr
      exact fin σ5 H5 s6 I6 qn
    · refine thn (T.item (cxComp X scope cl N C s3 H3 fp) rfl rfl rfl hc i [] s5 σ5 H5 (fun _ _=>False) I5 (fpc fr5) st5 go) fun r s6 ⟨u,hr,h6⟩=>?_
      subst hr
      refine thn h6 fun _ s7 ⟨x,H7,I7,r7,y7,st7,fr7⟩=>?_
      have I7':=I7.pinned (fpc fr7) (T.obj _ _ st7)
      refine thn (hg _ s7 σ5 H7 x u _ I7' r7 (step x H7 y7)) fun _ s8 ⟨σ8,H8,I8,q8⟩=>?_
      have again:∀ {σ9:St} {H9:Hp} {s9:Shared},Inv (cxComp X scope cl N C s3 H3 fp) ([] ++ pinsAt fp s7.heap) σ9 H9 s9→(∃ m',m' < n∧W (i + 1) m' σ9 H9)→∃ m,m < n∧∃ i σ' H',Inv (cxComp X scope cl N C s3 H3 fp) [] σ' H' s9∧tn i s9.heap∧(∀ b∈fp,H' b = none)∧W i m σ' H':=fun {σ9 H9 s9} I9 n9=>by
        obtain ⟨m',hm,w9⟩:=n9
        refine ⟨m',hm,i + 1,σ9,H9,I9.unpinned,T.keep _ _ _ st7 fun b hb o e=>(I9.pin (b,o) (List.mem_append_right _ (List.mem_append_right _ (mem_pinsAt hb e)))).1,fun b hb=>?_,w9⟩
        obtain ⟨o,e,d⟩:=T.obj _ _ st7 b hb
        exact (I9.pin (b,o) (List.mem_append_right _ (List.mem_append_right _ (mem_pinsAt hb e)))).2.1
      refine thn (ht _ s8 σ8 H8 _ I8 q8) fun ok s9 ⟨H9,I9,q9⟩=>?_
      cases ok with
      | false=>
        rw [if_neg Bool.false_ne_true] at q9 ⊢
        exact again I9 q9
      | true=>
        rw [if_pos rfl] at q9 ⊢
        refine thn (he _ s9 σ8 H9 _ I9 q9) fun y sa ⟨vy,Ha,Ia,ry,qa⟩=>?_
        obtain ⟨xs,hla,hsz,n9⟩:=qa
        refine thn (mt_append _ sa σ8 Ha (.ref l) [vy] (.ref l) [y] (fun _ Hb=>∃ m',m' < n∧W (i + 1) m' σ8 Hb) Ia rfl (.cons ry .nil) ⟨l,xs,vy,rfl,rfl,hla,hsz,n9⟩) fun _ sb ⟨_,Hb,Ib,_,qb⟩=>?_
        exact again Ib qb
  show codeAny (model X.prog X.w) X.A (.compStart (.ListComp elt [⟨tg,iter,ifs,0⟩] scope pos) 0 (.ref it) (.ref l) (compEnvC scope cl C X.env)) (compPost (model X.prog X.w) X.A X.xe use Qc (.ref l) C) { s2 with heap:=h₁,toks:=s2.toks + ([]:List (Str×Value)).length }
  exact codeAny_compStart_list loop (T.self _ 0 _ _ _ st3 loop)
theorem pe_comp (N:List Str) (fr:List (Option Nat)) {elt tg iter:Expr} {ifs:List Expr} {scope:Scope} {pos:Pos} {wi:TI} {g:TG} {tt:TT} {te:TE} {cl:List (Str×Addr)}
    (hc:X.calm = true) (hi:PI X tg iter wi) (hchk:compChk X.N X.env.scope scope N fr = true) (hclos:closureFor scope X.env = pure cl) (hcl:ClOk X.env.cells cl) (hall:ClAll cl scope.names)
    (hb:∀ (C:Addr) (s:Shared) (H:Hp) (fp:List Addr),PG (cxComp X scope cl N C s H fp) tg g∧PIfs (cxComp X scope cl N C s H fp) ifs tt∧PE (cxComp X scope cl N C s H fp) elt te)
    (hs:∀ x,foldedSetIterable iter X.env x = pure x:=by intro _; rfl) :
    PE X (.ListComp elt [⟨tg,iter,ifs,0⟩] scope pos) (tComp fr wi g tt te):=by
  intro pins s σ H Q I h
  rw [eval_ListComp]
  refine comp_core N fr hc hi hchk hclos hcl hall hb hs I h fun l H' s' C I' fC ⟨m,hn⟩ q=>?_
  refine ⟨m,hn,fun h'' hs''=>⟨.ref l,H',?_,rfl,q⟩⟩
  obtain ⟨f0,f1,f2,f3,f4,f5⟩:=fC
  exact I'.turned (t':=s'.toks) (fun b o hb e=>(hs''.2 b hb).trans e) f0 f1 f3 f4 f5
theorem ps_setC (N:List Str) (fr:List (Option Nat)) {i:Nat} {x:Str} {elt tg iter:Expr} {ifs:List Expr} {scope:Scope} {cpos pos pos':Pos} {wi:TI} {g:TG} {tt:TT} {te:TE} {cl:List (Str×Addr)}
    (hN:X.N.Nodup) (hi':X.N[i]? = some x) (hx:Loc X.env.scope x)
    (hc:X.calm = true) (hi:PI X tg iter wi) (hchk:compChk X.N X.env.scope scope N fr = true) (hclos:closureFor scope X.env = pure cl) (hcl:ClOk X.env.cells cl) (hall:ClAll cl scope.names)
    (hb:∀ (C:Addr) (s:Shared) (H:Hp) (fp:List Addr),PG (cxComp X scope cl N C s H fp) tg g∧PIfs (cxComp X scope cl N C s H fp) ifs tt∧PE (cxComp X scope cl N C s H fp) elt te)
    (hs:∀ x,foldedSetIterable iter X.env x = pure x:=by intro _; rfl)
    (hsw:swapsWith (.ListComp elt [⟨tg,iter,ifs,0⟩] scope cpos) (some (.Name x pos')) pos.line X.env = pure true:=by rfl)
    (hf:X.fn x = true∨X.env.scope.names.lookup x = some .local:=by first | exact .inl rfl | exact .inr rfl | assumption) :
    PS X (.Assign [.Name x pos'] (.ListComp elt [⟨tg,iter,ifs,0⟩] scope cpos) pos) (tAsg (tComp fr wi g tt te) (gName i)):=by
  intro pins s σ H D I h
  rw [exec_Assign_arm]
  refine wpAny_bind (wpAny_standAt ?_)
  rw [show swapsWithSole [.Name x pos'] (.ListComp elt [⟨tg,iter,ifs,0⟩] scope cpos) pos.line X.env = pure true from hsw]
  refine wpAny_bind (wpAny_pure ?_)
  rw [if_pos rfl,arm_evalThenUse_ListComp]
  refine wpAny_bind (wpAny_bind ?_)
  have h1:tComp fr wi g tt te σ H fun v H1=>D.nx (σ.set i (some v)) H1:=h
  refine comp_core (use:=some _) N fr hc hi hchk hclos hcl hall hb hs I h1 fun l H' s' C I' fC ⟨m,hn⟩ q=>?_
  obtain ⟨f0,f1,f2,f3,f4,f5⟩:=fC
  obtain ⟨o,es,ep,ho,hd,hk,hm⟩:=hn
  have Ip:Inv X (pins ++ [(C,o)]) σ H' s':=I'.pins_of fun p hp=>(List.mem_append.mp hp).elim (fun z=>I'.pin p (List.mem_append_right _ z)) fun z=>by
    rw [List.mem_singleton.mp z]
    exact ⟨ho,f0,f1,f2,fun v e=>by rw [hd] at e; cases e⟩
  show wpAny _ _ (assignAll (.ref l) [assign (.Name x pos') X.env]) _ _ _
  rw [assignAll.eq_2]
  refine wpAny_assign_Name (store_ok Ip hN hi' hx (v:=.ref l) rfl (fun s2 I2=>?_) hf)
  have ho2:=(I2.pin (C,o) (List.mem_append_right _ (List.mem_append_right _ (List.mem_singleton_self _)))).1
  refine ⟨m,⟨o,es,ep,ho2,hd,hk,hm⟩,fun h' hs'=>wpAny_pure (wpAny_pure ⟨_,H',?_,q⟩)⟩
  exact I2.unpinned.turned (t':=s2.toks) (fun b o hb e=>(hs'.2 b hb).trans e) f0 f1 f3 f4 f5
def compChk0 (sc:Scope):Bool:=
  decide (sc.kind = .function) && (sc.names.all fun y=>!decide (y.2 = .cell)) && (sc.names.all fun y=>!decide (y.2 = .local) || decide (sc.names.lookup y.1 = some .local)) && (sc.names.all fun y=>!decide (y.2 = .free))
theorem pe_comp0 (N:List Str) {elt tg iter:Expr} {ifs:List Expr} {scope:Scope} {pos:Pos} {wi:TI} {g:TG} {tt:TT} {te:TE}
    (hc:X.calm = true) (hi:PI X tg iter wi) (hchk:compChk0 scope = true)
    (hb:∀ (C:Addr) (s:Shared) (H:Hp) (fp:List Addr),PG (cxComp X scope [] N C s H fp) tg g∧PIfs (cxComp X scope [] N C s H fp) ifs tt∧PE (cxComp X scope [] N C s H fp) elt te)
    (hs:∀ x,foldedSetIterable iter X.env x = pure x:=by intro _; rfl) :
    PE X (.ListComp elt [⟨tg,iter,ifs,0⟩] scope pos) (tComp (N.map fun _=>none) wi g tt te):=by
  simp only [compChk0,Bool.and_eq_true,decide_eq_true_eq,List.all_eq_true,Bool.or_eq_true,Bool.not_eq_true',decide_eq_false_iff_not] at hchk
  obtain ⟨⟨⟨hkind,hcell⟩,hnames⟩,hfree⟩:=hchk
  refine pe_comp (cl:=[]) N (N.map fun _=>none) hc hi ?_ (closureFor_none fun x hx=>hfree x hx) trivial ?_ hb hs
  · simp only [compChk,Bool.and_eq_true,decide_eq_true_eq,List.all_eq_true,Bool.or_eq_true,Bool.not_eq_true',decide_eq_false_iff_not]
    refine ⟨⟨⟨⟨⟨hkind,by simp⟩,hcell⟩,hnames⟩,fun y hy=>.inl (hfree y hy)⟩,fun p hp=>?_⟩
    have:p.2∈N.map fun _=>(none:Option Nat):=(List.of_mem_zip hp).2
    obtain ⟨_,_,e⟩:=List.mem_map.mp this
    rw [← e]
  · have:∀ ns:List (Str×NameKind),(∀ y∈ns,y.2≠.free)→ClAll [] ns:=by
      intro ns
      induction ns with
      | nil=>intro _; exact trivial
      | cons p r ih=>intro h; exact ⟨fun e=>absurd e (h p List.mem_cons_self),ih fun y hy=>h y (List.mem_cons_of_mem _ hy)⟩
    exact this _ fun y hy=>hfree y hy
theorem ps_setC0 (N:List Str) {i:Nat} {x:Str} {elt tg iter:Expr} {ifs:List Expr} {scope:Scope} {cpos pos pos':Pos} {wi:TI} {g:TG} {tt:TT} {te:TE}
    (hN:X.N.Nodup) (hi':X.N[i]? = some x) (hx:Loc X.env.scope x)
    (hc:X.calm = true) (hi:PI X tg iter wi) (hchk:compChk0 scope = true)
    (hb:∀ (C:Addr) (s:Shared) (H:Hp) (fp:List Addr),PG (cxComp X scope [] N C s H fp) tg g∧PIfs (cxComp X scope [] N C s H fp) ifs tt∧PE (cxComp X scope [] N C s H fp) elt te)
    (hs:∀ x,foldedSetIterable iter X.env x = pure x:=by intro _; rfl)
    (hsw:swapsWith (.ListComp elt [⟨tg,iter,ifs,0⟩] scope cpos) (some (.Name x pos')) pos.line X.env = pure true:=by rfl)
    (hf:X.fn x = true∨X.env.scope.names.lookup x = some .local:=by first | exact .inl rfl | exact .inr rfl | assumption) :
    PS X (.Assign [.Name x pos'] (.ListComp elt [⟨tg,iter,ifs,0⟩] scope cpos) pos) (tAsg (tComp (N.map fun _=>none) wi g tt te) (gName i)):=by
  simp only [compChk0,Bool.and_eq_true,decide_eq_true_eq,List.all_eq_true,Bool.or_eq_true,Bool.not_eq_true',decide_eq_false_iff_not] at hchk
  obtain ⟨⟨⟨hkind,hcell⟩,hnames⟩,hfree⟩:=hchk
  refine ps_setC (cl:=[]) N (N.map fun _=>none) hN hi' hx hc hi ?_ (closureFor_none fun x hx=>hfree x hx) trivial ?_ hb hs hsw hf
  · simp only [compChk,Bool.and_eq_true,decide_eq_true_eq,List.all_eq_true,Bool.or_eq_true,Bool.not_eq_true',decide_eq_false_iff_not]
    refine ⟨⟨⟨⟨⟨hkind,by simp⟩,hcell⟩,hnames⟩,fun y hy=>.inl (hfree y hy)⟩,fun p hp=>?_⟩
    have:p.2∈N.map fun _=>(none:Option Nat):=(List.of_mem_zip hp).2
    obtain ⟨_,_,e⟩:=List.mem_map.mp this
    rw [← e]
  · have:∀ ns:List (Str×NameKind),(∀ y∈ns,y.2≠.free)→ClAll [] ns:=by
      intro ns
      induction ns with
      | nil=>intro _; exact trivial
      | cons p r ih=>intro h; exact ⟨fun e=>absurd e (h p List.mem_cons_self),ih fun y hy=>h y (List.mem_cons_of_mem _ hy)⟩
    exact this _ fun y hy=>hfree y hy
end
end L2
namespace L2
open PySem PySem.Spec PyProof.Rows
def Def (P:Program) (w:World) (K:PySem.W.Frag) (mg:Str→Option Value) (base:Heap) (k:Nat) (x:Str) (ps:List Str) (sp:Sp):Prop:=
  ∃ (f:Addr) (fd:FuncData),FnOk P w K mg base CX0 k f fd ps sp∧mg x = some (.ref f)∧PySem.W.keepIn K (.ref f) = true∧Binds K fd ps []
section
variable {X:Cx} {k:Nat} {x:Str} {ps:List Str} {sp:Sp} {e:Expr} {es:List Expr} {t:TA} {p pos:Pos}
theorem pe_fn (D:Def X.prog X.w X.K X.mg X.base k x ps sp) (hr:Room k X.A) (hg:Gl X x) (ha:PA X (e :: es) t)
    (hdb:(x == ("__debug__":Str)) = false:=by decide) (he:starEach (e :: es) X.env = (false,eval e X.env) :: starEach es X.env:=by rfl) (hpl:(backTo pos (starEach es X.env)).any (·.1) = false:=by rfl) :
    PE X (.Call (.Name x p) (e :: es) [] pos) (tCall sp [] E0 t):=by
  obtain ⟨f,fd,F,hm,hk,hb⟩:=D
  exact pe_call F hr hg hm hk hb .nil pass0 ha hdb he hpl
end
section
variable {X:Cx}
theorem pe_globI {x:Str} {i:Int} {pos:Pos} (hg:Gl X x) (hm:∃ t,X.mg x = some (.int i t)) (hd:(x == ("__debug__":Str)) = false:=by decide):PE X (.Name x pos) (tC (.int i)):=by
  obtain ⟨t,hm⟩:=hm
  exact pe_glob hg hm ⟨_,rfl⟩ hd
theorem pe_ty {x:Str} {T:String} {pos:Pos} (hg:Gl X x) (hm:X.mg x = none) (hv:bootBuiltins x = some (.type T)) (hn:x≠"__name__":=by decide) (hd:(x == ("__debug__":Str)) = false:=by decide):PE X (.Name x pos) (tC (.ty T)):=pe_bltn hg hm hv rfl hn hd
theorem pe_globS {x z:Str} {pos:Pos} (hg:Gl X x) (hm:∃ t,X.mg x = some (.str z t)) (hd:(x == ("__debug__":Str)) = false:=by decide):PE X (.Name x pos) (tC (.str z)):=by
  obtain ⟨t,hm⟩:=hm
  exact pe_glob hg hm ⟨_,rfl⟩ hd
end
theorem bt_isinstance:bootBuiltins "isinstance" = some (.builtin "isinstance"):=by decide +kernel
theorem bt_all:bootBuiltins "all" = some (.builtin "all"):=by decide +kernel
theorem bt_sorted:bootBuiltins "sorted" = some (.builtin "sorted"):=by decide +kernel
theorem bt_len:bootBuiltins "len" = some (.builtin "len"):=by decide +kernel
theorem bt_int:bootBuiltins "int" = some (.type "int"):=by decide +kernel
theorem bt_bool:bootBuiltins "bool" = some (.type "bool"):=by decide +kernel
theorem bt_str:bootBuiltins "str" = some (.type "str"):=by decide +kernel
theorem bt_list:bootBuiltins "list" = some (.type "list"):=by decide +kernel
theorem bt_tuple:bootBuiltins "tuple" = some (.type "tuple"):=by decide +kernel
theorem bt_dict:bootBuiltins "dict" = some (.type "dict"):=by decide +kernel
theorem bt_set:bootBuiltins "set" = some (.type "set"):=by decide +kernel
theorem bt_enumerate:bootBuiltins "enumerate" = some (.type "enumerate"):=by decide +kernel
theorem kit_of {t c:String} {b:Bool} (h:(if (Value.type t == Value.type c) = true then some true else if PySem.W.kitMeta c = true then (fastBuiltinMro t).map (·.contains (.type c)) else none) = some b) (K:PySem.W.Frag) :
    PySem.W.kitOne K (.type t) (.type c) = some b:=h
section
variable {X:Cx}
def rIsi (K:PySem.W.Frag):List V→Hp→VK→Prop:=fun xs H Q=>∃ x c t b,xs = [x,.ty c]∧TyOf K H x t∧PySem.W.kitOne K t (.type c) = some b∧Q (.bl b) H
theorem call_isinst:CallR X (.builtin "isinstance") (rIsi X.K):=by
  intro pins s σ H xs us Q I r h
  obtain ⟨x,c,t,b,rfl,ty,e,q⟩:=h
  obtain ⟨u,v,rfl,ru,rv⟩:=vals2 r
  have ev:v = Value.type c:=rv
  subst ev
  exact isinst_ok I ru ty e fun tk=>⟨.bl b,H,I.tok _,rfl,q⟩
end
def pureV:V→Bool
  | .non=>true
  | .int _=>true
  | .str _=>true
  | _=>false
theorem pure_flat {x:V} (h:pureV x = true):flatV x = true:=by
  cases x <;> first | rfl | exact h
theorem pure_eq {x y:V} (hx:pureV x = true) (hy:pureV y = true):eqV x y = decide (x = y):=by
  cases x <;> first | exact absurd (show false = true from hx) Bool.false_ne_true | skip
  all_goals (cases y <;> first | exact absurd (show false = true from hy) Bool.false_ne_true | skip)
  · rfl
  · rfl
  · rfl
  · rfl
  · exact dec_int.symm
  · rfl
  · rfl
  · rfl
  · exact dec_str.symm
theorem range_all_dec:∀ (xs ys:List V),xs.length = ys.length→xs.all pureV = true→ys.all pureV = true→
    ((List.range xs.length).all fun i=>eqV (xs.getD i .non) (ys.getD i .non)) = decide (xs = ys):=by
  intro xs
  induction xs with
  | nil=>
    intro ys hl _ _
    cases ys with
    | nil=>rfl
    | cons _ _=>simp at hl
  | cons x xs ih=>
    intro ys hl hx hy
    cases ys with
    | nil=>simp at hl
    | cons y ys=>
      rw [List.all_cons,Bool.and_eq_true] at hx hy
      have q:=ih ys (by simpa using hl) hx.2 hy.2
      rw [List.length_cons,List.range_succ_eq_map,List.all_cons,List.all_map]
      have e0:((fun i=>eqV ((x :: xs).getD i .non) ((y :: ys).getD i .non))∘Nat.succ) = fun i=>eqV (xs.getD i .non) (ys.getD i .non):=by
        funext i; simp
      rw [e0,q]
      show (eqV x y && decide (xs = ys)) = _
      rw [pure_eq hx.1 hy.1]
      by_cases h1:x = y
      · by_cases h2:xs = ys <;> simp [h1,h2]
      · simp [h1]
theorem all_get {xs:List V} {us:List Value} (r:Vals xs us) {j:Nat} (hj:j < us.length):∃ x,xs[j]? = some x∧RelV x us[j]:=by
  have hl:=r.length
  obtain ⟨u,e1,e2⟩:=r.get (i:=j) (x:=xs[j]'(by omega)) (by simp [show j < xs.length by omega])
  refine ⟨xs[j]'(by omega),by simp [show j < xs.length by omega],?_⟩
  rw [List.getElem?_eq_getElem hj] at e1
  cases e1
  exact e2
section
variable {X:Cx}
theorem rc_lists {A:Around} {s:Shared} {a b:Addr} {xs ys:List V} {its its2:List Value} (hu:A.units < cLine) (r1:Vals xs its) (r2:Vals ys its2) (h1:s.heap.IsList a its.toArray) (h2:s.heap.IsList b its2.toArray)
    (f1:xs.all pureV = true) (f2:ys.all pureV = true):SeqAt.RcAt A s (.ref a) (.ref b) (decide (xs = ys)):=by
  have l1:=r1.length
  have l2:=r2.length
  by_cases hl:xs.length = ys.length
  · have q:=SeqAt.RcAt.lists (A:=A) (s:=s) (e:=fun i=>eqV (xs.getD i .non) (ys.getD i .non)) h1 h2 (by simp; omega) hu (fun j g1 g2=>by
      have g1':j < its.length:=by simpa using g1
      have g2':j < its2.length:=by simpa using g2
      obtain ⟨x,e1,rx⟩:=all_get r1 g1'
      obtain ⟨y,e2,ry⟩:=all_get r2 g2'
      have p1:pureV x = true:=List.all_eq_true.mp f1 x (List.mem_of_getElem? e1)
      have p2:pureV y = true:=List.all_eq_true.mp f2 y (List.mem_of_getElem? e2)
      have:=eqAt_V (A:=A.in1) (s:=s) rx ry (pure_flat p1) (pure_flat p2)
      simpa [List.getD,e1,e2] using this)
    have e:(its.toArray.size) = xs.length:=by simp; omega
    rw [e,range_all_dec xs ys hl f1 f2] at q
    exact q
  · have e:decide (xs = ys) = false:=decide_eq_false fun z=>hl (by rw [z])
    rw [e]
    exact SeqAt.RcAt.lists_lengths h1 h2 (by simp; omega) hu
def rEqL (K:PySem.W.Frag) (neg:Bool):R2:=fun x y H Q=>∃ a b xs ys,x = .ref a∧y = .ref b∧SqL K H a xs∧SqL K H b ys∧xs.all pureV = true∧ys.all pureV = true∧Q (.bl (if neg then !decide (xs = ys) else decide (xs = ys))) H
theorem op_eqD (hu:X.A.units + 1 < cLine):OpR X (compareOp .Eq) (rEqL X.K false):=by
  intro pins s σ H x y v u Q I rx ry h
  obtain ⟨a,b,xs,ys,rfl,rfl,h1,h2,f1,f2,q⟩:=h
  cases rx
  cases ry
  obtain ⟨its,r1,p1,_⟩:=I.list h1
  obtain ⟨its2,r2,p2,_⟩:=I.list h2
  exact rc_lists (by omega) r1 r2 p1.isList p2.isList f1 f2 _ _ _ _ ⟨.bl _,H,I,rfl,q⟩
end
theorem boolsAre_of:∀ {bs:List Bool} {us:List Value},Vals (bs.map V.bl) us→LSm.BoolsAre us bs
  | [],_,.nil=>.nil
  | b :: bs,_,.cons r t=>by
    have e:_ = Value.bool b:=r
    subst e
    exact .cons b (boolsAre_of t)
section
variable {prog:Program} {w:World} {A:Around} {E:Value→Shared→Prop} {s:Shared} {l:Addr} {vs:List Value}
theorem all_kept {bs:List Bool} {Q:Value→Shared→Prop} (hh:A.handled = none) (hl:s.heap.IsList l vs.toArray) (hb:LSm.BoolsAre vs bs)
    (h:∀ h' tk,(∀ b o,s.heap.get? b = some o→h'.get? b = some o)→Q (.bool (bs.all id)) { s with heap:=h',toks:=tk }):wpAny (model prog w) A (call (.builtin "all") [.ref l]) Q E s:=by
  have below:l < s.heap.objs.size:=(fun ⟨_,e,_⟩=>Heap.lt_size e:s.heap.IsList l vs.toArray→_) hl
  have whole:((List.range vs.toArray.size).all fun i=>(bs[i]?).getD true) = bs.all id:=by rw [List.size_toArray,hb.length,LSm.range_all]
  exact call_all_walk (wpAny_pyIter_list hl ⟨s.heap.objs.size,[s.heap.objs.size,l],[s.heap.objs.size],vs.toArray.size,_,_,fun i=>(bs[i]?).getD true,rfl,Walks.list (A:=A.in1) hh _ l (Nat.ne_of_lt below) vs.toArray,⟨⟨_,Heap.get?_push_size _ rfl,rfl,rfl⟩,hl.push _⟩,
    (fun i v s' Q' E' hP hQ=>by
      obtain ⟨b,hg,hv⟩:=hb.get i v (by simpa using hP)
      have hQ':Q' b s':=by simpa [hg] using hQ
      subst hv
      exact wpAny_truthy_bool hQ'),
    fun h' tk hk=>whole ▸ h h' tk (LSm.kept_iter hk)⟩)
end
section
variable {X:Cx}
theorem call_all (hc:X.calm = true):CallR X (.builtin "all") (fun xs H Q=>∃ (a:Addr) (bs:List Bool),xs = [.ref a]∧SqL X.K H a (bs.map V.bl)∧Q (.bl (bs.all id)) H):=by
  intro pins s σ H xs us Q I r h
  obtain ⟨a,bs,rfl,h1,q⟩:=h
  obtain ⟨u,rfl,ru⟩:=vals1 r
  cases ru
  obtain ⟨its,r1,p1,_⟩:=I.list h1
  exact all_kept (I.ok.hd hc) p1.isList (boolsAre_of r1) fun h' tk hk=>⟨.bl _,H,I.kept hk,rfl,q⟩
def rCatS (K:PySem.W.Frag):R2:=fun x y H Q=>∃ l b xs zs,x = .ref l∧y = .ref b∧SqL K H l xs∧SqL K H b zs∧xs.length + zs.length≤sizeLine∧∀ p,H p = none→Q (.ref p) (upd H p (.lst (xs ++ zs)))
theorem op_catS:OpR X (binaryOp .Add) (rCatS X.K):=by
  intro pins s σ H x y v u Q I rx ry h
  obtain ⟨l,b,xs,zs,rfl,rfl,h1,h2,hz,q⟩:=h
  cases rx
  cases ry
  obtain ⟨its,r,p1,_⟩:=I.list h1
  obtain ⟨its2,r2,p2,_⟩:=I.list h2
  have l1:=r.length
  have l2:=r2.length
  obtain ⟨⟨cls,dd,data,sl⟩,ho,hc,n,hd⟩:=id p1.isList
  obtain ⟨⟨cls2,dd2,data2,sl2⟩,ho2,hc2,n2,hd2⟩:=id p2.isList
  simp only at hc hd hc2 hd2
  subst hc hd hc2 hd2
  have e:its.toArray ++ its2.toArray = (its ++ its2).toArray:=by simp
  refine concat_meets ⟨_,ho,rfl⟩ ⟨_,ho2,rfl⟩ noFill_list_add seq_list_add PySem.F.slot_list_add PySem.F.entry_list_add (PySem.F.args_list_add_2 _ _) (list_addW l b its.toArray its2.toArray n n2 dd dd2 sl sl2 (by rw [List.size_toArray,List.size_toArray]; omega)) ⟨ho,ho2,?_⟩
  rw [e]
  exact ⟨.ref _,_,I.lnew (t':=s.toks) (r.append r2) (by rw [List.length_append]; omega),rfl,q _ I.fresh⟩
end
theorem same_new {H:Hp} {p:Addr} (h:H p = none) (o:HO):Same H (upd H p o):=fun b u q=>by rw [upd_ne (ne_of_none q h)]; exact q
theorem same_upd {H H':Hp} {p:Addr} (s:Same H H') (h:H p = none) (o:HO):Same H (upd H' p o):=fun b u q=>by rw [upd_ne (ne_of_none q h)]; exact s b u q
theorem Same.get {H H':Hp} {a:Addr} {o:HO} (s:Same H H') (h:H a = some o):H' a = some o:=s a o h
theorem sizeLine_big:1000000≤sizeLine:=by decide
theorem small {n:Nat} (h:n≤1000000):n≤sizeLine:=Nat.le_trans h sizeLine_big
theorem smallLt {n:Nat} (h:n < 1000000):n < sizeLine:=Nat.lt_of_lt_of_le h sizeLine_big
theorem at_int {ns:List Int} {i:Int} (h0:0≤i) (h1:i < ns.length):atI (ns.map V.int) i = some (.int (ns.getD i.toNat 0)):=by
  have hk:i.toNat < ns.length:=by omega
  have ek:i = ((i.toNat:Nat):Int):=by omega
  have q:atI (ns.map V.int) ((i.toNat:Nat):Int) = some (.int (ns.getD i.toNat 0)):=atI_nat (by rw [List.getElem?_map,List.getElem?_eq_getElem hk]; simp [List.getD,List.getElem?_eq_getElem hk])
  rw [← ek] at q
  exact q
theorem cut_lo {xs:List V} {i:Int} (h:0≤i):cutV xs (some i) none = xs.drop i.toNat:=by
  unfold cutV
  rw [show i = ((i.toNat:Nat):Int) by omega,HT.sIx_nat,HT.sIx_none,Int.toNat_natCast]
  by_cases hl:i.toNat≤xs.length
  · rw [Nat.min_eq_left hl,List.take_of_length_le (by rw [List.length_drop]; exact Nat.le_refl _)]
  · rw [Nat.min_eq_right (by omega),List.drop_eq_nil_of_le (Nat.le_refl _),List.drop_eq_nil_of_le (by omega),List.take_nil]
theorem cut_hi {xs:List V} {j:Int} (h:0≤j):cutV xs none (some j) = xs.take j.toNat:=by
  unfold cutV
  rw [show j = ((j.toNat:Nat):Int) by omega,HT.sIx_nat,HT.sIx_none,Int.toNat_natCast,List.drop_zero,Nat.sub_zero]
  by_cases hl:j.toNat≤xs.length
  · rw [Nat.min_eq_left hl]
  · rw [Nat.min_eq_right (by omega),List.take_of_length_le (Nat.le_refl _),List.take_of_length_le (by omega)]
theorem cut_lohi {xs:List V} {i j:Int} (hi:0≤i) (hj:0≤j):cutV xs (some i) (some j) = (xs.drop i.toNat).take (j.toNat - i.toNat):=by
  unfold cutV
  rw [show i = ((i.toNat:Nat):Int) by omega,show j = ((j.toNat:Nat):Int) by omega,HT.sIx_nat,HT.sIx_nat,Int.toNat_natCast,Int.toNat_natCast]
  generalize i.toNat = a
  generalize j.toNat = b
  apply List.ext_getElem?
  intro k
  rw [List.getElem?_take,List.getElem?_take,List.getElem?_drop,List.getElem?_drop]
  by_cases ha:a≤xs.length
  · rw [Nat.min_eq_left ha]
    by_cases hb:b≤xs.length
    · rw [Nat.min_eq_left hb]
    · rw [Nat.min_eq_right (by omega)]
      by_cases h1:k < xs.length - a
      · rw [if_pos h1,if_pos (by omega)]
      · rw [if_neg h1]
        split
        · rw [List.getElem?_eq_none (by omega)]
        · rfl
  · rw [Nat.min_eq_right (show xs.length≤a by omega)]
    rw [List.getElem?_eq_none (by omega),List.getElem?_eq_none (by omega)]
    split <;> split <;> rfl
theorem iteFc {c:Bool} {A B:Prop} (h:c = false) (b:B):if c = true then A else B:=by
  subst h
  rw [if_neg Bool.false_ne_true]
  exact b
theorem iteTc {c:Bool} {A B:Prop} (h:c = true) (b:A):if c = true then A else B:=by
  subst h
  rw [if_pos rfl]
  exact b
theorem dec_true {c:Prop} [Decidable c] (h:decide c = true):c:=of_decide_eq_true h
theorem tOr_p {t u:TT} {σ:St} {H:Hp} {Q:Bool→Hp→Prop} (c d:Bool) (ht:∀ R:Bool→Hp→Prop,R c H→t σ H R) (hu:c = false→∀ R:Bool→Hp→Prop,R d H→u σ H R) (q:Q (c || d) H):tOr t u σ H Q:=by
  refine ht _ ?_
  cases c with
  | true=>rw [if_pos rfl]; exact q
  | false=>rw [if_neg Bool.false_ne_true]; exact hu rfl _ q
def ItIs (J:It) (H:Hp) (xs:List V):Prop:=∀ H',Same H H'→∀ i:Nat,(i < xs.length→J.go i H')∧(∀ x H'',J.yld i H' x H''→H'' = H'∧(i < xs.length→xs[i]? = some x))∧(xs.length≤i→J.stop i H')
theorem itIs_list {K:PySem.W.Frag} {a:Addr} {H:Hp} {xs:List V} (h:SqL K H a xs):ItIs (Itl K a) H xs:=fun H' s i=>
  ⟨fun hi=>⟨xs,xs[i],s.seq h,by simp [hi]⟩,fun x H'' y=>⟨y.1,fun _=>y.2 xs (s.seq h)⟩,fun hi=>⟨xs,s.seq h,hi⟩⟩
theorem comp_map {J:It} {xs:List V} {fr:List (Option Nat)} {k:Nat} {te:TE} {Q:VK} {σ:St} {H:Hp} (f:V→V) (hJ:ItIs J H xs) (hn:xs.length≤1000000)
    (helt:∀ (x:V) (H':Hp) (R:VK),x∈xs→Same H H'→(∀ H'',Same H' H''→R (f x) H'')→te ((stC fr σ).set k (some x)) H' R)
    (hQ:∀ l H',H l = none→Same H H'→H' l = some (.lst (xs.map f))→Q (.ref l) H') :
    tCompK fr (gName k) tYes te σ Q J H:=by
  intro l hl
  refine ⟨fun i m σ' H'=>m = xs.length - i∧i≤xs.length∧(∀ y,σ'.set k y = (stC fr σ).set k y)∧Same H H'∧H' l = some (.lst ((xs.take i).map f)),⟨xs.length,by simp,Nat.zero_le _,fun _=>rfl,same_new hl _,by rw [upd_same,List.take_zero,List.map_nil]⟩,?_⟩
  rintro i m σ' H' ⟨rfl,hi,hσ,hs,hl'⟩
  obtain ⟨h1,h2,h3⟩:=hJ H' hs i
  by_cases hlt:i < xs.length
  · refine .inr ⟨h1 hlt,fun x H'' y=>?_⟩
    obtain ⟨rfl,hx⟩:=h2 x H'' y
    have hx:=hx hlt
    show te (σ'.set k (some x)) H'' _
    rw [hσ]
    refine helt x H'' _ (List.mem_of_getElem? hx) hs fun H4 s4=>?_
    refine ⟨_,s4.get hl',smallLt (by rw [List.length_map,List.length_take]; omega),xs.length - (i + 1),by omega,rfl,hlt,fun y=>by rw [List.set_set],same_upd (hs.trans s4) hl _,?_⟩
    rw [upd_same,List.take_add_one,hx]
    simp
  · have e:i = xs.length:=by omega
    subst e
    exact .inl ⟨h3 (Nat.le_refl _),hQ l H' hl hs (by rw [hl',List.take_of_length_le (Nat.le_refl _)])⟩
section
variable {X:Cx} {K:PySem.W.Frag}
theorem ix_listK (h:X.K = K):IxR X (rIxL K):=by subst h; exact ix_list
theorem ix_tupK (h:X.K = K):IxR X (rIxT K):=by subst h; exact ix_tup
end
def Ok (H:Hp):V→Prop
  | .non=>True
  | .bl _=>True
  | .int _=>True
  | .str z=>z.length≤1000
  | .ref a=>(∃ xs,H a = some (.lst xs))∨∃ xs,H a = some (.tup xs)
  | _=>False
theorem Ok.same {H H':Hp} {v:V} (h:Ok H v) (s:Same H H'):Ok H' v:=by
  cases v <;> first | exact h | skip
  rcases h with ⟨xs,e⟩ | ⟨xs,e⟩
  · exact .inl ⟨xs,s.get e⟩
  · exact .inr ⟨xs,s.get e⟩
def tyN (H:Hp):V→String
  | .non=>"NoneType"
  | .bl _=>"bool"
  | .int _=>"int"
  | .str _=>"str"
  | .ref a=>match H a with
    | some (.lst _)=>"list"
    | some (.tup _)=>"tuple"
    | _=>"?"
  | _=>"?"
theorem Ok.ty {H:Hp} {v:V} (h:Ok H v) (K:PySem.W.Frag):TyOf K H v (.type (tyN H v)):=by
  cases v with
  | non=>exact .non
  | bl b=>exact .bl b
  | int i=>exact .int i
  | str z=>exact .str z
  | ref a=>
    rcases h with ⟨xs,e⟩ | ⟨xs,e⟩
    · have q:tyN H (.ref a) = "list":=by simp only [tyN,e]
      rw [q]; exact .lst e
    · have q:tyN H (.ref a) = "tuple":=by simp only [tyN,e]
      rw [q]; exact .tup e
  | _=>exact h.elim
def isA (t c:String):Bool:=t == c || (t == "bool" && c == "int")
theorem kit_any {t c:String} (K:PySem.W.Frag) (ht:t∈["NoneType","bool","int","str","list","tuple"]) (hc:c∈["bool","int","str","list","tuple"]):PySem.W.kitOne K (.type t) (.type c) = some (isA t c):=by
  have all:∀ t∈["NoneType","bool","int","str","list","tuple"],∀ c∈["bool","int","str","list","tuple"],(if (Value.type t == Value.type c) = true then some true else if PySem.W.kitMeta c = true then (fastBuiltinMro t).map (·.contains (.type c)) else none) = some (isA t c):=by decide +kernel
  exact kit_of (all t ht c hc) K
theorem Ok.tyMem {H:Hp} {v:V} (h:Ok H v):tyN H v∈["NoneType","bool","int","str","list","tuple"]:=by
  cases v with
  | ref a=>
    rcases h with ⟨xs,e⟩ | ⟨xs,e⟩
    · simp only [tyN,e]; decide
    · simp only [tyN,e]; decide
  | byt _=>exact h.elim
  | flt _=>exact h.elim
  | ty _=>exact h.elim
  | _=>simp only [tyN]; decide
theorem Ok.kit {H:Hp} {v:V} (h:Ok H v) (K:PySem.W.Frag) {c:String} (hc:c∈["bool","int","str","list","tuple"]:=by decide):PySem.W.kitOne K (.type (tyN H v)) (.type c) = some (isA (tyN H v) c):=kit_any K h.tyMem hc
theorem tAndV_p {t u:TE} {σ:St} {H:Hp} {Q:VK} (c d:Bool) (ht:∀ R:VK,R (.bl c) H→t σ H R) (hu:c = true→∀ R:VK,R (.bl d) H→u σ H R) (q:Q (.bl (c && d)) H):tAndV t u σ H Q:=by
  refine ht _ ⟨c,rfl,?_⟩
  cases c with
  | false=>rw [if_neg Bool.false_ne_true]; exact q
  | true=>rw [if_pos rfl]; exact hu rfl _ q
theorem tyN_lst {H:Hp} {a:Addr} {xs:List V} (e:H a = some (.lst xs)):tyN H (.ref a) = "list":=by simp only [tyN,e]
theorem tyN_tup {H:Hp} {a:Addr} {xs:List V} (e:H a = some (.tup xs)):tyN H (.ref a) = "tuple":=by simp only [tyN,e]
theorem Ok.elim {H:Hp} {v:V} (ok:Ok H v) {C:Prop} (c1:v = .non→tyN H v = "NoneType"→C) (c2:∀ b,v = .bl b→tyN H v = "bool"→C) (c3:∀ i,v = .int i→tyN H v = "int"→C) (c4:∀ z,v = .str z→z.length≤1000→tyN H v = "str"→C)
    (c5:∀ a xs,v = .ref a→H a = some (.lst xs)→tyN H v = "list"→C) (c6:∀ a xs,v = .ref a→H a = some (.tup xs)→tyN H v = "tuple"→C):C:=by
  cases v with
  | non=>exact c1 rfl rfl
  | bl b=>exact c2 b rfl rfl
  | int i=>exact c3 i rfl rfl
  | str z=>exact c4 z rfl ok rfl
  | ref a=>
    rcases ok with ⟨xs,e⟩ | ⟨xs,e⟩
    · exact c5 a xs rfl e (tyN_lst e)
    · exact c6 a xs rfl e (tyN_tup e)
  | _=>exact (show False from ok).elim
def wholeB (H:Hp) (v:V):Bool:=isA (tyN H v) "int" && !isA (tyN H v) "bool"
theorem whole_int (H:Hp) (i:Int):wholeB H (.int i) = true:=by
  show (isA "int" "int" && !isA "int" "bool") = true
  decide
theorem whole_of {H:Hp} {v:V} (ok:Ok H v) (h:wholeB H v = true):∃ i,v = .int i:=by
  unfold wholeB at h
  refine ok.elim (fun _ e=>?_) (fun _ _ e=>?_) (fun i e _=>⟨i,e⟩) (fun _ _ _ e=>?_) (fun _ _ _ _ e=>?_) (fun _ _ _ _ e=>?_)
  all_goals (rw [e] at h; exact absurd h (by decide))
def betw (a b:Int):V→Bool
  | .int i=>decide (a≤i) && decide (i≤b)
  | _=>false
theorem betw_eq {H:Hp} {v:V} {a b:Int} (h:wholeB H v = false):betw a b v = false:=by
  cases v with
  | int i=>rw [whole_int] at h; cases h
  | _=>rfl
theorem tuple_of {H:Hp} {v:V} (ok:Ok H v) (h:isA (tyN H v) "tuple" = true):∃ a xs,v = .ref a∧H a = some (.tup xs):=by
  refine ok.elim (fun _ e=>?_) (fun _ _ e=>?_) (fun _ _ e=>?_) (fun _ _ _ e=>?_) (fun _ _ _ _ e=>?_) (fun a xs e1 e2 _=>⟨a,xs,e1,e2⟩)
  all_goals (rw [e] at h; exact absurd h (by decide))
theorem str_of {H:Hp} {v:V} (ok:Ok H v) (h:isA (tyN H v) "str" = true):∃ z,v = .str z∧z.length≤1000:=by
  refine ok.elim (fun _ e=>?_) (fun _ _ e=>?_) (fun _ _ e=>?_) (fun z e1 e2 _=>⟨z,e1,e2⟩) (fun _ _ _ _ e=>?_) (fun _ _ _ _ e=>?_)
  all_goals (rw [e] at h; exact absurd h (by decide))
end L2
namespace L2
open PySem PySem.Spec PyProof.Rows
def Itx (x:Str):It:=⟨fun i _=>i < x.cps.size,fun i H v H'=>H' = H∧∃ c,x.cps[i]? = some c∧v = .str ⟨#[c]⟩,fun i _=>x.cps.size≤i⟩
theorem turn_ascii {P:Program} {w:World} {K:PySem.W.Frag} {tg:Expr} (it:Addr) (x:Str) (t:Tok):Turn P w K tg (Itx x) [it] it (fun i h=>h.IsStrIter it "str_ascii_iterator" x t i) where
  mem:=by simp
  obj:=fun i h st b hb=>by
    have e:b = it:=by simpa using hb
    subst e
    obtain ⟨o,e,c,d⟩:=st
    exact ⟨o,e,fun v z=>by rw [d] at z; cases z⟩
  keep:=fun i h h' st k=>by
    obtain ⟨o,e,c,d⟩:=st
    exact ⟨o,k it (by simp) o e,c,d⟩
  item:=by
    intro X hP hw hK hc i pins s σ H E I hf st hg
    subst hP hw hK
    have hg':i < x.cps.size:=hg
    obtain ⟨f0,f1,f2,f3,f4,f5⟩:=hf it (by simp)
    refine wpAny_pyNext_ascii_item st (c:=x.cps[i]) (by simp [hg']) fun h' st' sb=>?_
    have I1:Inv X pins σ H { s with heap:=h',toks:=s.toks + 1 }:=I.turned (fun b o hb e=>(sb.2 b hb).trans e) f0 f1 f3 f4 f5
    obtain ⟨o,e,c,d⟩:=id st'
    exact ⟨_,rfl,go_of (s:={ s with heap:=h',toks:=s.toks + 1 }) e c d (by decide) ⟨.str ⟨#[x.cps[i]]⟩,H,I1,⟨_,rfl⟩,⟨rfl,_,by simp [hg'],rfl⟩,st',fun b hb=>(hf b hb).1⟩⟩
  done:=by
    intro X hP hw hK hc i pins s σ H E I hf st hg
    subst hP hw hK
    have hg':x.cps.size≤i:=hg
    obtain ⟨f0,f1,f2,f3,f4,f5⟩:=hf it (by simp)
    exact wpAny_pyNext_ascii_end (I.ok.hd hc) st (by simp [hg']) fun h' eb=>⟨rfl,I.turned (t':=s.toks) (fun b o hb e=>eb b o hb e) f0 f1 f3 f4 f5⟩
  self:=fun _ _ _ _ _ st h=>wpAny_pyIter_striter_ascii st h
theorem turn_wide {P:Program} {w:World} {K:PySem.W.Frag} {tg:Expr} (it:Addr) (x:Str) (t:Tok):Turn P w K tg (Itx x) [it] it (fun i h=>h.IsStrIter it "str_iterator" x t i) where
  mem:=by simp
  obj:=fun i h st b hb=>by
    have e:b = it:=by simpa using hb
    subst e
    obtain ⟨o,e,c,d⟩:=st
    exact ⟨o,e,fun v z=>by rw [d] at z; cases z⟩
  keep:=fun i h h' st k=>by
    obtain ⟨o,e,c,d⟩:=st
    exact ⟨o,k it (by simp) o e,c,d⟩
  item:=by
    intro X hP hw hK hc i pins s σ H E I hf st hg
    subst hP hw hK
    have hg':i < x.cps.size:=hg
    obtain ⟨f0,f1,f2,f3,f4,f5⟩:=hf it (by simp)
    refine wpAny_pyNext_wide_item st (c:=x.cps[i]) (by simp [hg']) fun h' st' sb=>?_
    have I1:Inv X pins σ H { s with heap:=h',toks:=s.toks + 1 }:=I.turned (fun b o hb e=>(sb.2 b hb).trans e) f0 f1 f3 f4 f5
    obtain ⟨o,e,c,d⟩:=id st'
    exact ⟨_,rfl,go_of (s:={ s with heap:=h',toks:=s.toks + 1 }) e c d (by decide) ⟨.str ⟨#[x.cps[i]]⟩,H,I1,⟨_,rfl⟩,⟨rfl,_,by simp [hg'],rfl⟩,st',fun b hb=>(hf b hb).1⟩⟩
  done:=by
    intro X hP hw hK hc i pins s σ H E I hf st hg
    subst hP hw hK
    have hg':x.cps.size≤i:=hg
    obtain ⟨f0,f1,f2,f3,f4,f5⟩:=hf it (by simp)
    exact wpAny_pyNext_wide_end (I.ok.hd hc) st (by simp [hg']) fun h' eb=>⟨rfl,I.turned (t':=s.toks) (fun b o hb e=>eb b o hb e) f0 f1 f3 f4 f5⟩
  self:=fun _ _ _ _ _ st h=>wpAny_pyIter_striter_wide st h
section
variable {X:Cx} {tg:Expr}
def iStr (tl:TE):TI:=fun σ H R=>tl σ H fun x H1=>∃ z,x = .str z∧R (Itx z) H1
theorem pi_str {l:Expr} {tl:TE} (hl:PE X l tl):PI X tg l (iStr tl):=by
  intro pins s σ H R I h
  refine thn (hl pins s σ H _ I h) fun v s1 ⟨x,H1,I1,r1,q1⟩=>?_
  obtain ⟨z,e,q⟩:=q1
  subst e
  obtain ⟨t,rfl⟩:=r1
  have fp:∀ b∈[s1.heap.objs.size],FpOk X pins H1 b:=fun b hb=>by
    have e:b = s1.heap.objs.size:=by simpa using hb
    subst e
    exact I1.fpOk (Nat.le_refl _) (I1.hok.fresh (Nat.le_refl _))
  cases ha:z.cps.all (· < 128)
  · exact wpAny_pyIter_wide ha ⟨s1.heap.objs.size,[s1.heap.objs.size],_,_,H1,rfl,I1.kept (t':=s1.toks) (fun b o e=>Heap.get?_push_of_some _ e),turn_wide _ z t,⟨_,Heap.get?_push_size _ rfl,rfl,rfl⟩,fp,q⟩
  · exact wpAny_pyIter_ascii ha ⟨s1.heap.objs.size,[s1.heap.objs.size],_,_,H1,rfl,I1.kept (t':=s1.toks) (fun b o e=>Heap.get?_push_of_some _ e),turn_ascii _ z t,⟨_,Heap.get?_push_size _ rfl,rfl,rfl⟩,fp,q⟩
end
theorem itIs_str {x:Str} {H:Hp}:ItIs (Itx x) H (x.cps.toList.map fun c=>V.str ⟨#[c]⟩):=fun H' s i=>
  ⟨fun hi=>(by simpa using hi:i < x.cps.size),fun v H'' y=>⟨y.1,fun hi=>by
    obtain ⟨_,c,hc,e⟩:=y
    rw [List.getElem?_map,Array.getElem?_toList,hc,e]; rfl⟩,fun hi=>(by simpa using hi:x.cps.size≤i)⟩
section
variable {X:Cx}
end
end L2
namespace L2
open PySem PySem.Spec PyProof.Rows
section
variable {X:Cx}
end
end L2
namespace L2
open PySem PySem.Spec PyProof.Rows
section
variable {X:Cx}
def rSlS:V→Option Int→Option Int→Hp→VK→Prop:=fun x lo hi H Q=>∃ z:Str,x = .str z∧z.length≤sizeLine∧Q (.str (PySem.Txt.slice z lo hi)) H
theorem sl_str:SlR X rSlS:=by
  intro pins s σ H x v vl vu lo hi sl Q I rx hs pl pu h
  obtain ⟨z,rfl,hz,q⟩:=h
  obtain ⟨t,rfl⟩:=rx
  refine ⟨"str",_,slot_str_getitem.lookup,typeIs_str _ _ _,?_⟩
  cases pl with
  | none=>
    cases pu with
    | none=>exact wpAny_getItem_str_slice (l:=none) (u:=none) (st:=none) hs rfl (post_val_or_str ⟨Nat.le_trans (PySem.Txt.slice_le z _ _) hz,fun t' k=>⟨.str _,H,I.tok k,⟨_,rfl⟩,q⟩⟩)
    | int j tj=>exact wpAny_getItem_str_slice (l:=none) (u:=some (j,tj)) (st:=none) hs rfl (post_val_or_str ⟨Nat.le_trans (PySem.Txt.slice_le z _ _) hz,fun t' k=>⟨.str _,H,I.tok k,⟨_,rfl⟩,q⟩⟩)
  | int i ti=>
    cases pu with
    | none=>exact wpAny_getItem_str_slice (l:=some (i,ti)) (u:=none) (st:=none) hs rfl (post_val_or_str ⟨Nat.le_trans (PySem.Txt.slice_le z _ _) hz,fun t' k=>⟨.str _,H,I.tok k,⟨_,rfl⟩,q⟩⟩)
    | int j tj=>exact wpAny_getItem_str_slice (l:=some (i,ti)) (u:=some (j,tj)) (st:=none) hs rfl (post_val_or_str ⟨Nat.le_trans (PySem.Txt.slice_le z _ _) hz,fun t' k=>⟨.str _,H,I.tok k,⟨_,rfl⟩,q⟩⟩)
def rMulS:R2:=fun x y H Q=>∃ (z:Str) (n:Int),x = .str z∧y = .int n∧n≤1000∧-1000≤n∧z.length≤1000∧Q (.str (PySem.Txt.mul z n)) H
theorem mulOk_of {z:Str} {n:Int} (h1:n≤1000) (h0:-1000≤n) (h2:z.length≤1000):MulOk z n:=by
  refine ⟨?_,fun h3 _=>?_,fun h3 _=>?_⟩
  · rw [decide_eq_false (by omega),decide_eq_false (by omega)]; rfl
  · have:(2 ^ 63 - 1:Int) / n ≥ (2 ^ 63 - 1:Int) / 1000:=by
      have hn:0 < n:=by omega
      have a:(2 ^ 63 - 1:Int) / 1000 * n≤2 ^ 63 - 1:=by
        have b:(2 ^ 63 - 1:Int) / 1000 * n≤(2 ^ 63 - 1:Int) / 1000 * 1000:=Int.mul_le_mul_of_nonneg_left h1 (by decide)
        have c:(2 ^ 63 - 1:Int) / 1000 * 1000≤2 ^ 63 - 1:=by decide
        omega
      exact (Int.le_ediv_iff_mul_le hn).mpr a
    have d:(1000:Int)≤(2 ^ 63 - 1:Int) / 1000:=by decide
    omega
  · have:z.length * n.toNat≤1000 * 1000:=Nat.mul_le_mul h2 (by omega)
    have e:Builtin.Str.tooLong (z.length * n.toNat) = decide (z.length * n.toNat > sizeLine):=rfl
    rw [e]
    exact decide_eq_false (by have:=sizeLine_big; omega)
theorem op_mul_str:OpR X (binaryOp .Mult) rMulS:=by
  intro pins s σ H x y v u Q I rx ry h
  obtain ⟨z,n,rfl,rfl,h1,h0,h2,q⟩:=h
  obtain ⟨t,rfl⟩:=rx
  obtain ⟨t',rfl⟩:=ry
  exact SB.mul (mulOk_of h1 h0 h2) fun t' k=>⟨.str _,H,I.tok k,⟨_,rfl⟩,q⟩
end
end L2
namespace L2
open PySem PySem.Spec PyProof.Rows PySem.Builtin.Str
abbrev cod (z:Str):List Nat:=z.cps.toList
theorem cod_len (z:Str):(cod z).length = z.length:=by simp [Str.length]
theorem cod_app (a y:Str):cod (a ++ y) = cod a ++ cod y:=by
  show (a.cps ++ y.cps).toList = _
  simp
end L2
namespace L2
open PySem PySem.Spec PyProof.Rows
theorem bt_abs:bootBuiltins "abs" = some (.builtin "abs"):=by decide +kernel
section
variable {X:Cx}
def rIsB:R2:=fun x y H Q=>∃ a b,x = .bl a∧y = .bl b∧Q (.bl (a == b)) H
theorem op_is_bl:OpR X (compareOp .Is) rIsB:=by
  intro pins s σ H x y v u Q I rx ry h
  obtain ⟨a,b,rfl,rfl,q⟩:=h
  cases rx
  cases ry
  exact is_bool ⟨.bl _,H,I,rfl,q⟩
end
theorem comp_rel {J:It} {xs:List V} {fr:List (Option Nat)} {k:Nat} {te:TE} {Q:VK} {σ:St} {H:Hp} (P:V→V→Hp→Prop) (hP:∀ x y H1 H2,P x y H1→Same H1 H2→P x y H2)
    (hU:∀ x y H1 l us us',P x y H1→H1 l = some (.lst us)→y≠.ref l→P x y (upd H1 l (.lst us'))) (hJ:ItIs J H xs) (hn:xs.length≤1000000)
    (helt:∀ (x:V) (H':Hp) (R:VK),x∈xs→Same H H'→(∀ y H'',Same H' H''→(∀ a,y = .ref a→H' a = none)→P x y H''→R y H'')→te ((stC fr σ).set k (some x)) H' R)
    (hQ:∀ l H' (ys:List V),H l = none→Same H H'→H' l = some (.lst ys)→ys.length = xs.length→(∀ (i:Nat) x y,xs[i]? = some x→ys[i]? = some y→P x y H'∧y≠.ref l)→Q (.ref l) H') :
    tCompK fr (gName k) tYes te σ Q J H:=by
  intro l hl
  refine ⟨fun i m σ' H'=>m = xs.length - i∧i≤xs.length∧(∀ y,σ'.set k y = (stC fr σ).set k y)∧Same H H'∧∃ ys:List V,H' l = some (.lst ys)∧ys.length = i∧(∀ (i:Nat) x y,xs[i]? = some x→ys[i]? = some y→P x y H'∧y≠.ref l),
    ⟨xs.length,by simp,Nat.zero_le _,fun _=>rfl,same_new hl _,[],upd_same,rfl,fun i x y _ h=>by simp at h⟩,?_⟩
  rintro i m σ' H' ⟨rfl,hi,hσ,hs,ys,hl',hlen,hp⟩
  obtain ⟨h1,h2,h3⟩:=hJ H' hs i
  by_cases hlt:i < xs.length
  · refine .inr ⟨h1 hlt,fun x H'' y=>?_⟩
    obtain ⟨rfl,hx⟩:=h2 x H'' y
    have hx:=hx hlt
    show te (σ'.set k (some x)) H'' _
    rw [hσ]
    refine helt x H'' _ (List.mem_of_getElem? hx) hs fun y H4 s4 fy py=>?_
    have yl:y≠.ref l:=fun z=>by rw [fy l z] at hl'; cases hl'
    refine ⟨_,s4.get hl',smallLt (by omega),xs.length - (i + 1),by omega,rfl,hlt,fun y=>by rw [List.set_set],same_upd (hs.trans s4) hl _,ys ++ [y],upd_same,by rw [List.length_append,hlen]; rfl,fun j x' y' hx' hy'=>?_⟩
    by_cases hj:j < ys.length
    · rw [List.getElem?_append_left hj] at hy'
      obtain ⟨q1,q2⟩:=hp j x' y' hx' hy'
      exact ⟨hU _ _ _ _ _ _ (hP _ _ _ _ q1 s4) (s4.get hl') q2,q2⟩
    · rw [List.getElem?_append_right (by omega)] at hy'
      by_cases hj2:j = ys.length
      · subst hj2
        rw [Nat.sub_self] at hy'
        cases (Option.some.inj hy':y = y')
        rw [hlen] at hx'
        cases (Option.some.inj (hx.symm.trans hx'):x = x')
        exact ⟨hU _ _ _ _ _ _ py (s4.get hl') yl,yl⟩
      · rw [List.getElem?_eq_none (by simp; omega)] at hy'
        cases hy'
  · have e:i = xs.length:=by omega
    subst e
    exact .inl ⟨h3 (Nat.le_refl _),hQ l H' ys hl hs hl' hlen hp⟩
end L2
namespace L2
open PySem PySem.Spec PyProof.Rows
section
variable {prog:Program} {w:World} {A:Around} {E:Value→Shared→Prop} {s:Shared}
end
section
variable {X:Cx} {pins:List (Addr×Obj)} {σ:St} {H:Hp} {s:Shared} {h':Heap}
theorem Inv.turned2 {t':Nat} {e it T:Addr} {xs:List V} {us:List Value} (I:Inv X pins σ H s) (fe:FpOk X pins H e) (fi:FpOk X pins H it) (k:∀ b o,b≠e→b≠it→s.heap.get? b = some o→h'.get? b = some o)
    (hT:s.heap.objs.size≤T) (r:Vals xs us) (hz:xs.length≤sizeLine) (ht:TupN (enuV xs) h' T us.toArray):Inv X pins σ (upd H T (.tup xs)) { s with heap:=h',toks:=t' }:=by
  obtain ⟨e0,e1,e2,e3,e4,e5⟩:=fe
  obtain ⟨i0,i1,i2,i3,i4,i5⟩:=fi
  have hn:H T = none:=I.hok.fresh hT
  have nT:∀ b o,s.heap.get? b = some o→b≠T:=fun b o q=>Nat.ne_of_lt (Nat.lt_of_lt_of_le (Heap.lt_size q) hT)
  have kc:∀ b o,b ∉ [e,it]→s.heap.get? b = some o→h'.get? b = some o:=fun b o hb q=>k b o (fun z=>hb (by simp [z])) (fun z=>hb (by simp [z])) q
  have up:∀ b u,H b = some u→upd H T (.tup xs) b = some u:=fun b u q=>by rw [upd_ne (ne_of_none q hn)]; exact q
  refine I.step (g':=s.gens) (d':=s.drawn) (ch:=[e,it]) (fun b hb=>?_) (fun b o _ _ hc q _=>kc b o hc q) (fun b o _ _ hc q _=>⟨o.slots,kc b o hc q⟩) (fun b o _ q n=>by rw [upd_ne (nT b o q)]; exact n)
    (fun b o hc q=>⟨o,kc b o hc q⟩) (fun b ys q=>up b _ q) (fun b o u q=>up b _ q) (fun b ps q=>⟨#[],by rw [up b _ q]; simp⟩) (fun m hm=>?_) (fun b u q=>?_) I.bare
  · rcases List.mem_cons.mp hb with rfl | hb
    · exact ⟨e3,e1,e4,e5⟩
    · rw [List.mem_singleton.mp hb]; exact ⟨i3,i1,i4,i5⟩
  · obtain ⟨o,es,ep,ho,hr⟩:=hm
    exact ⟨o,es,ep,k _ o (Ne.symm e1) (Ne.symm i1) ho,hr⟩
  · by_cases hb:b = T
    · subst hb; rw [upd_same] at q; cases q; exact ⟨hz,us,r,ht⟩
    · rw [upd_ne hb] at q
      have nn:∀ c v,H c = some v→c≠e∧c≠it:=fun c v z=>⟨fun y=>(by rw [y,e0] at z; cases z),fun y=>(by rw [y,i0] at z; cases z)⟩
      refine (I.hok b u q).stay (fun c v hc z=>?_) (fun c z=>up c _ z) fun c ys z=>up c _ z
      rcases hc with y | y
      · subst y; exact k c v (nn c u q).1 (nn c u q).2 z
      · exact k c v (nn c _ y).1 (nn c _ y).2 z
theorem Inv.turned2n {t':Nat} {e it:Addr} (I:Inv X pins σ H s) (fe:FpOk X pins H e) (fi:FpOk X pins H it) (k:∀ b o,b≠e→b≠it→s.heap.get? b = some o→h'.get? b = some o):Inv X pins σ H { s with heap:=h',toks:=t' }:=by
  obtain ⟨e0,e1,e2,e3,e4,e5⟩:=fe
  obtain ⟨i0,i1,i2,i3,i4,i5⟩:=fi
  have kc:∀ b o,b ∉ [e,it]→s.heap.get? b = some o→h'.get? b = some o:=fun b o hb q=>k b o (fun z=>hb (by simp [z])) (fun z=>hb (by simp [z])) q
  refine I.step (g':=s.gens) (d':=s.drawn) (ch:=[e,it]) (fun b hb=>?_) (fun b o _ _ hc q _=>kc b o hc q) (fun b o _ _ hc q _=>⟨o.slots,kc b o hc q⟩) (fun b o _ q n=>n)
    (fun b o hc q=>⟨o,kc b o hc q⟩) (fun b ys q=>q) (fun b o u q=>q) (fun b ps q=>⟨#[],by rw [q]; simp⟩) (fun m hm=>?_) (fun b u q=>?_) I.bare
  · rcases List.mem_cons.mp hb with rfl | hb
    · exact ⟨e3,e1,e4,e5⟩
    · rw [List.mem_singleton.mp hb]; exact ⟨i3,i1,i4,i5⟩
  · obtain ⟨o,es,ep,ho,hr⟩:=hm
    exact ⟨o,es,ep,k _ o (Ne.symm e1) (Ne.symm i1) ho,hr⟩
  · have nn:∀ c v,H c = some v→c≠e∧c≠it:=fun c v z=>⟨fun y=>(by rw [y,e0] at z; cases z),fun y=>(by rw [y,i0] at z; cases z)⟩
    refine (I.hok b u q).stay (fun c v hc z=>?_) (fun c z=>z) fun c ys z=>z
    rcases hc with y | y
    · subst y; exact k c v (nn c u q).1 (nn c u q).2 z
    · exact k c v (nn c _ y).1 (nn c _ y).2 z
end
section
variable {X:Cx} {els:List Expr} {kk:Nat} {pp:Pos}
end
end L2
namespace L2
open PySem PySem.Spec PyProof.Rows
theorem pg_tupK {X:Cx} {K:PySem.W.Frag} {pos:Pos} {es:List Expr} {k:Nat} {t:TGs} {n:Nat} (hK:X.K = K) (hc:X.calm = true) (h:PGs X es t) (hn:(assignEach es X.env).length = n:=by rfl) (hs:(assignEach es X.env).findIdx? (·.1) = none:=by rfl):PG X (.Tuple es k pos) (gTup K n t):=by
  subst hK
  exact pg_tup hc h hn hs
section
variable {X:Cx}
end
end L2
namespace L2
open PySem PySem.Spec PyProof.Rows
section
variable {κ:Type} [DecidableEq κ]
def valV (kvs:List (κ×V)) (k:κ):Option V:=(kvs.find? fun kv=>decide (kv.1 = k)).map (·.2)
def putK (kvs:List (κ×V)) (k:κ) (v:V):List (κ×V):=
  if (kvs.any fun kv=>decide (kv.1 = k)) = true then kvs.map (fun kv=>if kv.1 = k then (kv.1,v) else kv) else kvs ++ [(k,v)]
def dropK (kvs:List (κ×V)) (k:κ):List (κ×V):=kvs.filter fun kv=>decide (kv.1≠k)
theorem valV_pos {p:κ×V} {r:List (κ×V)} {k:κ} (e:p.1 = k):valV (p :: r) k = some p.2:=by simp [valV,List.find?_cons,e]
theorem valV_neg {p:κ×V} {r:List (κ×V)} {k:κ} (e:¬ p.1 = k):valV (p :: r) k = valV r k:=by simp [valV,List.find?_cons,e]
theorem valV_any (k:κ):∀ kvs:List (κ×V),(kvs.any fun kv=>decide (kv.1 = k)) = (valV kvs k).isSome
  | []=>rfl
  | p :: r=>by
    rw [List.any_cons]
    by_cases e:p.1 = k
    · simp only [valV_pos e,decide_eq_true e,Bool.true_or,Option.isSome_some]
    · rw [valV_neg e,decide_eq_false e,Bool.false_or]; exact valV_any k r
theorem RelO.isSome_eq {o:Option V} {u:Option Value} (r:RelO o u):o.isSome = u.isSome:=by
  cases o with
  | none=>cases u with
    | none=>rfl
    | some _=>exact (show False from r).elim
  | some _=>cases u with
    | none=>exact (show False from r).elim
    | some _=>rfl
theorem RelO.getD {o:Option V} {u:Option Value} {d:V} {d':Value} (r:RelO o u) (rd:RelV d d'):RelV (o.getD d) (u.getD d'):=by
  cases o with
  | none=>cases u with
    | none=>exact rd
    | some _=>exact (show False from r).elim
  | some _=>cases u with
    | none=>exact (show False from r).elim
    | some _=>exact r
theorem KV.val {kvs:List (κ×V)} {vs:List (κ×Value)} (r:KV kvs vs) (k:κ):RelO (valV kvs k) (valueAt vs k):=by
  unfold KV at r
  induction r with
  | nil=>exact True.intro
  | @cons p q ps qs h t ih=>
    obtain ⟨h1,h2⟩:=h
    by_cases e:p.1 = k
    · have e':q.1 = k:=h1.symm.trans e
      have b:valueAt (q :: qs) k = some q.2:=by simp [valueAt,List.find?_cons,e']
      rw [valV_pos e,b]; exact h2
    · have e':¬ q.1 = k:=fun z=>e (h1.trans z)
      have b:valueAt (q :: qs) k = valueAt qs k:=by simp [valueAt,List.find?_cons,e']
      rw [valV_neg e,b]; exact ih
theorem KV.any {kvs:List (κ×V)} {vs:List (κ×Value)} (r:KV kvs vs) (k:κ):(kvs.any fun kv=>decide (kv.1 = k)) = vs.any fun kv=>decide (kv.1 = k):=by
  unfold KV at r
  induction r with
  | nil=>rfl
  | cons h t ih=>rw [List.any_cons,List.any_cons,ih,h.1]
theorem KV.repl {kvs:List (κ×V)} {vs:List (κ×Value)} (r:KV kvs vs) (k:κ) {y:V} {u:Value} (ry:RelV y u) :
    KV (kvs.map fun kv=>if kv.1 = k then (kv.1,y) else kv) (vs.map fun kv=>if kv.1 = k then (kv.1,u) else kv):=by
  unfold KV at r ⊢
  induction r with
  | nil=>exact .nil
  | @cons p q ps qs h t ih=>
    rw [List.map_cons,List.map_cons]
    refine .cons ?_ ih
    obtain ⟨h1,h2⟩:=h
    by_cases e:p.1 = k
    · rw [if_pos e,if_pos (h1.symm.trans e)]; exact ⟨h1,ry⟩
    · rw [if_neg e,if_neg (fun z=>e (h1.trans z))]; exact ⟨h1,h2⟩
theorem KV.put {kvs:List (κ×V)} {vs:List (κ×Value)} (r:KV kvs vs) (k:κ) {y:V} {u:Value} (ry:RelV y u):KV (putK kvs k y) (stored vs k u):=by
  unfold putK stored
  rw [r.any k]
  by_cases e:(vs.any fun kv=>decide (kv.1 = k)) = true
  · rw [if_pos e,if_pos e]; exact r.repl k ry
  · rw [if_neg e,if_neg e]; exact Paired.snoc r ⟨rfl,ry⟩
theorem KV.drop {kvs:List (κ×V)} {vs:List (κ×Value)} (r:KV kvs vs) (k:κ):KV (dropK kvs k) (without vs k):=by
  unfold KV at r ⊢
  unfold dropK without
  induction r with
  | nil=>exact .nil
  | @cons p q ps qs h t ih=>
    obtain ⟨h1,h2⟩:=h
    rw [List.filter_cons,List.filter_cons]
    by_cases e:p.1 = k
    · have a:¬ decide (p.1≠k) = true:=by simp [e]
      have b:¬ decide (q.1≠k) = true:=by simp [h1.symm.trans e]
      rw [if_neg a,if_neg b]; exact ih
    · have e':¬ q.1 = k:=fun z=>e (h1.trans z)
      have a:decide (p.1≠k) = true:=by simp [e]
      have b:decide (q.1≠k) = true:=by simp [e']
      rw [if_pos a,if_pos b]; exact .cons ⟨h1,h2⟩ ih
theorem KV.length {kvs:List (κ×V)} {vs:List (κ×Value)} (r:KV kvs vs):kvs.length = vs.length:=Paired.length r
end
theorem kV_is {P:Program} {w:World} {k:Key} {u:Value} (r:RelV (kV k) u):(mixKind P w).is k u = true:=by
  cases k with
  | inl i=>obtain ⟨t,e⟩:=(show ∃ t,u = Value.int i t from r); subst e; exact mixKind_int P w i t
  | inr x=>obtain ⟨t,e⟩:=(show ∃ t,u = Value.str x t from r); subst e; exact mixKind_str P w x t
theorem items_are {P:Program} {w:World}:∀ {ks:List Key} {us:List Value},Vals (ks.map kV) us→ItemsAre (mixKind P w) ks us
  | [],_,r=>by rw [List.map_nil] at r; cases r; exact .nil
  | k :: ks,_,r=>by
    rw [List.map_cons] at r
    cases r with
    | cons h t=>exact .cons (kV_is h) (items_are t)
abbrev KT (H:Hp):List (List Key×V)→List (List Key×Addr×Value)→Prop:=Paired fun p q=>p.1 = q.1∧H q.2.1 = some (.tup (p.1.map kV))∧RelV p.2 q.2.2
theorem KT.val {H:Hp} {kvs:List (List Key×V)} {xs:List (List Key×Addr×Value)} (r:KT H kvs xs) (k:List Key):RelO (valV kvs k) ((atKey xs k).map (·.2)):=by
  induction r with
  | nil=>exact True.intro
  | @cons p q ps qs h t ih=>
    obtain ⟨h1,_,h2⟩:=h
    by_cases e:p.1 = k
    · have e':q.1 = k:=h1.symm.trans e
      have b:atKey (q :: qs) k = some q.2:=by simp [atKey,List.find?_cons,e']
      rw [valV_pos e,b]; exact h2
    · have e':¬ q.1 = k:=fun z=>e (h1.trans z)
      have b:atKey (q :: qs) k = atKey qs k:=by simp [atKey,List.find?_cons,e']
      rw [valV_neg e,b]; exact ih
theorem KT.repl {H:Hp} {kvs:List (List Key×V)} {xs:List (List Key×Addr×Value)} (r:KT H kvs xs) (k:List Key) {y:V} {u:Value} (ry:RelV y u) :
    KT H (kvs.map fun kv=>if kv.1 = k then (kv.1,y) else kv) (xs.map (putAt k u)):=by
  induction r with
  | nil=>exact .nil
  | @cons p q ps qs h t ih=>
    rw [List.map_cons,List.map_cons]
    refine .cons ?_ ih
    obtain ⟨h1,h2,h3⟩:=h
    unfold putAt
    by_cases e:p.1 = k
    · rw [if_pos e,if_pos (h1.symm.trans e)]; exact ⟨h1,h2,ry⟩
    · rw [if_neg e,if_neg (fun z=>e (h1.trans z))]; exact ⟨h1,h2,h3⟩
theorem KT.put {H:Hp} {kvs:List (List Key×V)} {xs:List (List Key×Addr×Value)} (r:KT H kvs xs) (k:List Key) {b:Addr} {y:V} {u:Value} (hb:H b = some (.tup (k.map kV))) (ry:RelV y u) :
    KT H (putK kvs k y) (storedH xs k b u):=by
  have e:(kvs.any fun kv=>decide (kv.1 = k)) = (atKey xs k).isSome:=by
    rw [valV_any,(r.val k).isSome_eq,Option.isSome_map]
  unfold putK storedH
  rw [e]
  by_cases q:(atKey xs k).isSome = true
  · rw [if_pos q,if_pos q]; exact r.repl k ry
  · rw [if_neg q,if_neg q]; exact Paired.snoc r ⟨rfl,hb,ry⟩
theorem KT.keeps {H H':Hp} {kvs:List (List Key×V)} {xs:List (List Key×Addr×Value)} (r:KT H kvs xs) (ht:∀ b ys,H b = some (.tup ys)→H' b = some (.tup ys)):KT H' kvs xs:=
  Paired.mapP r fun _ _ z=>⟨z.1,ht _ _ z.2.1,z.2.2⟩
section
variable {P:Program} {w:World} {H:Hp} {h:Heap} {a:Addr}
theorem rd_of {u:HO} (ok:HOk P w H h) (e:Rd H a u):ObjOk P w H h a u:=e.ok ok
theorem dk_rd {kvs:List (Key×V)} (ok:HOk P w H h) (e:Rd H a (.dK kvs)):kvs.length≤sizeLine∧(a == sysModules) = false∧∃ vs,KV kvs vs∧h.DictOf (mixKind P w) a vs:=
  show ObjOk P w H h a (.dK kvs) from rd_of ok e
theorem key_of {ks:List Key} (ok:HOk P w H h) (e:H a = some (.tup (ks.map kV))):(tupleKind (mixKind P w)).is h ks a:=by
  obtain ⟨_,its,r,o,h1,h2,n,h3⟩:=(show ObjOk P w H h a (.tup (ks.map kV)) from ok a _ e)
  exact ⟨o,its.toArray,n,h1,h2,h3.1,by simpa using items_are r⟩
theorem dt_rd {kvs:List (List Key×V)} (ok:HOk P w H h) (e:Rd H a (.dT kvs)):kvs.length≤sizeLine∧(a == sysModules) = false∧
    ∃ xs,KT H kvs xs∧h.DictOfH (tupleKind (mixKind P w)) a xs:=by
  obtain ⟨z,y,xs,r,o,es,ep,h1,h2,h3,h4,h5⟩:=(show ObjOk P w H h a (.dT kvs) from rd_of ok e)
  refine ⟨z,y,xs,r,o,es,ep,h1,h2,h3,h4,fun x hx=>?_,h5⟩
  have all:∀ {l:List (List Key×V)} {m:List (List Key×Addr×Value)},KT H l m→∀ x∈m,(tupleKind (mixKind P w)).is h x.1 x.2.1:=by
    intro l m q
    induction q with
    | nil=>intro x hx; exact nomatch hx
    | @cons p q ps qs hq t ih=>
      intro x hx
      rcases List.mem_cons.mp hx with e | hx
      · subst e
        exact key_of ok (by rw [← hq.1]; exact hq.2.1)
      · exact ih x hx
  exact all r x hx
end
def DGet (H:Hp) (a:Addr) (y:V) (r:Option V):Prop:=
  (∃ kvs k,Rd H a (.dK kvs)∧y = kV k∧r = valV kvs k)∨∃ kvs k b,Rd H a (.dT kvs)∧y = .ref b∧H b = some (.tup (k.map kV))∧r = valV kvs k
def DPut (H:Hp) (a:Addr) (y v:V) (H':Hp):Prop:=
  (∃ kvs k,H a = some (.dK kvs)∧y = kV k∧kvs.length < sizeLine∧H' = upd H a (.dK (putK kvs k v)))∨
  ∃ kvs k b,H a = some (.dT kvs)∧y = .ref b∧H b = some (.tup (k.map kV))∧kvs.length < sizeLine∧H' = upd H a (.dT (putK kvs k v))
theorem DGet.k {H:Hp} {a:Addr} {kvs:List (Key×V)} {k:Key} (e:H a = some (.dK kvs)):DGet H a (kV k) (valV kvs k):=.inl ⟨kvs,k,.inl e,rfl,rfl⟩
theorem DGet.t {H:Hp} {a b:Addr} {kvs:List (List Key×V)} {k:List Key} (e:H a = some (.dT kvs)) (eb:H b = some (.tup (k.map kV))):DGet H a (.ref b) (valV kvs k):=.inr ⟨kvs,k,b,.inl e,rfl,eb,rfl⟩
theorem DPut.k {H:Hp} {a:Addr} {kvs:List (Key×V)} {k:Key} {v:V} (e:H a = some (.dK kvs)) (hl:kvs.length < sizeLine):DPut H a (kV k) v (upd H a (.dK (putK kvs k v))):=.inl ⟨kvs,k,e,rfl,hl,rfl⟩
theorem DPut.t {H:Hp} {a b:Addr} {kvs:List (List Key×V)} {k:List Key} {v:V} (e:H a = some (.dT kvs)) (eb:H b = some (.tup (k.map kV))) (hl:kvs.length < sizeLine) :
    DPut H a (.ref b) v (upd H a (.dT (putK kvs k v))):=.inr ⟨kvs,k,b,e,rfl,eb,hl,rfl⟩
section
variable {X:Cx} {pins:List (Addr×Obj)} {σ:St} {H:Hp} {s:Shared} {a:Addr} {y v:V} {u r:Value} {o:Option V} {A:Around} {E:Value→Shared→Prop}
theorem Inv.big (I:Inv X pins σ H s):sysModules < s.heap.objs.size:=by
  have h:mainGlobals < s.heap.objs.size:=(I.mod.glob.keeps I.bk).lt
  exact Nat.lt_trans (by decide) h
theorem d_getItem {Q:Value→Shared→Prop} (hu:A.units + 1 < cLine) (I:Inv X pins σ H s) (g:DGet H a y (some v)) (ry:RelV y u) (h:∀ w' s',Inv X pins σ H s'→RelV v w'→Q w' s') :
    wpAny (model X.prog X.w) A (getItem (.ref a) u) Q E s:=by
  rcases g with ⟨kvs,k,e,ey,l⟩ | ⟨kvs,k,b,e,ey,eb,l⟩
  · subst ey
    obtain ⟨z,hd,vs,rel,dd⟩:=dk_rd I.hok e
    obtain ⟨w',hw,rw'⟩:=RelO.some_of (v:=v) (o:=valueAt vs k) (by rw [l]; exact rel.val k)
    exact wpAny_getItem_of (kV_is ry) dd.mapOf hw (h w' _ (I.tok _) rw')
  · subst ey
    cases (show u = Value.ref b from ry)
    obtain ⟨z,hd,xs,rel,dd⟩:=dt_rd I.hok e
    obtain ⟨w',hw,rw'⟩:=RelO.some_of (v:=v) (o:=(atKey xs k).map (·.2)) (by rw [l]; exact rel.val k)
    obtain ⟨p,hp,hp2⟩:=Option.map_eq_some_iff.mp hw
    refine wpAny_getItem_heap (tupleKind_room_in1 hu) (key_of I.hok eb) dd hp ?_
    rw [hp2]
    exact h w' _ (I.tok _) rw'
theorem d_in {Q:Value→Shared→Prop} (hu:A.units + 1 < cLine) (I:Inv X pins σ H s) (g:DGet H a y o) (ry:RelV y u) (h:∀ s',Inv X pins σ H s'→Q (.bool o.isSome) s') :
    wpAny (model X.prog X.w) A (compareOp .In u (.ref a)) Q E s:=by
  rcases g with ⟨kvs,k,e,ey,l⟩ | ⟨kvs,k,b,e,ey,eb,l⟩
  · subst ey
    obtain ⟨z,hd,vs,rel,dd⟩:=dk_rd I.hok e
    refine wpAny_in_of (kV_is ry) hd dd.mapOf ?_
    rw [← (rel.val k).isSome_eq,← l]
    exact h _ (I.tok _)
  · subst ey
    cases (show u = Value.ref b from ry)
    obtain ⟨z,hd,xs,rel,dd⟩:=dt_rd I.hok e
    refine wpAny_in_heap (tupleKind_room_in1 hu) (key_of I.hok eb) hd dd ?_
    have q:=(rel.val k).isSome_eq
    rw [Option.isSome_map] at q
    rw [← q,← l]
    exact h _ (I.tok _)
theorem dk_new {P:Program} {w:World} {H':Hp} {h':Heap} {kvs:List (Key×V)} {vs:List (Key×Value)} (z:kvs.length≤sizeLine) (hd:(a == sysModules) = false) (rel:KV kvs vs) (dd:h'.DictOf (mixKind P w) a vs) :
    ObjOk P w H' h' a (.dK kvs):=⟨z,hd,vs,rel,dd⟩
end
section
variable {X:Cx} {pins:List (Addr×Obj)} {σ:St} {H:Hp} {s:Shared} {a:Addr} {kvs:List (Key×V)} {k:Key} {u:Value} {A:Around} {E:Value→Shared→Prop}
end
def NoSl (i:Expr):Prop:=∀ ov iv,subscripted i false ov iv = operate [ov,iv] (getItem ov iv)
theorem subD_of {prog:Program} {w:World} {A:Around} {E:Value→Shared→Prop} {s:Shared} {env:Env} {value slice:Expr} {pos:Pos} {T id:String} {Q:Value→Shared→Prop}
    (hl:typeLookup (.type T) "__getitem__" = pure (some (.builtin id))) (hs:NoSl slice)
    (h:wpAny (model prog w) A (eval value env) (fun o s₁=>wpAny (model prog w) A (eval slice env) (fun i s₂=>s₂.TypeIs o T∧wpAny (model prog w) A (getItem o i) Q E s₂) E s₁) E s) :
    wpAny (model prog w) A (eval (.Subscript value slice pos) env) Q E s:=by
  refine Subscript_ (wpAny_mono h (fun o s₁ h₁=>wpAny_mono h₁ (fun i s₂ h₂=>?_) fun _ _ x=>x) fun _ _ x=>x)
  obtain ⟨hT,h₂⟩:=h₂
  unfold subscriptTail
  refine wpAny_bind ?_
  rw [getitemInPython_of_ne hT.not_modules]
  refine wpAny_bind (wpAny_specialOf hT hl ?_)
  have fin:wpAny (model prog w) A (subscripted slice false o i) (fun r s₃=>wpAny (model prog w) A (letTemporaryGo value o r >>= fun _=>pure r) Q E s₃) E s₂:=by
    rw [hs o i]
    exact wpAny_operating (wpAny_mono h₂ (fun r s₃ h₃=>wpAny_bind (wpAny_letTemporaryGo (wpAny_pure h₃))) fun _ _ x=>x)
  first
    | exact wpAny_pure (wpAny_bind fin)
    | exact wpAny_bind (wpAny_pure (wpAny_bind fin))
    | exact wpAny_bind fin
theorem dict_typeIs {X:Cx} {pins:List (Addr×Obj)} {σ:St} {H:Hp} {s:Shared} {a:Addr} {y:V} {o:Option V} (I:Inv X pins σ H s) (g:DGet H a y o):s.TypeIs (.ref a) "dict":=by
  rcases g with ⟨kvs,k,e,_,_⟩ | ⟨kvs,k,b,e,_,_,_⟩
  · obtain ⟨_,_,vs,_,dd⟩:=dk_rd I.hok e
    exact dd.typeIs
  · obtain ⟨_,_,xs,_,dd⟩:=dt_rd I.hok e
    exact dd.typeIs
def tDGet (td ty:TE):TE:=fun σ H Q=>td σ H fun x H1=>ty σ H1 fun y H2=>∃ a v,x = .ref a∧DGet H2 a y (some v)∧Q v H2
def tDIn (ty td:TE):TE:=fun σ H Q=>ty σ H fun y H1=>td σ H1 fun x H2=>∃ a o,x = .ref a∧DGet H2 a y o∧Q (.bl o.isSome) H2
section
variable {X:Cx} {o i e value:Expr} {pos pos' tpos:Pos} {td ty tv:TE}
theorem pe_dget (hu:X.A.units + 1 < cLine) (ho:PE X o td) (hi:PE X i ty) (hs:NoSl i):PE X (.Subscript o i pos) (tDGet td ty):=by
  intro pins s σ H Q I h
  refine subD_of PySem.F.slot_dict_getitem.lookup hs (thn (ho pins s σ H _ I h) fun u s1 ⟨x,H1,I1,rx,q1⟩=>thn (hi pins s1 σ H1 _ I1 q1) fun iv s2 ⟨y,H2,I2,ry,a,v,ex,g,q2⟩=>?_)
  subst ex
  obtain rfl:u = Value.ref a:=rx
  exact ⟨dict_typeIs I2 g,d_getItem hu I2 g ry fun w' s3 I3 rw'=>⟨v,H2,I3,rw',q2⟩⟩
theorem pc_din (hu:X.A.units + 1 < cLine) (hi:PE X i ty) (ho:PE X o td):PC X .In i o (tDIn ty td):=by
  intro pins s σ H Q I h
  refine thn (hi pins s σ H _ I h) fun iv s1 ⟨y,H1,I1,ry,q1⟩=>thn (ho pins s1 σ H1 _ I1 q1) fun u s2 ⟨x,H2,I2,rx,a,ov,ex,g,q2⟩=>?_
  subst ex
  obtain rfl:u = Value.ref a:=rx
  exact d_in hu I2 g ry fun s3 I3=>⟨.bl ov.isSome,H2,I3,rfl,q2⟩
end
section
variable {X:Cx} {pos:Pos}
end
structure M1 (X:Cx) (o:Expr) (m:Str) (apos:Pos) (e:Expr) (cpos:Pos):Prop where
  base:attributeBase o m X.env (eval o X.env) = eval o X.env
  few:((backTo cpos (starEach [e] X.env)).all (fun x=>!x.1) && (backToKw cpos (keywordEach [] X.env)).all (fun x=>x.1.isSome)
    && decide (([e]:List Expr).length + ([]:List Keyword).length + (if ([]:List Keyword).isEmpty then 0 else 1) < 30)) = true
  line:(apos.endLine == cpos.line) = true
  trees:backTo cpos (starEach [e] X.env) = [(false,eval e X.env)]
structure M2 (X:Cx) (o:Expr) (m:Str) (apos:Pos) (e f:Expr) (cpos:Pos):Prop where
  base:attributeBase o m X.env (eval o X.env) = eval o X.env
  few:((backTo cpos (starEach [e,f] X.env)).all (fun x=>!x.1) && (backToKw cpos (keywordEach [] X.env)).all (fun x=>x.1.isSome)
    && decide (([e,f]:List Expr).length + ([]:List Keyword).length + (if ([]:List Keyword).isEmpty then 0 else 1) < 30)) = true
  line:(apos.endLine == cpos.line) = true
  trees:backTo cpos (starEach [e,f] X.env) = [(false,eval e X.env),(false,eval f X.env)]
def IsD (H:Hp) (a:Addr):Prop:=(∃ kvs,Rd H a (.dK kvs))∨∃ kvs,Rd H a (.dT kvs)
theorem isD_at {X:Cx} {pins:List (Addr×Obj)} {σ:St} {H:Hp} {s:Shared} {a:Addr} (I:Inv X pins σ H s) (d:IsD H a) :
    s.TypeIs (.ref a) "dict"∧(∀ b,Value.ref a = .ref b→∃ ob,s.heap.get? b = some ob∧ob.dict = none)∧(a == sysModules) = false:=by
  rcases d with ⟨kvs,e⟩ | ⟨kvs,e⟩
  · obtain ⟨_,hd,vs,_,dd⟩:=dk_rd I.hok e
    refine ⟨dd.typeIs,fun b q=>?_,hd⟩
    cases q
    obtain ⟨ob,_,_,h1,h2,_⟩:=dd
    exact ⟨ob,h1,h2.2.1⟩
  · obtain ⟨_,hd,xs,_,dd⟩:=dt_rd I.hok e
    refine ⟨dd.typeIs,fun b q=>?_,hd⟩
    cases q
    obtain ⟨ob,_,_,h1,h2,_⟩:=dd
    exact ⟨ob,h1,h2.2.1⟩
section
variable {X:Cx} {pins:List (Addr×Obj)} {σ:St} {H:Hp} {s:Shared} {a:Addr} {y d:V} {u r:Value} {o:Option V} {A:Around} {E:Value→Shared→Prop}
theorem d_get2 {Q:Value→Shared→Prop} (hu:A.units + 1 < cLine) (I:Inv X pins σ H s) (g:DGet H a y o) (ry:RelV y u) (rd:RelV d r) (h:∀ w' s',Inv X pins σ H s'→RelV (o.getD d) w'→Q w' s') :
    wpAny (model X.prog X.w) A (call (.builtin "dict.get") [.ref a,u,r]) Q E s:=by
  rcases g with ⟨kvs,k,e,ey,l⟩ | ⟨kvs,k,b,e,ey,eb,l⟩
  · subst ey
    obtain ⟨z,hd,vs,rel,dd⟩:=dk_rd I.hok e
    refine call_meetsIn PySem.F.slot_dict_get dd.typeIs PySem.F.entry_dict_get (PySem.F.args_dict_get_3 _ _ _) (meets_dict_get_default (mixKind X.prog X.w) a (kV_is ry) hd r) ⟨_,dd.mapOf,h _ _ (I.tok _) ?_⟩
    rw [l]
    exact (rel.val k).getD rd
  · subst ey
    cases (show u = Value.ref b from ry)
    obtain ⟨z,hd,xs,rel,dd⟩:=dt_rd I.hok e
    refine call_meetsIn PySem.F.slot_dict_get dd.typeIs PySem.F.entry_dict_get (PySem.F.args_dict_get_3 _ _ _) (meetsH_dict_get_default (tupleKind (mixKind X.prog X.w)) a b hd r) ⟨tupleKind_room_in1 hu,k,xs,key_of I.hok eb,dd,h _ _ (I.tok _) ?_⟩
    rw [l]
    exact (rel.val k).getD rd
end
def tDGet2 (td ty tx:TE):TE:=fun σ H Q=>td σ H fun x H1=>∃ a,x = .ref a∧IsD H1 a∧ty σ H1 fun y H2=>tx σ H2 fun z H3=>∃ o,DGet H3 a y o∧Q (o.getD z) H3
section
variable {X:Cx} {o e f:Expr} {apos cpos:Pos} {td ty tx:TE}
theorem pe_dget2 (hu:X.A.units + 1 < cLine) (ho:PE X o td) (he:PE X e ty) (hf:PE X f tx) (m:M2 X o "get" apos e f cpos):PE X (.Call (.Attribute o "get" apos) [e,f] [] cpos) (tDGet2 td ty tx):=by
  intro pins s σ H Q I h
  refine wpAny_Call_method m.base m.few m.line PySem.F.plainAttrs_dict PySem.F.slot_dict_get PySem.F.type_dict_get (thn (ho pins s σ H _ I h) fun u s1 ⟨x,H1,I1,rx,a,ex,d,q1⟩=>?_)
  subst ex
  obtain rfl:u = Value.ref a:=rx
  obtain ⟨t1,t2,_⟩:=isD_at I1 d
  refine ⟨t1,t2,?_⟩
  rw [m.trees]
  refine Calls.callWith_builtin rfl (Calls.evalArgs_plain (Calls.spliced_cons (thn (he pins s1 σ H1 _ I1 q1) fun iv s2 ⟨y,H2,I2,ry,q2⟩=>
    Calls.spliced_cons (thn (hf pins s2 σ H2 _ I2 q2) fun fv s3 ⟨z,H3,I3,rz,ov,g,q3⟩=>Calls.spliced_nil ?_))))
  exact d_get2 hu I3 g ry rz fun w' s4 I4 rw'=>⟨_,H3,I4,rw',q3⟩
end
section
variable {X:Cx} {pins:List (Addr×Obj)} {σ:St} {H:Hp} {s:Shared} {a:Addr} {kvs:List (Key×V)} {A:Around} {E:Value→Shared→Prop}
end
section
variable {X:Cx} {pins:List (Addr×Obj)} {σ:St} {H:Hp} {s:Shared} {a:Addr} {y:V} {u:Value} {A:Around} {E:Value→Shared→Prop}
end
end L2
namespace L2
open PySem PySem.Spec PyProof.Rows
section
variable {X:Cx}
def rCatT3 (K:PySem.W.Frag):R2:=fun x y H Q=>∃ a b xs ys,x = .ref a∧y = .ref b∧SqT K H a xs∧SqT K H b ys∧xs.length + ys.length≤sizeLine∧
  (xs = []→Q (.ref b) H)∧(xs≠[]→ys = []→Q (.ref a) H)∧(xs≠[]→ys≠[]→∀ p,H p = none→Q (.ref p) (upd H p (.tup (xs ++ ys))))
theorem op_catT3:OpR X (binaryOp .Add) (rCatT3 X.K):=by
  intro pins s σ H x y v u Q I rx ry h
  obtain ⟨a,b,xs,ys,rfl,rfl,ha,hb,hz,q0,q1,q2⟩:=h
  by_cases hx:xs = []
  · subst hx
    cases rx
    cases ry
    obtain ⟨its,r1,p1,_⟩:=I.tuple ha
    obtain ⟨its2,r2,p2,_⟩:=I.tuple hb
    cases r1
    obtain ⟨⟨cls,dd,data,sl⟩,ho,hc,n,hd⟩:=id p1
    obtain ⟨⟨cls2,dd2,data2,sl2⟩,ho2,hc2,n2,hd2⟩:=id p2
    simp only at hc hd hc2 hd2
    subst hc hd hc2 hd2
    exact concat_meets ⟨_,ho,rfl⟩ ⟨_,ho2,rfl⟩ noFill_tuple_add seq_tuple_add PySem.F.slot_tuple_add PySem.F.entry_tuple_add (PySem.F.args_tuple_add_2 _ _) (tuple_addW0 a b _ _ n n2 dd dd2 sl sl2 rfl) ⟨ho,ho2,.ref b,H,I,rfl,q0 rfl⟩
  · exact op_catT pins s σ H _ _ v u Q I rx ry ⟨a,b,xs,ys,rfl,rfl,ha,hb,hx,hz,q1 hx,q2 hx⟩
def rEqE (K:PySem.W.Frag) (neg:Bool):R2:=fun x y H Q=>∃ a b xs,x = .ref a∧y = .ref b∧SqL K H a xs∧SqL K H b []∧Q (.bl (if neg then !decide (xs = []) else decide (xs = []))) H
theorem op_eqE (hu:X.A.units + 1 < cLine):OpR X (compareOp .Eq) (rEqE X.K false):=by
  intro pins s σ H x y v u Q I rx ry h
  obtain ⟨a,b,xs,rfl,rfl,h1,h2,q⟩:=h
  cases rx
  cases ry
  obtain ⟨its,r1,p1,_⟩:=I.list h1
  obtain ⟨its2,r2,p2,_⟩:=I.list h2
  cases r2
  cases r1 with
  | nil=>
    exact SeqAt.RcAt.lists (A:=X.A) (s:=s) (e:=fun _=>true) p1.isList p2.isList rfl (by omega) (fun j g1 g2=>absurd g1 (by simp)) _ _ _ _ ⟨.bl _,H,I,rfl,q⟩
  | cons r rr=>
    exact SeqAt.RcAt.lists_lengths p1.isList p2.isList (by simp) (by omega) _ _ _ _ ⟨.bl _,H,I,rfl,q⟩
end
inductive Tr where
  | non
  | bl (b:Bool)
  | int (i:Int)
  | str (z:Str)
  | tup (ts:List Tr)
  | lst (ts:List Tr)
mutual
def Rep (F:Addr→Prop) (H:Hp):Tr→V→Prop
  | .non,v=>v = .non
  | .bl b,v=>v = .bl b
  | .int i,v=>v = .int i
  | .str z,v=>v = .str z
  | .tup ts,v=>∃ a vs,v = .ref a∧H a = some (.tup vs)∧Reps F H ts vs
  | .lst ts,v=>∃ a vs,v = .ref a∧F a∧H a = some (.lst vs)∧Reps F H ts vs
def Reps (F:Addr→Prop) (H:Hp):List Tr→List V→Prop
  | [],vs=>vs = []
  | t :: ts,vs=>∃ v us,vs = v :: us∧Rep F H t v∧Reps F H ts us
end
mutual
def Tr.dep:Tr→Nat
  | .tup ts=>1 + Tr.deps ts
  | .lst ts=>1 + Tr.deps ts
  | _=>1
def Tr.deps:List Tr→Nat
  | []=>0
  | t :: ts=>max (Tr.dep t) (Tr.deps ts)
end
mutual
def Tr.ok:Tr→Prop
  | .str z=>z.length≤1000
  | .tup ts=>ts.length≤1000∧Tr.oks ts
  | .lst ts=>ts.length≤1000∧Tr.oks ts
  | _=>True
def Tr.oks:List Tr→Prop
  | []=>True
  | t :: ts=>Tr.ok t∧Tr.oks ts
end
mutual
theorem Rep.same {F:Addr→Prop} {H H':Hp} (s:Same H H'):∀ (t:Tr) (v:V),Rep F H t v→Rep F H' t v
  | .non,_,h=>h
  | .bl _,_,h=>h
  | .int _,_,h=>h
  | .str _,_,h=>h
  | .tup ts,_,⟨a,vs,e,ha,hr⟩=>⟨a,vs,e,s.get ha,Reps.same s ts vs hr⟩
  | .lst ts,_,⟨a,vs,e,fa,ha,hr⟩=>⟨a,vs,e,fa,s.get ha,Reps.same s ts vs hr⟩
theorem Reps.same {F:Addr→Prop} {H H':Hp} (s:Same H H'):∀ (ts:List Tr) (vs:List V),Reps F H ts vs→Reps F H' ts vs
  | [],_,h=>h
  | t :: ts,_,⟨v,us,e,h1,h2⟩=>⟨v,us,e,Rep.same s t v h1,Reps.same s ts us h2⟩
end
theorem Reps.len {F:Addr→Prop} {H:Hp}:∀ (ts:List Tr) (vs:List V),Reps F H ts vs→vs.length = ts.length
  | [],_,h=>by rw [show _ = [] from h]; rfl
  | t :: ts,_,⟨v,us,e,_,h2⟩=>by rw [e,List.length_cons,List.length_cons,Reps.len ts us h2]
theorem Reps.get {F:Addr→Prop} {H:Hp}:∀ {ts:List Tr} {vs:List V},Reps F H ts vs→∀ {i:Nat} {v:V},vs[i]? = some v→∃ t,ts[i]? = some t∧Rep F H t v
  | [],_,h,i,v,hv=>by rw [show _ = [] from h] at hv; simp at hv
  | t :: ts,_,⟨w,us,e,h1,h2⟩,0,v,hv=>by
    rw [e] at hv
    cases (Option.some.inj hv)
    exact ⟨t,rfl,h1⟩
  | t :: ts,_,⟨w,us,e,h1,h2⟩,i + 1,v,hv=>by
    rw [e] at hv
    obtain ⟨t',e1,e2⟩:=Reps.get h2 (i:=i) (v:=v) (by simpa using hv)
    exact ⟨t',by simpa using e1,e2⟩
theorem Reps.append {F:Addr→Prop} {H:Hp}:∀ {ts us:List Tr} {vs ws:List V},Reps F H ts vs→Reps F H us ws→Reps F H (ts ++ us) (vs ++ ws)
  | [],us,_,ws,h,h2=>by rw [show _ = [] from h]; exact h2
  | t :: ts,us,_,ws,⟨w,vs,e,h1,hr⟩,h2=>by
    rw [e]
    exact ⟨w,vs ++ ws,rfl,h1,Reps.append hr h2⟩
theorem Reps.one {F:Addr→Prop} {H:Hp} {t:Tr} {v:V} (h:Rep F H t v):Reps F H [t] [v]:=⟨v,[],rfl,h,rfl⟩
theorem Rep.ok {F:Addr→Prop} {H:Hp}:∀ {t:Tr} {v:V},Rep F H t v→t.ok→Ok H v
  | .non,_,h,_=>by rw [show _ = V.non from h]; trivial
  | .bl _,_,h,_=>by rw [show _ = V.bl _ from h]; trivial
  | .int _,_,h,_=>by rw [show _ = V.int _ from h]; trivial
  | .str z,_,h,o=>by rw [show _ = V.str z from h]; exact o
  | .tup ts,_,⟨a,vs,e,ha,_⟩,_=>by rw [e]; exact .inr ⟨vs,ha⟩
  | .lst ts,_,⟨a,vs,e,_,ha,_⟩,_=>by rw [e]; exact .inl ⟨vs,ha⟩
section
variable {X:Cx} {pins:List (Addr×Obj)} {σ:St} {H:Hp} {s:Shared} {F G:Addr→Prop}
mutual
theorem rep_eq (I:Inv X pins σ H s):∀ (t:Tr) (A:Around) (v u:V) (vv uu:Value),A.units + t.dep < cLine→Rep F H t v→Rep G H t u→RelV v vv→RelV u uu→SeqAt.EqAt A s vv uu true
  | .non,A,v,u,vv,uu,_,h1,h2,r1,r2=>by
    rw [show v = V.non from h1] at r1; rw [show u = V.non from h2] at r2
    cases r1; cases r2
    exact SeqAt.EqAt.same _
  | .bl b,A,v,u,vv,uu,_,h1,h2,r1,r2=>by
    rw [show v = V.bl b from h1] at r1; rw [show u = V.bl b from h2] at r2
    cases r1; cases r2
    exact SeqAt.EqAt.same _
  | .int i,A,v,u,vv,uu,_,h1,h2,r1,r2=>by
    have:=eqAt_V (A:=A) (s:=s) r1 r2 (by rw [show v = V.int i from h1]; rfl) (by rw [show u = V.int i from h2]; rfl)
    rw [show v = V.int i from h1,show u = V.int i from h2] at this
    have e:eqV (V.int i) (V.int i) = true:=by rw [pure_eq rfl rfl]; simp
    rw [e] at this
    exact this
  | .str z,A,v,u,vv,uu,_,h1,h2,r1,r2=>by
    have:=eqAt_V (A:=A) (s:=s) r1 r2 (by rw [show v = V.str z from h1]; rfl) (by rw [show u = V.str z from h2]; rfl)
    rw [show v = V.str z from h1,show u = V.str z from h2] at this
    have e:eqV (V.str z) (V.str z) = true:=by rw [pure_eq rfl rfl]; simp
    rw [e] at this
    exact this
  | .tup ts,A,v,u,vv,uu,hA,⟨a,vs,e1,ha,hr1⟩,⟨b,us,e2,hb,hr2⟩,r1,r2=>by
    subst e1 e2
    cases r1; cases r2
    by_cases hab:a = b
    · subst hab; exact SeqAt.EqAt.same _
    have hA':A.units + (1 + Tr.deps ts) < cLine:=hA
    obtain ⟨its,rv1,p1,_⟩:=I.tuple (SqT.of (K:=X.K) ha)
    obtain ⟨its2,rv2,p2,_⟩:=I.tuple (SqT.of (K:=X.K) hb)
    have l1:=rv1.length.symm.trans (Reps.len ts vs hr1)
    have l2:=rv2.length.symm.trans (Reps.len ts us hr2)
    have q:=SeqAt.RcAt.tuples (A:=A) (s:=s) (e:=fun _=>true) p1 p2 (by omega) (fun j g1 g2=>reps_eq I ts A.in1 vs us its its2 (by show A.units + 1 + Tr.deps ts < cLine; omega) hr1 hr2 rv1 rv2 j (by simpa using g1) (by simpa using g2))
    have e:((List.range (min its.toArray.size its2.toArray.size)).all (fun _=>true) && its.toArray.size == its2.toArray.size) = true:=by
      simp [l1,l2]
    rw [e] at q
    exact SeqAt.EqAt.of_refs hab q
  | .lst ts,A,v,u,vv,uu,hA,⟨a,vs,e1,_,ha,hr1⟩,⟨b,us,e2,_,hb,hr2⟩,r1,r2=>by
    subst e1 e2
    cases r1; cases r2
    by_cases hab:a = b
    · subst hab; exact SeqAt.EqAt.same _
    have hA':A.units + (1 + Tr.deps ts) < cLine:=hA
    obtain ⟨its,rv1,p1,_⟩:=I.list (SqL.of (K:=X.K) ha)
    obtain ⟨its2,rv2,p2,_⟩:=I.list (SqL.of (K:=X.K) hb)
    have l1:=rv1.length.symm.trans (Reps.len ts vs hr1)
    have l2:=rv2.length.symm.trans (Reps.len ts us hr2)
    have q:=SeqAt.RcAt.lists (A:=A) (s:=s) (e:=fun _=>true) p1.isList p2.isList (by simp [l1,l2]) (by omega) (fun j g1 g2=>reps_eq I ts A.in1 vs us its its2 (by show A.units + 1 + Tr.deps ts < cLine; omega) hr1 hr2 rv1 rv2 j (by simpa using g1) (by simpa using g2))
    have e:((List.range its.toArray.size).all (fun _=>true)) = true:=by simp
    rw [e] at q
    exact SeqAt.EqAt.of_refs hab q
theorem reps_eq (I:Inv X pins σ H s):∀ (ts:List Tr) (A:Around) (vs us:List V) (its its2:List Value),A.units + Tr.deps ts < cLine→Reps F H ts vs→Reps G H ts us→Vals vs its→Vals us its2→∀ (j:Nat) (g1:j < its.length) (g2:j < its2.length),SeqAt.EqAt A s its[j] its2[j] true
  | [],A,vs,us,its,its2,_,h1,h2,r1,r2=>fun j g1 g2=>by
    rw [show vs = [] from h1] at r1
    cases r1
    simp at g1
  | t :: ts,A,vs,us,its,its2,hA,⟨v,vr,e1,a1,b1⟩,⟨u,ur,e2,a2,b2⟩,r1,r2=>by
    subst e1 e2
    have hA':A.units + max (Tr.dep t) (Tr.deps ts) < cLine:=hA
    cases r1 with
    | cons p1 q1=>
      cases r2 with
      | cons p2 q2=>
        intro j g1 g2
        cases j with
        | zero=>exact rep_eq I t A v u _ _ (by omega) a1 a2 p1 p2
        | succ j=>exact reps_eq I ts A vr ur _ _ (by omega) b1 b2 q1 q2 j (by simpa using g1) (by simpa using g2)
end
end
section
variable {X:Cx}
def rNeR:R2:=fun x y H Q=>∃ t F G,t.dep≤100∧Rep F H t x∧Rep G H t y∧Q (.bl false) H
theorem op_neR (hu:X.A.units + 150 < cLine):OpR X (compareOp .NotEq) rNeR:=by
  intro pins s σ H x y v u Q I rx ry h
  obtain ⟨t,F,G,hd,h1,h2,q⟩:=h
  have scal:∀ z:V,pureV z = true∨(∃ b,z = .bl b)→x = z→y = z→wpAny (model X.prog X.w) X.A (compareOp .NotEq v u) (EP X pins σ Q) X.xe s:=fun z hz e1 e2=>by
    refine op_ne pins s σ H x y v u Q I rx ry ⟨?_,?_⟩
    · subst e1 e2
      rcases hz with hz | ⟨b,rfl⟩
      · cases y <;> first | rfl | exact absurd (show false = true from hz) Bool.false_ne_true
      · rfl
    · rw [e1,e2]; simpa using q
  cases t with
  | non=>exact scal _ (.inl rfl) h1 h2
  | bl b=>exact scal _ (.inr ⟨b,rfl⟩) h1 h2
  | int i=>exact scal (.int i) (.inl rfl) h1 h2
  | str z=>exact scal (.str z) (.inl rfl) h1 h2
  | tup ts=>
    obtain ⟨a,vs,rfl,ha,hr1⟩:=h1
    obtain ⟨b,us,rfl,hb,hr2⟩:=h2
    cases rx; cases ry
    have hd':1 + Tr.deps ts≤100:=hd
    obtain ⟨its,rv1,p1,_⟩:=I.tuple (SqT.of (K:=X.K) ha)
    obtain ⟨its2,rv2,p2,_⟩:=I.tuple (SqT.of (K:=X.K) hb)
    have l1:=rv1.length.symm.trans (Reps.len ts vs hr1)
    have l2:=rv2.length.symm.trans (Reps.len ts us hr2)
    have q2:=SeqAt.RcNeAt.tuples (A:=X.A) (s:=s) (e:=fun _=>true) p1 p2 (by omega) (fun j g1 g2=>reps_eq I ts X.A.in1 vs us its its2 (by show X.A.units + 1 + Tr.deps ts < cLine; omega) hr1 hr2 rv1 rv2 j (by simpa using g1) (by simpa using g2))
    have e:(!((List.range (min its.toArray.size its2.toArray.size)).all (fun _=>true) && its.toArray.size == its2.toArray.size)) = false:=by
      simp [l1,l2]
    rw [e] at q2
    exact q2 _ _ _ _ ⟨.bl _,H,I,rfl,q⟩
  | lst ts=>
    obtain ⟨a,vs,rfl,_,ha,hr1⟩:=h1
    obtain ⟨b,us,rfl,_,hb,hr2⟩:=h2
    cases rx; cases ry
    have hd':1 + Tr.deps ts≤100:=hd
    obtain ⟨its,rv1,p1,_⟩:=I.list (SqL.of (K:=X.K) ha)
    obtain ⟨its2,rv2,p2,_⟩:=I.list (SqL.of (K:=X.K) hb)
    have l1:=rv1.length.symm.trans (Reps.len ts vs hr1)
    have l2:=rv2.length.symm.trans (Reps.len ts us hr2)
    have q2:=SeqAt.RcNeAt.lists (A:=X.A) (s:=s) (e:=fun _=>true) p1.isList p2.isList (by simp [l1,l2]) (by omega) (fun j g1 g2=>reps_eq I ts X.A.in1 vs us its its2 (by show X.A.units + 1 + Tr.deps ts < cLine; omega) hr1 hr2 rv1 rv2 j (by simpa using g1) (by simpa using g2))
    have e:(!(List.range its.toArray.size).all (fun _=>true)) = false:=by simp
    rw [e] at q2
    exact q2 _ _ _ _ ⟨.bl _,H,I,rfl,q⟩
end
mutual
theorem Rep.mono {F G:Addr→Prop} {H:Hp} (h:∀ a,F a→G a):∀ (t:Tr) (v:V),Rep F H t v→Rep G H t v
  | .non,_,q=>q
  | .bl _,_,q=>q
  | .int _,_,q=>q
  | .str _,_,q=>q
  | .tup ts,_,⟨a,vs,e,ha,hr⟩=>⟨a,vs,e,ha,Reps.mono h ts vs hr⟩
  | .lst ts,_,⟨a,vs,e,fa,ha,hr⟩=>⟨a,vs,e,h a fa,ha,Reps.mono h ts vs hr⟩
theorem Reps.mono {F G:Addr→Prop} {H:Hp} (h:∀ a,F a→G a):∀ (ts:List Tr) (vs:List V),Reps F H ts vs→Reps G H ts vs
  | [],_,q=>q
  | t :: ts,_,⟨v,us,e,h1,h2⟩=>⟨v,us,e,Rep.mono h t v h1,Reps.mono h ts us h2⟩
end
mutual
theorem Rep.upd {F:Addr→Prop} {H:Hp} {l:Addr} {us us':List V} (hl:H l = some (.lst us)) (nl:¬ F l):∀ (t:Tr) (v:V),Rep F H t v→Rep F (upd H l (.lst us')) t v
  | .non,_,q=>q
  | .bl _,_,q=>q
  | .int _,_,q=>q
  | .str _,_,q=>q
  | .tup ts,_,⟨a,vs,e,ha,hr⟩=>⟨a,vs,e,by rw [upd_ne (ne_of ha hl (by intro z; cases z))]; exact ha,Reps.upd hl nl ts vs hr⟩
  | .lst ts,_,⟨a,vs,e,fa,ha,hr⟩=>⟨a,vs,e,fa,by rw [upd_ne (show a≠l from fun z=>nl (by rw [← z]; exact fa))]; exact ha,Reps.upd hl nl ts vs hr⟩
theorem Reps.upd {F:Addr→Prop} {H:Hp} {l:Addr} {us us':List V} (hl:H l = some (.lst us)) (nl:¬ F l):∀ (ts:List Tr) (vs:List V),Reps F H ts vs→Reps F (L2.upd H l (.lst us')) ts vs
  | [],_,q=>q
  | t :: ts,_,⟨v,ur,e,h1,h2⟩=>⟨v,ur,e,Rep.upd hl nl t v h1,Reps.upd hl nl ts ur h2⟩
end
theorem itIs_tup {K:PySem.W.Frag} {a:Addr} {H:Hp} {xs:List V} (h:H a = some (.tup xs)):ItIs (Itt K a) H xs:=fun H' s i=>
  ⟨fun hi=>⟨xs,xs[i],SqT.of (s.get h),by simp [hi]⟩,fun x H'' y=>⟨y.1,fun _=>y.2 xs (SqT.of (s.get h))⟩,fun hi=>⟨xs,SqT.of (s.get h),hi⟩⟩
def Tr.ty:Tr→String
  | .non=>"NoneType"
  | .bl _=>"bool"
  | .int _=>"int"
  | .str _=>"str"
  | .tup _=>"tuple"
  | .lst _=>"list"
theorem Rep.tyN {F:Addr→Prop} {H:Hp}:∀ {t:Tr} {v:V},Rep F H t v→L2.tyN H v = t.ty
  | .non,_,h=>by rw [show _ = V.non from h]; rfl
  | .bl _,_,h=>by rw [show _ = V.bl _ from h]; rfl
  | .int _,_,h=>by rw [show _ = V.int _ from h]; rfl
  | .str z,_,h=>by rw [show _ = V.str z from h]; rfl
  | .tup ts,_,⟨a,vs,e,ha,_⟩=>by rw [e]; simp only [L2.tyN,ha]; rfl
  | .lst ts,_,⟨a,vs,e,_,ha,_⟩=>by rw [e]; simp only [L2.tyN,ha]; rfl
theorem hu9_of {A:Around} {k:Nat} (hr:Room k A):A.units + 150 < cLine:=by have:=hr.un; omega
section
variable {σ:St} {H:Hp} {m k:Nat} {te:TE} {ta:TA}
theorem Reps.rep {F:Addr→Prop} {ts:List Tr} {vs:List V} (h:Reps F H ts vs):∀ n:Nat,Reps F H (List.replicate n ts).flatten (List.replicate n vs).flatten
  | 0=>rfl
  | n + 1=>by
    rw [List.replicate_succ,List.replicate_succ,List.flatten_cons,List.flatten_cons]
    exact Reps.append h (Reps.rep h n)
end
end L2
namespace L2
open PySem PySem.Spec PyProof.Rows
section
variable {X:Cx} {k:Nat} {x m:Str} {C:Addr} {ps:List Str} {sp:Sp} {e o:Expr} {es:List Expr} {t:TA} {ta:TE} {p apos pos:Pos}
end
end L2
namespace L2
open PySem PySem.Spec PyProof.Rows
def Ite0 (K:PySem.W.Frag) (a:Addr):It:=
  ⟨fun i H=>∃ xs x,SqL K H a xs∧xs[i]? = some x,fun i H v H'=>∃ T x,H T = none∧v = .ref T∧(∀ xs,SqL K H a xs→xs[i]? = some x)∧H' = upd H T (.tup [.int (i:Int),x]),fun i H=>∃ xs,SqL K H a xs∧xs.length = i⟩
theorem turn_enum0 {P:Program} {w:World} {K:PySem.W.Frag} {els:List Expr} {kk:Nat} {pp:Pos} (a e it:Addr) (hei:e≠it):Turn P w K (.Tuple els kk pp) (Ite0 K a) [e,it] e (fun i h=>(∃ old,IsEnum h e it (i:Int) old)∧h.IsListIter it a i) where
  mem:=by simp
  obj:=fun i h st b hb=>by
    obtain ⟨⟨old,he⟩,o,ho,_,hd⟩:=st
    rcases List.mem_cons.mp hb with rfl | hb
    · exact ⟨_,he,fun v z=>by cases z⟩
    · rw [List.mem_singleton.mp hb]; exact ⟨o,ho,fun v z=>by rw [hd] at z; cases z⟩
  keep:=fun i h h' st hk=>by
    obtain ⟨⟨old,he⟩,o,ho,r⟩:=st
    exact ⟨⟨old,hk e (by simp) _ he⟩,o,hk it (by simp) o ho,r⟩
  item:=fun X hP hw hK hc i pins s σ H E I hf st hg=>by
    subst hP hw hK
    obtain ⟨xs,x,hq,hx⟩:=hg
    obtain ⟨its,rv,p,hz⟩:=I.list hq
    obtain ⟨⟨old,he⟩,hit⟩:=st
    have fe:=hf e (by simp)
    have fi:=hf it (by simp)
    obtain ⟨u,hu,ru⟩:=rv.get hx
    have il:=p.isList
    have nae:a≠e:=fun z=>by
      obtain ⟨o,ho,c1,_⟩:=il
      rw [z,he] at ho; cases ho; injection c1 with y; exact absurd y (by decide)
    have nai:a≠it:=fun z=>by
      obtain ⟨o,ho,c1,_⟩:=il
      obtain ⟨o2,ho2,c2,_⟩:=hit
      rw [z,ho2] at ho; cases ho; rw [c2] at c1; injection c1 with y; exact absurd y (by decide)
    have W:=WalksT.enumerateD (prog:=X.prog) (w:=X.w) (A:=X.A) (Draws.list (prog:=X.prog) (w:=X.w) (A:=X.A.in1) (I.ok.hd hc) it a nai its.toArray) e hei (by simp [hei,Ne.symm nae]) (by simp)
    refine W.item i s _ E (by have:=(List.getElem?_eq_some_iff.mp hu).1; simp; omega) ⟨⟨old,he⟩,hit,il⟩ fun T vals h1 tk ⟨t,y,hy,ev⟩ hT htu hm hk=>?_
    refine ⟨.ref T,rfl,W.go els kk pp i T _ _ E hm fun h2 st2 hk2=>?_⟩
    obtain ⟨⟨old2,he2⟩,hit2,_⟩:=st2
    subst ev
    have ey:y = u:=by
      have q1:its.toArray[i]? = some u:=by simpa using hu
      exact Option.some.inj (hy.symm.trans q1)
    subst ey
    have hTw:T ∉ [e,it]:=W.apart _ _ _ hm
    have ht2:TupN true h2 T #[.int (i:Int) t,y]:=by
      obtain ⟨o,ho,c,m,d⟩:=htu
      exact ⟨o,hk2 T o hTw ho,c,m,d,fun z=>nomatch z⟩
    refine ⟨.ref T,upd H T (.tup [.int (i:Int),x]),?_,rfl,⟨T,x,I.hok.fresh hT,rfl,fun zs hzs=>(by rw [I.list_inj hzs hq]; exact hx),rfl⟩,⟨⟨old2,by simpa using he2⟩,hit2⟩,fun b hb=>?_⟩
    · have I2:=I.turned2 (h':=h2) (t':=tk) (xs:=[.int (i:Int),x]) (us:=[.int (i:Int) t,y]) fe fi (fun b o b1 b2 q=>hk2 b o (by simp [b1,b2]) (hk b o (by simp [b1,b2]) q)) hT (.cons ⟨_,rfl⟩ (.cons ru .nil)) (by show 2≤sizeLine; decide) ht2
      exact I2
    · have nb:b≠T:=fun z=>hTw (z ▸ hb)
      rw [upd_ne nb]; exact (hf b hb).1
  done:=fun X hP hw hK hc i pins s σ H E I hf st hg=>by
    subst hP hw hK
    obtain ⟨xs,hq,hx⟩:=hg
    obtain ⟨its,rv,p,hz⟩:=I.list hq
    obtain ⟨⟨old,he⟩,hit⟩:=st
    have fe:=hf e (by simp)
    have fi:=hf it (by simp)
    have il:=p.isList
    have nae:a≠e:=fun z=>by
      obtain ⟨o,ho,c1,_⟩:=il
      rw [z,he] at ho; cases ho; injection c1 with y; exact absurd y (by decide)
    have nai:a≠it:=fun z=>by
      obtain ⟨o,ho,c1,_⟩:=il
      obtain ⟨o2,ho2,c2,_⟩:=hit
      rw [z,ho2] at ho; cases ho; rw [c2] at c1; injection c1 with y; exact absurd y (by decide)
    have W:=WalksT.enumerateD (prog:=X.prog) (w:=X.w) (A:=X.A) (Draws.list (prog:=X.prog) (w:=X.w) (A:=X.A.in1) (I.ok.hd hc) it a nai its.toArray) e hei (by simp [hei,Ne.symm nae]) (by simp)
    have el:its.toArray.size = i:=by rw [List.size_toArray,← rv.length,hx]
    refine W.done s _ E (by rw [el]; exact ⟨⟨old,he⟩,hit,il⟩) fun h' tk hk=>⟨rfl,?_⟩
    exact I.turned2n (h':=h') (t':=tk) fe fi fun b o b1 b2 q=>hk b o (by simp [b1,b2]) q
  self:=fun A i s Q E st h=>by
    obtain ⟨⟨old,he⟩,_⟩:=st
    exact wpAny_pyIter_enum he h
section
variable {X:Cx} {els:List Expr} {kk:Nat} {pp:Pos}
def iEnum0 (K:PySem.W.Frag) (ta:TA):TI:=fun σ H R=>ta σ H fun vs H1=>∃ a xs,vs = [.ref a]∧SqL K H1 a xs∧R (Ite0 K a) H1
theorem pi_enum0 {l:Expr} {ta:TA} {p pos:Pos} (hg:Gl X "enumerate") (hm:X.mg "enumerate" = none) (ha:PA X [l] ta) (hs:starEach [l] X.env = [(false,eval l X.env)]:=by rfl):PI X (.Tuple els kk pp) (.Call (.Name "enumerate" p) [l] [] pos) (iEnum0 X.K ta):=by
  intro pins s σ H R I h
  refine Call_ (ld_blt I hg hm bt_enumerate (PyProof.Rows.callWith_type1 (thn (ha pos pins s σ H _ I h) fun us s1 ⟨vs,H1,I1,r1,q1⟩=>?_) hs rfl))
  obtain ⟨a,xs,rfl,hq,q⟩:=q1
  obtain ⟨u,rfl,ru⟩:=vals1 r1
  cases ru
  obtain ⟨its,rv,pl,hz⟩:=I1.list hq
  refine call_enumerate_list pl.isList fun h' hE hit hz' hk=>?_
  refine wpAny_pyIter_enum hE ?_
  refine ⟨s1.heap.objs.size + 1,[s1.heap.objs.size + 1,s1.heap.objs.size],_,Ite0 X.K a,H1,rfl,I1.kept (t':=s1.toks) hk,turn_enum0 a (s1.heap.objs.size + 1) s1.heap.objs.size (Nat.succ_ne_self _),⟨⟨_,hE⟩,hit⟩,fun b hb=>?_,q⟩
  rcases List.mem_cons.mp hb with rfl | hb
  · exact I1.fpOk (Nat.le_succ _) (I1.hok.fresh (Nat.le_succ _))
  · rw [List.mem_singleton.mp hb]; exact I1.fpOk (Nat.le_refl _) (I1.hok.fresh (Nat.le_refl _))
end
theorem for_enum0 {K:PySem.W.Frag} {a:Addr} {xs:List V} {g:TG} {tb:TS} {D:Ends} {σ:St} {H:Hp} (Pv:Nat→St→Hp→Prop) (h0:Pv 0 σ H) (hl:∀ (i:Nat) (σ:St) (H:Hp),i≤xs.length→Pv i σ H→SqL K H a xs)
    (turn:∀ (i:Nat) (x:V) (σ:St) (H:Hp) (T:Addr),xs[i]? = some x→Pv i σ H→H T = none→g (.ref T) σ (upd H T (.tup [.int (i:Int),x])) fun σ2 H2=>tb { nx:=Pv (i + 1),rt:=D.rt,bk:=D.nx,ct:=Pv (i + 1) } σ2 H2)
    (done:∀ (σ:St) (H:Hp),Pv xs.length σ H→D.nx σ H) :
    ∃ W:Nat→Nat→St→Hp→Prop,(∃ m,W 0 m σ H)∧∀ i m σ H,W i m σ H→
      ((Ite0 K a).stop i H∧D.nx σ H)∨((Ite0 K a).go i H∧∃ N:St→Hp→Prop,(∀ σ' H',N σ' H'→∃ m',m' < m∧W (i + 1) m' σ' H')∧∀ x H',(Ite0 K a).yld i H x H'→g x σ H' fun σ2 H2=>tb { D with nx:=N,ct:=N,bk:=D.nx } σ2 H2):=by
  refine ⟨fun i m σ H=>m = xs.length - i∧i≤xs.length∧Pv i σ H,⟨_,rfl,Nat.zero_le _,h0⟩,?_⟩
  rintro i m σ H ⟨rfl,hi,hp⟩
  by_cases hlt:i < xs.length
  · refine .inr ⟨⟨xs,xs[i],hl i σ H hi hp,by simp [hlt]⟩,Pv (i + 1),fun σ' H' hn=>⟨xs.length - (i + 1),by omega,rfl,hlt,hn⟩,?_⟩
    rintro x H' ⟨T,y,hT,rfl,hy,rfl⟩
    exact turn i y σ H T (hy xs (hl i σ H hi hp)) hp hT
  · have e:i = xs.length:=by omega
    subst e
    exact .inl ⟨⟨xs,hl _ σ H hi hp,rfl⟩,done σ H hp⟩
end L2
namespace L2
open PySem PySem.Spec PyProof.Rows
section
variable {X:Cx} {tg:Expr}
end
theorem DGet.kf {H:Hp} {a:Addr} {o:Obj} {kvs:List (Key×V)} {k:Key} (e:H a = some (.frz o (.dK kvs))):DGet H a (kV k) (valV kvs k):=.inl ⟨kvs,k,.inr ⟨o,e⟩,rfl,rfl⟩
end L2
namespace L2
open PySem PySem.Spec PyProof.Rows
section
variable {X:Cx}
structure M0 (X:Cx) (o:Expr) (m:Str) (apos cpos:Pos):Prop where
  base:attributeBase o m X.env (eval o X.env) = eval o X.env
  few:((backTo cpos (starEach [] X.env)).all (fun x=>!x.1) && (backToKw cpos (keywordEach [] X.env)).all (fun x=>x.1.isSome)
    && decide (([]:List Expr).length + ([]:List Keyword).length + (if ([]:List Keyword).isEmpty then 0 else 1) < 30)) = true
  line:(apos.endLine == cpos.line) = true
  trees:backTo cpos (starEach [] X.env) = []
end
theorem seq_mid {t u:TS} {D:Ends} {σ:St} {H:Hp} (M:St→Hp→Prop) (h1:∀ N:St→Hp→Prop,(∀ σ' H',M σ' H'→N σ' H')→t { D with nx:=N } σ H) (h2:∀ σ' H',M σ' H'→u D σ' H'):tSeq t u D σ H:=h1 (u D) h2
end L2
namespace L2
section
open PySem
open Sem (wp wp_bind' wp_mono)
def Fld2 (o:Obj):Prop:=∃ vs,o.data = .fields vs∧vs[2]? = some .none
def DictAt (h:Heap) (e:Addr) (d:Option Addr):Prop:=∃ o,h.objs[e]? = some o∧o.dict = d∧Fld2 o
variable {α β:Type}
theorem DictAt.get {h:Heap} {e:Addr} {d:Option Addr} {o:Obj} (j:DictAt h e d) (q:h.get? e = some o):o.dict = d∧Fld2 o:=by
  obtain ⟨o1,e1,h1⟩:=j
  unfold Heap.get? at q
  rw [e1] at q
  split at q
  · cases q
  · cases q; exact h1
end
end L2
namespace L2
open PySem PySem.Spec PyProof.Rows
theorem ObjOk.get {P:Program} {w:World} {H:Hp} {h:Heap} {a:Addr} {o:HO} (x:ObjOk P w H h a o):∃ ob,h.get? a = some ob:=by
  cases o with
  | lst xs=>obtain ⟨_,_,_,_,e⟩:=x; exact ⟨_,e⟩
  | tup xs=>obtain ⟨_,_,_,ob,e,_⟩:=x; exact ⟨_,e⟩
  | dK kvs=>obtain ⟨_,_,_,_,o,_,_,e,_⟩:=x; exact ⟨_,e⟩
  | dT kvs=>obtain ⟨_,_,_,_,o,_,_,e,_⟩:=x; exact ⟨_,e⟩
  | set S n=>obtain ⟨o,_,_,_,e,_⟩:=x; exact ⟨_,e⟩
  | ins C dx fs=>obtain ⟨_,_,_,e,_⟩:=x; exact ⟨_,e⟩
  | own y=>obtain ⟨_,e⟩:=x; exact ⟨_,e⟩
  | xd fs=>obtain ⟨_,⟨_,_,_,e,_⟩,_⟩:=x; exact ⟨_,e⟩
  | rng lo hi=>obtain ⟨_,_,_,e⟩:=x; exact ⟨_,e⟩
  | frz ob u=>obtain ⟨e,_⟩:=x; exact ⟨_,e⟩
  | tbl ps=>exact ⟨_,x⟩
  | met f y=>exact ⟨_,x⟩
  | ext φ=>obtain ⟨_,e,_⟩:=x; exact e
structure Fly (P:Program) (w:World) (outer:List Env) (H:Hp) (s:Shared) (ea:Addr) (cls:Value) (H':Hp) (B:Heap) (a0:Value) (s':Shared):Prop where
  os:s'.os = s.os
  bare:AllBare s'.gens
  un:Un (frs outer) [] H H' s.heap s'.heap
  hok:HOk P w H' B
  fl:Heap.FlyingW B outer ea cls a0 s'.heap
  kp:∀ b o,s.heap.get? b = some o→H b = none→b ∉ frs outer→B.get? b = some o
  th:∀ b o,s.heap.get? b = some o→b ∉ frs outer→∃ o',B.get? b = some o'
  dj:∃ d,DictAt s'.heap ea d
section
variable {P:Program} {w:World} {outer:List Env} {H H':Hp} {s s':Shared} {ea:Addr} {cls a0:Value} {B h' base:Heap}
theorem Fly.stay (F:Fly P w outer H s ea cls H' B a0 s') (hl:s.heap.FunFrames base outer) (hn:∀ b∈frs outer,H b = none) (sB:B.StaysIn h') (up:s'.heap.UpToSlots h'):Un (frs outer) [] H H' s.heap h':=by
  have sl:∀ b o,s.heap.get? b = some o→b∈frs outer→∃ sl,h'.get? b = some { o with slots:=sl }:=fun b o q hb=>by
    obtain ⟨z,e⟩:=F.un.slot b o q (hn b hb) hb (by simp)
    obtain ⟨_,o',ho',hd⟩:=hl.mem hb
    rw [q] at ho'
    cases ho'
    exact up b { o with slots:=z } e hd
  refine ⟨fun b o q n hb _=>sB b o (F.kp b o q n hb),fun b o q _ hb _=>sl b o q hb,F.un.free,fun b o q _=>?_,F.un.tups,F.un.frzs,F.un.tbls⟩
  by_cases hb:b∈frs outer
  · obtain ⟨z,e⟩:=sl b o q hb
    exact ⟨_,e⟩
  · obtain ⟨o',e⟩:=F.th b o q hb
    exact ⟨o',sB b o' e⟩
theorem Fly.free (F:Fly P w outer H s ea cls H' B a0 s'):H' ea = none:=by
  cases e:H' ea with
  | none=>rfl
  | some u=>
    obtain ⟨ob,q⟩:=(F.hok ea u e).get
    rw [F.fl.2.1] at q
    cases q
end
section
variable {X:Cx} {pins:List (Addr×Obj)} {σ:St} {H H':Hp} {s s':Shared} {ea:Addr} {cls a0:Value} {B h':Heap}
theorem Inv.hid (I:Inv X pins σ H s):HOk X.prog X.w H (PySem.W.hideAll s.heap (frs X.stack)):=fun b u e=>by
  refine (I.hok b u e).stay (fun c v hc q=>PySem.W.hideAll_get _ q fun z=>?_) (fun _ q=>q) fun _ _ q=>q
  have:=I.stkFree c z
  rcases hc with rfl | hc
  · rw [e] at this; cases this
  · rw [hc] at this; cases this
end
section
variable {P:Program} {w:World} {K:PySem.W.Frag} {mg:Str→Option Value} {base:Heap} {N:List Str} {qual:Str} {scope:Scope} {f:Addr} {cd:Value} {A:Around} {outer:List Env} {s:Shared} {H:Hp} {E:XK}
end
section
variable {X:Cx} {E:XK} {x:Str} {C:Addr} {np cpos pos:Pos}
end
abbrev XS:=Value→St→Hp→Prop
def XP (X:Cx) (pins:List (Addr×Obj)) (Ex:XS) (e:Value) (s':Shared):Prop:=
  ∃ (ea:Addr) (cls:Value) (σ':St) (H1 H':Hp) (s1:Shared) (B:Heap) (a0:Value),e = .ref ea∧Inv X pins σ' H1 s1∧Fly X.prog X.w X.stack H1 s1 ea cls H' B a0 s'∧Ex cls σ' H'
section
variable {X:Cx} {st:Stmt} {rest:List Stmt} {e:Expr} {pos:Pos}
end
section
variable {X:Cx} {k:Nat} {x m:Str} {C:Addr} {ps:List Str} {sp:Sp} {E:XK} {e o:Expr} {es:List Expr} {t:TA} {ta:TE} {p pos apos:Pos}
end
section
variable {X:Cx} {pins:List (Addr×Obj)} {σ:St} {H:Hp} {s:Shared} {e:Value}
end
section
variable {X:Cx} {x:Str} {c:Value} {body orelse suite:List Stmt} {b₀:Stmt} {np hpos pos:Pos}
end
end L2
namespace L2
open PySem PySem.Spec PyProof.Rows
section
variable {X:Cx}
end
theorem reps_of {F:Addr→Prop} {H:Hp}:∀ {ts:List Tr} {vs:List V},vs.length = ts.length→(∀ (i:Nat) t v,ts[i]? = some t→vs[i]? = some v→Rep F H t v)→Reps F H ts vs
  | [],[],_,_=>rfl
  | [],_ :: _,h,_=>by simp at h
  | _ :: _,[],h,_=>by simp at h
  | t :: ts,v :: vs,h,k=>⟨v,vs,rfl,k 0 t v rfl rfl,reps_of (by simpa using h) fun i t' v' h1 h2=>k (i + 1) t' v' (by simpa using h1) (by simpa using h2)⟩
end L2
namespace L2
open PySem PySem.Spec PyProof.Rows
section
variable {X:Cx}
end
end L2
namespace L2
open PySem PySem.Spec PyProof.Rows
section
variable {prog:Program} {w:World} {A:Around} {E:Value→Shared→Prop} {s:Shared} {it t:Addr} {i:Nat} {its:Array Value} {Q:Value→Shared→Prop}
end
structure ZA (z TI TO i1 i2:Addr) (f1 f2:List Addr):Prop where
  TIz:TI≠z
  TOz:TO≠z
  i1z:i1≠z
  i2z:i2≠z
  TITO:TI≠TO
  TIi1:TI≠i1
  TIi2:TI≠i2
  TOi1:TO≠i1
  TOi2:TO≠i2
  i12:i1≠i2
  z1:z ∉ f1
  o1:TO ∉ f1
  j1:i2 ∉ f1
  z2:z ∉ f2
  o2:TO ∉ f2
  j2:i1 ∉ f2
section
variable {prog:Program} {w:World} {A:Around} {E:Value→Shared→Prop} {s:Shared} {z TI TO i1 i2:Addr} {f1 f2:List Addr} {n i:Nat} {P1 P2:Nat→Value→Prop} {St1 St2:Nat→Heap→Prop} {a b:Value}
end
section
variable {prog:Program} {w:World} {A:Around} {E:Value→Shared→Prop} {s:Shared} {z TI TO i1 i2:Addr} {f1 f2:List Addr} {n i:Nat} {P1 P2:Nat→Value→Prop} {St1 St2:Nat→Heap→Prop} {a b:Value}
end
section
variable {X:Cx} {pins:List (Addr×Obj)} {σ:St} {H:Hp} {s:Shared} {h':Heap}
end
section
variable {X:Cx} {els:List Expr} {kk:Nat} {pp:Pos}
end
def rIsNotB:R2:=fun x y H Q=>∃ a b,x = .bl a∧y = .bl b∧Q (.bl (a != b)) H
theorem op_isNot_bl {X:Cx}:OpR X (compareOp .IsNot) rIsNotB:=by
  intro pins s σ H x y v u Q I rx ry h
  obtain ⟨a,b,rfl,rfl,q⟩:=h
  cases rx
  cases ry
  exact isnot_bool ⟨.bl _,H,I,rfl,q⟩
end L2
namespace L2
open PySem PySem.Spec PyProof.Rows
section
variable {M:Model} {A:Around} {E:Value→Shared→Prop} {s:Shared} {base:Heap} {env:Env} {outer l:List Env} {L e:Addr} {cls a0 fl:Value}
structure Retraced (base h h':Heap) (T:Addr) (ts:Array Value) (v:Value):Prop where
  here:∃ o',h'.get? T = some o'∧o'.data = .fields (ts.setIfInBounds 3 v)
  rest:∀ b o,b≠T→h.get? b = some o→h'.get? b = some o
  low:base.StaysIn h→base.StaysIn h'
  plain:∀ b o,h.get? b = some o→(∀ vs,o.data≠.fields vs)→h'.get? b = some o
end
section
variable {P:Program} {w:World} {K:PySem.W.Frag} {mg:Str→Option Value} {base:Heap} {N:List Str} {qual:Str} {scope:Scope} {f:Addr} {cd:Value} {A:Around} {outer:List Env} {s:Shared} {H:Hp} {E:XK}
end
section
variable {X:Cx}
end
end L2
namespace L2
section
open PySem PySem.Calls PyProof.Rows PySem.W Builtin Builtin.ObjectAttr Builtin.Getset_descriptor
section
variable {prog:Program} {w:World} {A:Around} {E:Value→Shared→Prop} {K:Frag} {e D:Addr}
structure IsExc (h:Heap) (e D:Addr):Prop where
  ob:∃ o,h.get? e = some o∧o.cls = .ref D∧∃ vs,o.data = .fields vs
theorem IsExc.ty {h:Heap} (z:IsExc h e D) {M:Model}:Looks M h (typeOf (.ref e)) (.ref D):=by
  obtain ⟨o,q,c,_⟩:=z.ob
  rw [← c]
  exact (Looks.ld q).andThen .now
theorem exc_descr {tp:Value} {s:Shared} {R:Result→Shared→Prop} (k:K.In s.heap) (z:IsExc s.heap e D) (hm:mroIn K D (.type "object") = some true) (q:R (.ok (.ret (.ref D))) s) :
    codeAny (model prog w) A (.call (.builtin "getset_descriptor.__get__") ⟨[.builtin "object.__class__",.ref e,tp],[]⟩) R s:=by
  obtain ⟨h1,g1,d1,t1,o1⟩:=s
  have T0:=z.ty (M:=model prog w)
  have T1:=looks_mroIn (M:=model prog w) k hm
  have slot:=KF.slot_gs
  refine codeAny_call_builtin slot.plain KF.entry_gs (slot.check _ _ _ _ _ _ _ _ KF.type_class (KF.args_gs _ _ _) ?_)
  simp only [Builtin.«getset_descriptor.__get__»,descrGet,dga_obj]
  refine wpAny_bind (wpAny_pure ?_)
  dsimp only [descrGetter,descrCheckInstance,descrNameAndClass,isInstance]
  rw [show descrOwnerAndName "object.__class__" = ("object","__class__") from KF.owner_class]
  repeat lk
  refine ⟨Code.quiet_builtin (id:="object.__class__") _ (by decide +kernel),codeAny_builtin KF.entry_class ?_⟩
  simp only [Builtin.«object.__class__»,shownTypeOf]
  repeat lk
  exact q
theorem exc_find {h:Heap} {M:Model} (k:K.In h) (ha:findIn K (.ref D) "__class__" = some (some (.builtin "object.__class__")))
    (hn:specialIn K (.builtin "object.__class__") "__get__" = some (some (.builtin "getset_descriptor.__get__"))) (ht:takesIn K (.builtin "object.__class__") = some true) :
    Looks M h (find (.ref e) (.ref D) "__class__") (.bind (.builtin "getset_descriptor.__get__") (.builtin "object.__class__")):=
  (looks_findIn k ha).andThen ((show Looks M h (getOf (some (.builtin "object.__class__"))) (some (.builtin "getset_descriptor.__get__")) from looks_specialIn k hn).andThen
    ((show Looks M h (dataDescriptor? (some (.builtin "object.__class__")) (some (.builtin "getset_descriptor.__get__"))) (some (.builtin "getset_descriptor.__get__",.builtin "object.__class__")) from (looks_takesIn k ht).andThen .now).andThen (Looks.tag .now)))
theorem exc_check {nv:Value} {s:Shared} {Q:Unit→Shared→Prop} {M:Model} (k:K.In s.heap) (z:IsExc s.heap e D) (hb:mroIn K D (.type "BaseException") = some true) (q:Q () s) :
    wpAny M A (checkBuiltinCall "BaseException.__getattribute__" ⟨[.ref e,nv],[]⟩) Q E s:=by
  obtain ⟨h1,g1,d1,t1,o1⟩:=s
  have b1:builtinKind "BaseException.__getattribute__" = some .slot:=by decide +kernel
  have b2:splitId "BaseException.__getattribute__" = some ("BaseException","__getattribute__"):=by decide +kernel
  have b3:=F.args_bexc_ga (.ref e) nv
  have T:Looks M h1 (isInstance (.ref e) (.type "BaseException")) true:=z.ty.andThen (looks_mroIn k hb)
  simp only [checkBuiltinCall,b1,b2]
  refine wpAny_bind (T.at ?_)
  rw [if_neg (by decide)]
  repeat wp_step
  exact q
theorem exc_entry {tk:Tok} {s:Shared} {Q:Fin→Shared→Prop} (k:K.In s.heap) (z:IsExc s.heap e D) (ha:findIn K (.ref D) "__class__" = some (some (.builtin "object.__class__")))
    (hn:specialIn K (.builtin "object.__class__") "__get__" = some (some (.builtin "getset_descriptor.__get__"))) (ht:takesIn K (.builtin "object.__class__") = some true) (hm:mroIn K D (.type "object") = some true) (q:Q (.done (.ret (.ref D))) s) :
    wpAny (model prog w) A (Builtin.«object.__getattribute__» ⟨[.ref e,.str "__class__" tk],[]⟩) Q E s:=by
  obtain ⟨h1,g1,d1,t1,o1⟩:=s
  have T0:=z.ty (M:=model prog w)
  have T1:=exc_find (e:=e) (M:=model prog w) k ha hn ht
  have s0:slotArgs "__getattribute__" 1 ⟨[.ref e,.str "__class__" tk],[]⟩ = pure (Value.ref e,[Value.str "__class__" tk]):=by kernel_rfl
  have s1:attrName (.str "__class__" tk) = pure "__class__":=by kernel_rfl
  simp only [Builtin.«object.__getattribute__»,s0]
  refine wpAny_bind (wpAny_pure ?_)
  dsimp only
  rw [s1]
  refine wpAny_bind (wpAny_pure (wpAny_bind (T0.at (wpAny_bind (T1.at ?_)))))
  dsimp only
  unfold bindTo
  dsimp only
  refine wpAny_bind (wpAny_call (exc_descr (s:=⟨h1,g1,d1,t1,o1⟩) k z hm ?_))
  exact wpAny_pure q
theorem exc_class {s:Shared} {Q:Option Value→Shared→Prop} (k:K.In s.heap) (z:IsExc s.heap e D) (hga:findIn K (.ref D) "__getattribute__" = some (some (.builtin "BaseException.__getattribute__"))) (hgg:findIn K (.ref D) "__getattr__" = some none)
    (ha:findIn K (.ref D) "__class__" = some (some (.builtin "object.__class__"))) (hn:specialIn K (.builtin "object.__class__") "__get__" = some (some (.builtin "getset_descriptor.__get__"))) (ht:takesIn K (.builtin "object.__class__") = some true)
    (hm:mroIn K D (.type "object") = some true) (hb:mroIn K D (.type "BaseException") = some true) (q:Q (some (.ref D)) { s with toks:=s.toks + 1 }) :
    wpAny (model prog w) A (getAttr? (.ref e) "__class__") Q E s:=by
  obtain ⟨h1,g1,d1,t1,o1⟩:=s
  have T0:=z.ty (M:=model prog w)
  have T1:=looks_findIn (M:=model prog w) k hga
  have T2:=looks_findIn (M:=model prog w) k hgg
  have B:=F.excAttr_ValueError.ga.bind (.ref e)
  simp only [getAttr?,getAttrBy?,getAttrBy]
  refine wpAny_bind (wpAny_mkText (wpAny_bind (wpAny_attempt (wpAny_holding (wpAny_bind (T0.at (wpAny_bind (T1.at ?_))))))))
  have n0:(onTheHeap (Value.ref D) && Value.builtin "BaseException.__getattribute__" == Value.builtin "object.__getattribute__") = false:=by
    have:(Value.builtin "BaseException.__getattribute__" == Value.builtin "object.__getattribute__") = false:=by decide +kernel
    rw [this]; rfl
  dsimp only
  rw [if_neg (by rw [n0]; decide)]
  unfold getAttrByItsOwn hookBefore
  rw [if_pos (by rfl)]
  refine wpAny_bind (T2.at (wpAny_bind (wpAny_attempt (wpAny_holding ?_))))
  unfold callGetattribute boundAndCalled
  rw [if_neg (by decide),B]
  refine wpAny_bind (wpAny_pure ?_)
  dsimp only
  refine wpAny_call (codeAny_call_builtin F.excAttr_ValueError.ga.plain F.entry_bexc_ga ?_)
  refine exc_check (s:=⟨h1,g1,d1,t1 + 1,o1⟩) k ⟨z.ob⟩ hb (exc_entry (s:=⟨h1,g1,d1,t1 + 1,o1⟩) k ⟨z.ob⟩ ha hn ht hm ?_)
  dsimp only
  exact handed_on rfl (wpAny_pure q)
structure ExcCls (K:Frag) (D:Addr):Prop where
  ga:findIn K (.ref D) "__getattribute__" = some (some (.builtin "BaseException.__getattribute__"))
  gg:findIn K (.ref D) "__getattr__" = some none
  cl:findIn K (.ref D) "__class__" = some (some (.builtin "object.__class__"))
  sp:specialIn K (.builtin "object.__class__") "__get__" = some (some (.builtin "getset_descriptor.__get__"))
  tk:takesIn K (.builtin "object.__class__") = some true
  mo:mroIn K D (.type "object") = some true
  mb:mroIn K D (.type "BaseException") = some true
theorem ExcCls.there (c:ExcCls K D):∃ o,K.lookup D = some o∧∃ cd,o.data = .cls cd:=by
  obtain ⟨cd,h,_⟩:=Option.bind_eq_some_iff.mp c.mo
  unfold clsIn at h
  split at h
  · rename_i o d' cd' sl' ho
    exact ⟨_,ho,_,rfl⟩
  · cases h
theorem ExcCls.kit (c:ExcCls K D):KitX K (.ref e) (.ref D) (fun h=>IsExc h e D) where
  ty:=fun _ _ _ z=>z.ty
  it:=fun M h k _=>by
    obtain ⟨⟨oc,od,oda,os⟩,h1,cd,h2⟩:=c.there
    dsimp only at h2
    subst h2
    intro A1 Q1 E1 s1 st q
    unfold isType loadHead
    exact wpAny_bind (wpAny_loadPart (st _ _ (k _ _ h1)) (wpAny_pure q))
  ne:=fun h tp dd its n sl k ht=>by
    obtain ⟨o,h1,cd,h2⟩:=c.there
    cases q:(Value.ref D == Value.ref tp) with
    | false=>rfl
    | true=>
      cases Value.ref.inj (beq_iff_eq.mp q)
      rw [k _ _ h1] at ht
      cases ht
      cases h2
  ca:=fun k z q=>exc_class k z c.ga c.gg c.cl c.sp c.tk c.mo c.mb q
end
end
open PySem PySem.Spec PyProof.Rows
section
variable {X:Cx} {pins:List (Addr×Obj)} {σ:St} {H:Hp} {s:Shared}
end
section
variable {X:Cx} {x n:Str} {c:Value} {body orelse suite:List Stmt} {b₀:Stmt} {np hpos pos:Pos} {i:Nat}
end
section
variable {X:Cx} {e:Expr} {es:List Expr} {pos:Pos}
end
end L2
namespace L2
section
open PySem PySem.Calls PyProof.Rows
variable {prog:Program} {w:World} {A:Around} {E:Value→Shared→Prop} {s:Shared}
def HeldAt (h:Heap) (e:Addr):Prop:=∃ o vs,h.get? e = some o∧o.data = .fields vs∧vs[2]? = some .none
theorem HeldAt.keeps {h h':Heap} {e:Addr} (z:HeldAt h e) (k:∀ o,h.get? e = some o→h'.get? e = some o):HeldAt h' e:=by
  obtain ⟨o,vs,q,r⟩:=z
  exact ⟨o,vs,k o q,r⟩
end
end L2
namespace L2
section
open PySem PySem.Calls PyProof.Rows PySem.W
structure IsExcD (h:Heap) (e D:Addr) (d:Option Addr):Prop where
  is:IsExc h e D
  dj:∃ o,h.get? e = some o∧o.dict = d∧Fld2 o
end
section
open PySem PySem.Spec PyProof.Rows
variable {X:Cx} {pins:List (Addr×Obj)} {σ:St} {H:Hp} {s:Shared}
variable {x n:Str} {c:Value} {body orelse suite:List Stmt} {b₀:Stmt} {np hpos pos:Pos} {i:Nat}
end
end L2
namespace L2
open PySem PySem.Calls PySem.Spec PyProof.Rows PySem.Builtin.Str
section
variable {prog:Program} {w:World} {A:Around} {E:Value→Shared→Prop} {s:Shared} {x y:Str} {t u:Tok} {Q:Value→Shared→Prop}
end
section
variable {X:Cx}
end
end L2
namespace L2
open PySem PySem.Spec PyProof.Rows
end L2
namespace L2
section
open PySem PySem.Calls PyProof.Rows
variable {prog:Program} {w:World} {A:Around} {E:Value→Shared→Prop} {s:Shared}
theorem none_end (h:Heap):h.get? h.objs.size = none:=by
  cases e:h.get? h.objs.size with
  | none=>rfl
  | some o=>exact absurd (Heap.lt_size e) (Nat.lt_irrefl _)
def SortsTo (Q:Value→Shared→Prop) (vs:List Value) (s1:Shared):Prop:=∃ ss,StrsAre vs ss∧vs.length < 64∧
  ∀ h' p (out:List Value) ss' c,StrsAre out ss'→ss'.Perm ss→sortedS ss' = true→s1.heap.objs.size≤p→(∀ b o,s1.heap.get? b = some o→h'.get? b = some o)→
    h'.get? p = some (seqObj "list" out.toArray c)→Q (.ref p) { s1 with heap:=h' }
theorem sorted_walked {x:Value} {Q:Value→Shared→Prop} (hc:wpAny (model prog w) A.in1 (collect x) (SortsTo Q) E s):wpAny (model prog w) A (call (.builtin "sorted") [x]) Q E s:=by
  refine Calls.call_function_entry kind_sorted plain_sorted entry_sorted (args_sorted1 x) ?_
  unfold Builtin.«sorted»
  refine wpAny_bind (m:=checkCount "sorted" 1 1 _) (wpAny_pure (wpAny_bind (wpAny_mono hc (fun vs s1 z=>?_) fun _ _ e=>e)))
  obtain ⟨ss,hS,few,q⟩:=z
  refine wpAny_bind (wpAny_newList ?_)
  have there:(s1.heap.push (seqObj "list" vs.toArray 0)).get? s1.heap.objs.size = some (seqObj "list" vs.toArray 0):=Heap.get?_push_size _ rfl
  refine wpAny_bind (wpAny_holding (wpAny_call_entry slot_list_sort ⟨_,there,rfl⟩ entry_list_sort (list_sort_treeK strKind_oneLt there hS.keysOf (fun v₁ v₂ rest e=>keyKind_strs (by rw [← e]; exact hS)) few fun st' pm so=>⟨_,rfl,?_⟩) (args_list_sort _)))
  obtain ⟨ss',y1,y2,y3⟩:=sorted_out_str hS pm so
  obtain ⟨c,hp⟩:=sortedHeap_at (out:=(arrOf st').map (·.2)) there
  refine wpAny_pure ⟨_,rfl,q _ _ ((arrOf st').map (·.2)).toList ss' c y1 y2 y3 (Nat.le_refl _) (fun b o e=>?_) (by rw [Array.toArray_toList]; exact hp)⟩
  have lt:=Heap.lt_size e
  show Heap.get? _ b = some o
  rw [sortedHeap_old (Nat.ne_of_lt lt) (by rw [Heap.size_push]; exact Nat.lt_succ_of_lt lt)]
  exact Heap.get?_push_of_some _ e
def Took (S:Addr) (Q:List Value→Shared→Prop) (r:Result) (s':Shared):Prop:=∃ acc c,r = .ok (.ret (.ref S))∧s'.heap.get? S = some { cls:=.type "list",dict:=none,data:=.seq acc c,slots:=#[] }∧Q acc.toList s'
theorem collect_ext {x:Value} {Q:List Value→Shared→Prop} (h:wpAny (model prog w) A.in1 (Builtin.List.listExtendWith (.ref s.heap.objs.size) x (.ref s.heap.objs.size))
      (fun fin s'=>match fin with | .done f=>Took s.heap.objs.size Q (.ok f) s' | .again c'=>c'.quiet = true∧codeAny (model prog w) A c' (Took s.heap.objs.size Q) s') (fun e s'=>Took s.heap.objs.size Q (.error e) s')
      { s with heap:=s.heap.push { cls:=.type "list",data:=.seq #[] } }):wpAny (model prog w) A (collect x) Q E s:=by
  unfold collect
  refine wpAny_bind (wpAny_runValue (codeAny_builtin PySem.F.entry_proto_collect ?_))
  rw [Around.under_plainId PySem.F.plain_proto_collect _]
  refine wpAny_bind (wpAny_newObj_type (wpAny_pure ⟨plainId_quiet PySem.F.plain_list_iadd _,codeAny_builtin PySem.F.entry_list_iadd ?_⟩))
  rw [Around.under_plainId PySem.F.plain_list_iadd _]
  refine wpAny_mono h (fun fin s' z=>?_) (fun e s' z=>?_)
  · cases fin with
    | done f=>
      obtain ⟨acc,c,e,hS,q⟩:=z
      cases e
      exact wpAny_bind (wpAny_load hS (wpAny_pure q))
    | again c'=>
      refine ⟨z.1,codeAny_mono z.2 fun r s2 z2=>?_⟩
      obtain ⟨acc,c,rfl,hS,q⟩:=z2
      exact wpAny_bind (wpAny_load hS (wpAny_pure q))
  · obtain ⟨acc,c,e,_⟩:=z
    cases e
theorem sit_owner:Manifest.owners.lookup (String.ofList "rotareti_tes".toList.reverse) = some Manifest.sig_set_iterator:=by kernel_rfl
theorem sit_slot:Slot "set_iterator" "__next__" "set_iterator.__next__":=
  .of (owner:="set_iterator") (n:="__next__") (by rw [typeLookup_type,builtinLookup_eq_fast]; kernel_rfl) (by decide +kernel) (by decide +kernel) (by decide +kernel) (by first | exact .inl (by decide +kernel) | exact .inr (by decide +kernel)) (by rw [isSubtype_type]; kernel_rfl)
theorem sit_entry:entryFor table "set_iterator.__next__" = some Builtin.«set_iterator.__next__»:=entryFor_of_fast (by kernel_rfl)
theorem sit_args (a:Value):argsOk "set_iterator.__next__" ⟨[a],[]⟩:=by
  unfold argsOk
  rw [signature?_of (id:="set_iterator.__next__") (n:="__txen__".toList) (o:="rotareti_tes".toList) (by kernel_rfl) sit_owner]
  kernel_rfl
theorem set_iter_entry:entryFor table "set.__iter__" = some Builtin.«frozenset.__iter__»:=entryFor_alias (id':="frozenset.__iter__") (by kernel_rfl) rfl (by decide +kernel) (by kernel_rfl)
theorem next_gives {it:Addr} {T id:String} {B:Builtin} {Q:Option Value→Shared→Prop} (slot:Slot T "__next__" id) (hT:s.TypeIs (.ref it) T) (entry:entryFor table id = some B) (args:argsOk id ⟨[.ref it],[]⟩)
    (h:wpAny (model prog w) A.in1 (B ⟨[.ref it],[]⟩) (fun fin s'=>∃ v,fin = .done (.ret v)∧Q (some v) s') (fun _ _=>False) s):wpAny (model prog w) A (pyNext (.ref it)) Q E s:=by
  unfold pyNext
  refine wpAny_bind (wpAny_attempt (wpAny_callSpecial?_slot (name:=Str.ofString "__next__") hT slot (wpAny_call_entry slot hT entry (wpAny_mono h (fun fin s' z=>?_) fun _ _ z=>z.elim) args)))
  obtain ⟨v,rfl,q⟩:=z
  exact ⟨v,rfl,wpAny_pure q⟩
theorem next_stops {it:Addr} {T id:String} {B:Builtin} {Q:Option Value→Shared→Prop} (slot:Slot T "__next__" id) (hT:s.TypeIs (.ref it) T) (entry:entryFor table id = some B) (args:argsOk id ⟨[.ref it],[]⟩)
    (h:wpAny (model prog w) A.in1 (B ⟨[.ref it],[]⟩) (fun _ _=>False) (fun x s'=>∃ a o,x = .ref a∧s'.heap.get? a = some o∧o.cls = .type "StopIteration"∧Q none s') s):wpAny (model prog w) A (pyNext (.ref it)) Q E s:=by
  unfold pyNext
  refine wpAny_bind (wpAny_attempt (wpAny_callSpecial?_slot (name:=Str.ofString "__next__") hT slot (wpAny_call_entry slot hT entry (wpAny_mono h (fun _ _ z=>z.elim) fun x s' z=>?_) args)))
  obtain ⟨a,o,rfl,e,c,q⟩:=z
  exact wpAny_bind (wpAny_isInstance (T:="StopIteration") (b:=true) ⟨o,e,c⟩ isSubtype_stop (wpAny_pure q))
theorem stop_calm {α:Type} {Q:α→Shared→Prop} (hh:A.handled = none)
    (q:∀ h' x,(∀ b o,s.heap.get? b = some o→h'.get? b = some o)→(∃ o,h'.get? x = some o∧o.cls = .type "StopIteration")→E (.ref x) { s with heap:=h' }) :
    wpAny (model prog w) A (newExc (.type "StopIteration") [] >>= raiseNew:Sem α) Q E s:=by
  refine wpAny_bind ?_
  simp only [newExc,newTuple]
  refine wpAny_bind (wpAny_newObj_type ?_ (by size_fits))
  refine wpAny_bind (m:=firstArgMember _ _) (wpAny_of_eq (a:=Value.none) (by simp only [firstArgMember]; rfl) (wpAny_newObj_type ?_ (by size_fits)))
  unfold raiseNew
  refine wpAny_bind (wpAny_handled ?_)
  rw [hh]
  exact wpAny_throw (q _ _ (fun b o z=>Heap.get?_push_of_some _ (Heap.get?_push_of_some _ z)) ⟨_,Heap.get?_push_size _ rfl,rfl⟩)
theorem sit_slot_iter:Slot "set_iterator" "__iter__" "set_iterator.__iter__":=
  .of (owner:="set_iterator") (n:="__iter__") (by rw [typeLookup_type,builtinLookup_eq_fast]; kernel_rfl) (by decide +kernel) (by decide +kernel) (by decide +kernel) (by first | exact .inl (by decide +kernel) | exact .inr (by decide +kernel)) (by rw [isSubtype_type]; kernel_rfl)
theorem sit_entry_iter:entryFor table "set_iterator.__iter__" = some Builtin.«dict_keyiterator.__iter__»:=entryFor_alias (id':="dict_keyiterator.__iter__") (by kernel_rfl) rfl (by decide +kernel) (by kernel_rfl)
theorem sit_args_iter (a:Value):argsOk "set_iterator.__iter__" ⟨[a],[]⟩:=by
  unfold argsOk
  rw [signature?_of (id:="set_iterator.__iter__") (n:="__reti__".toList) (o:="rotareti_tes".toList) (by kernel_rfl) sit_owner]
  kernel_rfl
def SetAt (h:Heap) (a:Addr) (es:Array (Int×Value)) (ep:Nat) (t:SetTable):Prop:=∃ o,h.get? a = some o∧o.cls = .type "set"∧o.data = .set es ep t
def SetIt (h:Heap) (it a:Addr) (first:Value) (i n ep:Nat):Prop:=∃ o,h.get? it = some o∧o.cls = .type "set_iterator"∧o.data = .fields #[first,rawInt i,.ref a,rawInt n,rawInt ep]
theorem SetAt.keep {h h':Heap} {a:Addr} {es:Array (Int×Value)} {ep:Nat} {t:SetTable} (x:SetAt h a es ep t) (k:∀ o,h.get? a = some o→h'.get? a = some o):SetAt h' a es ep t:=let ⟨o,e,r⟩:=x; ⟨o,k o e,r⟩
theorem SetIt.keep {h h':Heap} {it a:Addr} {f:Value} {i n ep:Nat} (x:SetIt h it a f i n ep) (k:∀ o,h.get? it = some o→h'.get? it = some o):SetIt h' it a f i n ep:=let ⟨o,e,r⟩:=x; ⟨o,k o e,r⟩
theorem SetIt.typeIs {it a:Addr} {f:Value} {i n ep:Nat} (x:SetIt s.heap it a f i n ep):s.TypeIs (.ref it) "set_iterator":=let ⟨o,e,c,_⟩:=x; ⟨o,e,c⟩
theorem SetIt.self {it a:Addr} {f:Value} {i n ep:Nat} {Q:Value→Shared→Prop} (x:SetIt s.heap it a f i n ep) (q:Q (.ref it) s):wpAny (model prog w) A (pyIter (.ref it)) Q E s:=by
  refine wpAny_pyIter_slot x.typeIs sit_slot_iter (wpAny_call_entry sit_slot_iter x.typeIs sit_entry_iter ?_ (sit_args_iter _))
  exact wpAny_pure ⟨_,rfl,"set_iterator",_,x.typeIs,sit_slot.lookup,q⟩
theorem set_entries {a:Addr} {es:Array (Int×Value)} {ep:Nat} {t:SetTable} {Q:Array (Int×Value)→Shared→Prop} (x:SetAt s.heap a es ep t) (f:t.fits es.size = true) (q:Q es s):wpAny (model prog w) A (setEntries a) Q E s:=
  let ⟨_,e,_,d⟩:=x; wpAny_setEntries_of e d f q
end
end L2
namespace L2
section
open PySem PySem.Calls PyProof.Rows
variable {prog:Program} {w:World} {A:Around} {E:Value→Shared→Prop} {s:Shared}
theorem set_field {it:Addr} {vs:Array Value} {k:Nat} {x:Value} {Q:Unit→Shared→Prop} {o:Obj} (ho:s.heap.get? it = some o) (hc:o.cls = .type "set_iterator") (hd:o.data = .fields vs) (hk:k < vs.size)
    (q:∀ h' o',h'.get? it = some o'→o'.cls = .type "set_iterator"→o'.data = .fields (vs.setIfInBounds k x)→(∀ b o,b ∉ [it]→s.heap.get? b = some o→h'.get? b = some o)→Q () { s with heap:=h' }):wpAny (model prog w) A (setField (.ref it) k x) Q E s:=
  wpAny_setField ho hd hk (q _ _ (Heap.get?_update_self _ ho (Obj.isFreed_of_fields (Obj.data_mapFields hd _))) ((Obj.cls_mapFields ..).trans hc) (Obj.data_mapFields hd _) fun b o hb e=>(Heap.get?_update_other _ _ (fun z=>hb (by simp [z]))).trans e)
theorem walk_slot (hh:A.handled = none) (I a:Addr) (hne:a≠I) (xs:List Value) (sl:Nat→Nat) (es:Array (Int×Value)) (ep:Nat) (t:SetTable) (f:t.fits es.size = true) (hn:es.size = xs.length)
    (nx:∀ (i:Nat) (A:Around) (E:Value→Shared→Prop) (s:Shared) (Q:Option (Value×Nat)→Shared→Prop),i≤xs.length→SetAt s.heap a es ep t→Q (xs[i]?.map fun v=>(v,sl (i + 1))) s→wpAny (model prog w) A (setNext a (sl i) i ep) Q E s) :
    Walks prog w A I [I,a] [I] xs.length (fun i v=>xs[i]? = some v) (fun i h=>SetIt h I a (rawInt (sl i)) i xs.length ep∧SetAt h a es ep t) where
  sub:=fun b z=>by simp at z; simp [z]
  frame:=fun _ _ _ st k=>⟨st.1.keep fun o e=>k I (by simp) o e,st.2.keep fun o e=>k a (by simp) o e⟩
  self:=fun _ _ _ _ st q=>st.1.self q
  item:=fun i s Q E hi st qq=>by
    refine next_gives sit_slot st.1.typeIs sit_entry (sit_args _) ?_
    obtain ⟨o,ho,hc,hd⟩:=st.1
    unfold Builtin.«set_iterator.__next__»
    refine wpAny_bind (wpAny_pure ?_)
    dsimp only
    refine wpAny_bind (wpAny_fieldsOf ho hd ?_)
    refine wpAny_bind (m:=setEntries a) (set_entries st.2 f ?_)
    rw [if_neg (by rw [hn]; simp)]
    refine wpAny_bind (m:=setNext a (sl i) i ep) (nx i _ _ _ _ (Nat.le_of_lt hi) st.2 ?_)
    obtain ⟨v,hv⟩:∃ v,xs[i]? = some v:=⟨xs[i],by simp [hi]⟩
    rw [hv]
    dsimp only [Option.map]
    refine wpAny_bind (set_field ho hc hd (by simp) fun h1 o1 e1 c1 d1 k1=>?_)
    refine wpAny_bind (set_field e1 c1 d1 (by simp) fun h2 o2 e2 c2 d2 k2=>?_)
    exact wpAny_pure ⟨v,rfl,qq v h2 s.toks hv ⟨⟨o2,e2,c2,d2⟩,st.2.keep fun o e=>k2 a o (by simp [hne]) (k1 a o (by simp [hne]) e)⟩ fun b o hb e=>k2 b o hb (k1 b o hb e)⟩
  done:=fun s Q E st hQ=>by
    refine next_stops sit_slot st.1.typeIs sit_entry (sit_args _) ?_
    obtain ⟨o,ho,hc,hd⟩:=st.1
    unfold Builtin.«set_iterator.__next__»
    refine wpAny_bind (wpAny_pure ?_)
    dsimp only
    refine wpAny_bind (wpAny_fieldsOf ho hd ?_)
    refine wpAny_bind (m:=setEntries a) (set_entries st.2 f ?_)
    rw [if_neg (by rw [hn]; simp)]
    refine wpAny_bind (m:=setNext a (sl xs.length) xs.length ep) (nx xs.length _ _ _ _ (Nat.le_refl _) st.2 ?_)
    rw [List.getElem?_eq_none (Nat.le_refl _)]
    dsimp only [Option.map]
    refine wpAny_bind (set_field ho hc hd (by simp) fun h1 o1 e1 c1 d1 k1=>?_)
    refine stop_calm hh fun h2 x k2 ⟨ox,ex,cx⟩=>⟨x,ox,rfl,ex,cx,hQ h2 s.toks fun b o hb e=>k2 b o (k1 b o hb e)⟩
def TupAt (h:Heap) (tp:Addr) (vs:List Value):Prop:=∃ o n,h.get? tp = some o∧o.data = .seq vs.toArray n
theorem TupAt.keep {h h':Heap} {tp:Addr} {vs:List Value} (x:TupAt h tp vs) (k:∀ o,h.get? tp = some o→h'.get? tp = some o):TupAt h' tp vs:=let ⟨o,n,e,r⟩:=x; ⟨o,n,k o e,r⟩
theorem next_drawn {a:Addr} {es:Array (Int×Value)} {ep p:Nat} {t:SetTable} {hx:Int} {v:Value} {Q:Value→Shared→Prop} (x:SetAt s.heap a es ep t) (f:t.fits es.size = true) (e:es[p]? = some (hx,v)) (q:Q v s):wpAny (model prog w) A (setNextDrawn a p ep) Q E s:=by
  obtain ⟨o,eo,_,d⟩:=x
  unfold setNextDrawn
  refine wpAny_bind (wpAny_setState_of eo d f ?_)
  dsimp only
  rw [if_neg (by simp),e]
  exact wpAny_pure q
theorem walk_drawn (hh:A.handled = none) (I a tp:Addr) (hne:a≠I) (hnt:tp≠I) (xs:List Value) (ps:List Nat) (es:Array (Int×Value)) (ep:Nat) (t:SetTable) (f:t.fits es.size = true) (hn:es.size = xs.length) (hp:ps.length = xs.length)
    (at_:∀ (i p:Nat),ps[i]? = some p→∃ hx v,es[p]? = some (hx,v)∧xs[i]? = some v) :
    Walks prog w A I [I,a,tp] [I] xs.length (fun i v=>xs[i]? = some v) (fun i h=>SetIt h I a (.ref tp) i xs.length ep∧SetAt h a es ep t∧TupAt h tp (ps.map fun (p:Nat)=>rawInt p)) where
  sub:=fun b z=>by simp at z; simp [z]
  frame:=fun _ _ _ st k=>⟨st.1.keep fun o e=>k I (by simp) o e,st.2.1.keep fun o e=>k a (by simp) o e,st.2.2.keep fun o e=>k tp (by simp) o e⟩
  self:=fun _ _ _ _ st q=>st.1.self q
  item:=fun i s Q E hi st qq=>by
    refine next_gives sit_slot st.1.typeIs sit_entry (sit_args _) ?_
    obtain ⟨o,ho,hc,hd⟩:=st.1
    obtain ⟨ot,nt,et,dt⟩:=st.2.2
    unfold Builtin.«set_iterator.__next__»
    refine wpAny_bind (wpAny_pure ?_)
    dsimp only
    refine wpAny_bind (wpAny_fieldsOf ho hd ?_)
    refine wpAny_bind (m:=setEntries a) (set_entries st.2.1 f ?_)
    rw [if_neg (by rw [hn]; simp)]
    obtain ⟨p,hpi⟩:∃ p,ps[i]? = some p:=⟨ps[i]'(by omega),by simp [hp,hi]⟩
    obtain ⟨hx,v,ev,xv⟩:=at_ i p hpi
    refine wpAny_bind (m:=seqItems? (.ref tp)) (wpAny_seqItems et dt ?_)
    have look:(ps.map fun (p:Nat)=>rawInt p).toArray[(i:Int).toNat]? = some (rawInt p):=by simp [hpi]
    dsimp only
    rw [look]
    refine wpAny_bind (m:=setNextDrawn a p ep) (next_drawn st.2.1 f ev ?_)
    refine wpAny_bind (set_field ho hc hd (by simp) fun h1 o1 e1 c1 d1 k1=>?_)
    exact wpAny_pure ⟨v,rfl,qq v h1 s.toks xv ⟨⟨o1,e1,c1,d1⟩,st.2.1.keep fun o e=>k1 a o (by simp [hne]) e,st.2.2.keep fun o e=>k1 tp o (by simp [hnt]) e⟩ k1⟩
  done:=fun s Q E st hQ=>by
    refine next_stops sit_slot st.1.typeIs sit_entry (sit_args _) ?_
    obtain ⟨o,ho,hc,hd⟩:=st.1
    obtain ⟨ot,nt,et,dt⟩:=st.2.2
    unfold Builtin.«set_iterator.__next__»
    refine wpAny_bind (wpAny_pure ?_)
    dsimp only
    refine wpAny_bind (wpAny_fieldsOf ho hd ?_)
    refine wpAny_bind (m:=setEntries a) (set_entries st.2.1 f ?_)
    rw [if_neg (by rw [hn]; simp)]
    refine wpAny_bind (m:=seqItems? (.ref tp)) (wpAny_seqItems et dt ?_)
    have look:(ps.map fun (p:Nat)=>rawInt p).toArray[(xs.length:Int).toNat]? = none:=by simp [hp]
    dsimp only
    rw [look]
    refine wpAny_bind (set_field ho hc hd (by simp) fun h1 o1 e1 c1 d1 k1=>?_)
    refine wpAny_bind (set_field e1 c1 d1 (by simp) fun h2 o2 e2 c2 d2 k2=>?_)
    refine stop_calm hh fun h3 x k3 ⟨ox,ex,cx⟩=>⟨x,ox,rfl,ex,cx,hQ h3 s.toks fun b o hb e=>k3 b o (k2 b o hb (k1 b o hb e))⟩
theorem choose_any {src:Source} {n:Nat} {Q:Nat→Shared→Prop} (h:n≠0) (q:∀ i d,i < n→Q i { s with drawn:=d }):wpAny (model prog w) A (choose src n) Q E s:=by
  intro Γ p _
  unfold choose
  rw [Sem.wp_choose]
  exact ⟨h,by rw [Sem.wp_pure]; exact q _ _ (Nat.mod_lt _ (Nat.pos_of_ne_zero h))⟩
theorem out_perm {α:Type}:∀ {l:List α} {i:Nat} (h:i < l.length),(l[i] :: l.eraseIdx i).Perm l
  | x :: r,0,_=>List.Perm.refl _
  | x :: r,i + 1,h=>by
    have z:=out_perm (l:=r) (i:=i) (by simpa using h)
    exact (List.Perm.swap ..).trans (List.Perm.cons x z)
theorem draw_order {α:Type}:∀ (n:Nat) (xs:List α) (s:Shared) (Q:List α→Shared→Prop),n = xs.length→(∀ ys d,ys.Perm xs→Q ys { s with drawn:=d })→wpAny (model prog w) A (drawOrder n xs) Q E s
  | 0,xs,s,Q,h,q=>by
    have e:xs = []:=List.length_eq_zero_iff.mp h.symm
    subst e
    exact wpAny_pure (q [] s.drawn (List.Perm.refl _))
  | n + 1,[],s,Q,h,q=>nomatch h
  | n + 1,x :: r,s,Q,h,q=>by
    unfold drawOrder
    refine wpAny_bind (choose_any (by simp) fun i d hi=>?_)
    rw [List.getElem?_eq_getElem hi]
    dsimp only
    refine wpAny_bind (draw_order n _ _ _ (by rw [List.length_eraseIdx_of_lt hi]; simp at h ⊢; omega) fun ys d2 pm=>?_)
    exact wpAny_pure (q _ d2 ((List.Perm.cons _ pm).trans (out_perm hi)))
theorem pick_go {α:Type} (next:Nat→Nat):∀ (fuel k:Nat) (left:List α) (out:Array α),fuel = left.length→(pickOrder.go next fuel k left out).toList.Perm (out.toList ++ left)
  | 0,k,left,out,h=>by
    have e:left = []:=List.length_eq_zero_iff.mp h.symm
    subst e
    unfold pickOrder.go
    rw [List.append_nil]
  | fuel + 1,k,left,out,h=>by
    unfold pickOrder.go
    have hi:next k % left.length < left.length:=Nat.mod_lt _ (by omega)
    rw [List.getElem?_eq_getElem hi]
    dsimp only
    refine (pick_go next fuel _ _ _ (by rw [List.length_eraseIdx_of_lt hi]; omega)).trans ?_
    rw [Array.toList_push,List.append_assoc]
    exact List.Perm.append_left _ (out_perm hi)
theorem pick_perm {α:Type} (next:Nat→Nat) (xs:Array α):(pickOrder next xs).toList.Perm xs.toList:=by
  unfold pickOrder
  exact pick_go next _ _ _ _ (by simp)
def ByText (w:World):Bool:=w.params.followText "set-order"
theorem next_text {a:Addr} {es:Array (Int×Value)} {ep i sl:Nat} {t:SetTable} {Q:Option (Value×Nat)→Shared→Prop} (bt:ByText w = true) (x:SetAt s.heap a es ep t) (f:t.fits es.size = true)
    (q:Q (((pickOrder (w.params.setOrder a ep) es).toList.map (·.2))[i]?.map fun v=>(v,sl)) s):wpAny (model prog w) A (setNext a sl i ep) Q E s:=by
  obtain ⟨o,eo,_,d⟩:=x
  unfold setNext setsByText setWalk setsByText
  refine wpAny_bind (wpAny_setState_of eo d f ?_)
  dsimp only
  simp only [bind_assoc,pure_bind]
  refine wpAny_bind (wpAny_askSetting ?_)
  refine wpAny_ite_split (fun _=>?_) (fun c=>absurd bt c)
  rw [if_neg (by simp)]
  refine wpAny_bind (wpAny_setState_of eo d f ?_)
  dsimp only
  refine wpAny_bind (wpAny_askSetting ?_)
  refine wpAny_bind (wpAny_ite_split (fun _=>?_) (fun c=>absurd bt c))
  refine wpAny_bind (wpAny_askSetting (wpAny_pure ?_))
  have e:((pickOrder (w.params.setOrder a ep) es).toList.map (·.2))[i]? = ((pickOrder (w.params.setOrder a ep) es)[i]?).map (·.2):=by rw [List.getElem?_map,Array.getElem?_toList]
  rw [e,Option.map_map] at q
  exact wpAny_pure q
theorem few_fits {es:Array (Int×Value)} {t:SetTable} (f:t.fits es.size = true):t.place.size = es.size:=by
  simp only [SetTable.fits,Bool.and_eq_true,beq_iff_eq] at f
  exact f.1
theorem next_few {a:Addr} {es:Array (Int×Value)} {ep i:Nat} {t:SetTable} {Q:Option (Value×Nat)→Shared→Prop} (bt:ByText w = false) (hl:t.led = true) (few:es.size≤1) (hi:i≤es.size) (x:SetAt s.heap a es ep t) (f:t.fits es.size = true)
    (q:Q ((es.toList.map (·.2))[i]?.map fun v=>(v,if i + 1 = 0 then 0 else t.place.getD 0 0 + 1)) s):wpAny (model prog w) A (setNext a (if i = 0 then 0 else t.place.getD 0 0 + 1) i ep) Q E s:=by
  obtain ⟨o,eo,_,d⟩:=x
  unfold setNext setsByText
  refine wpAny_bind (wpAny_setState_of eo d f ?_)
  dsimp only
  simp only [bind_assoc,pure_bind]
  refine wpAny_bind (wpAny_askSetting ?_)
  refine wpAny_ite_split (fun c=>absurd (bt.symm.trans c) (by decide)) (fun _=>?_)
  refine wpAny_ite_split (fun c=>absurd c ?_) (fun _=>?_)
  · show ¬ (!t.plain && decide (es.size > 1)) = true
    rw [decide_eq_false (by omega)]
    simp
  refine wpAny_bind (?_:wpAny _ _ (if (!t.led && !es.isEmpty) = true then unsupported "set:maker-not-led" else pure ()) _ _ _)
  rw [hl,if_neg (by simp)]
  refine wpAny_pure (wpAny_pure ?_)
  have pz:=few_fits f
  clear f hl d
  revert q
  generalize t.place = pl at pz
  obtain ⟨l⟩:=es
  obtain ⟨m⟩:=pl
  match l,m,few,pz,hi with
  | [],[],_,_,hi=>
    have e:i = 0:=by simpa using hi
    subst e
    exact fun q=>q
  | [(hx,v)],[k],_,_,hi=>
    rcases (show i = 0∨i = 1 by simp at hi; omega) with rfl | rfl
    · have b:SetTable.below #[k] (if 0 = 0 then 0 else (#[k]:Array Nat).getD 0 0 + 1) = 0:=by simp [SetTable.below,SetTable.below.go]
      rw [b]
      exact fun q=>q
    · have b:SetTable.below #[k] (if 1 = 0 then 0 else (#[k]:Array Nat).getD 0 0 + 1) = 1:=by simp [SetTable.below,SetTable.below.go]
      rw [b]
      exact fun q=>q
  | _ :: _ :: _,_,few,_,_=>exact absurd few (by simp)
  | [],_ :: _,_,pz,_=>exact absurd pz (by simp)
  | [_],[],_,pz,_=>exact absurd pz (by simp)
  | [_],_ :: _ :: _,_,pz,_=>exact absurd pz (by simp)
theorem set_iter {a:Addr} {es:Array (Int×Value)} {ep:Nat} {t:SetTable} {Q:Value→Shared→Prop} (x:SetAt s.heap a es ep t) (f:t.fits es.size = true) (hl:t.led = !ByText w) (hp:es.size≠0→t.plain = false) (hb:es.size < scanBound)
    (q:∀ h' d I fp (xs:List Value) St,(∀ b o,s.heap.get? b = some o→h'.get? b = some o)→xs.Perm (es.toList.map (·.2))→(∀ A:Around,A.handled = none→Walks prog w A I fp [I] xs.length (fun i v=>xs[i]? = some v) St)→St 0 h'→
      (∀ b∈fp,b = a∨s.heap.get? b = none)→s.heap.get? I = none→Q (.ref I) { s with heap:=h',drawn:=d }):wpAny (model prog w) A (pyIter (.ref a)) Q E s:=by
  obtain ⟨o,eo,co,dd⟩:=id x
  have hT:s.TypeIs (.ref a) "set":=⟨o,eo,co⟩
  have hlt:=Heap.lt_size eo
  refine wpAny_pyIter_slot hT PySem.F.slot_set_iter (wpAny_call_entry PySem.F.slot_set_iter hT set_iter_entry ?_ (PySem.F.args_set_iter_1 _))
  unfold Builtin.«frozenset.__iter__» Builtin.Frozenset.slot0 slotArgs
  simp only [bind_assoc,bne_self_eq_false,List.isEmpty_nil,List.length_nil,Bool.not_true,Bool.false_eq_true,↓reduceIte]
  refine wpAny_bind (wpAny_pure ?_)
  dsimp only
  refine wpAny_bind (m:=Builtin.Frozenset.addrOf (.ref a)) (wpAny_pure ?_)
  unfold Builtin.Frozenset.sizeOf
  simp only [bind_assoc,pure_bind]
  refine wpAny_bind (set_entries x f ?_)
  unfold setDrawn setsByText
  simp only [bind_assoc,pure_bind]
  refine wpAny_bind (wpAny_setState_of eo dd f ?_)
  dsimp only
  refine wpAny_bind (wpAny_askSetting ?_)
  change wpAny _ _ (if (!ByText w && (!t.plain && decide (es.size > 1))) = true then _ else _) _ _ _
  refine wpAny_ite_split (fun c=>?_) (fun c=>?_)
  · simp only [Bool.and_eq_true,Bool.not_eq_true',decide_eq_true_eq] at c
    refine wpAny_bind (draw_order es.size _ _ _ (by simp) fun ps d pm=>?_)
    refine wpAny_bind (wpAny_newTuple ?_ (by rw [List.length_map,pm.length_eq,List.length_range]; exact fits_of_scanBound hb))
    refine wpAny_bind (wpAny_setEpoch_of (Heap.get?_push_of_some _ eo) dd f ?_)
    refine wpAny_bind (wpAny_newObj_type (wpAny_pure ⟨_,rfl,"set_iterator",_,⟨_,Heap.get?_push_size _ rfl,rfl⟩,sit_slot.lookup,?_⟩))
    have rg:∀ p∈ps,p < es.size:=fun p hp=>List.mem_range.mp (pm.mem_iff.mp hp)
    have ex:(List.range es.size).map (fun p=>(es[p]?.map (·.2)).getD .none) = es.toList.map (·.2):=by
      refine List.ext_getElem (by simp) fun i h1 h2=>?_
      have hi:i < es.size:=by simpa using h1
      simp [hi]
    have nt:s.heap.objs.size≠(s.heap.push { cls:=.type "tuple",data:=.seq (ps.map fun (i:Nat)=>rawInt i).toArray }).objs.size:=by rw [Heap.size_push]; exact Nat.ne_of_lt (Nat.lt_succ_self _)
    have na:a≠(s.heap.push { cls:=.type "tuple",data:=.seq (ps.map fun (i:Nat)=>rawInt i).toArray }).objs.size:=by rw [Heap.size_push]; exact Nat.ne_of_lt (Nat.lt_succ_of_lt hlt)
    have ln:es.size = (ps.map (fun p=>(es[p]?.map (·.2)).getD Value.none)).length:=by rw [List.length_map,pm.length_eq,List.length_range]
    have above:s.heap.get? (s.heap.push { cls:=.type "tuple",data:=.seq (ps.map fun (i:Nat)=>rawInt i).toArray }).objs.size = none:=by
      cases z:s.heap.get? _ with
      | none=>rfl
      | some o=>exact absurd (Heap.lt_size z) (by rw [Heap.size_push]; exact Nat.not_lt.mpr (Nat.le_succ _))
    refine q _ d _ _ _ _ (fun b o e=>Heap.get?_push_of_some _ (Heap.get?_push_of_some _ e)) ((pm.map (fun p=>(es[p]?.map (·.2)).getD Value.none)).trans (by rw [ex])) (fun A hh=>walk_drawn hh (s.heap.push { cls:=.type "tuple",data:=.seq (ps.map fun (i:Nat)=>rawInt i).toArray }).objs.size a s.heap.objs.size na nt _ ps es ep t f ln (by rw [List.length_map]) fun i p hi=>?_) ⟨⟨_,Heap.get?_push_size _ rfl,rfl,?_⟩,x.keep fun o e=>Heap.get?_push_of_some _ (Heap.get?_push_of_some _ e),⟨_,_,Heap.get?_push_of_some _ (Heap.get?_push_size _ rfl),rfl⟩⟩ (fun b hb=>?_) above
    · have hp':=rg p (List.mem_of_getElem? hi)
      refine ⟨es[p].1,es[p].2,by simp [hp'],?_⟩
      rw [List.getElem?_map,hi]
      simp [hp']
    · rw [← ln]; rfl
    · simp only [List.mem_cons,List.not_mem_nil,or_false] at hb
      rcases hb with rfl | rfl | rfl
      · exact .inr above
      · exact .inl rfl
      · exact .inr (none_end _)
  · refine wpAny_bind (wpAny_setEpoch_of eo dd f ?_)
    refine wpAny_bind (wpAny_newObj_type (wpAny_pure ⟨_,rfl,"set_iterator",_,⟨_,Heap.get?_push_size _ rfl,rfl⟩,sit_slot.lookup,?_⟩))
    have kk:∀ b o,s.heap.get? b = some o→(s.heap.push { cls:=.type "set_iterator",data:=.fields [rawInt 0,rawInt 0,.ref a,rawInt es.size,rawInt ep].toArray }).get? b = some o:=fun b o e=>Heap.get?_push_of_some _ e
    have fresh:∀ b∈[s.heap.objs.size,a],b = a∨s.heap.get? b = none:=fun b hb=>by
      simp only [List.mem_cons,List.not_mem_nil,or_false] at hb
      rcases hb with rfl | rfl
      · exact .inr (none_end _)
      · exact .inl rfl
    cases bt:ByText w with
    | true=>
      have ln:es.size = ((pickOrder (w.params.setOrder a ep) es).toList.map (·.2)).length:=by rw [List.length_map,(pick_perm _ es).length_eq,Array.length_toList]
      refine q _ s.drawn s.heap.objs.size _ _ _ kk ((pick_perm _ es).map _) (fun A hh=>walk_slot hh s.heap.objs.size a (Nat.ne_of_lt hlt) ((pickOrder (w.params.setOrder a ep) es).toList.map (·.2)) (fun _=>0) es ep t f ln fun i A E s Q _ x q=>next_text bt x f q) ⟨⟨_,Heap.get?_push_size _ rfl,rfl,?_⟩,x.keep fun o e=>kk a o e⟩ fresh (none_end _)
      rw [← ln]; rfl
    | false=>
      have few:es.size≤1:=by
        rw [bt] at c
        by_cases z:es.size = 0
        · omega
        · rw [hp z] at c
          simpa using c
      rw [bt] at hl
      refine q _ s.drawn s.heap.objs.size _ _ _ kk (List.Perm.refl _) (fun A hh=>walk_slot hh s.heap.objs.size a (Nat.ne_of_lt hlt) (es.toList.map (·.2)) (fun i=>if i = 0 then 0 else t.place.getD 0 0 + 1) es ep t f (by simp) fun i A E s Q li x q=>next_few bt hl few (by simpa using li) x f q) ⟨⟨_,Heap.get?_push_size _ rfl,rfl,?_⟩,x.keep fun o e=>kk a o e⟩ fresh (none_end _)
      simp
theorem hint_set {a:Addr} {Q:Bool→Shared→Prop} (hT:s.TypeIs (.ref a) "set") (q:Q false s):wpAny (model prog w) A (Builtin.List.listLengthHint (.ref a)) Q E s:=by
  unfold Builtin.List.listLengthHint
  refine wpAny_bind (wpAny_specialOf hT PySem.F.slot_set_len.lookup ?_)
  generalize e0:("set.__len__":String) = d0
  wp_delta
  rw [show splitId d0 = some ("set","__len__") from by subst e0; decide +kernel]
  subst e0
  refine wpAny_bind (wpAny_isInstance (T:="set") (b:=true) hT (by rw [isSubtype_type]; kernel_rfl) ?_)
  refine wpAny_ite_split (fun c=>absurd c (by decide)) (fun _=>wpAny_ite_split (fun _=>?_) (fun c=>absurd (by decide +kernel) c))
  exact wpAny_bind (wpAny_typeOf hT (wpAny_pure q))
theorem items_list {xs:List Value} {acc:Array Value} (z:ItemsOf (fun i v=>xs[i]? = some v) acc xs.length):acc.toList = xs:=by
  refine List.ext_getElem? fun i=>?_
  rw [Array.getElem?_toList]
  cases e:acc[i]? with
  | some v=>exact (z.2 i v e).symm
  | none=>
    have:acc.size≤i:=by simpa using e
    rw [z.1] at this
    exact (List.getElem?_eq_none this).symm
theorem collect_set {a:Addr} {es:Array (Int×Value)} {ep:Nat} {t:SetTable} {Q:List Value→Shared→Prop} (hh:A.handled = none) (x:SetAt s.heap a es ep t) (f:t.fits es.size = true) (hl:t.led = !ByText w) (hp:es.size≠0→t.plain = false) (hb:es.size < scanBound)
    (q:∀ h' d tk (vs:List Value),(∀ b o,s.heap.get? b = some o→h'.get? b = some o)→vs.Perm (es.toList.map (·.2))→Q vs { s with heap:=h',drawn:=d,toks:=tk }):wpAny (model prog w) A (collect (.ref a)) Q E s:=by
  refine collect_ext ?_
  have x1:SetAt (s.heap.push { cls:=.type "list",data:=.seq #[] }) a es ep t:=x.keep fun o e=>Heap.get?_push_of_some _ e
  have lt:a < s.heap.objs.size:=let ⟨_,e,_⟩:=x; Heap.lt_size e
  unfold Builtin.List.listExtendWith
  have hT:Shared.TypeIs { s with heap:=s.heap.push { cls:=.type "list",data:=.seq #[] } } (.ref a) "set":=let ⟨o,e,c,_⟩:=x1; ⟨o,e,c⟩
  refine wpAny_bind (wpAny_typeOf hT ?_)
  have n1:Builtin.List.listSameRef (.ref s.heap.objs.size) (.ref a) = false:=by simp [Builtin.List.listSameRef,Nat.ne_of_gt lt]
  have n2:(Value.type "set" == Value.type "list") = false:=by decide
  have n3:(Value.type "set" == Value.type "tuple") = false:=by decide
  simp only [n1,n2,n3,Bool.or_false,Bool.false_eq_true,if_false]
  refine wpAny_bind (set_iter x1 f hl hp hb fun h1 d I fp xs St k1 pm W st fr nI0=>?_)
  have hS1:h1.get? s.heap.objs.size = some { cls:=.type "list",data:=.seq #[] }:=k1 _ _ (Heap.get?_push_size _ rfl)
  have hSf:s.heap.objs.size ∉ fp:=fun hm=>by
    rcases fr _ hm with z | z
    · exact absurd z (Nat.ne_of_gt lt)
    · rw [show (s.heap.push { cls:=.type "list",data:=.seq #[] }).get? s.heap.objs.size = some { cls:=.type "list",data:=.seq #[] } from Heap.get?_push_size _ rfl] at z
      cases z
  have nI:∀ b o,s.heap.get? b = some o→b ∉ s.heap.objs.size :: [I]:=fun b o e hm=>by
    rcases List.mem_cons.mp hm with z | z
    · exact absurd (Heap.lt_size e) (by rw [z]; exact Nat.lt_irrefl _)
    · rw [List.mem_singleton] at z
      subst z
      rw [Heap.get?_push_of_some _ e] at nI0
      cases nI0
  refine wpAny_bind (wpAny_holding (hint_set (let ⟨o,e,c,_⟩:=x1; ⟨o,k1 _ _ e,c⟩) ?_))
  refine wpAny_ite_split (fun _=>?_) (fun c=>absurd (by decide) c)
  refine wpAny_bind (wpAny_rule ?_)
  refine wpAny_bind ?_
  show wpAny _ _ (updateSeq s.heap.objs.size (·.push .none) >>= fun _=>updateSeq s.heap.objs.size (·.pop)) _ _ _
  refine wpAny_bind (wpAny_updateSeq hS1 rfl ?_)
  have hS2:=Heap.get?_update_self (Obj.mapSeq (·.push Value.none)) hS1 rfl
  refine wpAny_updateSeq (hz:=by seq_fits) hS2 rfl ?_
  have hS3:=Heap.get?_update_self (Obj.mapSeq (·.pop)) hS2 rfl
  have oth:∀ b o,b≠s.heap.objs.size→h1.get? b = some o→((h1.update s.heap.objs.size (Obj.mapSeq (·.push Value.none))).update s.heap.objs.size (Obj.mapSeq (·.pop))).get? b = some o:=
    fun b o n e=>(Heap.get?_update_other _ _ (Ne.symm n)).trans ((Heap.get?_update_other _ _ (Ne.symm n)).trans e)
  refine wpAny_pure ⟨plainId_quiet PySem.F.plain_extend_loop _,codeAny_extend_loopS (W A.in1 hh).toS (by rw [pm.length_eq,List.length_map,Array.length_toList]; exact fits_of_scanBound hb) s.heap.objs.size hSf (.ref s.heap.objs.size) xs.length 0 _ #[] _ rfl (Nat.zero_le _) ((W A hh).frame 0 _ _ st fun b hb o e=>oth b o (fun z=>hSf (z ▸ hb)) e) hS3 (ItemsOf.nil _) fun s' acc c hm hS' it=>?_⟩
  refine ⟨acc,c,rfl,hS',?_⟩
  rw [items_list it,Moved.eq_with hm]
  exact q _ _ _ xs (fun b o e=>hm.heap b o (nI b o e) (oth b o (Nat.ne_of_lt (Heap.lt_size e)) (k1 b o (Heap.get?_push_of_some _ e)))) pm
end
end L2
namespace L2
section
open PySem PySem.Calls PyProof.Rows
variable {prog:Program} {w:World} {A:Around} {E:Value→Shared→Prop} {s:Shared}
theorem lay_led (t:SetTable) (es:Array (Int×Value)) (h:Int) (x:Value):(layNew t es h x).2.1.led = t.led:=by
  unfold layNew
  split
  · dsimp only [SetTable.put,SetTable.orStandIn]
    split <;> split <;> rfl
  · rfl
theorem relay_led (t:SetTable) (es:Array (Int×Value)) (n:Nat):(relayAll t es n).2.1.led = t.led:=by
  unfold relayAll
  split
  · rename_i t' order e
    unfold SetTable.relaid SetTable.laid at e
    cases z:SetTable.layClean (SetTable.sizeAbove n - 1) (es.map (·.1)) with
    | none=>rw [z] at e; cases e
    | some ow=>
      rw [z] at e
      injection e with e
      injection e with e1 e2
      dsimp only
      split
      · rw [← e1]
      · rfl
  · rfl
theorem relay_plain (t:SetTable) (es:Array (Int×Value)) (n:Nat) (p:t.plain = false):(relayAll t es n).2.1.plain = false:=by
  unfold relayAll
  split
  · rename_i t' order e
    unfold SetTable.relaid SetTable.laid at e
    cases z:SetTable.layClean (SetTable.sizeAbove n - 1) (es.map (·.1)) with
    | none=>rw [z] at e; cases e
    | some ow=>
      rw [z] at e
      injection e with e
      injection e with e1 e2
      dsimp only
      split
      · rw [← e1]; exact p
      · rfl
  · rfl
def TxtSet (prog:Program) (w:World) (h:Heap) (a:Addr) (ks:List Str):Prop:=∃ o es ep t ss,h.get? a = some o∧o.ExactSet∧o.data = .set es ep t∧ElemsOf (PySem.strKind prog w) es.toList∧t.fits es.size = true∧t.led = (!ByText w)∧(es.size≠0→t.plain = false)∧
  StrsAre (es.toList.map (·.2)) ss∧ss.Perm ks
theorem is_str {k:Str} {v:Value} (h:Value.isStrOf k v = true):∃ t,v = .str k t:=Value.isStrOf_shape h
theorem txt_new (led:Bool) (hl:led = !ByText w) {h:Heap} {a:Addr} (e:h.get? a = some { cls:=.type "set",dict:=none,data:=.set #[] 0 (.fresh 0 0 led) }):TxtSet prog w h a []:=
  ⟨_,#[],0,_,[],e,⟨rfl,rfl,rfl⟩,rfl,fun e he=>by simp at he,by rfl,hl,fun z=>absurd rfl z,.nil,List.Perm.refl _⟩
theorem strs_perm {vs us:List Value} {ss:List Str} (h:StrsAre vs ss) (p:us.Perm vs):∃ ts,StrsAre us ts∧ts.Perm ss:=by
  refine ⟨us.map strOf,strsAre_map us fun v hv=>h.all v (p.mem_iff.mp hv),?_⟩
  have:=p.map strOf
  rw [h.strs] at this
  exact this
theorem strs_app:∀ {vs us:List Value} {ss ts:List Str},StrsAre vs ss→StrsAre us ts→StrsAre (vs ++ us) (ss ++ ts)
  | _,_,_,_,.nil,h=>h
  | _,_,_,_,.cons x t g,h=>.cons x t (strs_app g h)
theorem mem_strs {es:Array (Int×Value)} {ss:List Str} {k:Str} (hs:StrsAre (es.toList.map (·.2)) ss):k∈ss↔∃ e∈es.toList,Value.isStrOf k e.2 = true:=by
  rw [← hs.strs,List.mem_map]
  constructor
  · rintro ⟨v,hv,rfl⟩
    obtain ⟨e,he,rfl⟩:=List.mem_map.mp hv
    obtain ⟨x,t,ex⟩:=hs.all _ hv
    refine ⟨e,he,?_⟩
    rw [ex]
    simp [Value.isStrOf,strOf]
  · rintro ⟨e,he,hk⟩
    obtain ⟨t,ex⟩:=is_str hk
    exact ⟨e.2,List.mem_map.mpr ⟨e,he,rfl⟩,by rw [ex]; rfl⟩
theorem add_tail {g:Bool→Sem Unit} (hg:∀ (b:Bool) (s₁:Shared) (Q':Unit→Shared→Prop),Q' () s₁→wpAny (model prog w) A (g b) Q' E s₁) {a:Addr} {o:Obj} {es es1:Array (Int×Value)} {ep:Nat} {t t2:SetTable} {wd:Bool} {R:Option Bool→Shared→Prop}
    (ho:s.heap.get? a = some o) (hd:o.data = .set es ep t) (hb:es1.size < scanBound) (hf:t2.fits es1.size = true) (hp:t2.plain = false)
    (q:∀ h' es' ep' t',Heap.SameBut a s.heap h'→h'.get? a = some { o with data:=.set es' ep' t' }→es'.toList.Perm es1.toList→t'.fits es'.size = true→t'.led = t2.led→t'.plain = false→R (some true) { s with heap:=h' }) :
    wpAny (model prog w) A (storeSet a es1 t2 >>= fun _=>if (!wd && t2.tooFull) = true then g (relayAll t2 es1 (SetTable.grown es1.size)).2.2 >>= fun _=>storeSet a (relayAll t2 es1 (SetTable.grown es1.size)).1 (relayAll t2 es1 (SetTable.grown es1.size)).2.1 >>= fun _=>pure (some true) else pure (some true)) R E s:=by
  have put:∀ (h:Heap) (o:Obj) (es ep t es' t'),h.get? a = some o→o.data = .set es ep t→(h.update a (Obj.putSet es' t')).get? a = some { o with data:=.set es' (ep + 1) t' }:=fun h o es ep t es' t' e d=>by
    have z:=Heap.get?_update_self (Obj.putSet es' t') e (by rw [putSet_of es' t' d]; rfl)
    rw [putSet_of es' t' d] at z
    exact z
  refine wpAny_bind (wpAny_storeSet_of ho hd ?_ (fits_of_scanBound hb))
  have h1:=put s.heap o es ep t es1 t2 ho hd
  refine wpAny_ite_split (fun _=>?_) (fun _=>wpAny_pure (q _ es1 (ep + 1) t2 (Heap.SameBut.update ..) h1 (List.Perm.refl _) hf rfl hp))
  have pm:=relayAll_perm t2 es1 (SetTable.grown es1.size)
  have sz:(relayAll t2 es1 (SetTable.grown es1.size)).1.size = es1.size:=by rw [← Array.length_toList,pm.length_eq,Array.length_toList]
  refine wpAny_bind (hg _ _ _ (wpAny_bind (wpAny_storeSet_of h1 rfl ?_ (fits_of_scanBound (by rw [sz]; exact hb)))))
  exact wpAny_pure (q _ _ (ep + 1 + 1) _ ((Heap.SameBut.update ..).trans (Heap.SameBut.update ..)) (put _ { o with data:=.set es1 (ep + 1) t2 } es1 (ep + 1) t2 _ _ h1 rfl) pm (relayAll_fits ..) (relay_led ..) (relay_plain _ _ _ hp))
theorem set_add_txt {a:Addr} {ks:List Str} {k:Str} {tk:Tok} {Q:Bool→Shared→Prop} (S:TxtSet prog w s.heap a ks) (room:ks.length + 1 < scanBound)
    (q:∀ b h',Heap.SameBut a s.heap h'→TxtSet prog w h' a (if k∈ks then ks else ks ++ [k])→Q b { s with heap:=h',toks:=s.toks + 1 }):wpAny (model prog w) A (setAdd a (.str k tk)) Q E s:=by
  obtain ⟨o,es,ep,t,ss,ho,hex,hd,hel0,hf,hl,hp,hs,pm⟩:=S
  have hel:ElemsOf (PySem.strKind prog w) es.toList:=hel0
  have hkey:(PySem.strKind prog w).is k (.str k tk) = true:=by show Value.isStrOf k (.str k tk) = true; simp [Value.isStrOf]
  have ln:es.size = ks.length:=by rw [← pm.length_eq,← hs.length,List.length_map,Array.length_toList]
  have hb:es.size < scanBound:=by omega
  unfold setAdd
  refine wpAny_holding (wpAny_bind ((PySem.strKind prog w).pyHash hkey ?_))
  unfold setAddHashed
  unfold setAddHashedIn
  refine wpAny_holding (wpAny_bind (wpAny_setState_of (s:={ s with toks:=s.toks + 1 }) ho hd hf ?_))
  dsimp only
  rw [byScan_of rfl hb hel]
  simp only [↓reduceIte]
  unfold setAddByScan
  refine wpAny_bind (wpAny_bind (wpAny_rule (wpAny_bind (wpAny_setScan_of hkey ho hd hf hel ?_))))
  cases hr:List.findIdx? (fun e=>(PySem.strKind prog w).is k e.2) es.toList with
  | some j=>
    dsimp only
    obtain ⟨hj,hpj,_⟩:=List.findIdx?_eq_some_iff_getElem.mp hr
    have hm:k∈ks:=pm.mem_iff.mp ((mem_strs hs).mpr ⟨_,List.getElem_mem hj,hpj⟩)
    refine wpAny_pure (wpAny_pure (q false s.heap (Heap.SameBut.refl a s.heap) ?_))
    rw [if_pos hm]
    exact ⟨o,es,ep,t,ss,ho,hex,hd,hel,hf,hl,hp,hs,pm⟩
  | none=>
    dsimp only
    have hm:k ∉ ks:=fun z=>by
      obtain ⟨e,he,hk⟩:=(mem_strs hs).mp (pm.mem_iff.mpr z)
      have:=List.findIdx?_eq_none_iff.mp hr e he
      exact absurd (hk.symm.trans this) (by decide)
    rw [if_neg hm] at q
    have gw:∀ (b:Bool) (s₁:Shared) (Q':Unit→Shared→Prop),Q' () s₁→wpAny (model prog w) A (match b with | true=>rule "set.scan.the-table-gave-way" | false=>pure ()) Q' E s₁:=fun b s₁ Q' hq=>by
      cases b
      · exact wpAny_pure hq
      · exact wpAny_rule hq
    have lp:=layNew_perm t es ((PySem.strKind prog w).hash k) (.str k tk)
    have lf:=layNew_fits t es ((PySem.strKind prog w).hash k) (.str k tk)
    have ll:=lay_led t es ((PySem.strKind prog w).hash k) (.str k tk)
    generalize layNew t es ((PySem.strKind prog w).hash k) (.str k tk) = L at lp lf ll
    obtain ⟨es1,t1,wd,gave⟩:=L
    dsimp only at lp lf ll ⊢
    rw [Array.toList_push] at lp
    have hel1:ElemsOf (PySem.strKind prog w) es1.toList:=(hel.push hkey rfl).perm lp
    have sz1:es1.size = es.size + 1:=by rw [← Array.length_toList,lp.length_eq,List.length_append,Array.length_toList]; rfl
    have str1:∃ ts,StrsAre (es1.toList.map (·.2)) ts∧ts.Perm (ks ++ [k]):=by
      have h0:StrsAre ((es.toList ++ [((PySem.strKind prog w).hash k,Value.str k tk)]).map (·.2)) (ss ++ [k]):=by
        rw [List.map_append]
        exact strs_app hs (.cons k tk .nil)
      obtain ⟨ts,y1,y2⟩:=strs_perm h0 (lp.map (·.2))
      exact ⟨ts,y1,y2.trans (pm.append_right _)⟩
    have fin:∀ h' es' ep' t',Heap.SameBut a s.heap h'→h'.get? a = some { o with data:=.set es' ep' t' }→es'.toList.Perm es1.toList→t'.fits es'.size = true→t'.led = t.led→t'.plain = false→TxtSet prog w h' a (ks ++ [k]):=fun h' es' ep' t' _ e pe fe le pl=>by
      obtain ⟨ts,y1,y2⟩:=str1
      obtain ⟨us,z1,z2⟩:=strs_perm y1 (pe.map (·.2))
      exact ⟨_,es',ep',t',us,e,hex,rfl,hel1.perm pe,fe,le.trans hl,fun _=>pl,z1,z2.trans y2⟩
    refine wpAny_bind (gw _ _ _ ?_)
    refine wpAny_ite_split (fun c=>?_) (fun c=>?_)
    · rw [hashByValue_scannable 8 rfl]
      refine wpAny_bind (wpAny_pure ?_)
      refine add_tail gw ho hd (by rw [sz1,ln]; exact room) (SetTable.fits_plain_off lf) rfl fun h' es' ep' t' sb e pe fe le pl=>wpAny_pure (q true h' sb (fin h' es' ep' t' sb e pe fe (le.trans ll) pl))
    · refine wpAny_bind (wpAny_pure ?_)
      have pl1:t1.plain = false:=by simpa using c
      refine add_tail gw ho hd (by rw [sz1,ln]; exact room) lf pl1 fun h' es' ep' t' sb e pe fe le pl=>wpAny_pure (q true h' sb (fin h' es' ep' t' sb e pe fe (le.trans ll) pl))
def onceS (ss:List Str):List Str:=ss.foldl (fun ks k=>if k∈ks then ks else ks ++ [k]) []
theorem once_len (ss:List Str):(onceS ss).length≤ss.length:=by
  have z:∀ (l ks:List Str),(l.foldl (fun ks k=>if k∈ks then ks else ks ++ [k]) ks).length≤ks.length + l.length:=fun l=>by
    induction l with
    | nil=>intro ks; exact Nat.le_refl _
    | cons k r ih=>
      intro ks
      refine Nat.le_trans (ih _) ?_
      rw [List.length_cons]
      dsimp only
      split
      · omega
      · rw [List.length_append,List.length_singleton]; omega
  have:=z ss []
  rw [List.length_nil,Nat.zero_add] at this
  exact this
theorem once_step {ss:List Str} {i:Nat} {k:Str} (h:ss[i]? = some k):onceS (ss.take (i + 1)) = if k∈onceS (ss.take i) then onceS (ss.take i) else onceS (ss.take i) ++ [k]:=by
  have e:ss.take (i + 1) = ss.take i ++ [k]:=by rw [List.take_add_one,h]; rfl
  unfold onceS
  rw [e,List.foldl_append]
  rfl
theorem TxtSet.keep {h h':Heap} {a:Addr} {ks:List Str} (S:TxtSet prog w h a ks) (k:∀ o,h.get? a = some o→h'.get? a = some o):TxtSet prog w h' a ks:=let ⟨o,es,ep,t,ss,e,r⟩:=S; ⟨o,es,ep,t,ss,k o e,r⟩
theorem strs_at:∀ {vs:List Value} {ss:List Str},StrsAre vs ss→∀ (i:Nat) (v:Value),vs[i]? = some v→∃ k t,v = .str k t∧ss[i]? = some k
  | _,_,.nil,i,v,h=>by simp at h
  | _,_,.cons x t r,0,v,h=>⟨x,t,by simpa using h.symm,rfl⟩
  | _,_,.cons x t r,i + 1,v,h=>strs_at r i v h
theorem fill_loop {R:Result→Shared→Prop} {I S:Addr} {fp:List Addr} {vs:List Value} {ss:List Str} {St:Nat→Heap→Prop} (W:Walks prog w A.in1 I fp [I] vs.length (fun i v=>vs[i]? = some v) St) (nS:S ∉ fp) (hs:StrsAre vs ss) (hb:vs.length + 1 < scanBound) :
    ∀ (k i:Nat) (s:Shared),vs.length - i = k→i≤vs.length→St i s.heap→TxtSet prog w s.heap S (onceS (ss.take i))→
      (∀ h' tk,(∀ b o,b ∉ [S,I]→s.heap.get? b = some o→h'.get? b = some o)→TxtSet prog w h' S (onceS ss)→R (.ok (.ret .none)) { s with heap:=h',toks:=tk })→codeAny (model prog w) A (.builtin "set.update.loop" ⟨[.ref S,.ref I],[]⟩) R s:=by
  have nI:S ∉ [I]:=fun z=>nS (W.sub _ z)
  have ln:vs.length = ss.length:=hs.length
  intro k
  induction k with
  | zero=>
    intro i s hk hi st T q
    have e:i = vs.length:=by omega
    subst e
    refine codeAny_builtin PyProof.Rows.F.entry_set_update_loop ?_
    rw [Around.under_plainId PyProof.Rows.F.plain_set_update_loop _]
    refine wpAny_bind (m:=pyNext (.ref I)) (W.done s _ _ st fun h' tk k'=>?_)
    rw [ln,List.take_length] at T
    exact wpAny_pure (q h' tk (fun b o n e=>k' b o (fun z=>n (List.mem_cons_of_mem _ z)) e) (T.keep fun o e=>k' S o nI e))
  | succ k ih=>
    intro i s hk hi st T q
    have lt:i < vs.length:=by omega
    refine codeAny_builtin PyProof.Rows.F.entry_set_update_loop ?_
    rw [Around.under_plainId PyProof.Rows.F.plain_set_update_loop _]
    refine wpAny_bind (m:=pyNext (.ref I)) (W.item i s _ _ lt st fun v h' tk hv st' k'=>?_)
    obtain ⟨x,t,rfl,hx⟩:=strs_at hs i v hv
    refine wpAny_bind (m:=holding [Value.str x t] (setAdd S (.str x t))) (wpAny_holding (set_add_txt (T.keep fun o e=>k' S o nI e) ?_ fun b h2 sb T2=>?_))
    · have:=once_len (ss.take i)
      rw [List.length_take] at this
      omega
    rw [← once_step hx] at T2
    refine wpAny_pure ⟨plainId_quiet PyProof.Rows.F.plain_set_update_loop _,ih (i + 1) _ (by omega) lt (W.frame _ _ _ st' fun b hb o e=>?_) T2 fun h3 tk3 k3 T3=>?_⟩
    · rw [sb.2 b (fun z=>nS (z ▸ hb))]; exact e
    · refine q h3 tk3 (fun b o n e=>k3 b o n ?_) T3
      rw [sb.2 b (fun z=>n (by simp [z]))]
      exact k' b o (fun z=>n (List.mem_cons_of_mem _ z)) e
theorem set_made (x:Value) {Q₁:Value→Shared→Prop} (q:Q₁ (.ref s.heap.objs.size) { s with heap:=s.heap.push { cls:=.type "set",dict:=none,data:=.set #[] 0 (.fresh 0 0 (!ByText w)) } }) :
    codeAny (model prog w) A (.call (.builtin "set.__new__") ⟨[.type "set",x],[]⟩) (wants Q₁ E) s:=by
  refine codeAny_of_tree ?_
  refine wpAny_bind (m:=checkBuiltinCall "set.__new__" ⟨[.type "set",x],[]⟩) (wpAny_of_eq (PySem.F.newCall_set_1 x) (wpAny_pure ⟨plainId_quiet PySem.F.plain_set_new _,codeAny_builtin PySem.F.entry_set_new ?_⟩))
  rw [Around.under_plainId PySem.F.plain_set_new _]
  unfold Builtin.«set.__new__»
  unfold Builtin.Frozenset.newClass
  have hsub:=sub_set_self
  obtain ⟨hp,g,d,tk,os⟩:=s
  dsimp only
  wp_walk
  refine wpAny_askSetting (wpAny_pure ?_)
  dsimp only
  simp only [newObj]
  exact wpAny_bind (wpAny_alloc (wpAny_pure (wpAny_pure q)))
end
end L2
namespace L2
section
open PySem PySem.Calls PyProof.Rows
variable {prog:Program} {w:World} {A:Around} {E:Value→Shared→Prop} {s:Shared}
theorem set_call {lq:Addr} {vs:List Value} {ss:List Str} {Q:Value→Shared→Prop} (hh:A.handled = none) (hl:s.heap.IsList lq vs.toArray) (hs:StrsAre vs ss) (hb:vs.length + 1 < scanBound)
    (q:∀ h' tk,(∀ b o,s.heap.get? b = some o→h'.get? b = some o)→TxtSet prog w h' s.heap.objs.size (onceS ss)→Q (.ref s.heap.objs.size) { s with heap:=h',toks:=tk }):wpAny (model prog w) A (call (.type "set") [.ref lq]) Q E s:=by
  obtain ⟨c,tl,hmro⟩:=PySem.F.called_set.mro
  have hmade:=PySem.F.called_set.made
  have hsub:=PySem.F.called_set.sub
  refine wpAny_call (codeAny_of_tree (wpAny_pure ⟨Code.quiet_builtin _ (by decide +kernel),codeAny_builtin PySem.F.entry_type_call ?_⟩))
  rw [Around.under_plain (weight_type_call_type "set" [.ref lq] []) rfl]
  have h1:=PySem.F.called_set.notType
  have h2:=PySem.F.called_set.canCreate
  have hct:=PySem.F.typeCall_set_1 (.ref lq)
  repeat (any_goals (first | assumption | wp_step))
  refine codeAny_mono (set_made (.ref lq) (E:=E) (Q₁:=fun obj s₁=>obj = .ref s.heap.objs.size∧s₁ = { s with heap:=s.heap.push { cls:=.type "set",dict:=none,data:=.set #[] 0 (.fresh 0 0 (!ByText w)) } }) ⟨rfl,rfl⟩) fun r s₁ hr=>?_
  match r,hr with
  | .error e,hr=>exact hr
  | .ok (.ret obj),hr=>
    obtain ⟨rfl,rfl⟩:=hr
    have hS:(s.heap.push { cls:=.type "set",dict:=none,data:=.set #[] 0 (.fresh 0 0 (!ByText w)) }).get? s.heap.objs.size = some { cls:=.type "set",dict:=none,data:=.set #[] 0 (.fresh 0 0 (!ByText w)) }:=Heap.get?_push_size _ rfl
    have hT:Shared.TypeIs { s with heap:=s.heap.push { cls:=.type "set",dict:=none,data:=.set #[] 0 (.fresh 0 0 (!ByText w)) } } (.ref s.heap.objs.size) "set":=⟨_,hS,rfl⟩
    have hli:=PySem.F.called_set.init.lookup
    have hbi:=PySem.F.called_set.init.bind (.ref s.heap.objs.size)
    repeat (any_goals (first | assumption | wp_step))
    refine codeAny_mono (codeAny_call_builtin (R:=wants (fun r s₂=>r = .none∧∃ h' tk,s₂ = { s with heap:=h',toks:=tk }∧(∀ b o,s.heap.get? b = some o→h'.get? b = some o)∧TxtSet prog w h' s.heap.objs.size (onceS ss)) E) PySem.F.called_set.init.plain PySem.F.entry_set_init (check_set_init_1 hT ?_)) fun r₂ s₂ hr₂=>?_
    · obtain ⟨⟨cl,dl,tl,sl⟩,el,hcl,nl,hdl⟩:=hl
      simp only at hcl hdl
      subst hcl; subst hdl
      have el':=Heap.get?_push_of_some ({ cls:=.type "set",dict:=none,data:=.set #[] 0 (.fresh 0 0 (!ByText w)) }:Obj) el
      have lt:lq < s.heap.objs.size:=Heap.lt_size el
      have l1:(s.heap.push { cls:=.type "set",dict:=none,data:=.set #[] 0 (.fresh 0 0 (!ByText w)) }).IsList lq vs.toArray:=⟨_,el',rfl,nl,rfl⟩
      have n1:=PySem.F.sub_list_set
      have n2:=PySem.F.sub_list_frozenset
      have n3:(Value.type "list" == Value.type "dict") = false:=by decide
      unfold Builtin.«set.__init__» Builtin.Frozenset.updateFrom noKeywords
      generalize ePI:pyIter = PI
      wp_walk
      subst ePI
      refine wpAny_pyIter_list l1 (wpAny_bind (wpAny_runValue ?_))
      have nI:lq≠(s.heap.push { cls:=.type "set",dict:=none,data:=.set #[] 0 (.fresh 0 0 (!ByText w)) }).objs.size:=by rw [Heap.size_push]; exact Nat.ne_of_lt (Nat.lt_succ_of_lt lt)
      have nS:s.heap.objs.size ∉ [(s.heap.push { cls:=.type "set",dict:=none,data:=.set #[] 0 (.fresh 0 0 (!ByText w)) }).objs.size,lq]:=by
        rw [Heap.size_push]
        simp only [List.mem_cons,List.not_mem_nil,or_false,not_or]
        exact ⟨Nat.ne_of_lt (Nat.lt_succ_self _),Nat.ne_of_gt lt⟩
      have hA:A.in1.in1.in1.handled = none:=by simp [hh]
      have W:=Walks.list (prog:=prog) (w:=w) hA (s.heap.push { cls:=.type "set",dict:=none,data:=.set #[] 0 (.fresh 0 0 (!ByText w)) }).objs.size lq nI vs.toArray
      have W2:Walks prog w A.in1.in1.in1 (s.heap.push { cls:=.type "set",dict:=none,data:=.set #[] 0 (.fresh 0 0 (!ByText w)) }).objs.size [(s.heap.push { cls:=.type "set",dict:=none,data:=.set #[] 0 (.fresh 0 0 (!ByText w)) }).objs.size,lq] [(s.heap.push { cls:=.type "set",dict:=none,data:=.set #[] 0 (.fresh 0 0 (!ByText w)) }).objs.size] vs.length (fun i v=>vs[i]? = some v) (fun i h=>h.IsListIter (s.heap.push { cls:=.type "set",dict:=none,data:=.set #[] 0 (.fresh 0 0 (!ByText w)) }).objs.size lq i∧h.IsList lq vs.toArray):=by
        simpa only [List.size_toArray,List.getElem?_toArray] using W
      refine fill_loop W2 nS hs hb vs.length 0 _ (by omega) (Nat.zero_le _) ⟨⟨_,Heap.get?_push_size _ rfl,rfl,rfl⟩,l1.push _⟩ (txt_new (!ByText w) rfl (Heap.get?_push_of_some _ hS)) fun h' tk k' T=>?_
      refine wpAny_pure (wpAny_pure ⟨rfl,h',tk,rfl,fun b o e=>k' b o (fun z=>?_) (Heap.get?_push_of_some _ (Heap.get?_push_of_some _ e)),T⟩)
      have lb:=Heap.lt_size e
      rw [Heap.size_push] at z
      simp only [List.mem_cons,List.not_mem_nil,or_false] at z
      rcases z with rfl | rfl
      · exact absurd lb (Nat.lt_irrefl _)
      · exact absurd lb (Nat.not_lt.mpr (Nat.le_succ _))
    · match r₂,hr₂ with
      | .error e,hr₂=>exact hr₂
      | .ok (.ret r),hr₂=>
        obtain ⟨rfl,h',tk,rfl,k',T⟩:=hr₂
        repeat (any_goals (first | assumption | wp_step))
        exact q _ _ k' T
      | .ok .next,hr₂=>exact hr₂.elim
end
end L2
namespace L2
section
open PySem PySem.Calls PyProof.Rows
variable {X:Cx} {pins:List (Addr×Obj)} {σ:St} {H:Hp} {s:Shared}
theorem Inv.drew {d':Drawn} (I:Inv X pins σ H s):Inv X pins σ H { s with drawn:=d' }:=⟨I.ok,I.os,I.bare,I.base,I.loc,I.cell,I.free,I.freeC,I.pin,I.hok,I.len⟩
theorem strs_of_vals:∀ {ss:List Str} {its:List Value},Vals (ss.map V.str) its→StrsAre its ss
  | [],_,.nil=>.nil
  | x :: r,_,.cons h t=>by
    obtain ⟨k,rfl⟩:=h
    exact .cons x k (strs_of_vals t)
theorem vals_of_strs:∀ {ss:List Str} {its:List Value},StrsAre its ss→Vals (ss.map V.str) its
  | _,_,.nil=>.nil
  | _,_,.cons x t h=>.cons ⟨t,rfl⟩ (vals_of_strs h)
def SetT (P:Program) (w:World) (p:Addr) (ks:List Str):HO:=.ext fun h=>TxtSet P w h p ks
def rSetT (P:Program) (w:World) (K:PySem.W.Frag):List V→Hp→VK→Prop:=fun xs H Q=>∃ (a:Addr) (ss:List Str),xs = [.ref a]∧SqL K H a (ss.map V.str)∧ss.length≤1000∧∀ p,H p = none→Q (.ref p) (upd H p (SetT P w p (onceS ss)))
theorem call_setT {P:Program} {w:World} {K:PySem.W.Frag} (hP:X.prog = P) (hw:X.w = w) (hK:X.K = K) (hc:X.calm = true):CallR X (.type "set") (rSetT P w K):=by
  subst hP hw hK
  intro pins s σ H xs us Q I r h
  obtain ⟨a,ss,rfl,h1,few,q⟩:=h
  obtain ⟨u,rfl,ru⟩:=vals1 r
  cases ru
  obtain ⟨its,r1,p1,_⟩:=I.list h1
  have hs:=strs_of_vals r1
  have ln:=hs.length
  refine set_call (I.ok.hd hc) p1.isList hs (by rw [ln]; unfold scanBound; omega) fun h' tk k T=>⟨.ref s.heap.objs.size,_,I.laid (t':=tk) k (Nat.le_refl _) (?_:ObjOk X.prog X.w _ h' _ (SetT X.prog X.w s.heap.objs.size (onceS ss))),rfl,q _ (I.hok.fresh (Nat.le_refl _))⟩
  exact ⟨T,let ⟨o,_,_,_,_,e,_⟩:=T; ⟨o,e⟩,fun h1 h2 T1 kk=>T1.keep kk⟩
def GivesS (H:Hp) (ks:List Str) (Q:VK):Prop:=∀ ts p,ts.Perm ks→sortedS ts = true→H p = none→Q (.ref p) (upd H p (.lst (ts.map V.str)))
theorem sorts_to {Q:VK} {ks:List Str} {d':Drawn} {tk:Nat} {h1:Heap} {vs:List Value} {ss:List Str} (I:Inv X pins σ H s) (k:∀ b o,s.heap.get? b = some o→h1.get? b = some o) (hs:StrsAre vs ss) (pm:ss.Perm ks) (few:ks.length < 64) (q:GivesS H ks Q) :
    SortsTo (EP X pins σ Q) vs { s with heap:=h1,drawn:=d',toks:=tk }:=by
  have I1:Inv X pins σ H { s with heap:=h1,drawn:=d',toks:=tk }:=(I.drew (d':=d')).kept (t':=tk) k
  refine ⟨ss,hs,by rw [hs.length,pm.length_eq]; exact few,fun h' p out ss' c ho pe so lp k' e=>⟨.ref p,_,I1.laid (t':=tk) k' lp (?_:ObjOk X.prog X.w _ h' p (.lst (ss'.map V.str))),rfl,q ss' p (pe.trans pm) so (I1.hok.fresh lp)⟩⟩
  refine ⟨?_,out,c,vals_of_strs ho,e⟩
  rw [List.length_map,pe.length_eq,pm.length_eq,sizeLine_eq]
  omega
def rSortT (P:Program) (w:World):List V→Hp→VK→Prop:=fun xs H Q=>∃ (a:Addr) (ks:List Str),xs = [.ref a]∧H a = some (SetT P w a ks)∧ks.length < 64∧GivesS H ks Q
theorem call_sortT {P:Program} {w:World} (hP:X.prog = P) (hw:X.w = w) (hc:X.calm = true):CallR X (.builtin "sorted") (rSortT P w):=by
  subst hP hw
  intro pins s σ H xs us Q I r h
  obtain ⟨a,ks,rfl,h1,few,q⟩:=h
  obtain ⟨u,rfl,ru⟩:=vals1 r
  cases ru
  obtain ⟨T,_⟩:ObjOk X.prog X.w H s.heap a (SetT X.prog X.w a ks):=I.hok a _ h1
  obtain ⟨o,es,ep,t,ss,e,ex,d,el,f,hl,hp,hs,pm⟩:=T
  have ln:es.size = ks.length:=by rw [← pm.length_eq,← hs.length,List.length_map,Array.length_toList]
  refine sorted_walked (collect_set (by simpa using I.ok.hd hc) ⟨o,e,ex.1,d⟩ f hl hp (by rw [ln]; unfold scanBound; omega) fun h' d' tk vs k pv=>?_)
  obtain ⟨ts,y1,y2⟩:=strs_perm hs pv
  exact sorts_to I k y1 (y2.trans pm) few q
def rSortL (K:PySem.W.Frag):List V→Hp→VK→Prop:=fun xs H Q=>∃ (a:Addr) (ss:List Str),xs = [.ref a]∧SqL K H a (ss.map V.str)∧ss.length < 64∧GivesS H ss Q
theorem call_sortL {K:PySem.W.Frag} (hK:X.K = K):CallR X (.builtin "sorted") (rSortL K):=by
  subst hK
  intro pins s σ H xs us Q I r h
  obtain ⟨a,ss,rfl,h1,few,q⟩:=h
  obtain ⟨u,rfl,ru⟩:=vals1 r
  cases ru
  obtain ⟨its,r1,p1,_⟩:=I.list h1
  have hs:=strs_of_vals r1
  refine sorted_walked (collect_list p1.isList ?_ (by rw [hs.length,sizeLine_eq]; omega))
  exact sorts_to (d':=s.drawn) (tk:=s.toks) I (fun b o e=>(Heap.get?_update_other _ _ (Nat.ne_of_gt (Heap.lt_size e))).trans (Heap.get?_push_of_some _ e)) hs (List.Perm.refl _) few q
end
end L2
namespace L2
open PySem
end L2
namespace L2
open PySem PySem.Spec PyProof.Rows
section
variable {X:Cx} {els:List Expr} {kk:Nat} {pp:Pos}
end
end L2
namespace L2
open PySem PySem.Spec PyProof.Rows
section
variable {X:Cx}
def rEqT0 (K:PySem.W.Frag) (neg:Bool):R2:=fun x y H Q=>∃ a b xs,x = .ref a∧y = .ref b∧SqT K H a xs∧SqT K H b []∧Q (.bl (if neg then !decide (xs = []) else decide (xs = []))) H
theorem more_ne (b:Value) (l:List Value):(((List.range (min (b :: l).toArray.size (#[]:Array Value).size)).all fun _=>true) && (b :: l).toArray.size == (#[]:Array Value).size) = false:=by simp
theorem op_eqT0 (hu:X.A.units + 1 < cLine):OpR X (compareOp .Eq) (rEqT0 X.K false):=by
  intro pins s σ H x y v u Q I rx ry h
  obtain ⟨a,b,xs,rfl,rfl,h1,h2,q⟩:=h
  cases rx
  cases ry
  obtain ⟨its,r1,p1,_⟩:=I.tuple h1
  obtain ⟨its2,r2,p2,_⟩:=I.tuple h2
  cases r2
  have key:=SeqAt.RcAt.tuples (A:=X.A) (s:=s) (e:=fun _=>true) p1 p2 (by omega) (fun j g1 g2=>absurd g2 (by simp))
  cases r1 with
  | nil=>exact key _ _ _ _ ⟨.bl _,H,I,rfl,q⟩
  | cons r rr=>
    rw [more_ne] at key
    exact key _ _ _ _ ⟨.bl _,H,I,rfl,q⟩
end
end L2
namespace L2
open PySem PySem.Spec PyProof.Rows
theorem tuple_whole {prog:Program} {w:World} {A:Around} {E:Value→Shared→Prop} {s:Shared} {t sl:Addr} {items:Array Value} {vl vu:Value} {lo hi:Option Int} {Q:Value→Shared→Prop} (ht:IsTup s.heap t items) (hs:s.heap.IsSliceOf sl vl vu .none) (pl:IsPart vl lo) (pu:IsPart vu hi)
    (w0:HT.sIx items.size 0 lo = 0) (w1:HT.sIx items.size items.size hi = items.size) (h:Q (.ref t) s):wpAny (model prog w) A (getItem (.ref t) (.ref sl)) Q E s:=by
  obtain ⟨os,hos,hcs,hds⟩:=id hs
  have hTs:s.TypeIs (.ref sl) "slice":=⟨os,hos,hcs⟩
  have hT:=ht.typeIs
  unfold getItem
  try with_reducible refine wpAny_holding ?_
  first | refine wpAny_bind (wpAny_pure ?_) | skip
  refine wpAny_bind (wpAny_sequenceKey ht.typeIs (by decide) ?_)
  refine wpAny_bind (wpAny_callSpecial?_slot (name:=Str.ofString "__getitem__") ht.typeIs PyProof.Rows.slot_tuple_getitem
    (wpAny_call_entry PyProof.Rows.slot_tuple_getitem ht.typeIs entry_tuple_getitem ?_ (args_tuple_getitem _ _)))
  show wpAny _ _ (Builtin.Tuple.tupleItemsOf (.ref t) >>= _) _ _ s
  refine wpAny_bind (tupleItemsOf_ ht ?_)
  refine wpAny_bind (wpAny_typeOf hTs ?_)
  rw [if_pos (by decide)]
  refine wpAny_bind (HT.sliceApplied_gen hs pl pu ?_)
  have hyes:(((HT.sIx items.size 0 lo:Nat):Int) == 0 && (1:Int) == 1 && (HT.sIx items.size items.size hi - HT.sIx items.size 0 lo) == items.size) = true:=by
    rw [w0,w1]; simp
  show wpAny _ _ (if (((HT.sIx items.size 0 lo:Nat):Int) == 0 && (1:Int) == 1 && (HT.sIx items.size items.size hi - HT.sIx items.size 0 lo) == items.size) = true then _ else _) _ _ s
  rw [if_pos hyes]
  refine wpAny_bind (m:=Builtin.Tuple.tupleIsExact _) ?_
  unfold Builtin.Tuple.tupleIsExact
  refine wpAny_bind (wpAny_typeOf hT (wpAny_pure ?_))
  rw [if_pos (by decide)]
  exact wpAny_bind (wpAny_rule (wpAny_pure ⟨_,rfl,wpAny_pure h⟩))
section
variable {X:Cx}
def rSlW (K:PySem.W.Frag):V→Option Int→Option Int→Hp→VK→Prop:=fun x lo hi H Q=>∃ a xs,x = .ref a∧SqT K H a xs∧
  ((HT.sIx xs.length 0 lo = 0∧HT.sIx xs.length xs.length hi = xs.length)→Q (.ref a) H)∧(¬ (HT.sIx xs.length 0 lo = 0∧HT.sIx xs.length xs.length hi = xs.length)→∀ p,H p = none→Q (.ref p) (upd H p (.tup (cutV xs lo hi))))
theorem sl_tupW:SlR X (rSlW X.K):=by
  intro pins s σ H x v vl vu lo hi sl Q I rx hs pl pu h
  obtain ⟨a,xs,rfl,hx,q1,q2⟩:=h
  by_cases hw:HT.sIx xs.length 0 lo = 0∧HT.sIx xs.length xs.length hi = xs.length
  · cases rx
    obtain ⟨its,r,ht,hz⟩:=I.tuple hx
    have hlen:its.toArray.size = xs.length:=by rw [List.size_toArray]; exact r.length.symm
    refine ⟨"tuple",_,PyProof.Rows.slot_tuple_getitem.lookup,ht.typeIs,?_⟩
    exact tuple_whole ht hs pl pu (by rw [hlen]; exact hw.1) (by rw [hlen]; exact hw.2) ⟨.ref a,H,I,rfl,q1 hw⟩
  · exact sl_tup pins s σ H _ v vl vu lo hi sl Q I rx hs pl pu ⟨a,xs,rfl,hx,hw,q2 hw⟩
theorem op_neE (hu:X.A.units + 1 < cLine):OpR X (compareOp .NotEq) (rEqE X.K true):=by
  intro pins s σ H x y v u Q I rx ry h
  obtain ⟨a,b,xs,rfl,rfl,h1,h2,q⟩:=h
  cases rx
  cases ry
  obtain ⟨its,r1,p1,_⟩:=I.list h1
  obtain ⟨its2,r2,p2,_⟩:=I.list h2
  cases r2
  cases r1 with
  | nil=>
    exact SeqAt.RcNeAt.lists (A:=X.A) (s:=s) (e:=fun _=>true) p1.isList p2.isList rfl (by omega) (fun j g1 g2=>absurd g1 (by simp)) _ _ _ _ ⟨.bl _,H,I,rfl,q⟩
  | cons r rr=>
    exact SeqAt.RcNeAt.lists_lengths p1.isList p2.isList (by simp) (by omega) _ _ _ _ ⟨.bl _,H,I,rfl,q⟩
end
end L2
namespace L2
section
open PySem PySem.Calls PyProof.Rows
variable {prog:Program} {w:World} {A:Around} {E:Value→Shared→Prop} {s:Shared} {it d:Addr} {i ep:Nat} {es:Array DictEntry}
def Ents (h:Heap) (d:Addr) (es:Array DictEntry) (ep:Nat):Prop:=∃ o,h.get? d = some o∧o.ExactDict∧o.data = .dict es ep
theorem Ents.ty (x:Ents s.heap d es ep):s.TypeIs (.ref d) "dict":=let ⟨o,ho,hc,_⟩:=x; ⟨o,ho,hc.1⟩
theorem Ents.at {h h':Heap} (x:Ents h d es ep) (k:∀ o,h.get? d = some o→h'.get? d = some o):Ents h' d es ep:=let ⟨o,ho,r⟩:=x; ⟨o,k o ho,r⟩
end
section
open PySem PySem.Spec PyProof.Rows
variable {X:Cx} {tg:Expr}
end
end L2
namespace L2
section
open PySem PySem.Calls PyProof.Rows
variable {prog:Program} {w:World} {A:Around} {E:Value→Shared→Prop} {s:Shared}
end
section
open PySem PySem.Spec PyProof.Rows
variable {X:Cx}
end
section
open PySem PySem.Calls PyProof.Rows
variable {prog:Program} {w:World} {A:Around} {E:Value→Shared→Prop} {I S:Addr} {fp wr:List Addr} {n:Nat} {P:Nat→Value→Prop} {St:Nat→Heap→Prop} {bt:Nat→Nat→Bool} {d:Value} {R:Result→Shared→Prop}
end
section
open PySem PySem.Spec PyProof.Rows PySem.Calls
variable {X:Cx}
end
end L2
namespace L2
section
open PySem PySem.Calls PyProof.Rows
variable {prog:Program} {w:World} {A:Around} {E:Value→Shared→Prop} {s:Shared}
theorem du_entry:entryFor table "dict.update.loop" = some Builtin.«dict.update.loop»:=entryFor_of_tree (by kernel_rfl)
theorem du_plain:plainId "dict.update.loop" = true:=by decide +kernel
theorem keys_miss:typeLookup (.type "list") "keys" = pure none:=by rw [typeLookup_type,builtinLookup_eq_fast]; kernel_rfl
theorem list_no_keys {a:Addr} {xs:Array Value} {k:Nat} {sl:Array (Option Value)} {Q:Option Value→Shared→Prop} (hx:s.heap.get? a = some { cls:=.type "list",dict:=none,data:=.seq xs k,slots:=sl }) (hA:A.handled = none)
    (h:∀ h' tk,(∀ b o,s.heap.get? b = some o→h'.get? b = some o)→Q none { s with heap:=h',toks:=tk }):wpAny (model prog w) A (getAttr? (.ref a) "keys") Q E s:=by
  obtain ⟨hp,g,d,tk,os⟩:=s
  have hT:∀ tk',(⟨hp,g,d,tk',os⟩:Shared).TypeIs (.ref a) "list":=fun _=>⟨_,hx,rfl⟩
  have f1:=sub_AttributeError
  have f3:=F.slot_list_getattribute.lookup
  have f4:=F.slot_list_getattribute.bind (.ref a)
  have f5:=am_list_getattr_none
  unfold getAttr? getAttrBy? getAttrBy
  repeat (any_goals (first | assumption | exact hT _ | ((with_reducible show wpAny _ _ (call (Value.builtin "list.__getattribute__") _ _) _ _ _); refine call_meets F.slot_list_getattribute (hT _) am_entry_list_getattribute (F.args_list_getattribute_2 _ _) (meets_getattribute_miss_list a xs k sl "keys" _ keys_miss (by decide +kernel) (by decide +kernel)) ⟨hx,hA,fun h' tk' e hx'=>?_⟩) | wp_step))
  obtain ⟨t',u',he⟩:=hx'.there
  show wpAny _ _ (getattributeRaised _ _ _ _ _ _ _) _ _ _
  unfold getattributeRaised
  repeat (any_goals (first | assumption | wp_step))
  exact h _ _ fun b o e=>hx'.keeps b o e
theorem pair_items {t:Addr} {k v:Value} {Q:List Value→Shared→Prop} (ht:IsTup s.heap t #[k,v]) (h:Q [k,v] s):wpAny (model prog w) A (Builtin.Dict.pairItems (.ref t)) Q E s:=by
  obtain ⟨o,ho,hc,n,hd⟩:=ht
  have hT:s.TypeIs (.ref t) "tuple":=⟨o,ho,hc⟩
  unfold Builtin.Dict.pairItems
  refine wpAny_bind (wpAny_typeOf hT ?_)
  rw [if_pos (by decide)]
  refine wpAny_bind (m:=seqItems? (.ref t)) ?_
  unfold seqItems?
  refine wpAny_bind (wpAny_load ho ?_)
  rw [hd]
  exact wpAny_pure (wpAny_pure h)
theorem dict_loop {R:Result→Shared→Prop} {I d:Addr} {fp:List Addr} {vs:List Value} {St:Nat→Heap→Prop} {D:Nat→Heap→Prop} {h0:Heap} (W:Walks prog w A.in1 I fp [I] vs.length (fun i v=>vs[i]? = some v) St) (nd:d ∉ fp)
    (hI:h0.get? I = none) (hd0:h0.get? d = none) (keep:∀ i h h',D i h→(∀ o,h.get? d = some o→h'.get? d = some o)→D i h')
    (pr:∀ i v,vs[i]? = some v→∃ t x y,v = .ref t∧IsTup h0 t #[x,y]∧∀ (s:Shared) (Q:Unit→Shared→Prop) (E:Value→Shared→Prop),(∀ b o,h0.get? b = some o→s.heap.get? b = some o)→D i s.heap→(∀ h' tk,D (i + 1) h'→Heap.SameBut d s.heap h'→Q () { s with heap:=h',toks:=tk })→wpAny (model prog w) A.in1 (dictSet d x y) Q E s) :
    ∀ (k i:Nat) (s:Shared),vs.length - i = k→i≤vs.length→(∀ b o,h0.get? b = some o→s.heap.get? b = some o)→St i s.heap→D i s.heap→
      (∀ h' tk,(∀ b o,b ∉ [d,I]→s.heap.get? b = some o→h'.get? b = some o)→D vs.length h'→R (.ok (.ret .none)) { s with heap:=h',toks:=tk })→codeAny (model prog w) A (.builtin "dict.update.loop" ⟨[.ref d,.ref I,rawInt i,.none],[]⟩) R s:=by
  have nI:d ∉ [I]:=fun z=>nd (W.sub _ z)
  intro k
  induction k with
  | zero=>
    intro i s hk hi old st T q
    have e:i = vs.length:=by omega
    subst e
    refine codeAny_builtin du_entry ?_
    rw [Around.under_plainId du_plain _]
    refine wpAny_bind (m:=pyNext (.ref I)) (W.done s _ _ st fun h' tk k'=>?_)
    refine wpAny_bind (m:=Builtin.Dict.addKeywords d []) (wpAny_pure (wpAny_pure ?_))
    exact q h' tk (fun b o n e=>k' b o (fun z=>n (List.mem_cons_of_mem _ z)) e) (keep _ _ _ T fun o e=>k' d o nI e)
  | succ k ih=>
    intro i s hk hi old st T q
    have lt:i < vs.length:=by omega
    refine codeAny_builtin du_entry ?_
    rw [Around.under_plainId du_plain _]
    refine wpAny_bind (m:=pyNext (.ref I)) (W.item i s _ _ lt st fun v h' tk hv st' k'=>?_)
    obtain ⟨t,x,y,rfl,ht,step⟩:=pr i v hv
    have old':∀ b o,h0.get? b = some o→h'.get? b = some o:=fun b o e=>k' b o (fun z=>by rw [List.mem_singleton.mp z,hI] at e; cases e) (old b o e)
    refine wpAny_bind (wpAny_holding (wpAny_bind (wpAny_tryCatch (pair_items (s:={ s with heap:=h',toks:=tk }) (ht.keeps old') ?_))))
    refine wpAny_holding (step _ _ _ old' (keep _ _ _ T fun o e=>k' d o nI e) fun h2 tk2 T2 sb=>?_)
    refine wpAny_pure ⟨plainId_quiet du_plain _,ih (i + 1) _ (by omega) lt (fun b o e=>?_) (W.frame _ _ _ st' fun b hb o e=>?_) T2 fun h3 tk3 k3 T3=>?_⟩
    · rw [sb.2 b (fun z=>by rw [z,hd0] at e; cases e)]; exact old' b o e
    · rw [sb.2 b (fun z=>nd (z ▸ hb))]; exact e
    · refine q h3 tk3 (fun b o n e=>k3 b o n ?_) T3
      rw [sb.2 b (fun z=>n (by simp [z]))]
      exact k' b o (fun z=>n (List.mem_cons_of_mem _ z)) e
theorem dict_call {l:Addr} {vs:List Value} {D:Nat→Heap→Prop} {Q:Value→Shared→Prop} (hh:A.handled = none) (hl:∃ n sl,s.heap.get? l = some { cls:=.type "list",dict:=none,data:=.seq vs.toArray n,slots:=sl })
    (keep:∀ i h h',D i h→(∀ o,h.get? s.heap.objs.size = some o→h'.get? s.heap.objs.size = some o)→D i h')
    (d0:∀ h:Heap,h.get? s.heap.objs.size = some { cls:=.type "dict",data:=.dict #[] }→D 0 h)
    (pr:∀ i v,vs[i]? = some v→∃ t x y,v = .ref t∧IsTup s.heap t #[x,y]∧∀ (s1:Shared) (Q:Unit→Shared→Prop) (E:Value→Shared→Prop),(∀ b o,s.heap.get? b = some o→s1.heap.get? b = some o)→D i s1.heap→(∀ h' tk,D (i + 1) h'→Heap.SameBut s.heap.objs.size s1.heap h'→Q () { s1 with heap:=h',toks:=tk })→wpAny (model prog w) A.in1.in1 (dictSet s.heap.objs.size x y) Q E s1)
    (q:∀ h' tk,(∀ b o,s.heap.get? b = some o→h'.get? b = some o)→D vs.length h'→Q (.ref s.heap.objs.size) { s with heap:=h',toks:=tk }):wpAny (model prog w) A (call (.type "dict") [.ref l]) Q E s:=by
  obtain ⟨n,sl,el⟩:=hl
  have lt:l < s.heap.objs.size:=Heap.lt_size el
  refine callType_codes (Q₁:=fun obj s₁=>obj = .ref s.heap.objs.size∧s₁ = { s with heap:=s.heap.push { cls:=.type "dict",data:=.dict #[] } }) PySem.F.kt_called_dict (PySem.F.kt_typeCall_dict_1 _) PySem.F.entry_dict_init (kt_code_dict_new _ ⟨rfl,rfl⟩) ?_
  rintro obj s₁ ⟨rfl,rfl⟩
  have hS:(s.heap.push { cls:=.type "dict",data:=.dict #[] }).get? s.heap.objs.size = some { cls:=.type "dict",data:=.dict #[] }:=Heap.get?_push_size _ rfl
  have hT:Shared.TypeIs { s with heap:=s.heap.push { cls:=.type "dict",data:=.dict #[] } } (.ref s.heap.objs.size) "dict":=⟨_,hS,rfl⟩
  have el':=Heap.get?_push_of_some ({ cls:=.type "dict",data:=.dict #[] }:Obj) el
  refine ⟨hT,PySem.F.args_dict_init_2 _ _,?_⟩
  unfold Builtin.«dict.__init__»
  refine wpAny_bind ?_
  unfold Builtin.Dict.selfAndRest
  refine wpAny_bind (wpAny_notOrdered_dict hT ?_)
  show wpAny _ _ (pure (s.heap.objs.size,[Value.ref l])) _ _ _
  refine wpAny_pure ?_
  show wpAny _ _ (Builtin.Dict.updateFrom "dict.__init__" s.heap.objs.size (.ref l) [] .none) _ _ _
  unfold Builtin.Dict.updateFrom
  refine wpAny_bind (wpAny_typeOf (T:="list") ⟨_,el',rfl⟩ ?_)
  rw [if_pos (by decide)]
  refine wpAny_bind (list_no_keys (s:={ s with heap:=s.heap.push { cls:=.type "dict",data:=.dict #[] } }) el' (by simp [hh]) fun h1 tk1 k1=>?_)
  rw [if_pos (show (none:Option Value).isNone = true from rfl)]
  refine wpAny_bind (wpAny_rule ?_)
  have el1:=k1 _ _ el'
  have l1:h1.IsList l vs.toArray:=⟨_,el1,rfl,_,rfl⟩
  refine wpAny_bind (wpAny_pyIter_list (s:={ s with heap:=h1,toks:=tk1 }) l1 ?_)
  have g1:s.heap.objs.size + 1≤h1.objs.size:=Heap.lt_size (k1 _ _ hS)
  have nI:l≠h1.objs.size:=Nat.ne_of_lt (Nat.lt_of_lt_of_le lt (Nat.le_of_succ_le g1))
  have W:=Walks.list (prog:=prog) (w:=w) (A:=A.in1.in1) (by simp [hh]) h1.objs.size l nI vs.toArray
  have W2:Walks prog w A.in1.in1 h1.objs.size [h1.objs.size,l] [h1.objs.size] vs.length (fun i v=>vs[i]? = some v) (fun i h=>h.IsListIter h1.objs.size l i∧h.IsList l vs.toArray):=by
    simpa only [List.size_toArray,List.getElem?_toArray] using W
  have old1:∀ b o,s.heap.get? b = some o→h1.get? b = some o:=fun b o e=>k1 b o (Heap.get?_push_of_some _ e)
  refine wpAny_pure ⟨plainId_quiet du_plain _,dict_loop (h0:=s.heap) (D:=D) W2 ?_ (Heap.get?_none_of_le (by omega)) (Heap.get?_none_of_le (Nat.le_refl _)) keep pr vs.length 0 _ (by omega) (Nat.zero_le _) (fun b o e=>Heap.get?_push_of_some _ (old1 b o e)) ⟨⟨_,Heap.get?_push_size _ rfl,rfl,rfl⟩,l1.push _⟩ (d0 _ (Heap.get?_push_of_some _ (k1 _ _ hS))) fun h' tk k' T=>⟨rfl,q h' tk (fun b o e=>k' b o (fun z=>?_) (Heap.get?_push_of_some _ (old1 b o e))) T⟩⟩
  · simp only [List.mem_cons,List.not_mem_nil,or_false,not_or]
    exact ⟨Nat.ne_of_lt (by omega),Nat.ne_of_gt lt⟩
  · have lb:=Heap.lt_size e
    simp only [List.mem_cons,List.not_mem_nil,or_false] at z
    rcases z with rfl | rfl
    · exact absurd lb (Nat.lt_irrefl _)
    · exact absurd lb (Nat.not_lt.mpr (Nat.le_of_succ_le g1))
open PySem.Spec
theorem refs_at:∀ {ps:List Addr} {its:List Value},Vals (ps.map V.ref) its→∀ (i:Nat) v,its[i]? = some v→∃ t,ps[i]? = some t∧v = .ref t
  | [],_,.nil,i,v,e=>by simp at e
  | t :: ps,_,.cons r h,0,v,e=>⟨t,rfl,by cases r; simpa using e.symm⟩
  | t :: ps,_,.cons r h,i + 1,v,e=>by
    obtain ⟨t',a,b⟩:=refs_at h i v (by simpa using e)
    exact ⟨t',by simpa using a,b⟩
theorem paired_mem {α β:Type} {F:α→β→Prop}:∀ {l:List α} {m:List β},Paired F l m→∀ {y:β},y∈m→∃ x,x∈l∧F x y
  | _,_,.nil,_,h=>nomatch h
  | _,_,.cons r t,y,h=>by
    rcases List.mem_cons.mp h with rfl | h
    · exact ⟨_,List.mem_cons_self,r⟩
    · obtain ⟨x,a,b⟩:=paired_mem t h
      exact ⟨x,List.mem_cons_of_mem _ a,b⟩
theorem erase_map {α β:Type} (f:α→β):∀ (xs:List α) (j:Nat),(xs.map f).eraseIdx j = (xs.eraseIdx j).map f
  | [],_=>rfl
  | _ :: _,0=>rfl
  | x :: xs,j + 1=>congrArg (f x :: ·) (erase_map f xs j)
end
end L2
namespace L2
section
open PySem PySem.W PyProof.Rows
variable {n:Nat} {lt:Nat→Nat→Bool} {cmp:Nat→Nat→(Bool→Shared→Prop)→Shared→Prop} {s:Shared}
structure Ordr (n:Nat) (lt:Nat→Nat→Bool) (cmp:Nat→Nat→(Bool→Shared→Prop)→Shared→Prop) (s:Shared):Prop where
  ask:∀ (i j:Nat) (C:Bool→Shared→Prop),i < n→j < n→i≠j→C (lt i j) s→cmp i j C s
  tr:∀ i j k,i < n→j < n→k < n→lt i j = true→lt j k = true→lt i k = true
  tot:∀ i j,i < n→j < n→i≠j→lt i j = false→lt j i = true
def Pmn (n:Nat) (p:Array Nat):Prop:=p.size = n∧p.toList.Perm (List.range n)
theorem Pmn.lo {p:Array Nat} (h:Pmn n p) {i:Nat} (hi:i < n):p.getD i 0 < n:=by
  have hs:i < p.size:=by rw [h.1]; exact hi
  have e:p.getD i 0 = p[i]:=by simp [Array.getD,hs]
  rw [e]
  exact List.mem_range.mp (h.2.mem_iff.mp (by simp))
theorem Pmn.ne {p:Array Nat} (h:Pmn n p) {i j:Nat} (hi:i < n) (hj:j < n) (hij:i≠j):p.getD i 0≠p.getD j 0:=by
  have hs:i < p.size:=by rw [h.1]; exact hi
  have ht:j < p.size:=by rw [h.1]; exact hj
  have nd:p.toList.Nodup:=h.2.nodup_iff.mpr List.nodup_range
  have e1:p.getD i 0 = p.toList[i]'(by simpa using hs):=by simp [Array.getD,hs]
  have e2:p.getD j 0 = p.toList[j]'(by simpa using ht):=by simp [Array.getD,ht]
  rw [e1,e2]
  intro z
  have pw:=List.pairwise_iff_getElem.mp nd
  rcases Nat.lt_or_gt_of_ne hij with g | g
  · exact pw i j (by simpa using hs) (by simpa using ht) g z
  · exact pw j i (by simpa using ht) (by simpa using hs) g z.symm
def UpTo (lt:Nat→Nat→Bool) (p:Array Nat) (k:Nat):Prop:=∀ i j,i < j→j < k→lt (p.getD i 0) (p.getD j 0) = true
def DnTo (lt:Nat→Nat→Bool) (p:Array Nat) (k:Nat):Prop:=∀ i j,i < j→j < k→lt (p.getD j 0) (p.getD i 0) = true
theorem asc_wp (O:Ordr n lt cmp s) {p:Array Nat} (hp:Pmn n p) {G:Nat→Shared→Prop}:∀ (f m:Nat),1≤m→m + f≤n→UpTo lt p m→
    (∀ m',m≤m'→m'≤m + f→UpTo lt p m'→(m' = m + f∨lt (p.getD m' 0) (p.getD (m' - 1) 0) = true)→G m' s)→(kas_asc p f m).kasWp cmp G s
  | 0,m,_,_,up,h=>h m (Nat.le_refl _) (Nat.le_refl _) up (.inl rfl)
  | f + 1,m,h1,h2,up,h=>by
    refine O.ask _ _ _ (hp.lo (by omega)) (hp.lo (by omega)) (hp.ne (by omega) (by omega) (by omega)) ?_
    cases hl:lt (p.getD m 0) (p.getD (m - 1) 0) with
    | true=>exact h m (Nat.le_refl _) (by omega) up (.inr hl)
    | false=>
      have hl':=O.tot _ _ (hp.lo (by omega)) (hp.lo (by omega)) (hp.ne (by omega) (by omega) (by omega)) hl
      show (kas_asc p f (m + 1)).kasWp cmp G s
      refine asc_wp O hp f (m + 1) (by omega) (by omega) (fun i j hij hj=>?_) fun m' a b c d=>h m' (by omega) (by omega) c (d.imp (by omega) id)
      by_cases e:j = m
      · subst e
        by_cases e2:i = j - 1
        · rw [e2]; exact hl'
        · exact O.tr _ _ _ (hp.lo (by omega)) (hp.lo (by omega)) (hp.lo (by omega)) (up i (j - 1) (by omega) (by omega)) hl'
      · exact up i j hij (by omega)
theorem desc_wp (O:Ordr n lt cmp s) {p:Array Nat} (hp:Pmn n p) {G:Array Nat×Nat×Nat→Shared→Prop}:∀ (f m:Nat),1≤m→m + f≤n→DnTo lt p m→
    (∀ m',m≤m'→m'≤m + f→DnTo lt p m'→G (p,m',0) s)→(kas_desc f p m 0).kasWp cmp G s
  | 0,m,_,_,dn,h=>h m (Nat.le_refl _) (Nat.le_refl _) dn
  | f + 1,m,h1,h2,dn,h=>by
    refine O.ask _ _ _ (hp.lo (by omega)) (hp.lo (by omega)) (hp.ne (by omega) (by omega) (by omega)) ?_
    cases hl:lt (p.getD m 0) (p.getD (m - 1) 0) with
    | true=>
      show (kas_desc f p (m + 1) 0).kasWp cmp G s
      refine desc_wp O hp f (m + 1) (by omega) (by omega) (fun i j hij hj=>?_) fun m' a b c=>h m' (by omega) (by omega) c
      by_cases e:j = m
      · subst e
        by_cases e2:i = j - 1
        · rw [e2]; exact hl
        · exact O.tr _ _ _ (hp.lo (by omega)) (hp.lo (by omega)) (hp.lo (by omega)) hl (dn i (j - 1) (by omega) (by omega))
      · exact dn i j hij (by omega)
    | false=>
      have hl':=O.tot _ _ (hp.lo (by omega)) (hp.lo (by omega)) (hp.ne (by omega) (by omega) (by omega)) hl
      refine O.ask _ _ _ (hp.lo (by omega)) (hp.lo (by omega)) (hp.ne (by omega) (by omega) (by omega)) ?_
      rw [hl']
      exact h m (Nat.le_refl _) (by omega) dn
theorem getD_opt (p:Array Nat) (i:Nat):p.getD i 0 = (p[i]?).getD 0:=by
  by_cases h:i < p.size
  · simp [Array.getD,h]
  · simp [Array.getD,h]
theorem rev_at {p:Array Nat} {m:Nat} (hm:m≤p.size) (k:Nat):(kas_rev p 0 m).getD k 0 = if k < m then p.getD (m - 1 - k) 0 else p.getD k 0:=by
  rw [getD_opt]
  unfold kas_rev
  rw [getElem?_mirror_all hm]
  by_cases h:k < m
  · rw [if_pos ⟨Nat.zero_le _,h⟩,if_pos h,getD_opt,Nat.zero_add]
  · rw [if_neg (fun z=>h z.2),if_neg h,getD_opt]
theorem rev_pmn {p:Array Nat} (hp:Pmn n p) (m:Nat):Pmn n (kas_rev p 0 m):=⟨(mirror_size ..).trans hp.1,(Array.perm_iff_toList_perm.mp (mirror_perm ..)).trans hp.2⟩
theorem tail3_wp (O:Ordr n lt cmp s) {p:Array Nat} (hp:Pmn n p) {m:Nat} (h1:1≤m) (hm:m≤n) (dn:DnTo lt p m) {G:Nat×Array Nat→Shared→Prop}
    (h:∀ m' p',Pmn n p'→UpTo lt p' m'→1≤m'→m'≤n→G (m',p') s):(kas_tail3 m n p).kasWp cmp G s:=by
  unfold kas_tail3
  rw [KasT.kasWp_bind]
  have hr:=rev_pmn hp m
  refine asc_wp O hr (n - m) m h1 (by omega) (fun i j hij hj=>?_) fun m' a b c _=>h m' _ hr c (by omega) (by omega)
  rw [rev_at (by rw [hp.1]; exact hm),rev_at (by rw [hp.1]; exact hm),if_pos (by omega),if_pos hj]
  exact dn _ _ (by omega) (by omega)
theorem count_wp (O:Ordr n lt cmp s) (hn:1≤n) {p:Array Nat} (hp:Pmn n p) {G:Nat×Array Nat→Shared→Prop}
    (h:∀ m' p',Pmn n p'→UpTo lt p' m'→1≤m'→m'≤n→G (m',p') s):(kas_count n p).kasWp cmp G s:=by
  unfold kas_count
  rw [KasT.kasWp_bind]
  refine asc_wp O hp (n - 1) 1 (Nat.le_refl _) (by omega) (fun i j hij hj=>by omega) fun m a b up d=>?_
  by_cases e:m = n
  · subst e
    rw [if_pos (by simp)]
    exact h _ _ hp up a (Nat.le_refl _)
  · rw [if_neg (by simpa using e)]
    by_cases g:m > 1
    · rw [if_pos g]
      refine O.ask _ _ _ (hp.lo (by omega)) (hp.lo (by omega)) (hp.ne (by omega) (by omega) (by omega)) ?_
      rw [up 0 (m - 1) (by omega) (by omega)]
      exact h _ _ hp up a (by omega)
    · rw [if_neg g]
      have e1:m = 1:=by omega
      subst e1
      have hl:=d.resolve_left (by omega)
      unfold kas_descPart
      rw [KasT.kasWp_bind]
      refine desc_wp O hp (n - (1 + 1)) (1 + 1) (by omega) (by omega) (fun i j hij hj=>?_) fun m' a' b' dn=>?_
      · obtain ⟨rfl,rfl⟩:i = 0∧j = 1:=by omega
        exact hl
      · rw [if_neg (by simp)]
        exact tail3_wp O hp (by omega) (by omega) dn h
theorem place_wp (O:Ordr n lt cmp s) {p:Array Nat} (hp:Pmn n p) {k:Nat} (hk:k < n) (up:UpTo lt p k) {G:Nat→Shared→Prop}
    (h:∀ l,l≤k→(∀ i,i < l→lt (p.getD i 0) (p.getD k 0) = true)→(∀ i,l≤i→i < k→lt (p.getD k 0) (p.getD i 0) = true)→G l s) :
    ∀ (f l r:Nat),l≤r→r≤k→r - l≤f→(∀ i,i < l→lt (p.getD i 0) (p.getD k 0) = true)→(∀ i,r≤i→i < k→lt (p.getD k 0) (p.getD i 0) = true)→(kas_place p k f l r).kasWp cmp G s
  | 0,l,r,h1,h2,h3,a,b=>h l (by omega) a fun i hi=>b i (by omega)
  | f + 1,l,r,h1,h2,h3,a,b=>by
    unfold kas_place
    by_cases g:l ≥ r
    · rw [if_pos g]
      exact h l (by omega) a fun i hi=>b i (by omega)
    · rw [if_neg g]
      refine O.ask _ _ _ (hp.lo hk) (hp.lo (by omega)) (hp.ne hk (by omega) (by omega)) ?_
      cases hl:lt (p.getD k 0) (p.getD ((l + r) / 2) 0) with
      | true=>
        show (kas_place p k f l ((l + r) / 2)).kasWp cmp G s
        refine place_wp O hp hk up h f l ((l + r) / 2) (by omega) (by omega) (by omega) a fun i hi hik=>?_
        by_cases e:i = (l + r) / 2
        · rw [e]; exact hl
        · exact O.tr _ _ _ (hp.lo hk) (hp.lo (by omega)) (hp.lo (by omega)) hl (up _ _ (by omega) hik)
      | false=>
        have hl':=O.tot _ _ (hp.lo hk) (hp.lo (by omega)) (hp.ne hk (by omega) (by omega)) hl
        show (kas_place p k f ((l + r) / 2 + 1) r).kasWp cmp G s
        refine place_wp O hp hk up h f ((l + r) / 2 + 1) r (by omega) (by omega) (by omega) (fun i hi=>?_) b
        by_cases e:i = (l + r) / 2
        · rw [e]; exact hl'
        · exact O.tr _ _ _ (hp.lo (by omega)) (hp.lo (by omega)) (hp.lo hk) (up _ _ (by omega) (by omega)) hl'
theorem bub_at {p:Array Nat} {k l:Nat} (hk:k < p.size) (hl:l≤k) (i:Nat):(bubble p k (k - l)).getD i 0 = if i = l then p.getD k 0 else if l < i∧i≤k then p.getD (i - 1) 0 else p.getD i 0:=by
  rw [getD_opt,getElem?_bubble hk _ (by omega),show k - (k - l) = l by omega]
  by_cases h:i = l
  · rw [if_pos h,if_pos h,getD_opt]
  · rw [if_neg h,if_neg h]
    by_cases g:l < i∧i≤k
    · rw [if_pos g,if_pos g,getD_opt]
    · rw [if_neg g,if_neg g,getD_opt]
theorem bin_wp (O:Ordr n lt cmp s) {G:Array Nat→Shared→Prop} (h:∀ p,Pmn n p→UpTo lt p n→G p s):∀ (f:Nat) (p:Array Nat) (k:Nat),k + f = n→Pmn n p→UpTo lt p k→(kas_bin f p k).kasWp cmp G s
  | 0,p,k,e,hp,up=>h p hp (by rw [← e]; exact up)
  | f + 1,p,k,e,hp,up=>by
    unfold kas_bin
    rw [KasT.kasWp_bind]
    refine place_wp O hp (by omega) up (fun l hl a b=>?_) k 0 k (Nat.zero_le _) (Nat.le_refl _) (by omega) (fun i hi=>by omega) (fun i h1 h2=>by omega)
    have hs:k < p.size:=by rw [hp.1]; omega
    refine bin_wp O h f _ (k + 1) (by omega) ⟨(bubble_size ..).trans hp.1,(Array.perm_iff_toList_perm.mp (bubble_perm ..)).trans hp.2⟩ fun i j hij hj=>?_
    rw [bub_at hs hl,bub_at hs hl]
    by_cases i1:i = l
    · rw [if_pos i1,if_neg (by omega),if_pos (by omega)]
      exact b _ (by omega) (by omega)
    · rw [if_neg i1]
      by_cases j1:j = l
      · rw [if_neg (by omega),if_pos j1]
        exact a _ (by omega)
      · rw [if_neg j1]
        by_cases i2:l < i∧i≤k
        · rw [if_pos i2,if_pos (by omega)]
          exact up _ _ (by omega) (by omega)
        · rw [if_neg i2]
          by_cases j2:l < j∧j≤k
          · rw [if_pos j2]
            exact up _ _ (by omega) (by omega)
          · rw [if_neg j2]
            exact up _ _ (by omega) (by omega)
theorem sort_wp (O:Ordr n lt cmp s) (hn:1≤n) {G:Array Nat→Shared→Prop} (h:∀ p,Pmn n p→UpTo lt p n→G p s):(kas_sort n).kasWp cmp G s:=by
  unfold kas_sort
  rw [KasT.kasWp_bind]
  refine count_wp O hn ⟨by simp,by simp⟩ fun m p hp up h1 h2=>?_
  by_cases e:m < n
  · rw [if_pos e]
    exact bin_wp O h _ _ _ (by omega) hp (by rw [show max m 1 = m by omega]; exact up)
  · rw [if_neg e]
    obtain rfl:m = n:=by omega
    exact h p hp up
end
end L2
namespace L2
section
open PySem PySem.W PySem.Calls PyProof.Rows
variable {prog:Program} {w:World} {A:Around} {E:Value→Shared→Prop} {s:Shared}
def outBy (vs:List Value) (p:Array Nat):List Value:=p.toList.map fun i=>vs.getD i Value.none
theorem outBy_range (vs:List Value):outBy vs (List.range vs.length).toArray = vs:=by
  unfold outBy
  refine List.ext_getElem? fun i=>?_
  rw [List.getElem?_map]
  by_cases h:i < vs.length
  · simp [h]
  · simp [h]
theorem sort_by {a:Addr} {vs:List Value} {n:Nat} {lt:Nat→Nat→Bool} {P:PySem.Fin→Shared→Prop} (ho:s.heap.get? a = some (seqObj "list" vs.toArray n)) (few:vs.length < 64)
    (hk:∀ h',(∀ b o,b≠a→s.heap.get? b = some o→h'.get? b = some o)→2≤vs.length→wpAny (model prog w) A (keyKind' vs.toArray) (fun κ s'=>s' = { s with heap:=h' }∧Ordr vs.length lt (kas_ask prog w A κ vs) s') (fun _ _=>False) { s with heap:=h' })
    (h:∀ p,Pmn vs.length p→UpTo lt p vs.length→P (.done (.ret .none)) { s with heap:=sortedHeap s.heap a vs (outBy vs p).toArray }) :
    wpAny (model prog w) A (Builtin.«list.sort» ⟨[.ref a],[]⟩) P E s:=by
  rw [list_sort_plain]
  have ha:a < s.heap.objs.size:=Heap.lt_size ho
  refine wpAny_bind (listItems_at ho rfl (wpAny_bind (listUpdate_at ho rfl ?_)))
  obtain ⟨e1,h1⟩:∃ e,(s.heap.update a (Obj.mapSeq fun _=>#[])).get? a = some (seqObj "list" #[] e):=⟨_,get?_update_seq ho (fun _=>#[])⟩
  refine wpAny_bind (seqEpoch_at h1 rfl (wpAny_bind (wpAny_newTuple (wpAny_bind (wpAny_newList (wpAny_holding ?_))))))
  have n1:a≠(s.heap.update a (Obj.mapSeq fun _=>#[])).objs.size:=by rw [Heap.size_update]; exact Nat.ne_of_lt ha
  have n2:a≠((s.heap.update a (Obj.mapSeq fun _=>#[])).push (seqObj "tuple" vs.toArray 0)).objs.size:=by rw [Heap.size_push,Heap.size_update]; exact Nat.ne_of_lt (Nat.lt_succ_of_lt ha)
  have h2:(((s.heap.update a (Obj.mapSeq fun _=>#[])).push (seqObj "tuple" vs.toArray 0)).push (seqObj "list" #[] 0)).get? a = some (seqObj "list" #[] e1):=by
    rw [Heap.get?_push_ne _ _ _ n2,Heap.get?_push_ne _ _ _ n1]; exact h1
  have old:∀ b o,b≠a→s.heap.get? b = some o→(((s.heap.update a (Obj.mapSeq fun _=>#[])).push (seqObj "tuple" vs.toArray 0)).push (seqObj "list" #[] 0)).get? b = some o:=fun b o nb e=>
    Heap.get?_push_of_some _ (Heap.get?_push_of_some _ ((Heap.get?_update_other _ _ (Ne.symm nb)).trans e))
  show wpAny (model prog w) A _ P E { s with heap:=((s.heap.update a (Obj.mapSeq fun _=>#[])).push (seqObj "tuple" vs.toArray 0)).push (seqObj "list" #[] 0) }
  dsimp only
  have ez:vs.toArray.size = vs.length:=by simp
  by_cases hs2:vs.toArray.size < 2
  · rw [if_pos hs2,if_pos hs2]
    refine wpAny_bind (wpAny_pure ?_)
    rw [StateT.run_pure]
    refine wpAny_bind (wpAny_pure ?_)
    dsimp only
    refine wpAny_bind (seqEpoch_at h2 rfl (wpAny_bind (listUpdate_at h2 rfl ?_ (hsz2:=?_))))
    · simp only [bne_self_eq_false,Bool.false_eq_true,if_false]
      have hq:=h (List.range vs.length).toArray ⟨by simp,by simp⟩ (fun i j hij hj=>by omega)
      rw [outBy_range] at hq
      have e:(vs.toArray.zip vs.toArray).map (·.2) = vs.toArray:=by
        apply Array.toList_inj.mp
        simp
        exact List.map_snd_zip (Nat.le_refl _)
      refine wpAny_pure ?_
      show P _ { s with heap:=sortedHeap s.heap a vs ((vs.toArray.zip vs.toArray).map (·.2)) }
      rw [e]
      exact hq
    · show ((vs.toArray.zip vs.toArray).map (·.2)).size≤_
      rw [Array.size_map]
      simp
      rw [sizeLine_eq]
      omega
  · rw [if_neg hs2,if_neg hs2]
    refine wpAny_bind (wpAny_mono (hk _ old (by omega)) (fun κ s' hs'=>?_) fun _ _ z=>z.elim)
    obtain ⟨rfl,O⟩:=hs'
    refine wpAny_bind (wpAny_mono (kat_run (ks:=vs) (E:=E) (Q:=fun st' s'=>s' = { s with heap:=((s.heap.update a (Obj.mapSeq fun _=>#[])).push (seqObj "tuple" vs.toArray 0)).push (seqObj "list" #[] 0) }∧∃ p,Pmn vs.length p∧UpTo lt p vs.length∧(arrOf st').map (·.2) = (outBy vs p).toArray∧failedOf st' = none)
      (G:=fun p s'=>s' = { s with heap:=((s.heap.update a (Obj.mapSeq fun _=>#[])).push (seqObj "tuple" vs.toArray 0)).push (seqObj "list" #[] 0) }∧Pmn vs.length p∧UpTo lt p vs.length) rfl (by omega) few
      (fun p st' s' _ ea ef hg=>⟨hg.1,p,hg.2.1,hg.2.2,kat_snds rfl ea,ef⟩) (sort_wp O (by omega) fun p hp up=>⟨rfl,hp,up⟩)) (fun r s' hr=>?_) fun _ _ z=>z)
    obtain ⟨⟨⟩,st'⟩:=r
    obtain ⟨rfl,p,hp,up,ea,ef⟩:=hr
    dsimp only
    refine wpAny_bind (seqEpoch_at h2 rfl (wpAny_bind (listUpdate_at h2 rfl ?_ (hsz2:=?_))))
    · rw [ef]
      simp only [bne_self_eq_false,Bool.false_eq_true,if_false]
      rw [ea]
      exact wpAny_pure (h p hp up)
    · rw [ea]
      unfold outBy
      simp only [List.size_toArray,List.length_map,Array.length_toList,hp.1]
      rw [sizeLine_eq]
      omega
theorem ordr_texts {vs:List Value} {ss:List Str} (nd:ss.Nodup) (hl:vs.length = ss.length) (hv:∀ (i:Nat) x,ss[i]? = some x→∃ (a:Addr) (o:Obj) (t:Tok) (xs:Array Value) (n:Nat),vs[i]? = some (.ref a)∧s.heap.get? a = some o∧o.data = .seq xs n∧xs[0]? = some (.str x t)) :
    Ordr vs.length (fun i j=>decide ((ss.getD i ⟨#[]⟩).cps.toList < (ss.getD j ⟨#[]⟩).cps.toList)) (kas_ask prog w A (tuples' true) vs) s:=by
  have get:∀ i,i < vs.length→ss[i]? = some (ss.getD i ⟨#[]⟩):=fun i hi=>by
    rw [hl] at hi
    simp [hi]
  refine ⟨fun i j C hi hj hij hC=>?_,fun i j k _ _ _ h1 h2=>?_,fun i j hi hj hij h1=>?_⟩
  · obtain ⟨a,o,t,xs,n,e1,e2,e3,e4⟩:=hv i _ (get i hi)
    obtain ⟨a',o',t',xs',n',f1,f2,f3,f4⟩:=hv j _ (get j hj)
    have g1:vs.getD i Value.none = .ref a:=by simp [e1]
    have g2:vs.getD j Value.none = .ref a':=by simp [f1]
    unfold kas_ask
    rw [g1,g2]
    have z1:0 < xs.size:=(Array.getElem?_eq_some_iff.mp e4).1
    have z2:0 < xs'.size:=(Array.getElem?_eq_some_iff.mp f4).1
    obtain ⟨r,er⟩:∃ r,xs.toList = .str (ss.getD i ⟨#[]⟩) t :: r:=by
      cases hx:xs.toList with
      | nil=>rw [← Array.length_toList,hx] at z1; exact absurd z1 (by simp)
      | cons y r=>
        have:=e4
        rw [← Array.getElem?_toList,hx] at this
        exact ⟨r,by rw [show y = _ from Option.some.inj this]⟩
    obtain ⟨r',er'⟩:∃ r,xs'.toList = .str (ss.getD j ⟨#[]⟩) t' :: r:=by
      cases hx:xs'.toList with
      | nil=>rw [← Array.length_toList,hx] at z2; exact absurd z2 (by simp)
      | cons y r=>
        have:=f4
        rw [← Array.getElem?_toList,hx] at this
        exact ⟨r,by rw [show y = _ from Option.some.inj this]⟩
    refine kat_lt e2 e3 f2 f3 ?_
    rw [er,er',List.zip_cons_cons]
    refine kat_cons (eqBool_str ?_)
    have ne:((ss.getD i ⟨#[]⟩) == (ss.getD j ⟨#[]⟩)) = false:=by
      rw [beq_eq_false_iff_ne]
      intro z
      have hi':i < ss.length:=by omega
      have hj':j < ss.length:=by omega
      have pw:=List.pairwise_iff_getElem.mp nd
      have z':ss[i] = ss[j]:=by simpa [hi',hj'] using z
      rcases Nat.lt_or_gt_of_ne hij with q | q
      · exact pw i j hi' hj' q z'
      · exact pw j i hj' hi' q z'.symm
    rw [ne]
    exact kat_no (oneLt_str hC)
  · rw [decide_eq_true_eq] at *
    exact List.lt_trans h1 h2
  · rw [decide_eq_false_iff_not] at h1
    rw [decide_eq_true_eq]
    have hle:=List.not_lt.mp h1
    rcases Classical.em ((ss.getD j ⟨#[]⟩).cps.toList < (ss.getD i ⟨#[]⟩).cps.toList) with h | h
    · exact h
    · exfalso
      have e:=List.le_antisymm hle (List.not_lt.mp h)
      have e2:ss.getD j ⟨#[]⟩ = ss.getD i ⟨#[]⟩:=by
        cases hx:ss.getD j ⟨#[]⟩ with
        | mk c1=>
          cases hy:ss.getD i ⟨#[]⟩ with
          | mk c2=>
            rw [hx,hy] at e
            have e3:c1 = c2:=Array.toList_inj.mp e
            rw [e3]
      have hi':i < ss.length:=by omega
      have hj':j < ss.length:=by omega
      have pw:=List.pairwise_iff_getElem.mp nd
      have z':ss[j] = ss[i]:=by simpa [hi',hj'] using e2
      rcases Nat.lt_or_gt_of_ne hij with q | q
      · exact pw i j hi' hj' q z'.symm
      · exact pw j i hj' hi' q z'
end
end L2
namespace L2
section
open PySem PySem.W PySem.Calls PyProof.Rows
variable {prog:Program} {w:World} {A:Around} {E:Value→Shared→Prop} {s:Shared}
def SortsBy (prog:Program) (w:World) (Q:Value→Shared→Prop) (vs:List Value) (s1:Shared):Prop:=∃ lt,vs.length < 64∧
  (∀ (A':Around) h',(∀ b o,s1.heap.get? b = some o→h'.get? b = some o)→2≤vs.length→wpAny (model prog w) A' (keyKind' vs.toArray) (fun κ s'=>s' = { s1 with heap:=h' }∧Ordr vs.length lt (kas_ask prog w A' κ vs) s') (fun _ _=>False) { s1 with heap:=h' })∧
  ∀ h' p idx c,Pmn vs.length idx→UpTo lt idx vs.length→s1.heap.objs.size≤p→(∀ b o,s1.heap.get? b = some o→h'.get? b = some o)→h'.get? p = some (seqObj "list" (outBy vs idx).toArray c)→Q (.ref p) { s1 with heap:=h' }
theorem sorted_by {x:Value} {Q:Value→Shared→Prop} (hc:wpAny (model prog w) A.in1 (collect x) (SortsBy prog w Q) E s):wpAny (model prog w) A (call (.builtin "sorted") [x]) Q E s:=by
  refine Calls.call_function_entry kind_sorted plain_sorted entry_sorted (args_sorted1 x) ?_
  unfold Builtin.«sorted»
  refine wpAny_bind (m:=checkCount "sorted" 1 1 _) (wpAny_pure (wpAny_bind (wpAny_mono hc (fun vs s1 z=>?_) fun _ _ e=>e)))
  obtain ⟨lt,few,hk,q⟩:=z
  refine wpAny_bind (wpAny_newList ?_)
  have there:(s1.heap.push (seqObj "list" vs.toArray 0)).get? s1.heap.objs.size = some (seqObj "list" vs.toArray 0):=Heap.get?_push_size _ rfl
  refine wpAny_bind (wpAny_holding (wpAny_call_entry slot_list_sort ⟨_,there,rfl⟩ entry_list_sort (sort_by (lt:=lt) there few (fun h' old h2=>?_) fun idx hp up=>⟨_,rfl,?_⟩) (args_list_sort _)))
  · have k':∀ b o,s1.heap.get? b = some o→h'.get? b = some o:=fun b o e=>old b o (Nat.ne_of_lt (Heap.lt_size e)) (Heap.get?_push_of_some _ e)
    exact hk _ h' k' h2
  · obtain ⟨c,hp'⟩:=sortedHeap_at (out:=(outBy vs idx).toArray) there
    refine wpAny_pure ⟨_,rfl,q _ _ idx c hp up (Nat.le_refl _) (fun b o e=>?_) hp'⟩
    have lt:=Heap.lt_size e
    show Heap.get? _ b = some o
    rw [sortedHeap_old (Nat.ne_of_lt lt) (by rw [Heap.size_push]; exact Nat.lt_succ_of_lt lt)]
    exact Heap.get?_push_of_some _ e
end
end L2
namespace L2
section
open PySem PySem.W PySem.Calls PyProof.Rows
variable {X:Cx}
def GivesTT (H:Hp) (ts:List (Addr×Str)) (Q:VK):Prop:=∀ (us:List (Addr×Str)) (p:Addr),us.Perm ts→sortedS (us.map (·.2)) = true→H p = none→Q (.ref p) (upd H p (.lst (us.map fun t=>V.ref t.1)))
def rSortTT (K:PySem.W.Frag):List V→Hp→VK→Prop:=fun xs H Q=>∃ (a:Addr) (ts:List (Addr×Str)),xs = [.ref a]∧SqL K H a (ts.map fun t=>V.ref t.1)∧ts.length < 64∧(∀ t∈ts,∃ r,SqT K H t.1 (.str t.2 :: r))∧(ts.map (·.2)).Nodup∧GivesTT H ts Q
theorem refs_get:∀ {ts:List (Addr×Str)} {its:List Value},Vals (ts.map fun t=>V.ref t.1) its→its = ts.map fun t=>Value.ref t.1
  | [],_,.nil=>rfl
  | t :: ts,_,.cons r h=>by
    cases r
    rw [List.map_cons,refs_get h]
theorem vals_refs_of:∀ (ts:List (Addr×Str)),Vals (ts.map fun t=>V.ref t.1) (ts.map fun t=>Value.ref t.1)
  | []=>.nil
  | t :: ts=>.cons rfl (vals_refs_of ts)
theorem call_sortTT {K:PySem.W.Frag} (hK:X.K = K):CallR X (.builtin "sorted") (rSortTT K):=by
  subst hK
  intro pins s σ H xs us Q I r h
  obtain ⟨a,ts,rfl,h1,few,ht,nd,q⟩:=h
  obtain ⟨u,rfl,ru⟩:=vals1 r
  cases ru
  obtain ⟨its,r1,p1,_⟩:=I.list h1
  have ei:=refs_get r1
  have li:its.length = ts.length:=by rw [ei,List.length_map]
  refine sorted_by (collect_list p1.isList ?_ (by rw [li,sizeLine_eq]; omega))
  have old:∀ b o,s.heap.get? b = some o→((s.heap.push (seqObj "list" #[] 0)).update s.heap.objs.size (Obj.mapSeq fun x=>x ++ its.toArray)).get? b = some o:=fun b o e=>(Heap.get?_update_other _ _ (Nat.ne_of_gt (Heap.lt_size e))).trans (Heap.get?_push_of_some _ e)
  have hsz:s.heap.objs.size≤((s.heap.push (seqObj "list" #[] 0)).update s.heap.objs.size (Obj.mapSeq fun x=>x ++ its.toArray)).objs.size:=by rw [Heap.size_update,Heap.size_push]; exact Nat.le_succ _
  generalize (s.heap.push (seqObj "list" #[] 0)).update s.heap.objs.size (Obj.mapSeq fun x=>x ++ its.toArray) = h1 at old hsz ⊢
  have tup:∀ (i:Nat) x,(ts.map fun t=>t.2)[i]? = some x→∃ (b:Addr) (o:Obj) (t:Tok) (xs:Array Value) (n:Nat),its[i]? = some (.ref b)∧s.heap.get? b = some o∧o.cls = .type "tuple"∧o.data = .seq xs n∧xs[0]? = some (.str x t):=fun i x hx=>by
    rw [List.getElem?_map] at hx
    cases hi:ts[i]? with
    | none=>rw [hi] at hx; cases hx
    | some y=>
      rw [hi] at hx
      cases hx
      obtain ⟨r,hr⟩:=ht y (List.mem_of_getElem? hi)
      obtain ⟨ys,rv,⟨o,e1,e2,n,e3⟩,_⟩:=I.tuple hr
      cases rv with
      | cons rv _=>
        obtain ⟨t,rfl⟩:=rv
        exact ⟨y.1,o,t,_,n,by rw [ei,List.getElem?_map,hi]; rfl,e1,e2,e3,by simp⟩
  refine ⟨fun i j=>decide (((ts.map fun t:Addr×Str=>t.2).getD i (⟨#[]⟩:Str)).cps.toList < ((ts.map fun t:Addr×Str=>t.2).getD j (⟨#[]⟩:Str)).cps.toList),by rw [li]; exact few,fun A' h' k h2=>?_,fun h' p idx c hp up lp k e=>?_⟩
  · obtain ⟨fs,kt,kf⟩:∃ fs,KatTups h' its fs∧fs.length = its.length∧∀ v∈fs,∃ x t,v = Value.str x t:=by
      have go:∀ (l:List Value),(∀ v∈l,∃ (b:Addr) (o:Obj) (x:Str) (t:Tok) (xs:Array Value) (n:Nat),v = .ref b∧h'.get? b = some o∧o.cls = .type "tuple"∧o.data = .seq xs n∧xs[0]? = some (.str x t))→∃ fs,KatTups h' l fs∧fs.length = l.length∧∀ v∈fs,∃ x t,v = Value.str x t:=by
        intro l
        induction l with
        | nil=>exact fun _=>⟨[],.nil,rfl,fun _ h=>nomatch h⟩
        | cons v l ih=>
          intro hl
          obtain ⟨fs,a1,a2,a3⟩:=ih fun u hu=>hl u (List.mem_cons_of_mem _ hu)
          obtain ⟨b,o,x,t,xs,n,rfl,e1,e2,e3,e4⟩:=hl v List.mem_cons_self
          refine ⟨.str x t :: fs,.cons e1 e2 e3 e4 a1,by rw [List.length_cons,List.length_cons,a2],fun u hu=>?_⟩
          rcases List.mem_cons.mp hu with rfl | hu
          · exact ⟨x,t,rfl⟩
          · exact a3 u hu
      refine go its fun v hv=>?_
      obtain ⟨i,hi⟩:=List.getElem?_of_mem hv
      have lt:i < ts.length:=by rw [← li]; exact (List.getElem?_eq_some_iff.mp hi).1
      obtain ⟨b,o,t,xs,n,e1,e2,e3,e4,e5⟩:=tup i _ (List.getElem?_eq_getElem (by rw [List.length_map]; exact lt))
      rw [hi] at e1
      cases e1
      exact ⟨b,o,_,t,xs,n,rfl,k _ _ (old _ _ e2),e3,e4,e5⟩
    refine kat_kind (T:=.type "str") kt (by rw [kf.1]; omega) (fun v hv=>?_) (by decide) ?_
    · obtain ⟨x,t,rfl⟩:=kf.2 v hv
      exact .now
    · refine ⟨rfl,?_⟩
      refine ordr_texts nd (by rw [li,List.length_map]) fun i x hx=>?_
      obtain ⟨b,o,t,xs,n,e1,e2,_,e4,e5⟩:=tup i x hx
      exact ⟨b,o,t,xs,n,e1,k _ _ (old _ _ e2),e4,e5⟩
  · have I1:Inv X pins σ H { s with heap:=h' }:=I.kept (t':=s.toks) fun b o e=>k b o (old b o e)
    have ln:∀ i,i < ts.length→∃ t,ts[i]? = some t:=fun i hi=>⟨_,List.getElem?_eq_getElem hi⟩
    have g0:(0:Nat) < ts.length∨ts = []:=by
      cases ts with
      | nil=>exact .inr rfl
      | cons _ _=>exact .inl (by simp)
    obtain ⟨d,ed⟩:∃ d:Addr×Str,True:=⟨(0,⟨#[]⟩),trivial⟩
    have lt:∀ i∈idx.toList,i < ts.length:=fun i hi=>by
      have:=List.mem_range.mp (hp.2.mem_iff.mp hi)
      omega
    have eo:outBy its idx = (idx.toList.map fun i=>ts.getD i d).map fun t=>Value.ref t.1:=by
      unfold outBy
      rw [List.map_map]
      refine List.map_congr_left fun i hi=>?_
      have hl:=lt i hi
      rw [ei]
      simp [hl]
    have pm:(idx.toList.map fun i=>ts.getD i d).Perm ts:=by
      have h3:=hp.2.map fun i=>ts.getD i d
      have e3:(List.range its.length).map (fun i=>ts.getD i d) = ts:=by
        refine List.ext_getElem? fun i=>?_
        rw [List.getElem?_map,li]
        by_cases hi:i < ts.length
        · simp [hi]
        · simp [hi]
      rw [e3] at h3
      exact h3
    have so:sortedS ((idx.toList.map fun i=>ts.getD i d).map (·.2)) = true:=by
      apply sortedS_of_pairwise
      rw [List.pairwise_iff_getElem]
      intro i j hi hj hij
      have hi':i < idx.size:=by simpa using hi
      have hj':j < idx.size:=by simpa using hj
      have h4:=up i j hij (by rw [← hp.1]; exact hj')
      have li':=lt idx[i] (by simp)
      have lj':=lt idx[j] (by simp)
      simp only [List.getElem_map,Array.getElem_toList]
      rw [ltCps_eq]
      have e5:idx.getD i 0 = idx[i]:=by simp [Array.getD,hi']
      have e6:idx.getD j 0 = idx[j]:=by simp [Array.getD,hj']
      rw [e5,e6,decide_eq_true_eq] at h4
      have e7:(ts.map fun t:Addr×Str=>t.2).getD idx[i] (⟨#[]⟩:Str) = (ts.getD idx[i] d).2:=by simp [li']
      have e8:(ts.map fun t:Addr×Str=>t.2).getD idx[j] (⟨#[]⟩:Str) = (ts.getD idx[j] d).2:=by simp [lj']
      rw [e7,e8] at h4
      exact decide_eq_false fun z=>absurd (List.lt_trans h4 z) (List.lt_irrefl _)
    rw [eo] at e
    have lp':s.heap.objs.size≤p:=Nat.le_trans (by
      rcases Nat.lt_or_ge s.heap.objs.size h1.objs.size with g | g
      · exact Nat.le_of_lt g
      · exact Nat.le_of_eq (Nat.le_antisymm hsz g)) lp
    refine ⟨.ref p,_,I.laid (t':=s.toks) (o:=.lst ((idx.toList.map fun i=>ts.getD i d).map fun t=>V.ref t.1)) (fun b o e=>k b o (old b o e)) lp' ?_,rfl,q _ _ pm so (I.hok.fresh lp')⟩
    refine ⟨?_,_,c,vals_refs_of _,e⟩
    rw [List.length_map,pm.length_eq,sizeLine_eq]
    omega
end
end L2
namespace L2
section
open PySem PySem.Calls PyProof.Rows
variable {prog:Program} {w:World} {A:Around} {E:Value→Shared→Prop} {s:Shared}
theorem ints_at:∀ {vs:List Value} {ns:List Int},IntsAre vs ns→∀ (i:Nat) (v:Value),vs[i]? = some v→∃ n t,v = .int n t∧ns[i]? = some n
  | _,_,.nil,i,v,h=>by simp at h
  | _,_,.cons n t h,0,v,e=>by
    simp at e
    exact ⟨n,t,e.symm,rfl⟩
  | _,_,.cons n t h,i + 1,v,e=>by
    obtain ⟨m,u,h1,h2⟩:=ints_at h i v (by simpa using e)
    exact ⟨m,u,h1,by simpa using h2⟩
theorem ints_new {led:Bool} {h:Heap} {a:Addr} {ns:List Int} (e:h.get? a = some { cls:=.type "set",dict:=none,data:=.set #[] 0 (.fresh 0 0 led) }):h.SetOf (intKind prog w) a (fun k=>decide (k∈ns.take 0)) 0:=
  ⟨_,#[],0,_,e,⟨rfl,rfl,rfl⟩,rfl,(fun _ hx=>nomatch hx),fun k=>by simp,by unfold scanBound; decide,rfl,rfl⟩
theorem take_new {ns:List Int} (nd:ns.Nodup) {i:Nat} {n:Int} (h:ns[i]? = some n):n ∉ ns.take i:=fun hm=>by
  obtain ⟨j,hj,e⟩:=List.getElem_of_mem hm
  have hi:=(List.getElem?_eq_some_iff.mp h).1
  rw [List.length_take] at hj
  rw [List.getElem_take] at e
  have e2:ns[i] = n:=(List.getElem?_eq_some_iff.mp h).2
  exact List.pairwise_iff_getElem.mp nd j i (by omega) hi (by omega) (e.trans e2.symm)
end
section
open PySem PySem.Calls PySem.Spec PyProof.Rows
variable {X:Cx}
theorem call_lenSet:CallR X (.builtin "len") (fun xs H Q=>∃ (a:Addr) (f:Int→Bool) (n:Nat),xs = [.ref a]∧H a = some (.set f n)∧Q (.int n) H):=by
  intro pins s σ H xs us Q I r h
  obtain ⟨a,f,n,rfl,h1,q⟩:=h
  obtain ⟨u,rfl,ru⟩:=vals1 r
  cases ru
  obtain ⟨o,es,ep,t,ho,hex,hd,_,_,hb,hf,hn⟩:=(show ObjOk X.prog X.w H s.heap a (.set f n) from I.hok a _ h1)
  have hb':es.size < 4096:=hb
  refine Calls.call_function_entry kind_len plain_len entry_len (args_len1 _) (wpAny_len_body_set ho hex hd hf (by omega) ?_)
  rw [hn]
  exact ⟨.int n,H,(I.tok _),⟨_,rfl⟩,q⟩
end
end L2
namespace L2
section
open PySem PySem.Calls PySem.Spec PyProof.Rows PySem.Builtin.Str
variable {X:Cx}
end
end L2
namespace L2
open PySem PySem.Spec PyProof.Rows
section
variable {prog:Program} {w:World} {A:Around} {E:Value→Shared→Prop} {s:Shared} {it:Addr} {fp:List Addr} {n i:Nat} {P:Nat→Value→Prop} {St:Nat→Heap→Prop}
end
section
variable {prog:Program} {w:World} {A:Around} {E:Value→Shared→Prop} {s:Shared} {z TI TO i1 i2:Addr} {f1 f2:List Addr} {n i:Nat} {P1 P2:Nat→Value→Prop} {St1 St2:Nat→Heap→Prop} {a b:Value}
end
section
variable {prog:Program} {w:World} {A:Around} {E:Value→Shared→Prop} {s:Shared} {z TI TO i1 i2:Addr} {f1 f2:List Addr} {n i:Nat} {P1 P2:Nat→Value→Prop} {St1 St2:Nat→Heap→Prop} {a b:Value}
end
def itCls:Bool→String
  | true=>"list_iterator"
  | false=>"tuple_iterator"
def SrcIt (k:Bool) (h:Heap) (it a:Addr) (i:Nat):Prop:=∃ o,h.get? it = some o∧o.cls = .type (itCls k)∧o.data = .fields #[.ref a,.int i 0]
def Src:Bool→Heap→Addr→Array Value→Prop
  | true,h,a,its=>h.IsList a its
  | false,h,a,its=>h.IsTuple a its
def SqS (K:PySem.W.Frag):Bool→Hp→Addr→List V→Prop
  | true,H,a,xs=>SqL K H a xs
  | false,H,a,xs=>SqT K H a xs
theorem Src.push {h:Heap} {a:Addr} {its:Array Value} (o:Obj):(k:Bool)→Src k h a its→Src k (h.push o) a its
  | true,⟨x,e,r⟩=>⟨x,Heap.get?_push_of_some _ e,r⟩
  | false,⟨x,e,r⟩=>⟨x,Heap.get?_push_of_some _ e,r⟩
section
variable {prog:Program} {w:World} {A:Around} {E:Value→Shared→Prop} {s:Shared}
end
section
variable {X:Cx} {pins:List (Addr×Obj)} {σ:St} {H:Hp} {s:Shared} {a:Addr} {xs ys:List V}
theorem Inv.src (I:Inv X pins σ H s):(k:Bool)→SqS X.K k H a xs→∃ its:List Value,Vals xs its∧Src k s.heap a its.toArray
  | true,h=>let ⟨its,r,p,_⟩:=I.list h; ⟨its,r,p.isList⟩
  | false,h=>let ⟨its,r,p,_⟩:=I.tuple h; ⟨its,r,p⟩
theorem Same.src {K:PySem.W.Frag} {H H':Hp} (e:Same H H'):(k:Bool)→SqS K k H a xs→SqS K k H' a xs
  | true,h=>e.seq h
  | false,h=>by
    rcases h with (h | ⟨o,h⟩) | h
    · exact .inl (.inl (e _ _ h))
    · exact .inl (.inr ⟨o,e _ _ h⟩)
    · exact .inr h
end
theorem SrcIt.extBut {k:Bool} {h h':Heap} {a b l:Addr} {i:Nat} (x:SrcIt k h a l i) (hs:Heap.ExtBut b h h') (hab:a≠b):SrcIt k h' a l i:=let ⟨o,e,r⟩:=x; ⟨o,hs _ _ hab e,r⟩
section
variable {X:Cx} {els:List Expr} {kk:Nat} {pp:Pos}
end
end L2
namespace L2
section
open PySem PySem.Calls PySem.Spec PyProof.Rows
def TupK (K:PySem.W.Frag) (a:Addr) (ks:List Str):Prop:=∃ (o:Obj) (its:Array Value) (n:Nat),K.lookup a = some o∧o.cls = .type "tuple"∧o.data = .seq its n∧its.size≤sizeLine∧Vals (ks.map V.str) its.toList
inductive TabRows (w:World) (K:PySem.W.Frag):List (Str×List Str)→List DictEntry→Prop
  | nil:TabRows w K [] []
  | cons {x:Str} {ks:List Str} {t:Tok} {hv:Int} {a:Addr} {tb:List (Str×List Str)} {es:List DictEntry}:hv = keyH w (.inr x)→TupK K a ks→TabRows w K tb es→TabRows w K ((x,ks) :: tb) (⟨hv,.str x t,.ref a⟩ :: es)
variable {X:Cx}
end
end L2
namespace L2
section
open PySem PySem.Builtin.Str
theorem at_one {x:Str} {c i:Nat}:(i + (⟨#[c]⟩:Str).length≤x.length∧subAt x ⟨#[c]⟩ i = true)↔(cod x)[i]? = some c:=StrLaws.subAt_one x c i
end
end L2
namespace L2
section
open PySem PySem.Calls PySem.Spec PyProof.Rows PySem.Builtin.Str
variable {X:Cx}
end
section
open PySem PySem.Spec PyProof.Rows
end
section
open PySem PySem.Calls PySem.Spec PyProof.Rows
variable {X:Cx}
end
end L2
namespace L2
section
open PySem PySem.W PySem.Calls PyProof.Rows
variable {prog:Program} {w:World} {A:Around} {E:Value→Shared→Prop} {s:Shared} {a kS:Addr} {vs ks:List Value} {P:PySem.Fin→Shared→Prop}
end
end L2
namespace L2
section
open PySem PySem.W PySem.Calls PyProof.Rows
variable {prog:Program} {w:World} {A:Around} {s:Shared}
end
end L2
namespace L2
section
open PySem PySem.Spec PyProof.Rows
variable {X:Cx} {pins:List (Addr×Obj)} {σ:St} {H:Hp} {s:Shared}
def codeX (c:Addr) (qual:Str):HO:=.ext fun h=>h.CodeRec (.ref c) qual
def TabH (P:Addr) (qual:Str) (pos:Pos) (H:Hp):Prop:=H P = some (.tbl #[])∨∃ c,H P = some (.tbl #[rawInt pos.line,rawInt pos.col,.ref c])∧H c = some (codeX c qual)
def SameT (P:Addr) (H H':Hp):Prop:=∀ b o,b≠P→H b = some o→H' b = some o
theorem SameT.refl (P:Addr) (H:Hp):SameT P H H:=fun _ _ _ h=>h
theorem SameT.trans {P:Addr} {H H1 H2:Hp} (a:SameT P H H1) (b:SameT P H1 H2):SameT P H H2:=fun c o n h=>b c o n (a c o n h)
theorem Same.t {H H':Hp} (a:Same H H') (P:Addr):SameT P H H':=fun b o _ h=>a b o h
theorem TabH.some {P:Addr} {qual:Str} {pos:Pos} {H:Hp} (t:TabH P qual pos H):∃ ps,H P = some (.tbl ps):=by
  rcases t with h | ⟨c,h,_⟩
  · exact ⟨_,h⟩
  · exact ⟨_,h⟩
theorem TabH.same {P:Addr} {qual:Str} {pos:Pos} {H H':Hp} (t:TabH P qual pos H) (e:Same H H'):TabH P qual pos H':=by
  rcases t with h | ⟨c,h,h2⟩
  · exact .inl (e _ _ h)
  · exact .inr ⟨c,e _ _ h,e _ _ h2⟩
theorem SameT.free {P:Addr} {qual:Str} {pos:Pos} {H H':Hp} (e:SameT P H H') (t:TabH P qual pos H') {l:Addr} (h:H' l = none):H l = none:=by
  cases q:H l with
  | none=>rfl
  | some o=>
    by_cases z:l = P
    · obtain ⟨ps,hp⟩:=t.some
      rw [z,hp] at h; cases h
    · rw [e l o z q] at h; cases h
theorem SameT.get {P:Addr} {qual:Str} {pos:Pos} {H H':Hp} (e:SameT P H H') (t:TabH P qual pos H) {b:Addr} {o:HO} (h:H b = some o) (n:∀ ps,o≠.tbl ps):H' b = some o:=by
  refine e b o (fun z=>?_) h
  obtain ⟨ps,hp⟩:=t.some
  rw [z,hp] at h
  exact n ps (Option.some.inj h).symm
theorem refs_getA {α:Type}:∀ {ts:List (Addr×α)} {its:List Value},Vals (ts.map fun t=>V.ref t.1) its→its = ts.map fun t=>Value.ref t.1
  | [],_,.nil=>rfl
  | t :: ts,_,.cons r h=>by
    cases r
    rw [List.map_cons,refs_getA h]
theorem nodup_getD {α:Type} {d:α} {l:List α} (nd:l.Nodup) {i j:Nat} (hi:i < l.length) (hj:j < l.length) (hij:i≠j):l.getD i d≠l.getD j d:=by
  have e1:l.getD i d = l[i]:=by simp [hi]
  have e2:l.getD j d = l[j]:=by simp [hj]
  rw [e1,e2]
  have pw:=List.pairwise_iff_getElem.mp nd
  intro z
  rcases Nat.lt_or_gt_of_ne hij with q | q
  · exact pw i j hi hj q z
  · exact pw j i hj hi q z.symm
end
end L2
namespace L2
section
open PySem PySem.Spec PyProof.Rows PySem.Calls
variable {X:Cx}
structure LamAt (K:PySem.W.Frag) (mg:Str→Option Value) (base:Heap) (cdv:Value) (P:Addr):Prop where
  code:∃ c,cdv = .ref c∧PySem.W.codeHdIn K c P = true
  bm:∃ bm ob,mg "__builtins__" = some (.ref bm)∧bm≠builtinsNs∧bm≠mainGlobals∧base.get? bm = some ob∧ob.cls = .type "module"∧ob.dict = some builtinsNs∧ob.data = .plain
structure LamTx (x:Str) (params:Arguments) (scope:Scope):Prop where
  bind:∀ (qual:Str) (body:Expr) (pm cv ctv u:Value),bindArgs (PySem.W.kla_fn "<lambda>" qual params body scope [] pm cv ctv) ⟨[u],[]⟩ = pure [(x,u)]
  dflt:∀ env,defaultsOf params env = ([],[])
  clos:∀ env,closureFor scope env = pure []
  loc:scope.names.lookup x = some .local
  kind:scope.kind = .function
  co:scope.isCoroutine = false
  ge:scope.isGenerator = false
  ce:∀ y∈scope.names,y.2≠.cell
  db:(x == ("__debug__":Str)) = false
end
end L2
namespace L2
section
open PySem PySem.Spec PyProof.Rows PySem.Calls
variable {X:Cx}
end
end L2
namespace L2
section
open PySem PySem.Spec PyProof.Rows
end
end L2
namespace L2
section
open PySem PySem.W PySem.Calls PyProof.Rows
variable {prog:Program} {w:World} {A:Around} {s:Shared} {X:Cx}
theorem head_of {xs:Array Value} {v:Value} (h:xs[0]? = some v):∃ r,xs.toList = v :: r:=by
  obtain ⟨l⟩:=xs
  cases l with
  | nil=>simp at h
  | cons y r=>exact ⟨r,by simp at h; rw [h]⟩
end
end L2
namespace L2
section
open PySem
variable {α:Type}
theorem comp_selN {J:It} {ps:List α} {g:α→V} {fr:List (Option Nat)} {k:Nat} {tt:TT} {te:TE} {Q:VK} {σ:St} {H:Hp} (p:α→Bool) (P:α→V→Hp→Prop) (hP:∀ x y H1 H2,P x y H1→Same H1 H2→P x y H2)
    (hU:∀ x y H1 l us us',P x y H1→H1 l = some (.lst us)→P x y (upd H1 l (.lst us'))) (hJ:ItIs J H (ps.map g)) (hn:ps.length≤1000000)
    (htest:∀ x∈ps,∀ (H':Hp) (R:Bool→Hp→Prop),Same H H'→(∀ H'',Same H' H''→R (p x) H'')→tt ((stC fr σ).set k (some (g x))) H' R)
    (helt:∀ x∈ps,p x = true→∀ (H':Hp) (R:VK),Same H H'→(∀ y H'',Same H' H''→P x y H''→R y H'')→te ((stC fr σ).set k (some (g x))) H' R)
    (hQ:∀ l H' (ys:List (α×V)),H l = none→Same H H'→H' l = some (.lst (ys.map (·.2)))→ys.map (·.1) = ps.filter p→(∀ q∈ys,P q.1 q.2 H')→Q (.ref l) H'):tCompK fr (gName k) tt te σ Q J H:=by
  intro l hl
  refine ⟨fun i m σ' H'=>m = ps.length - i∧i≤ps.length∧(∀ y,σ'.set k y = (stC fr σ).set k y)∧Same H H'∧∃ ys:List (α×V),H' l = some (.lst (ys.map (·.2)))∧ys.map (·.1) = (ps.take i).filter p∧∀ q∈ys,P q.1 q.2 H',
    ⟨ps.length,by simp,Nat.zero_le _,fun _=>rfl,same_new hl _,[],by rw [upd_same]; rfl,rfl,fun _ h=>nomatch h⟩,?_⟩
  rintro i m σ' H' ⟨rfl,hi,hσ,hs,ys,hl',e1,hys⟩
  obtain ⟨h1,h2,h3⟩:=hJ H' hs i
  rw [List.length_map] at h1 h2 h3
  by_cases hlt:i < ps.length
  · refine .inr ⟨h1 hlt,fun x H'' y=>?_⟩
    obtain ⟨rfl,hx⟩:=h2 x H'' y
    have hx:=hx hlt
    rw [List.getElem?_map,List.getElem?_eq_getElem hlt] at hx
    cases hx
    have hm:ps[i]∈ps:=List.getElem_mem hlt
    have et:(ps.take (i + 1)).filter p = (ps.take i).filter p ++ (if p ps[i] = true then [ps[i]] else []):=by
      rw [List.take_add_one,List.getElem?_eq_getElem hlt,List.filter_append]
      cases q:p ps[i] <;> simp [q]
    have le:ys.length≤i:=by
      have a:=congrArg List.length e1
      have b:=List.length_filter_le p (ps.take i)
      rw [List.length_map] at a
      rw [List.length_take] at b
      omega
    show tt (σ'.set k (some (g ps[i]))) H'' _
    rw [hσ]
    refine htest _ hm H'' _ hs fun H0 s0=>?_
    have hs0:=hs.trans s0
    refine ite2 (fun c=>?_) (fun c=>?_)
    · refine helt _ hm c H0 _ hs0 fun v H4 s4' hv=>?_
      have s4:=s0.trans s4'
      have hl4:=s4.get hl'
      refine ⟨_,hl4,smallLt (by rw [List.length_map]; omega),ps.length - (i + 1),by omega,rfl,hlt,fun y=>by rw [List.set_set],same_upd (hs.trans s4) hl _,ys ++ [(ps[i],v)],?_,?_,fun q hq=>?_⟩
      · rw [upd_same,List.map_append]; rfl
      · rw [et,if_pos c,List.map_append,e1]; rfl
      · rcases List.mem_append.mp hq with h | h
        · exact hU _ _ _ _ _ _ (hP _ _ _ _ (hys q h) s4) hl4
        · rw [List.mem_singleton.mp h]
          exact hU _ _ _ _ _ _ hv hl4
    · exact ⟨ps.length - (i + 1),by omega,rfl,hlt,fun y=>by rw [List.set_set],hs0,ys,s0.get hl',by rw [et,if_neg c,List.append_nil]; exact e1,fun q hq=>hP _ _ _ _ (hys q hq) s0⟩
  · have e:i = ps.length:=by omega
    subst e
    exact .inl ⟨h3 (Nat.le_refl _),hQ l H' ys hl hs hl' (by rw [e1,List.take_of_length_le (Nat.le_refl _)]) hys⟩
theorem comp_sel {J:It} {ps:List α} {g:α→V} {fr:List (Option Nat)} {k:Nat} {tt:TT} {te:TE} {Q:VK} {σ:St} {H:Hp} (p:α→Bool) (P:α→V→Hp→Prop) (hP:∀ x y H1 H2,P x y H1→Same H1 H2→P x y H2)
    (hU:∀ x y H1 l us us',P x y H1→H1 l = some (.lst us)→P x y (upd H1 l (.lst us'))) (hJ:ItIs J H (ps.map g)) (hn:ps.length≤1000000)
    (htest:∀ x∈ps,∀ (H':Hp) (R:Bool→Hp→Prop),Same H H'→R (p x) H'→tt ((stC fr σ).set k (some (g x))) H' R)
    (helt:∀ x∈ps,p x = true→∀ (H':Hp) (R:VK),Same H H'→(∀ y H'',Same H' H''→P x y H''→R y H'')→te ((stC fr σ).set k (some (g x))) H' R)
    (hQ:∀ l H' (ys:List (α×V)),H l = none→Same H H'→H' l = some (.lst (ys.map (·.2)))→ys.map (·.1) = ps.filter p→(∀ q∈ys,P q.1 q.2 H')→Q (.ref l) H'):tCompK fr (gName k) tt te σ Q J H:=
  comp_selN p P hP hU hJ hn (fun x hx H' R s' hR=>htest x hx H' R s' (hR H' (Same.refl _))) helt hQ
theorem fst_map {ys:List (α×V)} {f:α→V} (h:∀ q∈ys,q.2 = f q.1):ys.map (·.2) = (ys.map (·.1)).map f:=by
  rw [List.map_map]
  exact List.map_congr_left fun q hq=>h q hq
theorem comp_selG {J:It} {ps:List α} {g:α→V} {fr:List (Option Nat)} {k:Nat} {tt:TT} {te:TE} {Q:VK} {σ:St} {H:Hp} (p:α→Bool) (f:α→V) (hJ:ItIs J H (ps.map g)) (hn:ps.length≤1000000)
    (htest:∀ x∈ps,∀ (H':Hp) (R:Bool→Hp→Prop),Same H H'→(∀ H'',Same H' H''→R (p x) H'')→tt ((stC fr σ).set k (some (g x))) H' R)
    (helt:∀ x∈ps,p x = true→∀ (H':Hp) (R:VK),Same H H'→(∀ H'',Same H' H''→R (f x) H'')→te ((stC fr σ).set k (some (g x))) H' R)
    (hQ:∀ l H',H l = none→Same H H'→H' l = some (.lst ((ps.filter p).map f))→Q (.ref l) H'):tCompK fr (gName k) tt te σ Q J H:=by
  refine comp_selN p (fun x y _=>y = f x) (fun _ _ _ _ h _=>h) (fun _ _ _ _ _ _ h _=>h) hJ hn htest (fun x hx hp H' R s' hR=>helt x hx hp H' R s' fun H'' s''=>hR _ H'' s'' rfl) fun l H' ys nl s' h' e hq=>hQ l H' nl s' ?_
  rw [← e,← fst_map hq]
  exact h'
theorem comp_selF {J:It} {ps:List α} {g:α→V} {fr:List (Option Nat)} {k:Nat} {tt:TT} {te:TE} {Q:VK} {σ:St} {H:Hp} (p:α→Bool) (f:α→V) (hJ:ItIs J H (ps.map g)) (hn:ps.length≤1000000)
    (htest:∀ x∈ps,∀ (H':Hp) (R:Bool→Hp→Prop),Same H H'→R (p x) H'→tt ((stC fr σ).set k (some (g x))) H' R)
    (helt:∀ x∈ps,p x = true→∀ (H':Hp) (R:VK),Same H H'→(∀ H'',Same H' H''→R (f x) H'')→te ((stC fr σ).set k (some (g x))) H' R)
    (hQ:∀ l H',H l = none→Same H H'→H' l = some (.lst ((ps.filter p).map f))→Q (.ref l) H'):tCompK fr (gName k) tt te σ Q J H:=
  comp_selG p f hJ hn (fun x hx H' R s' hR=>htest x hx H' R s' (hR H' (Same.refl _))) helt hQ
end
end L2
namespace L2
section
open PySem
variable {X:Cx} {K:PySem.W.Frag}
theorem op_in_seqK (h:X.K = K):OpR X (compareOp .In) (rIn K false):=by subst h; exact op_in_seq
end
end L2
namespace L2
end L2
namespace L2
section
open PySem PySem.Spec PyProof.Rows
variable {X:Cx}
end
end L2
namespace L2
section
open PySem PySem.SeqAt
open AutoSeq1 (wpAny_loadPart')
open MeetsSeq MeetsSeq2 MeetsSeq3 SeqRoads2
theorem tuple_neFst (l b:Addr) (y x:Value) (ys xs:List Value) (n n2:Nat) (dd dd2:Option Addr) (sl sl2:Array (Option Value)) :
    Meets (Builtin.«tuple.__eq__» ⟨[.ref l,.ref b],[]⟩)
      (fun A R s=>s.heap.get? l = some { cls:=.type "tuple",dict:=dd,data:=.seq (y :: ys).toArray n,slots:=sl }∧s.heap.get? b = some { cls:=.type "tuple",dict:=dd2,data:=.seq (x :: xs).toArray n2,slots:=sl2 }∧
        EqAt A.in1 s y x false∧R (.ok (.ret (.bool false))) s):=
  .of_wp fun prog w A R s h=>by
    obtain ⟨hp,g,d,tk,os⟩:=s
    obtain ⟨hl,hb,he,h⟩:=h
    have f2:=AutoSeq1.sub_tuple_tuple
    wp_walk using wpAny_loadPart' hl,wpAny_loadPart' hb,wpAny_forIn_list _ (fun rest b s'=>b.1 = none∧s' = ⟨hp,g,d,tk,os⟩∧rest = (y,x) :: ys.zip xs) _
    case turn=>
      rintro ⟨y',x'⟩ rest b s' ⟨hb',rfl,hz⟩
      cases hz
      refine wpAny_bind (he prog w _ _ ?_)
      wp_walk
      exact ⟨_,rfl,by simpa using h⟩
    case fin=>
      rintro ⟨b1,b2⟩ s' ⟨hb',rfl,hz⟩
      cases hz
    case h=>exact ⟨rfl,rfl,by simp⟩
end
section
open PySem PySem.Spec PyProof.Rows PySem.SeqAt
variable {X:Cx}
theorem rc_neFst {A:Around} {s:Shared} {l b:Addr} {y x:Value} {ys xs:List Value} (hl:IsTup s.heap l (y :: ys).toArray) (hb:IsTup s.heap b (x :: xs).toArray) (hu:A.units < cLine) (he:EqAt A.in1 s y x false):RcAt A s (.ref l) (.ref b) false:=fun prog w E Q h=>by
  obtain ⟨⟨cls,dd,data,sl⟩,ho,hc,n,hd⟩:=id hl
  obtain ⟨⟨cls2,dd2,data2,sl2⟩,ho2,hc2,n2,hd2⟩:=id hb
  simp only at hc hd hc2 hd2
  subst hc hd hc2 hd2
  exact richCompare_meets_room (op:=.Eq) ⟨_,ho,rfl⟩ ⟨_,ho2,rfl⟩ PySem.F.slot_tuple_eq PySem.F.entry_tuple_eq (PySem.F.args_tuple_eq_2 _ _) (tuple_neFst l b y x ys xs n n2 dd dd2 sl sl2)
    ⟨ho,ho2,he,show Value.bool false≠Value.notImplemented∧Q (.bool false) s from ⟨(fun x=>nomatch x),h⟩⟩ hu
end
end L2
namespace L2
section
open PySem PySem.W PySem.Calls PyProof.Rows
variable {s:Shared}
abbrev Slt (a b:Str):Prop:=a.cps.toList < b.cps.toList
theorem slt_of {a b:Str} (h:¬ Slt a b) (ne:a≠b):Slt b a:=by
  rcases Classical.em (Slt b a) with z | z
  · exact z
  · exact absurd (show a = b by
      cases a; cases b
      exact congrArg Str.mk (Array.toList_inj.mp (List.le_antisymm (List.not_lt.mp z) (List.not_lt.mp h)))) ne
end
end L2
namespace L2
section
open PySem PySem.Spec PyProof.Rows PySem.Calls
variable {X:Cx}
end
end L2
namespace L2
section
open PySem PySem.Spec PyProof.Rows PySem.SeqAt
variable {X:Cx}
end
end L2
namespace L2
section
open PySem PySem.Calls PyProof.Rows PySem.Spec
def rDictK (K:PySem.W.Frag):List V→Hp→VK→Prop:=fun xs H Q=>∃ (a:Addr) (ps:List Addr) (kvs:List (Key×V)),xs = [.ref a]∧SqL K H a (ps.map V.ref)∧ps.length = kvs.length∧kvs.length≤100000∧(kvs.map (·.1)).Nodup∧
  (∀ (i:Nat) t k v,ps[i]? = some t→kvs[i]? = some (k,v)→H t = some (.tup [kV k,v]))∧∀ d,H d = none→Q (.ref d) (upd H d (.dK kvs))
abbrev PrK (p:Key×V) (q:Key×Value×Value):Prop:=p.1 = q.1∧RelV (kV p.1) q.2.1∧RelV p.2 q.2.2
theorem pairs_exK {X:Cx} {pins:List (Addr×Obj)} {σ:St} {H:Hp} {s:Shared} (I:Inv X pins σ H s):∀ (ps:List Addr) (kvs:List (Key×V)),ps.length = kvs.length→(∀ (i:Nat) t k v,ps[i]? = some t→kvs[i]? = some (k,v)→H t = some (.tup [kV k,v]))→
    ∃ xs:List (Key×Value×Value),Paired PrK kvs xs∧∀ (i:Nat) t,ps[i]? = some t→∃ q,xs[i]? = some q∧IsTup s.heap t #[q.2.1,q.2.2]
  | [],[],_,_=>⟨[],.nil,fun i t h=>by simp at h⟩
  | [],_ :: _,h,_=>by cases h
  | _ :: _,[],h,_=>by cases h
  | t :: ps,(k,v) :: kvs,ln,hp=>by
    obtain ⟨xs,r,a⟩:=pairs_exK I ps kvs (by simpa using ln) fun i t k v e1 e2=>hp (i + 1) t k v (by simpa using e1) (by simpa using e2)
    obtain ⟨_,its,rv,it⟩:=(show ObjOk X.prog X.w H s.heap t (.tup [kV k,v]) from I.hok t _ (hp 0 t k v rfl rfl))
    cases rv with
    | @cons _ wk _ _ ra rb=>
      cases rb with
      | @cons _ wv _ _ rb rc=>
        cases rc
        refine ⟨(k,wk,wv) :: xs,.cons ⟨rfl,ra,rb⟩ r,fun i t' e=>?_⟩
        cases i with
        | zero=>simp only [List.getElem?_cons_zero,Option.some.injEq] at e; subst e; exact ⟨_,rfl,it.is⟩
        | succ i=>exact a i t' (by simpa using e)
theorem kv_of {kvs:List (Key×V)} {xs:List (Key×Value×Value)} (h:Paired PrK kvs xs):KV kvs (xs.map fun q=>(q.1,q.2.2)):=by
  induction h with
  | nil=>exact .nil
  | cons r _ ih=>exact .cons ⟨r.1,r.2.2⟩ ih
theorem keys_of {kvs:List (Key×V)} {xs:List (Key×Value×Value)} (h:Paired PrK kvs xs):xs.map (·.1) = kvs.map (·.1):=by
  induction h with
  | nil=>rfl
  | cons r _ ih=>rw [List.map_cons,List.map_cons,ih,r.1]
theorem call_dictK {X:Cx} {K:PySem.W.Frag} (hK:X.K = K) (hc:X.calm = true):CallR X (.type "dict") (rDictK K):=by
  subst hK
  intro pins s σ H xs us Q I r h
  obtain ⟨a,ps,kvs,rfl,h1,ln,hz,nd,hp,q⟩:=h
  obtain ⟨u,rfl,ru⟩:=vals1 r
  cases ru
  obtain ⟨its,r1,⟨o1,n1,e1,c1,d1,s1⟩,_⟩:=I.list h1
  obtain ⟨xs,rx,tx⟩:=pairs_exK I ps kvs ln hp
  have lx:xs.length = kvs.length:=(Paired.length rx).symm
  have ndx:(xs.map (·.1)).Nodup:=by rw [keys_of rx]; exact nd
  have li:its.length = ps.length:=by have:=r1.length; rw [List.length_map] at this; exact this.symm
  obtain ⟨c,dd,da,sl⟩:=o1
  simp only at c1 d1 s1
  subst c1 d1 s1
  refine dict_call (A:=X.A) (I.ok.hd hc) ⟨n1,_,e1⟩ (D:=fun i h=>h.DictOf (mixKind X.prog X.w) s.heap.objs.size ((xs.take i).map fun q:Key×Value×Value=>(q.1,q.2.2))) (fun i h h' ⟨o,es,ep,z1,z2⟩ k=>⟨o,es,ep,k o z1,z2⟩) (fun h e=>?_) (fun i v e=>?_) fun h' tk k' z=>?_
  · obtain ⟨o,es,ep,z1,z2⟩:=(Heap.DictOf.new (knd:=mixKind X.prog X.w) s.heap)
    have e2:(s.heap.push { cls:=.type "dict",data:=.dict #[] }).get? s.heap.objs.size = some { cls:=.type "dict",data:=.dict #[] }:=Heap.get?_push_size _ rfl
    rw [e2] at z1
    cases z1
    exact ⟨_,es,ep,e,z2⟩
  · obtain ⟨t,et,rfl⟩:=refs_at r1 i v e
    obtain ⟨⟨k,wk,wv⟩,eq,ht⟩:=tx i t et
    refine ⟨t,wk,wv,rfl,ht,fun s2 Q2 E2 old hm hQ=>?_⟩
    have rk:RelV (kV k) wk:=by
      obtain ⟨p,_,e1,e2,_⟩:=paired_mem rx (List.mem_of_getElem? eq)
      rw [e1] at e2
      exact e2
    have ts:xs.take (i + 1) = xs.take i ++ [(k,wk,wv)]:=by rw [List.take_add_one,eq]; rfl
    have no:valueAt ((xs.take i).map fun q:Key×Value×Value=>(q.1,q.2.2)) k = none:=by
      unfold valueAt
      rw [Option.map_eq_none_iff,List.find?_eq_none]
      intro x hx z
      have e:=of_decide_eq_true z
      obtain ⟨y,hy,rfl⟩:=List.mem_map.mp hx
      have:=ndx.sublist ((List.take_sublist (i + 1) xs).map _)
      rw [ts,List.map_append,List.nodup_append] at this
      exact this.2.2 _ (List.mem_map.mpr ⟨y,hy,rfl⟩) k (by simp) e
    refine wpAny_dictSet_pairs (hsz:=?_) (k:=k) (kV_is rk) hm fun h' hm' sb=>hQ _ _ ?_ sb
    · rw [stored_absent no] at hm'
      rw [ts,List.map_append]
      exact hm'
    · rw [List.length_map,List.length_take,sizeLine_eq]; omega
  · have hb:=I.big
    rw [li,ln,← lx,List.take_length] at z
    refine ⟨.ref s.heap.objs.size,_,I.laid (o:=.dK kvs) k' (Nat.le_refl _) (dk_new (by rw [sizeLine_eq]; omega) ?_ (kv_of rx) z),rfl,q _ I.fresh⟩
    rw [beq_eq_false_iff_ne]
    exact Nat.ne_of_gt hb
end
end L2
namespace L2
section
open PySem PySem.Calls PyProof.Rows
variable {prog:Program} {w:World} {A:Around} {E:Value→Shared→Prop} {s:Shared}
def cI (ns:List Int):Nat→Nat
  | 0=>0
  | i + 1=>match ns[i]? with
    | some x=>if decide (x∈ns.take i) = true then cI ns i else cI ns i + 1
    | none=>cI ns i
theorem cI_succ {ns:List Int} {i:Nat} {x:Int} (h:ns[i]? = some x):cI ns (i + 1) = if decide (x∈ns.take i) = true then cI ns i else cI ns i + 1:=by
  show (match ns[i]? with | some x=>if decide (x∈ns.take i) = true then cI ns i else cI ns i + 1 | none=>cI ns i) = _
  rw [h]
theorem cI_le (ns:List Int):∀ i,cI ns i≤i
  | 0=>Nat.le_refl _
  | i + 1=>by
    have:=cI_le ns i
    cases h:ns[i]? with
    | none=>show (match ns[i]? with | some x=>if decide (x∈ns.take i) = true then cI ns i else cI ns i + 1 | none=>cI ns i)≤_; rw [h]; dsimp only; omega
    | some x=>rw [cI_succ h]; split <;> omega
theorem cI_one {ns:List Int} (nd:ns.Nodup):∀ i,i≤ns.length→cI ns i = i
  | 0,_=>rfl
  | i + 1,hi=>by
    have h:ns[i]? = some ns[i]:=List.getElem?_eq_getElem (by omega)
    rw [cI_succ h,if_neg (by simpa using take_new nd h),cI_one nd i (by omega)]
theorem cI_lt {ns:List Int} {i j:Nat} {x:Int} (hi:ns[i]? = some x) (hj:ns[j]? = some x) (ij:i < j):∀ m,j < m→m≤ns.length→cI ns m < m
  | 0,h,_=>by omega
  | m + 1,h,hm=>by
    have hx:ns[m]? = some ns[m]:=List.getElem?_eq_getElem (by omega)
    rw [cI_succ hx]
    by_cases e:m = j
    · subst e
      have:ns[m] = x:=by rw [hx] at hj; exact Option.some.inj hj
      rw [this,if_pos (decide_eq_true (List.mem_of_getElem? (i:=i) (by rw [List.getElem?_take,if_pos ij]; exact hi)))]
      have:=cI_le ns m
      omega
    · have:=cI_lt hi hj ij m (by omega) (by omega)
      split <;> omega
theorem fill_intsD {R:Result→Shared→Prop} {I S:Addr} {fp:List Addr} {vs:List Value} {ns:List Int} {St:Nat→Heap→Prop} (W:Walks prog w A.in1 I fp [I] vs.length (fun i v=>vs[i]? = some v) St) (nS:S ∉ fp) (hs:IntsAre vs ns) (hb:vs.length + 1 < scanBound) :
    ∀ (k i:Nat) (s:Shared),vs.length - i = k→i≤vs.length→St i s.heap→s.heap.SetOf (intKind prog w) S (fun k=>decide (k∈ns.take i)) (cI ns i)→
      (∀ h' tk,(∀ b o,b ∉ [S,I]→s.heap.get? b = some o→h'.get? b = some o)→h'.SetOf (intKind prog w) S (fun k=>decide (k∈ns)) (cI ns ns.length)→R (.ok (.ret .none)) { s with heap:=h',toks:=tk })→codeAny (model prog w) A (.builtin "set.update.loop" ⟨[.ref S,.ref I],[]⟩) R s:=by
  have nI:S ∉ [I]:=fun z=>nS (W.sub _ z)
  have ln:vs.length = ns.length:=IntsAre.length hs
  have keep:∀ {f:Int→Bool} {n:Nat} {h h':Heap},h.SetOf (intKind prog w) S f n→(∀ o,h.get? S = some o→h'.get? S = some o)→h'.SetOf (intKind prog w) S f n:=fun {f n h h'} ⟨o,es,ep,t,ho,r⟩ k=>⟨o,es,ep,t,k o ho,r⟩
  intro k
  induction k with
  | zero=>
    intro i s hk hi st T q
    have e:i = vs.length:=by omega
    subst e
    refine codeAny_builtin PyProof.Rows.F.entry_set_update_loop ?_
    rw [Around.under_plainId PyProof.Rows.F.plain_set_update_loop _]
    refine wpAny_bind (m:=pyNext (.ref I)) (W.done s _ _ st fun h' tk k'=>?_)
    rw [ln,List.take_length] at T
    exact wpAny_pure (q h' tk (fun b o n e=>k' b o (fun z=>n (List.mem_cons_of_mem _ z)) e) (keep T fun o e=>k' S o nI e))
  | succ k ih=>
    intro i s hk hi st T q
    have lt:i < vs.length:=by omega
    refine codeAny_builtin PyProof.Rows.F.entry_set_update_loop ?_
    rw [Around.under_plainId PyProof.Rows.F.plain_set_update_loop _]
    refine wpAny_bind (m:=pyNext (.ref I)) (W.item i s _ _ lt st fun v h' tk hv st' k'=>?_)
    obtain ⟨x,t,rfl,hx⟩:=ints_at hs i v hv
    have hkey:(intKind prog w).is x (.int x t) = true:=by show Value.isInt x (.int x t) = true; simp [Value.isInt]
    refine wpAny_bind (m:=holding [Value.int x t] (setAdd S (.int x t))) (wpAny_holding ?_)
    unfold setAdd
    refine wpAny_holding (wpAny_bind ((intKind prog w).pyHash hkey ?_))
    refine wpAny_setAddHashed_of hkey rfl (keep T fun o e=>k' S o nI e) (by have:=cI_le ns i; omega) fun h2 sb T2=>?_
    rw [← cI_succ hx] at T2
    have e2:(fun k'=>decide (k'∈ns.take i) || decide (k' = x)) = fun k'=>decide (k'∈ns.take (i + 1)):=by
      funext k'
      rw [List.take_add_one,hx,Bool.eq_iff_iff]
      simp
    rw [e2] at T2
    refine wpAny_pure ⟨plainId_quiet PyProof.Rows.F.plain_set_update_loop _,ih (i + 1) _ (by omega) lt (W.frame _ _ _ st' fun b hb o e=>?_) T2 fun h3 tk3 k3 T3=>?_⟩
    · rw [sb.2 b (fun z=>nS (z ▸ hb))]; exact e
    · refine q h3 tk3 (fun b o n e=>k3 b o n ?_) T3
      rw [sb.2 b (fun z=>n (by simp [z]))]
      exact k' b o (fun z=>n (List.mem_cons_of_mem _ z)) e
theorem set_intsD {lq:Addr} {vs:List Value} {ns:List Int} {Q:Value→Shared→Prop} (hh:A.handled = none) (hl:s.heap.IsList lq vs.toArray) (hs:IntsAre vs ns) (hb:vs.length + 1 < scanBound)
    (q:∀ h' tk,(∀ b o,s.heap.get? b = some o→h'.get? b = some o)→h'.SetOf (intKind prog w) s.heap.objs.size (fun k=>decide (k∈ns)) (cI ns ns.length)→Q (.ref s.heap.objs.size) { s with heap:=h',toks:=tk }):wpAny (model prog w) A (call (.type "set") [.ref lq]) Q E s:=by
  obtain ⟨c,tl,hmro⟩:=PySem.F.called_set.mro
  have hmade:=PySem.F.called_set.made
  have hsub:=PySem.F.called_set.sub
  refine wpAny_call (codeAny_of_tree (wpAny_pure ⟨Code.quiet_builtin _ (by decide +kernel),codeAny_builtin PySem.F.entry_type_call ?_⟩))
  rw [Around.under_plain (weight_type_call_type "set" [.ref lq] []) rfl]
  have h1:=PySem.F.called_set.notType
  have h2:=PySem.F.called_set.canCreate
  have hct:=PySem.F.typeCall_set_1 (.ref lq)
  repeat (any_goals (first | assumption | wp_step))
  refine codeAny_mono (set_made (.ref lq) (E:=E) (Q₁:=fun obj s₁=>obj = .ref s.heap.objs.size∧s₁ = { s with heap:=s.heap.push { cls:=.type "set",dict:=none,data:=.set #[] 0 (.fresh 0 0 (!ByText w)) } }) ⟨rfl,rfl⟩) fun r s₁ hr=>?_
  match r,hr with
  | .error e,hr=>exact hr
  | .ok (.ret obj),hr=>
    obtain ⟨rfl,rfl⟩:=hr
    have hS:(s.heap.push { cls:=.type "set",dict:=none,data:=.set #[] 0 (.fresh 0 0 (!ByText w)) }).get? s.heap.objs.size = some { cls:=.type "set",dict:=none,data:=.set #[] 0 (.fresh 0 0 (!ByText w)) }:=Heap.get?_push_size _ rfl
    have hT:Shared.TypeIs { s with heap:=s.heap.push { cls:=.type "set",dict:=none,data:=.set #[] 0 (.fresh 0 0 (!ByText w)) } } (.ref s.heap.objs.size) "set":=⟨_,hS,rfl⟩
    have hli:=PySem.F.called_set.init.lookup
    have hbi:=PySem.F.called_set.init.bind (.ref s.heap.objs.size)
    repeat (any_goals (first | assumption | wp_step))
    refine codeAny_mono (codeAny_call_builtin (R:=wants (fun r s₂=>r = .none∧∃ h' tk,s₂ = { s with heap:=h',toks:=tk }∧(∀ b o,s.heap.get? b = some o→h'.get? b = some o)∧h'.SetOf (intKind prog w) s.heap.objs.size (fun k=>decide (k∈ns)) (cI ns ns.length)) E) PySem.F.called_set.init.plain PySem.F.entry_set_init (check_set_init_1 hT ?_)) fun r₂ s₂ hr₂=>?_
    · obtain ⟨⟨cl,dl,tl,sl⟩,el,hcl,nl,hdl⟩:=hl
      simp only at hcl hdl
      subst hcl; subst hdl
      have el':=Heap.get?_push_of_some ({ cls:=.type "set",dict:=none,data:=.set #[] 0 (.fresh 0 0 (!ByText w)) }:Obj) el
      have lt:lq < s.heap.objs.size:=Heap.lt_size el
      have l1:(s.heap.push { cls:=.type "set",dict:=none,data:=.set #[] 0 (.fresh 0 0 (!ByText w)) }).IsList lq vs.toArray:=⟨_,el',rfl,nl,rfl⟩
      have n1:=PySem.F.sub_list_set
      have n2:=PySem.F.sub_list_frozenset
      have n3:(Value.type "list" == Value.type "dict") = false:=by decide
      unfold Builtin.«set.__init__» Builtin.Frozenset.updateFrom noKeywords
      generalize ePI:pyIter = PI
      wp_walk
      subst ePI
      refine wpAny_pyIter_list l1 (wpAny_bind (wpAny_runValue ?_))
      have nI:lq≠(s.heap.push { cls:=.type "set",dict:=none,data:=.set #[] 0 (.fresh 0 0 (!ByText w)) }).objs.size:=by rw [Heap.size_push]; exact Nat.ne_of_lt (Nat.lt_succ_of_lt lt)
      have nS:s.heap.objs.size ∉ [(s.heap.push { cls:=.type "set",dict:=none,data:=.set #[] 0 (.fresh 0 0 (!ByText w)) }).objs.size,lq]:=by
        rw [Heap.size_push]
        simp only [List.mem_cons,List.not_mem_nil,or_false,not_or]
        exact ⟨Nat.ne_of_lt (Nat.lt_succ_self _),Nat.ne_of_gt lt⟩
      have hA:A.in1.in1.in1.handled = none:=by simp [hh]
      have W:=Walks.list (prog:=prog) (w:=w) hA (s.heap.push { cls:=.type "set",dict:=none,data:=.set #[] 0 (.fresh 0 0 (!ByText w)) }).objs.size lq nI vs.toArray
      have W2:Walks prog w A.in1.in1.in1 (s.heap.push { cls:=.type "set",dict:=none,data:=.set #[] 0 (.fresh 0 0 (!ByText w)) }).objs.size [(s.heap.push { cls:=.type "set",dict:=none,data:=.set #[] 0 (.fresh 0 0 (!ByText w)) }).objs.size,lq] [(s.heap.push { cls:=.type "set",dict:=none,data:=.set #[] 0 (.fresh 0 0 (!ByText w)) }).objs.size] vs.length (fun i v=>vs[i]? = some v) (fun i h=>h.IsListIter (s.heap.push { cls:=.type "set",dict:=none,data:=.set #[] 0 (.fresh 0 0 (!ByText w)) }).objs.size lq i∧h.IsList lq vs.toArray):=by
        simpa only [List.size_toArray,List.getElem?_toArray] using W
      refine fill_intsD W2 nS hs hb vs.length 0 _ (by omega) (Nat.zero_le _) ⟨⟨_,Heap.get?_push_size _ rfl,rfl,rfl⟩,l1.push _⟩ (ints_new (Heap.get?_push_of_some _ hS)) fun h' tk k' T=>?_
      refine wpAny_pure (wpAny_pure ⟨rfl,h',tk,rfl,fun b o e=>k' b o (fun z=>?_) (Heap.get?_push_of_some _ (Heap.get?_push_of_some _ e)),T⟩)
      have lb:=Heap.lt_size e
      rw [Heap.size_push] at z
      simp only [List.mem_cons,List.not_mem_nil,or_false] at z
      rcases z with rfl | rfl
      · exact absurd lb (Nat.lt_irrefl _)
      · exact absurd lb (Nat.not_lt.mpr (Nat.le_succ _))
    · match r₂,hr₂ with
      | .error e,hr₂=>exact hr₂
      | .ok (.ret r),hr₂=>
        obtain ⟨rfl,h',tk,rfl,k',T⟩:=hr₂
        repeat (any_goals (first | assumption | wp_step))
        exact q _ _ k' T
      | .ok .next,hr₂=>exact hr₂.elim
end
section
open PySem PySem.Calls PySem.Spec PyProof.Rows
variable {X:Cx}
def rSetD (K:PySem.W.Frag):List V→Hp→VK→Prop:=fun xs H Q=>∃ (a:Addr) (ns:List Int),xs = [.ref a]∧SqL K H a (ns.map V.int)∧ns.length≤1000∧∀ p,H p = none→Q (.ref p) (upd H p (.set (fun k=>decide (k∈ns)) (cI ns ns.length)))
theorem call_setD {K:PySem.W.Frag} (hK:X.K = K) (hc:X.calm = true):CallR X (.type "set") (rSetD K):=by
  subst hK
  intro pins s σ H xs us Q I r h
  obtain ⟨a,ns,rfl,h1,few,q⟩:=h
  obtain ⟨u,rfl,ru⟩:=vals1 r
  cases ru
  obtain ⟨its,r1,p1,_⟩:=I.list h1
  have hs:=intsAre_of r1
  have ln:=IntsAre.length hs
  refine set_intsD (I.ok.hd hc) p1.isList hs (by rw [ln]; unfold scanBound; omega) fun h' tk k T=>⟨.ref s.heap.objs.size,_,I.laid (t':=tk) k (Nat.le_refl _) (?_:ObjOk X.prog X.w _ h' _ (.set (fun k=>decide (k∈ns)) (cI ns ns.length))),rfl,q _ (I.hok.fresh (Nat.le_refl _))⟩
  exact T
end
end L2
namespace L2
open PySem
theorem comp_enumN {K:PySem.W.Frag} {a:Addr} {xs:List V} {fr:List (Option Nat)} {i0 i1 n:Nat} {te:TE} {Q:VK} {σ:St} {H:Hp} (P:Nat→V→Hp→Prop) (hP:∀ i y H1 H2,P i y H1→Same H1 H2→P i y H2)
    (hU:∀ i y H1 l us us',P i y H1→H1 l = some (.lst us)→P i y (upd H1 l (.lst us'))) (h1:H a = some (.lst xs)) (hn:xs.length≤1000000) (h2:n = 2) (hne:i0≠i1)
    (helt:∀ (i:Nat) (x:V) (H':Hp) (R:VK),xs[i]? = some x→Same H H'→(∀ y H'',Same H' H''→P i y H''→R y H'')→te (((stC fr σ).set i0 (some (.int (i:Int)))).set i1 (some x)) H' R)
    (hQ:∀ l H' (ys:List V),H l = none→Same H H'→H' l = some (.lst ys)→ys.length = xs.length→(∀ (i:Nat) y,ys[i]? = some y→P i y H')→Q (.ref l) H') :
    tCompK fr (gTup K n (gCons (gName i0) (gCons (gName i1) gNil))) tYes te σ Q (Ite0 K a) H:=by
  intro l hl
  refine ⟨fun i m σ' H'=>m = xs.length - i∧i≤xs.length∧(∀ y z,(σ'.set i0 y).set i1 z = ((stC fr σ).set i0 y).set i1 z)∧Same H H'∧∃ ys:List V,H' l = some (.lst ys)∧ys.length = i∧∀ (i:Nat) y,ys[i]? = some y→P i y H',⟨xs.length,by simp,Nat.zero_le _,fun _ _=>rfl,same_new hl _,[],upd_same,rfl,fun _ _ h=>by simp at h⟩,?_⟩
  rintro i m σ' H' ⟨rfl,hi,hσ,hs,ys,hl',ly,hys⟩
  have ha':=hs.get h1
  by_cases hlt:i < xs.length
  · refine .inr ⟨⟨xs,xs[i],SqL.of ha',by simp [hlt]⟩,?_⟩
    rintro x H'' ⟨T,y,hT,rfl,hy,rfl⟩
    have hyi:=hy xs (SqL.of ha')
    have st:=same_new hT (.tup [.int (i:Int),y])
    subst h2
    refine ⟨T,_,rfl,SqT.of upd_same,rfl,_,_,rfl,_,_,rfl,rfl,?_⟩
    show te ((σ'.set i0 (some (.int (i:Int)))).set i1 (some y)) _ _
    rw [hσ]
    refine helt i y _ _ hyi (hs.trans st) fun v H4 s4 hv=>?_
    have hl4:=s4.get (st.get hl')
    refine ⟨_,hl4,smallLt (by omega),xs.length - (i + 1),by omega,rfl,hlt,fun y z=>?_,same_upd ((hs.trans st).trans s4) hl _,ys ++ [v],upd_same,by rw [List.length_append,ly]; rfl,fun j z hj=>?_⟩
    · rw [List.set_comm _ _ (Ne.symm hne),List.set_set,List.set_set]
    · by_cases c:j < ys.length
      · rw [List.getElem?_append_left c] at hj
        exact hU _ _ _ _ _ _ (hP _ _ _ _ (hys j z hj) (st.trans s4)) hl4
      · rw [List.getElem?_append_right (by omega)] at hj
        have h0:j - ys.length = 0:=by
          have:=(List.getElem?_eq_some_iff.mp hj).1
          simp at this
          omega
        rw [h0] at hj
        cases hj
        rw [show j = i by omega]
        exact hU _ _ _ _ _ _ hv hl4
  · have e:i = xs.length:=by omega
    subst e
    exact .inl ⟨⟨xs,SqL.of ha',rfl⟩,hQ l H' ys hl hs hl' ly hys⟩
end L2
namespace L2
section
open PySem PySem.SeqAt
open AutoSeq1 (wpAny_loadPart')
open MeetsSeq MeetsSeq2 MeetsSeq3 SeqRoads2
theorem tuple_find (l:Addr) (items:Array Value) (n:Nat) (dd:Option Addr) (sl:Array (Option Value)) (x:Value) (e:Value→Bool) (j:Nat) (hj:j < items.size) (hit:e items[j] = true) (hno:∀ m (hm:m < items.size),m < j→e items[m] = false) :
    Meets (Builtin.«tuple.index» ⟨[.ref l,x],[]⟩)
      (fun A R s=>s.heap.get? l = some { cls:=.type "tuple",dict:=dd,data:=.seq items n,slots:=sl }∧(∀ y∈items,EqAt A.in1 s y x (e y))∧∀ t,R (.ok (.ret (.int j t))) { s with toks:=s.toks + 1 }):=
  .of_wp fun prog w A R s h=>by
    obtain ⟨hp,g,d,tk,os⟩:=s
    obtain ⟨hl,he,h⟩:=h
    unfold Builtin.«tuple.index»
    simp only [Std.Legacy.Range.forIn_eq_forIn_range',Std.Legacy.Range.size,Nat.sub_zero,Nat.add_sub_cancel,Nat.div_one]
    wp_walk using wpAny_loadPart' hl,wpAny_forIn_list _ (fun rest b s'=>b.1 = none∧s' = ⟨hp,g,d,tk,os⟩∧∃ i,i≤j∧rest = List.range' i (items.size - i)) _
    case turn=>
      rintro i rest b s' ⟨hb',rfl,i0,hle,hz⟩
      have lt:i0 < items.size:=by omega
      rw [show items.size - i0 = (items.size - (i0 + 1)) + 1 by omega,List.range'_succ] at hz
      injection hz with h1 h2
      subst h1
      have hx:items[i]? = some items[i]:=by simp [lt]
      simp only [hx]
      refine wpAny_bind (he _ (Array.getElem_mem lt) prog w _ _ ?_)
      by_cases c:i = j
      · subst c
        rw [hit]
        wp_walk
        exact ⟨_,rfl,h _⟩
      · rw [hno i lt (by omega)]
        wp_walk
        exact ⟨rfl,rfl,i + 1,by omega,h2⟩
    case fin=>
      rintro ⟨b1,b2⟩ s' ⟨hb',rfl,i0,hle,hz⟩
      have:=congrArg List.length hz
      simp at this
      omega
    case h=>exact ⟨rfl,rfl,0,Nat.zero_le _,by simp⟩
end
section
open PySem PySem.Spec PyProof.Rows PySem.SeqAt
variable {X:Cx}
def rTIdx:V→List V→Hp→VK→Prop:=fun x vs H Q=>∃ (l:Addr) (bs:List (Addr×Str)) (j:Nat) (b:Addr×Str),x = .ref l∧vs = [.ref b.1]∧H l = some (.tup (bs.map fun b=>V.ref b.1))∧(∀ b∈bs,∃ r,H b.1 = some (.tup (.str b.2 :: r)))∧(bs.map (·.2)).Nodup∧bs[j]? = some b∧Q (.int j) H
theorem mt_tindex (hu:X.A.units + 150 < cLine):MtM X "tuple.index" rTIdx:=by
  intro pins s σ H x vs v us Q I rx rv h
  obtain ⟨l,bs,j,b,rfl,rfl,hH,hb,nd,hj,q⟩:=h
  cases rx
  obtain ⟨u,rfl,ru⟩:=rv.one
  cases ru
  obtain ⟨its,r,⟨⟨cls,dd,data,sl⟩,e,hc,n,hd⟩,_⟩:=I.tuple (SqT.of (K:=X.K) hH)
  simp only at hc hd
  subst hc hd
  have ei:=refs_getA r
  have li:its.length = bs.length:=by rw [ei,List.length_map]
  have jl:=(List.getElem?_eq_some_iff.mp hj).1
  have jz:j < its.toArray.size:=by rw [List.size_toArray]; omega
  have bm:=List.mem_of_getElem? hj
  have at_:∀ (m:Nat) (hm:m < its.toArray.size),∃ c,bs[m]? = some c∧its.toArray[m] = .ref c.1:=fun m hm=>by
    have hm':m < bs.length:=by rw [List.size_toArray] at hm; omega
    refine ⟨bs[m],List.getElem?_eq_getElem hm',?_⟩
    simp [ei]
  have inj:∀ c∈bs,c.2 = b.2→c = b:=fun c hc e=>by
    obtain ⟨i1,h1,e1⟩:=List.getElem_of_mem hc
    obtain ⟨i2,h2,e2⟩:=List.getElem_of_mem bm
    have pw:=List.pairwise_iff_getElem.mp nd
    rcases Nat.lt_trichotomy i1 i2 with g | g | g
    · exact absurd (by rw [List.getElem_map,List.getElem_map,e1,e2,e]) (pw i1 i2 (by rw [List.length_map]; exact h1) (by rw [List.length_map]; exact h2) g)
    · subst g; rw [← e1,← e2]
    · exact absurd (by rw [List.getElem_map,List.getElem_map,e1,e2,e]) (pw i2 i1 (by rw [List.length_map]; exact h2) (by rw [List.length_map]; exact h1) g)
  obtain ⟨rb,hrb⟩:=hb b bm
  obtain ⟨ys,rv1,t1,_⟩:=I.tuple (SqT.of (K:=X.K) hrb)
  refine call_meets PySem.F.slot_tuple_index ⟨_,e,rfl⟩ PySem.F.entry_tuple_index (PySem.F.args_tuple_index_2 _ _)
    (tuple_find l its.toArray n dd sl (.ref b.1) (fun y=>y == .ref b.1) j jz ?_ ?_) ⟨e,fun y hy=>?_,fun t=>?_⟩
  · obtain ⟨c,h1,h2⟩:=at_ j jz
    rw [hj] at h1
    cases h1
    rw [h2,beq_self_eq_true]
  · intro m hm hmj
    obtain ⟨c,h1,h2⟩:=at_ m hm
    rw [h2]
    refine beq_eq_false_iff_ne.mpr fun z=>?_
    have z:=Value.ref.inj z
    have cm:=List.mem_of_getElem? h1
    obtain ⟨rc,hrc⟩:=hb c cm
    rw [z,hrb] at hrc
    have e2:b.2 = c.2:=congrArg (fun o=>match o with | some (HO.tup (V.str s :: _))=>s | _=>c.2) hrc
    have ml:=(List.getElem?_eq_some_iff.mp h1)
    have pw:=List.pairwise_iff_getElem.mp nd
    obtain ⟨m1,e3⟩:=ml
    obtain ⟨_,e4⟩:=List.getElem?_eq_some_iff.mp hj
    exact pw m j (by rw [List.length_map]; exact m1) (by rw [List.length_map]; exact jl) hmj (by rw [List.getElem_map,List.getElem_map,e3,e4,e2])
  · obtain ⟨m,hm,rfl⟩:=Array.getElem_of_mem hy
    obtain ⟨c,h1,h2⟩:=at_ m hm
    rw [h2]
    by_cases e0:c.1 = b.1
    · rw [e0,beq_self_eq_true]
      exact EqAt.same _
    · rw [show (Value.ref c.1 == Value.ref b.1) = false from beq_eq_false_iff_ne.mpr fun q=>e0 (Value.ref.inj q)]
      obtain ⟨r2,hb2⟩:=hb c (List.mem_of_getElem? h1)
      obtain ⟨ys2,rv2,t2,_⟩:=I.tuple (SqT.of (K:=X.K) hb2)
      cases rv1 with
      | cons r1 _=>
        cases rv2 with
        | cons q1 _=>
          obtain ⟨t,rfl⟩:=r1
          obtain ⟨t',rfl⟩:=q1
          refine EqAt.of_refs e0 (rc_neFst t2 t1 (show X.A.units + 1 < cLine by omega) ?_)
          intro prog w E Q h
          refine eqBool_str ?_
          rw [show (c.2 == b.2) = false from beq_eq_false_iff_ne.mpr fun q=>e0 (congrArg (·.1) (inj c (List.mem_of_getElem? h1) q))]
          exact h
  · exact ⟨.int j,H,I.tok _,⟨_,rfl⟩,q⟩
end
end L2
namespace L2
section
open PySem PySem.SeqAt
open AutoSeq1 (wpAny_loadPart')
open MeetsSeq MeetsSeq2 MeetsSeq3 SeqRoads2
theorem tuple_neHead (l b:Addr) (y x:Value) (ys xs:List Value) (n n2:Nat) (dd dd2:Option Addr) (sl sl2:Array (Option Value)) :
    Meets (Builtin.«tuple.__ne__» ⟨[.ref l,.ref b],[]⟩)
      (fun A R s=>s.heap.get? l = some { cls:=.type "tuple",dict:=dd,data:=.seq (y :: ys).toArray n,slots:=sl }∧s.heap.get? b = some { cls:=.type "tuple",dict:=dd2,data:=.seq (x :: xs).toArray n2,slots:=sl2 }∧
        EqAt A.in1 s y x false∧R (.ok (.ret (.bool true))) s):=
  .of_wp fun prog w A R s h=>by
    obtain ⟨hp,g,d,tk,os⟩:=s
    obtain ⟨hl,hb,he,h⟩:=h
    have f2:=AutoSeq1.sub_tuple_tuple
    wp_walk using wpAny_loadPart' hl,wpAny_loadPart' hb,wpAny_forIn_list _ (fun rest b s'=>b.1 = none∧s' = ⟨hp,g,d,tk,os⟩∧rest = (y,x) :: ys.zip xs) _
    case turn=>
      rintro ⟨y',x'⟩ rest b s' ⟨hb',rfl,hz⟩
      cases hz
      refine wpAny_bind (he prog w _ _ ?_)
      wp_walk
      exact ⟨_,rfl,by simpa using h⟩
    case fin=>
      rintro ⟨b1,b2⟩ s' ⟨hb',rfl,hz⟩
      cases hz
    case h=>exact ⟨rfl,rfl,by simp⟩
end
section
open PySem PySem.Spec PyProof.Rows PySem.SeqAt
variable {X:Cx}
def rNeEn:R2:=fun x y H Q=>rNeR x y H Q∨∃ (a b:Addr) (z z':Str) (r r':List V),x = .ref a∧y = .ref b∧H a = some (.tup (.str z :: r))∧H b = some (.tup (.str z' :: r'))∧z≠z'∧Q (.bl true) H
theorem op_neEn (hu:X.A.units + 150 < cLine):OpR X (compareOp .NotEq) rNeEn:=by
  intro pins s σ H x y v u Q I rx ry h
  rcases h with h | ⟨a,b,z,z',r,r',rfl,rfl,ha,hb,ne,q⟩
  · exact op_neR hu pins s σ H x y v u Q I rx ry h
  cases rx; cases ry
  obtain ⟨ys1,rv1,t1,_⟩:=I.tuple (SqT.of (K:=X.K) ha)
  obtain ⟨ys2,rv2,t2,_⟩:=I.tuple (SqT.of (K:=X.K) hb)
  cases rv1 with
  | cons r1 _=>
    cases rv2 with
    | cons q1 _=>
      obtain ⟨t,rfl⟩:=r1
      obtain ⟨t',rfl⟩:=q1
      obtain ⟨⟨cls,dd,data,sl⟩,ho,hc,n,hd⟩:=id t1
      obtain ⟨⟨cls2,dd2,data2,sl2⟩,ho2,hc2,n2,hd2⟩:=id t2
      simp only at hc hd hc2 hd2
      subst hc hd hc2 hd2
      have he:EqAt X.A.in1 s (.str z t) (.str z' t') false:=fun prog w E Q h=>by
        refine eqBool_str ?_
        rw [show (z == z') = false from beq_eq_false_iff_ne.mpr ne]
        exact h
      exact richCompare_meets_room (op:=.NotEq) ⟨_,ho,rfl⟩ ⟨_,ho2,rfl⟩ PySem.F.slot_tuple_ne PySem.F.entry_tuple_ne (PySem.F.args_tuple_ne_2 _ _) (tuple_neHead a b _ _ _ _ n n2 dd dd2 sl sl2)
        ⟨ho,ho2,he,(fun x=>nomatch x),⟨.bl _,H,I,rfl,q⟩⟩ (by omega)
end
section
open PySem PySem.Spec PyProof.Rows
variable {X:Cx}
def tBT (r:V→List V→Hp→VK→Prop) (to:TE) (t:TA):TE:=fun σ H Q=>to σ H fun x H1=>(∃ p xs,x = .ref p∧H1 p = some (.tup xs)∧enuV xs = false)∧t σ H1 fun xs H2=>r x xs H2 Q
theorem pe_bmT {o e:Expr} {es:List Expr} {to:TE} {t:TA} {name:Str} {apos cpos:Pos} {id:String} {r:V→List V→Hp→VK→Prop} (pa:PlainAttrs "tuple") (slot:Slot "tuple" name id) (hty:typeOf (.builtin id) = pure (.type "method_descriptor")) (hm:MtM X id r) (ho:PE X o to) (ha:PA X (e :: es) t)
    (hbase:attributeBase o name X.env (eval o X.env) = eval o X.env:=by rfl)
    (hfew:((backTo cpos (starEach (e :: es) X.env)).all (fun x=>!x.1) && (backToKw cpos (keywordEach [] X.env)).all (fun x=>x.1.isSome) && decide ((e :: es).length + 0 + 0 < 30)) = true:=by rfl)
    (hline:(apos.endLine == cpos.line) = true:=by rfl) (hs:starEach (e :: es) X.env = (false,eval e X.env) :: starEach es X.env:=by rfl) (hplain:(backTo cpos (starEach es X.env)).any (·.1) = false:=by rfl) :
    PE X (.Call (.Attribute o name apos) (e :: es) [] cpos) (tBT r to t):=by
  intro pins s σ H Q I h
  refine wpAny_Call_method_late hbase hfew hline rfl (thn (ho pins s σ H _ I h) fun v s1 ⟨x,H1,I1,r1,ty,q1⟩=>?_)
  obtain ⟨p,xs,rfl,hp,ne⟩:=ty
  obtain ⟨_,its,_,ob,e1,e2,n,e3,e4⟩:=I1.hok p _ hp
  refine ⟨"tuple",id,pa,slot,hty,?_,?_,?_⟩
  · cases r1
    exact ⟨ob,e1,e2⟩
  · cases r1
    intro a z
    cases z
    exact ⟨ob,e1,e4 ne⟩
  have hA:=ha cpos pins s1 σ H1 _ I1 q1
  rw [hs] at hA ⊢
  refine Calls.callWith_builtin (by show (false || (backTo cpos (starEach es X.env)).any (·.1)) = false; rw [hplain]; rfl) (Calls.evalArgs_plain ?_)
  exact thn hA fun us s2 ⟨vs,H2,I2,r2,q2⟩=>hm pins s2 σ H2 _ vs v us Q I2 r1 r2 q2
end
end L2
namespace L2
section
open PySem PySem.Calls PyProof.Rows
variable {prog:Program} {w:World} {A:Around} {E:Value→Shared→Prop} {s:Shared}
theorem rvt_owner:Manifest.owners.lookup (String.ofList "desrever".toList.reverse) = some Manifest.sig_reversed:=by kernel_rfl
theorem rvt_slot:Slot "reversed" "__next__" "reversed.__next__":=
  .of (owner:="reversed") (n:="__next__") (by rw [typeLookup_type,builtinLookup_eq_fast]; kernel_rfl) (by decide +kernel) (by decide +kernel) (by decide +kernel) (by first | exact .inl (by decide +kernel) | exact .inr (by decide +kernel)) (by rw [isSubtype_type]; kernel_rfl)
theorem rvt_entry:entryFor table "reversed.__next__" = some Builtin.«reversed.__next__»:=entryFor_of_tree (by kernel_rfl)
theorem rvt_args (a:Value):argsOk "reversed.__next__" ⟨[a],[]⟩:=by
  unfold argsOk
  rw [signature?_of (id:="reversed.__next__") (n:="__txen__".toList) (o:="desrever".toList) (by kernel_rfl) rvt_owner]
  kernel_rfl
theorem rvt_slot_iter:Slot "reversed" "__iter__" "reversed.__iter__":=
  .of (owner:="reversed") (n:="__iter__") (by rw [typeLookup_type,builtinLookup_eq_fast]; kernel_rfl) (by decide +kernel) (by decide +kernel) (by decide +kernel) (by first | exact .inl (by decide +kernel) | exact .inr (by decide +kernel)) (by rw [isSubtype_type]; kernel_rfl)
theorem rvt_entry_iter:entryFor table "reversed.__iter__" = some Builtin.«dict_keyiterator.__iter__»:=entryFor_alias (id':="dict_keyiterator.__iter__") (by kernel_rfl) rfl (by decide +kernel) (by kernel_rfl)
theorem rvt_args_iter (a:Value):argsOk "reversed.__iter__" ⟨[a],[]⟩:=by
  unfold argsOk
  rw [signature?_of (id:="reversed.__iter__") (n:="__reti__".toList) (o:="desrever".toList) (by kernel_rfl) rvt_owner]
  kernel_rfl
theorem rvt_slot_hint:Slot "reversed" "__length_hint__" "reversed.__length_hint__":=
  .of (owner:="reversed") (n:="__length_hint__") (by rw [typeLookup_type,builtinLookup_eq_fast]; kernel_rfl) (by decide +kernel) (by decide +kernel) (by decide +kernel) (by first | exact .inl (by decide +kernel) | exact .inr (by decide +kernel)) (by rw [isSubtype_type]; kernel_rfl)
theorem rvt_entry_hint:entryFor table "reversed.__length_hint__" = some Builtin.«reversed.__length_hint__»:=entryFor_of_tree (by kernel_rfl)
theorem rvt_args_hint (a:Value):argsOk "reversed.__length_hint__" ⟨[a],[]⟩:=by
  unfold argsOk
  rw [signature?_of (id:="reversed.__length_hint__") (n:="__tnih_htgnel__".toList) (o:="desrever".toList) (by kernel_rfl) rvt_owner]
  kernel_rfl
theorem rvt_nolen:typeLookup (.type "reversed") "__len__" = pure none:=by rw [typeLookup_type,builtinLookup_eq_fast]; kernel_rfl
theorem rvt_norev:typeLookup (.type "tuple") "__reversed__" = pure none:=by rw [typeLookup_type,builtinLookup_eq_fast]; kernel_rfl
def RvAt (h:Heap) (it l:Addr) (i:Int):Prop:=∃ o,h.get? it = some o∧o.cls = .type "reversed"∧o.data = .fields #[.ref l,rawInt i]
theorem RvAt.typeIs {it l:Addr} {i:Int} (x:RvAt s.heap it l i):s.TypeIs (.ref it) "reversed":=let ⟨o,e,c,_⟩:=x; ⟨o,e,c⟩
theorem RvAt.keep {h h':Heap} {it l:Addr} {i:Int} (x:RvAt h it l i) (k:∀ o,h.get? it = some o→h'.get? it = some o):RvAt h' it l i:=let ⟨o,e,r⟩:=x; ⟨o,k o e,r⟩
theorem rvt_item {it l:Addr} {i:Nat} {items:Array Value} {x:Value} {Q:Option Value→Shared→Prop} (hit:RvAt s.heap it l i) (hl:IsTup s.heap l items) (hx:items[i]? = some x) (small:(items.size:Int) < 2 ^ 63)
    (q:∀ h' tk,RvAt h' it l ((i:Int) - 1)→Heap.SameBut it s.heap h'→Q (some x) { s with heap:=h',toks:=tk }):wpAny (model prog w) A (pyNext (.ref it)) Q E s:=by
  obtain ⟨o,ho,hc,hd⟩:=id hit
  have il:i < items.size:=(Array.getElem?_eq_some_iff.mp hx).1
  refine next_gives rvt_slot ⟨o,ho,hc⟩ rvt_entry (rvt_args _) ?_
  unfold Builtin.«reversed.__next__»
  refine wpAny_bind (wpAny_of_eq (a:=(Value.ref it,[])) rfl ?_)
  try dsimp only
  refine wpAny_bind (wpAny_field ho hd (x:=.ref l) rfl ?_)
  refine wpAny_bind (wpAny_field ho hd (x:=rawInt (i:Int)) rfl ?_)
  show wpAny _ _ (if (i:Int) < 0 then _ else _) _ _ s
  rw [if_neg (by omega)]
  refine wpAny_bind (wpAny_specialOf hl.typeIs slot_tuple_getitem.lookup ?_)
  refine wpAny_ite_split (fun z=>absurd z (by decide)) fun _=>?_
  refine wpAny_bind (wpAny_mkInt ?_)
  refine wpAny_bind (wpAny_attempt (getItem_tuple (j:=i) (x:=x) hl (by omega) (by omega) ?_ hx ?_))
  · exact PySem.seqIndex_of (by omega) (by omega)
  dsimp only
  refine wpAny_bind (wpAny_field (s:={ s with toks:=s.toks + 1 }) ho hd (x:=rawInt (i:Int)) rfl ?_)
  show wpAny _ _ (setField (.ref it) 1 (rawInt ((i:Int) - 1)) >>= _) _ _ _
  refine wpAny_bind (wpAny_setField (s:={ s with toks:=s.toks + 1 }) ho hd (by simp) (wpAny_pure ⟨x,rfl,q _ _ ?_ (Heap.SameBut.update ..)⟩))
  exact ⟨_,Heap.get?_update_self _ ho (Obj.isFreed_of_fields (Obj.data_mapFields hd _)),(Obj.cls_mapFields ..).trans hc,by rw [Obj.data_mapFields hd]; simp⟩
theorem rvt_done {it l:Addr} {Q:Option Value→Shared→Prop} (hh:A.handled = none) (hit:RvAt s.heap it l (-1))
    (q:∀ h',Heap.ExtBut it s.heap h'→Q none { s with heap:=h' }):wpAny (model prog w) A (pyNext (.ref it)) Q E s:=by
  obtain ⟨o,ho,hc,hd⟩:=id hit
  refine next_stops rvt_slot ⟨o,ho,hc⟩ rvt_entry (rvt_args _) ?_
  unfold Builtin.«reversed.__next__»
  refine wpAny_bind (wpAny_of_eq (a:=(Value.ref it,[])) rfl ?_)
  try dsimp only
  refine wpAny_bind (wpAny_field ho hd (x:=.ref l) rfl ?_)
  refine wpAny_bind (wpAny_field ho hd (x:=rawInt (-1)) rfl ?_)
  show wpAny _ _ (if (-1:Int) < 0 then _ else _) _ _ s
  rw [if_pos (by decide)]
  refine wpAny_bind (wpAny_rule ?_)
  have h1:=Heap.get?_update_self (Obj.mapFields (·.setIfInBounds 1 (rawInt (-1)))) ho (Obj.isFreed_of_fields (Obj.data_mapFields hd _))
  refine wpAny_bind (show wpAny _ _ (setField (.ref it) 1 (rawInt (-1)) >>= fun _=>setField (.ref it) 0 .none) _ _ _ from wpAny_bind (wpAny_setField ho hd (by simp) (wpAny_setField (s:={ s with heap:=_ }) h1 (Obj.data_mapFields hd _) (by simp) ?_)))
  refine wpAny_bind (show wpAny _ _ (newExc (.type "StopIteration") [] >>= raiseNew) _ _ _ from stop_calm (s:={ s with heap:=_ }) hh fun h' x k z=>?_)
  obtain ⟨o',e1,e2⟩:=z
  refine ⟨x,o',rfl,e1,e2,q h' fun b ob hb e=>k b ob ?_⟩
  exact (Heap.get?_update_other _ _ (Ne.symm hb)).trans ((Heap.get?_update_other _ _ (Ne.symm hb)).trans e)
theorem rvt_self {it l:Addr} {i:Int} {Q:Value→Shared→Prop} (x:RvAt s.heap it l i) (q:Q (.ref it) s):wpAny (model prog w) A (pyIter (.ref it)) Q E s:=by
  refine wpAny_pyIter_slot x.typeIs rvt_slot_iter (wpAny_call_entry rvt_slot_iter x.typeIs rvt_entry_iter ?_ (rvt_args_iter _))
  exact wpAny_pure ⟨_,rfl,"reversed",_,x.typeIs,rvt_slot.lookup,q⟩
theorem rvt_walks (hh:A.handled = none) (I l:Addr) (ne:l≠I) (items:Array Value) (small:(items.size:Int) < 2 ^ 63) :
    Walks prog w A I [I,l] [I] items.size (fun i v=>items[items.size - 1 - i]? = some v) (fun i h=>i≤items.size∧RvAt h I l ((items.size:Int) - 1 - (i:Int))∧IsTup h l items) where
  sub:=fun b hb=>List.mem_cons.mpr (.inl (List.mem_singleton.mp hb))
  frame:=fun _ h h' x k=>⟨x.1,x.2.1.keep fun o e=>k I (List.mem_cons_self ..) o e,by
    obtain ⟨o,e,r⟩:=x.2.2
    exact ⟨o,k l (by simp) o e,r⟩⟩
  item:=fun i s Q E hi x hQ=>by
    obtain ⟨_,x1,x2⟩:=x
    rw [show (items.size:Int) - 1 - (i:Int) = ((items.size - 1 - i:Nat):Int) by omega] at x1
    have hx:items[items.size - 1 - i]? = some (items[items.size - 1 - i]'(by omega)):=Array.getElem?_eq_getElem (by omega)
    refine rvt_item x1 x2 hx small fun h' tk r sb=>hQ _ h' tk hx ⟨hi,?_,?_⟩ fun b o hb e=>(sb.2 b fun z=>hb (by simp [z])).trans e
    · rw [show (items.size:Int) - 1 - ((i + 1:Nat):Int) = ((items.size - 1 - i:Nat):Int) - 1 by omega]
      exact r
    · obtain ⟨o,e,r⟩:=x2
      exact ⟨o,(sb.2 l ne).trans e,r⟩
  done:=fun s Q E x hQ=>by
    obtain ⟨_,x1,_⟩:=x
    rw [show (items.size:Int) - 1 - (items.size:Int) = -1 by omega] at x1
    exact rvt_done hh x1 fun h' eb=>hQ h' s.toks fun b o hb e=>eb b o (fun z=>hb (by simp [z])) e
  self:=fun _ _ _ _ x hQ=>rvt_self x.2.1 hQ
theorem rvt_mro:mroOf (.type "reversed") = pure [.type "reversed",.type "object"]:=by rw [mroOf_type]; kernel_rfl
theorem rvt_new:typeLookup (.type "reversed") "__new__" = pure (some (.builtin "reversed.__new__")):=by rw [typeLookup_type,builtinLookup_eq_fast]; kernel_rfl
theorem rvt_slot_init:Slot "reversed" "__init__" "object.__init__":=
  .of (owner:="object") (n:="__init__") (by rw [typeLookup_type,builtinLookup_eq_fast]; kernel_rfl) (by decide +kernel) (by decide +kernel) (by decide +kernel) (by first | exact .inl (by decide +kernel) | exact .inr (by decide +kernel)) (by rw [isSubtype_type]; kernel_rfl)
theorem rvt_called:TypeCalled "reversed" "reversed.__new__" "object.__init__":=
  ⟨by decide +kernel,by decide +kernel,⟨_,_,rvt_mro⟩,madeBy_type rvt_mro rvt_new (by decide +kernel),by decide +kernel,by rw [isSubtype_type]; kernel_rfl,rvt_slot_init⟩
theorem rvt_newClass (a:Value):Builtin.SmallTypes.newClass "reversed" ⟨[.type "reversed",a],[]⟩ = pure (.type "reversed",[a]):=by
  unfold Builtin.SmallTypes.newClass
  simp only [isType,rvt_called.sub,pure_bind,Bool.not_true,Bool.false_eq_true,if_false]
theorem rvt_make (l:Addr) (items:Array Value) (small:(items.size:Int) < 2 ^ 63) :
    MeetsIn prog w (Builtin.«reversed.__new__» ⟨[.type "reversed",.ref l],[]⟩) (fun _ R s=>IsTup s.heap l items∧
      ∀ tk,R (.ok (.ret (.ref s.heap.objs.size))) { s with heap:=s.heap.push { cls:=.type "reversed",data:=.fields #[.ref l,rawInt ((items.size:Int) - 1)] },toks:=tk }):=
  .of_wp fun A R s ⟨hl,h⟩=>by
    unfold Builtin.«reversed.__new__»
    refine wpAny_bind (wpAny_of_eq (rvt_newClass _) ?_)
    try dsimp only
    refine wpAny_bind (wpAny_of_eq (a:=()) (by first | rfl | kernel_rfl) ?_)
    refine wpAny_bind (wpAny_of_eq (a:=()) (by first | rfl | kernel_rfl) ?_)
    try dsimp only
    refine wpAny_bind (wpAny_specialOf hl.typeIs rvt_norev ?_)
    try dsimp only
    refine wpAny_bind ?_
    change wpAny _ _ (isInstance (.ref l) (.type "dict") >>= _) _ _ _
    refine wpAny_bind (wpAny_isInstance (T:="tuple") (b:=false) hl.typeIs (by rw [isSubtype_type]; kernel_rfl) ?_)
    refine wpAny_ite_split (fun z=>absurd z (by decide)) fun _=>?_
    refine wpAny_bind (wpAny_specialOf hl.typeIs slot_tuple_getitem.lookup ?_)
    refine wpAny_ite_split (fun _=>wpAny_pure ?_) fun z=>absurd (by decide +kernel) z
    refine wpAny_ite_split (fun z=>absurd z (by decide)) fun _=>?_
    refine wpAny_bind (len_tuple hl small ?_)
    refine wpAny_bind (m:=asInt? _) (wpAny_pure ?_)
    refine wpAny_bind (show wpAny _ _ (newObj (.type "reversed") (.fields #[.ref l,rawInt ((items.size:Int) - 1)])) _ _ _ from wpAny_newObj_type ?_)
    exact wpAny_pure ⟨_,rfl,h _⟩
theorem call_revT {l:Addr} {items:Array Value} {Q:Value→Shared→Prop} (hl:IsTup s.heap l items) (small:(items.size:Int) < 2 ^ 63)
    (q:∀ h' tk it,RvAt h' it l ((items.size:Int) - 1)→(∀ b o,s.heap.get? b = some o→h'.get? b = some o)→s.heap.get? it = none→s.heap.objs.size≤h'.objs.size→Q (.ref it) { s with heap:=h',toks:=tk }):wpAny (model prog w) A (call (.type "reversed") [.ref l]) Q E s:=by
  refine callType_newIn rvt_called (by decide) (by kernel_rfl) (by kernel_rfl) (fun obj=>PySem.F.args_object_init_2 _ _) PySem.F.entry_reversed_new (rvt_make l items small) ⟨hl,fun tk=>⟨⟨_,Heap.get?_push_size _ rfl,rfl⟩,q _ tk _ ⟨_,Heap.get?_push_size _ rfl,rfl,rfl⟩ (fun b o e=>Heap.get?_push_of_some _ e) (none_end _) ?_⟩⟩
  rw [Heap.size_push]
  exact Nat.le_succ _
theorem rvt_hint {it l:Addr} {items:Array Value} {Q:Bool→Shared→Prop} (hit:RvAt s.heap it l ((items.size:Int) - 1)) (hl:IsTup s.heap l items) (hn:items.size≤sizeLine)
    (q:∀ b tk,Q b { s with toks:=tk }):wpAny (model prog w) A (Builtin.List.listLengthHint (.ref it)) Q E s:=by
  have l63:=line63
  obtain ⟨o,ho,hc,hd⟩:=id hit
  unfold Builtin.List.listLengthHint
  refine wpAny_bind (wpAny_specialOf hit.typeIs rvt_nolen ?_)
  change wpAny _ _ (specialOf (.ref it) (Str.ofString "__length_hint__") >>= _) _ _ _
  refine wpAny_bind (wpAny_specialOf hit.typeIs rvt_slot_hint.lookup ?_)
  generalize hid:("reversed.__length_hint__":String) = id0
  wp_delta
  rw [show splitId id0 = some ("reversed","__length_hint__") from by subst hid; decide +kernel]
  subst hid
  refine wpAny_bind (wpAny_isInstance (T:="reversed") (b:=true) hit.typeIs rvt_called.sub ?_)
  refine wpAny_ite_split (fun z=>absurd z (by decide)) fun _=>?_
  refine wpAny_ite_split (fun z=>absurd z (by decide +kernel)) fun _=>?_
  refine wpAny_bind (wpAny_rule ?_)
  refine wpAny_bind (wpAny_of_eq (rvt_slot_hint.bind _) ?_)
  refine wpAny_bind (wpAny_attempt (wpAny_call_entry rvt_slot_hint hit.typeIs rvt_entry_hint ?_ (rvt_args_hint _)))
  unfold Builtin.«reversed.__length_hint__»
  refine wpAny_bind (wpAny_of_eq (a:=Value.ref it) rfl ?_)
  refine wpAny_bind (wpAny_field ho hd (x:=.ref l) rfl ?_)
  refine wpAny_ite_split (fun z=>Bool.noConfusion (show false = true from z)) fun _=>?_
  refine wpAny_bind (len_tuple hl (by omega) ?_)
  refine wpAny_bind (m:=asInt? _) (wpAny_pure ?_)
  refine wpAny_bind (wpAny_field (s:={ s with toks:=_ }) ho hd (x:=rawInt ((items.size:Int) - 1)) rfl ?_)
  show wpAny _ _ (if (items.size:Int) < (items.size:Int) - 1 + 1 then _ else _) _ _ _
  rw [if_neg (by omega)]
  change wpAny _ _ (mkInt ((items.size:Int) - 1 + 1) >>= _) _ _ _
  refine wpAny_bind (wpAny_mkInt (wpAny_pure ⟨_,rfl,?_⟩))
  refine wpAny_bind (m:=asInt? _) (wpAny_pure ?_)
  dsimp only
  refine wpAny_ite_split (fun z=>absurd z (by simp [Builtin.List.listFitsIndex]; omega)) fun _=>?_
  refine wpAny_ite_split (fun z=>absurd z (by omega)) fun _=>?_
  refine wpAny_ite_split (fun z=>absurd z (by simp [Builtin.List.listTooLong]; omega)) fun _=>?_
  exact wpAny_pure (q _ _)
theorem list_ext {x:Value} {Q:Value→Shared→Prop} (h:∀ (S:Addr) (c:Nat) (h₁:Heap),S = s.heap.objs.size→h₁.get? S = some { cls:=.type "list",data:=.seq #[] c }→(∀ b o,s.heap.get? b = some o→h₁.get? b = some o)→
      ∀ R:Result→Shared→Prop,(∀ s',Q (.ref S) s'→R (.ok (.ret .none)) s')→wpAny (model prog w) A.in1.in1 (Builtin.List.listExtendWith (.ref S) x .none)
      (fun fin s'=>match fin with | .done f=>R (.ok f) s' | .again c'=>c'.quiet = true∧codeAny (model prog w) A.in1 c' R s') (fun e s'=>R (.error e) s') { s with heap:=h₁ }) :
    wpAny (model prog w) A (call (.type "list") [x]) Q E s:=by
  refine callType_codes (Q₁:=fun obj s₁=>obj = .ref s.heap.objs.size∧s₁ = { s with heap:=s.heap.push { cls:=.type "list",data:=.seq #[] } }) PySem.F.called_list (PySem.F.typeCall_list_1 _) PySem.F.entry_list_init (code_list_new _ ⟨rfl,rfl⟩) ?_
  rintro obj s₁ ⟨rfl,rfl⟩
  have hS:(s.heap.push { cls:=.type "list",data:=.seq #[] }).get? s.heap.objs.size = some { cls:=.type "list",data:=.seq #[] }:=Heap.get?_push_size _ rfl
  refine ⟨⟨_,hS,rfl⟩,PySem.F.args_list_init_2 _ _,?_⟩
  change wpAny _ _ (Builtin.List.listItems (.ref s.heap.objs.size) >>= _) _ _ _
  refine wpAny_bind ?_
  unfold Builtin.List.listItems
  refine wpAny_bind (wpAny_seqItems hS rfl (wpAny_pure ?_))
  change wpAny _ _ (updateSeq s.heap.objs.size (fun _=>#[]) >>= _) _ _ _
  refine wpAny_bind (wpAny_updateSeq hS rfl ?_)
  have hS2:=Heap.get?_update_self (Obj.mapSeq (fun _=>(#[]:Array Value))) hS rfl
  change wpAny _ _ (letGo (#[]:Array Value).toList.reverse >>= _) _ _ _
  refine wpAny_bind (wpAny_letGo ?_)
  refine h _ _ _ rfl hS2 (fun b o e=>?_) _ fun s' q=>⟨rfl,q⟩
  exact (Heap.get?_update_other _ _ (Nat.ne_of_gt (Heap.lt_size e))).trans (Heap.get?_push_of_some _ e)
theorem call_list_revT {l it:Addr} {items:Array Value} {Q:Value→Shared→Prop} (hh:A.handled = none) (hit:RvAt s.heap it l ((items.size:Int) - 1)) (ne:l≠it) (hl:IsTup s.heap l items) (hn:items.size≤sizeLine)
    (q:∀ h' tk S acc c,s.heap.objs.size≤S→(∀ b o,b≠it→s.heap.get? b = some o→h'.get? b = some o)→h'.get? S = some { cls:=.type "list",dict:=none,data:=.seq acc c,slots:=#[] }→ItemsOf (fun i v=>items[items.size - 1 - i]? = some v) acc items.size→Q (.ref S) { s with heap:=h',toks:=tk }) :
    wpAny (model prog w) A (call (.type "list") [.ref it]) Q E s:=by
  have l63:=line63
  refine list_ext fun S c h₁ eS hS k R hR=>?_
  have lt:∀ {b o},s.heap.get? b = some o→b≠S:=fun e=>by rw [eS]; exact Nat.ne_of_lt (Heap.lt_size e)
  have hit1:RvAt h₁ it l ((items.size:Int) - 1):=hit.keep fun o e=>k it o e
  have hl1:IsTup h₁ l items:=by
    obtain ⟨o,e,r⟩:=hl
    exact ⟨o,k l o e,r⟩
  have nI:S≠it:=fun z=>by obtain ⟨o,e,_⟩:=hit; exact lt e z.symm
  have nl:S≠l:=fun z=>by obtain ⟨o,e,_⟩:=hl; exact lt e z.symm
  unfold Builtin.List.listExtendWith
  refine wpAny_bind (wpAny_typeOf (T:="reversed") (s:={ s with heap:=h₁ }) hit1.typeIs ?_)
  have h1:Builtin.List.listSameRef (.ref S) (.ref it) = false:=by simp [Builtin.List.listSameRef,nI]
  rw [if_neg (by rw [h1]; decide)]
  refine wpAny_bind (rvt_self (s:={ s with heap:=h₁ }) hit1 ?_)
  refine wpAny_bind (wpAny_holding (rvt_hint (s:={ s with heap:=h₁ }) hit1 hl1 hn fun b tk=>?_))
  have W:=rvt_walks (prog:=prog) (w:=w) (A:=A.in1.in1) hh it l ne items (by omega)
  have key:∀ (h₂:Heap) (c₁ tk:Nat),(∀ b o,b≠S→h₁.get? b = some o→h₂.get? b = some o)→h₂.get? S = some { cls:=.type "list",data:=.seq #[] c₁ }→codeAny (model prog w) A.in1 (.builtin "list.extend.loop" ⟨[.ref S,.ref it,.none],[]⟩) R { s with heap:=h₂,toks:=tk }:=by
    intro h₂ c₁ tk k2 hS2
    refine codeAny_extend_loopS W.toS hn S (by simp [nI,nl]) .none items.size 0 _ #[] c₁ rfl (Nat.zero_le _) ⟨Nat.zero_le _,?_,?_⟩ hS2 (ItemsOf.nil _) fun s' acc c' hm hS' ha=>?_
    · rw [show (items.size:Int) - 1 - ((0:Nat):Int) = (items.size:Int) - 1 by omega]
      exact hit1.keep fun o e=>k2 it o nI.symm e
    · obtain ⟨o,e,r⟩:=hl1
      exact ⟨o,k2 l o nl.symm e,r⟩
    · rw [Moved.eq_with hm]
      refine hR _ (q _ _ S acc c' (by rw [eS]; exact Nat.le_refl _) (fun b o nb e=>hm.heap b o (fun z=>?_) (k2 b o (lt e) (k b o e))) hS' ha)
      rcases List.mem_cons.mp z with z | z
      · exact lt e z
      · exact nb (List.mem_singleton.mp z)
  refine wpAny_ite_split (fun _=>?_) fun _=>wpAny_pure ⟨plainId_quiet PySem.F.plain_extend_loop _,key h₁ c tk (fun _ _ _ e=>e) hS⟩
  refine wpAny_bind (wpAny_rule ?_)
  refine wpAny_bind ?_
  change wpAny _ _ (updateSeq S (·.push .none) >>= fun _=>updateSeq S (·.pop)) _ _ _
  refine wpAny_bind (wpAny_updateSeq (s:={ s with heap:=h₁,toks:=tk }) hS rfl ?_)
  have hS3:=Heap.get?_update_self (Obj.mapSeq (·.push Value.none)) hS rfl
  refine wpAny_updateSeq (hz:=by seq_fits) hS3 rfl ?_
  have hS4:=Heap.get?_update_self (Obj.mapSeq (·.pop)) hS3 rfl
  exact wpAny_pure ⟨plainId_quiet PySem.F.plain_extend_loop _,key _ _ tk (fun b o nb e=>(Heap.get?_update_other _ _ (Ne.symm nb)).trans ((Heap.get?_update_other _ _ (Ne.symm nb)).trans e)) hS4⟩
end
section
open PySem PySem.Spec PyProof.Rows
variable {X:Cx}
def tLRev (K:PySem.W.Frag) (te:TE):TE:=fun σ H Q=>te σ H fun v H1=>∃ (a:Addr) (xs:List V),v = .ref a∧SqT K H1 a xs∧∀ p,H1 p = none→Q (.ref p) (upd H1 p (.lst xs.reverse))
theorem bt_reversed:bootBuiltins "reversed" = some (.type "reversed"):=by kernel_rfl
theorem rev_vals:∀ {xs:List V} {its:List Value},Vals xs its→Vals xs.reverse its.reverse
  | [],_,.nil=>.nil
  | x :: xs,_,.cons r t=>by
    rw [List.reverse_cons,List.reverse_cons]
    exact (rev_vals t).append (.cons r .nil)
theorem pe_listRev {e:Expr} {te:TE} {p p' pos pos':Pos} (hc:X.calm = true) (hg:Gl X "list") (hm:X.mg "list" = none) (hg':Gl X "reversed") (hm':X.mg "reversed" = none) (ha:PE X e te)
    (he:starEach [e] X.env = (false,eval e X.env) :: starEach [] X.env:=by rfl) :
    PE X (.Call (.Name "list" p) [.Call (.Name "reversed" p') [e] [] pos'] [] pos) (tLRev X.K te):=by
  intro pins s σ H Q I h
  refine wpAny_Call_Name_kw (ld_blt I hg hm bt_list ?_)
  refine PyProof.Rows.callWith_type1 ?_ rfl rfl
  refine Calls.spliced_cons (wpAny_Call_Name_kw (ld_blt I hg' hm' bt_reversed ?_))
  refine PyProof.Rows.callWith_type1 ?_ he rfl
  rw [he]
  refine Calls.spliced_cons (thn (ha pins s σ H _ I h) fun u s1 ⟨v,H1,I1,r1,q1⟩=>Calls.spliced_nil ?_)
  obtain ⟨a,xs,rfl,hx,q⟩:=q1
  cases r1
  obtain ⟨its,rv,ht,hz⟩:=I1.tuple hx
  have l63:=line63
  have lr:=rv.length
  refine call_revT ht (by rw [List.size_toArray]; omega) fun h2 tk it rv2 k2 n2 l2=>Calls.spliced_nil ?_
  have ht2:IsTup h2 a its.toArray:=by
    obtain ⟨o,e,r⟩:=ht
    exact ⟨o,k2 a o e,r⟩
  have ne:a≠it:=fun z=>by
    obtain ⟨o,e,r⟩:=ht
    rw [z,n2] at e
    cases e
  refine call_list_revT (s:={ s1 with heap:=h2,toks:=tk }) (I1.ok.hd hc) rv2 ne ht2 (by rw [List.size_toArray]; omega) fun h3 tk3 S acc c lS k3 hS it3=>?_
  have k13:∀ b o,s1.heap.get? b = some o→h3.get? b = some o:=fun b o e=>k3 b o (fun z=>by rw [z,n2] at e; cases e) (k2 b o e)
  have big:s1.heap.objs.size≤S:=Nat.le_trans l2 lS
  have ea:acc = its.reverse.toArray:=by
    obtain ⟨z1,z2⟩:=it3
    have z1:acc.size = its.length:=z1.trans (by simp)
    refine Array.ext (by rw [z1,List.size_toArray,List.length_reverse]) fun j g1 g2=>?_
    have:=z2 j acc[j] (Array.getElem?_eq_getElem g1)
    rw [List.size_toArray] at this
    have g3:j < its.length:=by omega
    have e2:its.reverse[j]? = some acc[j]:=by
      rw [List.getElem?_reverse g3]
      simpa using this
    rw [List.getElem?_eq_getElem (by rw [List.length_reverse]; exact g3)] at e2
    simpa using (Option.some.inj e2).symm
  refine ⟨.ref S,_,I1.laid (t':=tk3) (o:=.lst xs.reverse) k13 big ⟨by rw [List.length_reverse]; exact hz,its.reverse,c,rev_vals rv,?_⟩,rfl,q S (I1.hok.fresh big)⟩
  rw [hS,ea]
end
end L2
set_option maxHeartbeats 4000000
namespace K37
open PySem L2
def top (i:Nat):Stmt:=PySem.Challenge.pw_stemshelf_k37_heads_by_form.main.body.getD i (.Pass ⟨0,0,0,0⟩)
abbrev s_is_whole:Stmt:=top 1
theorem sc_is_whole:FnScope ["thing"] ["thing"] (defScope s_is_whole):=⟨rfl,rfl,rfl,by decide +kernel,rfl,by decide +kernel,by decide +kernel⟩
abbrev s_is_between:Stmt:=top 2
theorem sc_is_between:FnScope ["thing","least","most"] ["thing","least","most"] (defScope s_is_between):=⟨rfl,rfl,rfl,by decide +kernel,rfl,by decide +kernel,by decide +kernel⟩
abbrev s_is_tuple_of:Stmt:=top 3
theorem sc_is_tuple_of:FnScope ["thing","many"] ["thing","many"] (defScope s_is_tuple_of):=⟨rfl,rfl,rfl,by decide +kernel,rfl,by decide +kernel,by decide +kernel⟩
abbrev s_is_text:Stmt:=top 6
theorem sc_is_text:FnScope ["thing","least","most"] ["thing","least","most"] (defScope s_is_text):=⟨rfl,rfl,rfl,by decide +kernel,rfl,by decide +kernel,by decide +kernel⟩
abbrev s_is_name:Stmt:=top 14
theorem sc_is_name:FnScope ["thing"] ["thing"] (defScope s_is_name):=⟨rfl,rfl,rfl,by decide +kernel,rfl,by decide +kernel,by decide +kernel⟩
abbrev s_is_tag:Stmt:=top 15
theorem sc_is_tag:FnScope ["thing"] ["thing"] (defScope s_is_tag):=⟨rfl,rfl,rfl,by decide +kernel,rfl,by decide +kernel,by decide +kernel⟩
abbrev s_is_head:Stmt:=top 21
theorem sc_is_head:FnScope ["thing"] ["thing"] (defScope s_is_head):=⟨rfl,rfl,rfl,by decide +kernel,rfl,by decide +kernel,by decide +kernel⟩
abbrev s_are_keepers:Stmt:=top 22
theorem sc_are_keepers:FnScope ["thing"] ["thing"] (defScope s_are_keepers):=⟨rfl,rfl,rfl,by decide +kernel,rfl,by decide +kernel,by decide +kernel⟩
abbrev s_is_keeper:Stmt:=top 23
theorem sc_is_keeper:FnScope ["thing"] ["thing"] (defScope s_is_keeper):=⟨rfl,rfl,rfl,by decide +kernel,rfl,by decide +kernel,by decide +kernel⟩
abbrev s_are_rising:Stmt:=top 24
theorem sc_are_rising:FnScope ["named","names"] ["named"] (defScope s_are_rising):=⟨rfl,rfl,rfl,by decide +kernel,rfl,by decide +kernel,by decide +kernel⟩
abbrev s_are_names:Stmt:=top 25
theorem sc_are_names:FnScope ["thing"] ["thing"] (defScope s_are_names):=⟨rfl,rfl,rfl,by decide +kernel,rfl,by decide +kernel,by decide +kernel⟩
abbrev s_is_stem:Stmt:=top 26
theorem sc_is_stem:FnScope ["thing"] ["thing"] (defScope s_is_stem):=⟨rfl,rfl,rfl,by decide +kernel,rfl,by decide +kernel,by decide +kernel⟩
abbrev s_is_seal:Stmt:=top 27
theorem sc_is_seal:FnScope ["thing"] ["thing"] (defScope s_is_seal):=⟨rfl,rfl,rfl,by decide +kernel,rfl,by decide +kernel,by decide +kernel⟩
abbrev s_are_at_one:Stmt:=top 28
theorem sc_are_at_one:FnScope ["keepers","names","stems","seals","called","turns","begins"] ["keepers","names"] (defScope s_are_at_one):=⟨rfl,rfl,rfl,by decide +kernel,rfl,by decide +kernel,by decide +kernel⟩
abbrev s__law_cell_at:Stmt:=top 30
theorem sc__law_cell_at:FnScope ["_law_script","_law_k"] ["_law_script","_law_k"] (defScope s__law_cell_at):=⟨rfl,rfl,rfl,by decide +kernel,rfl,by decide +kernel,by decide +kernel⟩
abbrev s__law_row:Stmt:=top 31
theorem sc__law_row:FnScope ["_law_cell","_law_many","_law_found","_law_number","_law_k"] ["_law_cell","_law_many"] (defScope s__law_row):=⟨rfl,rfl,rfl,by decide +kernel,rfl,by decide +kernel,by decide +kernel⟩
abbrev s__law_names:Stmt:=top 32
theorem sc__law_names:FnScope ["_law_cell","_law_many","_law_names_here","_law_k"] ["_law_cell","_law_many"] (defScope s__law_names):=⟨rfl,rfl,rfl,by decide +kernel,rfl,by decide +kernel,by decide +kernel⟩
abbrev s__law_tag:Stmt:=top 33
theorem sc__law_tag:FnScope ["_law_number"] ["_law_number"] (defScope s__law_tag):=⟨rfl,rfl,rfl,by decide +kernel,rfl,by decide +kernel,by decide +kernel⟩
abbrev s__law_head:Stmt:=top 34
theorem sc__law_head:FnScope ["_law_script","_law_cell","_law_row_here","_law_keepers","_law_names_here","_law_stems","_law_turned","_law_rows","_law_seals","_law_turn","_law_k","_law_stem","_law_origin","_law_j"] ["_law_script"] (defScope s__law_head):=⟨rfl,rfl,rfl,by decide +kernel,rfl,by decide +kernel,by decide +kernel⟩
abbrev s__law_with:Stmt:=top 35
theorem sc__law_with:FnScope ["_law_things","_law_at","_law_thing"] ["_law_things","_law_at","_law_thing"] (defScope s__law_with):=⟨rfl,rfl,rfl,by decide +kernel,rfl,by decide +kernel,by decide +kernel⟩
abbrev s__law_bad_name:Stmt:=top 36
theorem sc__law_bad_name:FnScope ["_law_head_here","_law_row_here","_law_way","_law_names_here","_law_at","_law_entry","_law_tag_here","_law_good","_law_bad_here"] ["_law_head_here","_law_row_here","_law_way"] (defScope s__law_bad_name):=⟨rfl,rfl,rfl,by decide +kernel,rfl,by decide +kernel,by decide +kernel⟩
abbrev s__law_twice:Stmt:=top 37
theorem sc__law_twice:FnScope ["_law_head_here","_law_row_here","_law_seals","_law_turns","_law_found","_law_entry","_law_other","_law_stem","_law_turn","_law_at"] ["_law_head_here","_law_row_here"] (defScope s__law_twice):=⟨rfl,rfl,rfl,by decide +kernel,rfl,by decide +kernel,by decide +kernel⟩
abbrev s__law_bad:Stmt:=top 38
theorem sc__law_bad:FnScope ["_law_head_here","_law_row_here","_law_age","_law_keepers","_law_names_here","_law_way","_law_at","_law_bad_here","_law_extra","_law_rows"] ["_law_head_here","_law_row_here"] (defScope s__law_bad):=⟨rfl,rfl,rfl,by decide +kernel,rfl,by decide +kernel,by decide +kernel⟩
abbrev s_law:Stmt:=top 39
theorem sc_law:FnScope ["_law_script","_law_head_here","_law_cell","_law_bad_here","_law_thing"] ["_law_script"] (defScope s_law):=⟨rfl,rfl,rfl,by decide +kernel,rfl,by decide +kernel,by decide +kernel⟩
structure Txt (K:PySem.W.Frag) (mg:Str→Option Value):Prop where
  b_abs:mg "abs" = none
  b_all:mg "all" = none
  b_bool:mg "bool" = none
  b_dict:mg "dict" = none
  b_enumerate:mg "enumerate" = none
  b_int:mg "int" = none
  b_isinstance:mg "isinstance" = none
  b_len:mg "len" = none
  b_list:mg "list" = none
  b_range:mg "range" = none
  b_reversed:mg "reversed" = none
  b_set:mg "set" = none
  b_sorted:mg "sorted" = none
  b_str:mg "str" = none
  b_tuple:mg "tuple" = none
  c_SIGNS:∃ t,mg "SIGNS" = some (.str (PySem.Str.ofString " !\"#$&'()*+,-./0123456789:;<=>?@ABCDEFGHIJKLMNOPQRSTUVWXYZ[\\]^_`abcdefghijklmnopqrstuvwxyz{|}~") t)
  c_MOST_NUMBER:∃ t,mg "MOST_NUMBER" = some (.int 999999999 t)
  c_NAME_SIGNS:∃ t,mg "NAME_SIGNS" = some (.str (PySem.Str.ofString "0123456789abcdefghijklmnopqrstuvwxyz") t)
  c_MOST_NAME_SIGNS:∃ t,mg "MOST_NAME_SIGNS" = some (.int 8 t)
  c_MOST_CELL:∃ t,mg "MOST_CELL" = some (.int 999999 t)
  c_MOST_BIRTH:∃ t,mg "MOST_BIRTH" = some (.int 999999999 t)
  c_SUM_RESTS:∃ t,mg "SUM_RESTS" = some (.int 997 t)
  c_STEM:∃ t,mg "STEM" = some (.int 1 t)
  c_SEAL:∃ t,mg "SEAL" = some (.int 2 t)
  c_MOST_KEEPERS:∃ t,mg "MOST_KEEPERS" = some (.int 8 t)
  c_MOST_NAMES:∃ t,mg "MOST_NAMES" = some (.int 24 t)
abbrev EM:Str:=PySem.Str.ofString ""
abbrev SG:Str:=PySem.Str.ofString " !\"#$&'()*+,-./0123456789:;<=>?@ABCDEFGHIJKLMNOPQRSTUVWXYZ[\\]^_`abcdefghijklmnopqrstuvwxyz{|}~"
section
variable {P:Program} {w:World} {K:PySem.W.Frag} {mg:Str→Option Value} {base:Heap} {f:Addr} {fd:FuncData}
def sp_is_whole (K:PySem.W.Frag):Sp:=fun vs H Q _=>∃ v,vs = [v]∧Ok H v∧Q (.bl (wholeB H v)) H
theorem ok_is_whole (T:Txt K mg) (F:Fun K "is_whole" "is_whole" s_is_whole f fd):FnOk P w K mg base CX0 1 f fd ["thing"] (sp_is_whole K):=by
  refine F.ok sc_is_whole (fun vs H Q E h=>?_) (fun cdv A outer s H vs Q E hr h=>?_)
  · obtain ⟨c,rfl,_⟩:=h
    rfl
  obtain ⟨v,rfl,ok,q⟩:=h
  refine ⟨_,(@pss_one _ _ _ (@ps_ret _ _ _ _ (@pe_and _ _ _ _ _ _ _ (@pe_callB _ _ _ _ _ _ _ _ _ call_isinst (by rfl) T.b_isinstance bt_isinstance (@pa_cons _ _ _ _ _ (pv 0) (@pa_cons _ _ _ _ _ (@pe_ty _ _ _ _ rfl T.b_int bt_int (by decide) (by decide)) (@pa_nil _) (by rfl)) (by rfl)) (by decide) (by decide) (by rfl) (by rfl)) (@pe_one _ _ _ _ _ (@pe_not _ _ _ _ (@pe_callB _ _ _ _ _ _ _ _ _ call_isinst (by rfl) T.b_isinstance bt_isinstance (@pa_cons _ _ _ _ _ (pv 0) (@pa_cons _ _ _ _ _ (@pe_ty _ _ _ _ rfl T.b_bool bt_bool (by decide) (by decide)) (@pa_nil _) (by rfl)) (by rfl)) (by decide) (by decide) (by rfl) (by rfl))))))),?_⟩
  exact tAndV_p _ _ (fun R q=>⟨_,rfl,_,_,_,_,rfl,ok.ty K,ok.kit K,q⟩) (fun _ R q=>⟨_,rfl,_,_,_,_,rfl,ok.ty K,ok.kit K,_,rfl,q⟩) q
def sp_is_between (K:PySem.W.Frag):Sp:=fun vs H Q _=>∃ v a b,vs = [v,.int a,.int b]∧Ok H v∧Q (.bl (betw a b v)) H
theorem ok_is_between (T:Txt K mg) (F:Fun K "is_between" "is_between" s_is_between f fd) (D_is_whole:Def P w K mg base 1 "is_whole" ["thing"] (sp_is_whole K)):FnOk P w K mg base CX0 2 f fd ["thing","least","most"] (sp_is_between K):=by
  refine F.ok sc_is_between (fun vs H Q E h=>?_) (fun cdv A outer s H vs Q E hr h=>?_)
  · obtain ⟨v,a,b,rfl,_⟩:=h
    rfl
  obtain ⟨v,a,b,rfl,ok,q⟩:=h
  refine ⟨_,(@pss_one _ _ _ (@ps_ret _ _ _ _ (@pe_and _ _ _ _ _ _ _ (@pe_fn _ _ _ _ _ _ _ _ _ _ D_is_whole (hr.mono (by decide)) rfl (@pa_cons _ _ _ _ _ (pv 0) (@pa_nil _) (by rfl)) (by decide) (by rfl) (by rfl)) (@pe_one _ _ _ _ _ (@pe_chain _ _ _ _ _ _ _ _ _ _ _ _ op_le op_le (pv 1) (pv 0) (pv 2) (by with_unfolding_all rfl)))))),?_⟩
  refine tAndV_p (wholeB H v) (betw a b v) (fun R q=>⟨_,rfl,v,rfl,ok,q⟩) (fun hw R q=>?_) ?_
  · obtain ⟨i,rfl⟩:=whole_of ok hw
    refine ⟨_,rfl,_,rfl,_,_,rfl,rfl,_,rfl,?_⟩
    refine ite2 (fun c=>?_) (fun c=>?_)
    · have e:betw a b (.int i) = decide (i≤b):=by show (decide (a≤i) && decide (i≤b)) = _; rw [c]; rfl
      rw [e] at q
      exact ⟨_,rfl,_,_,rfl,rfl,q⟩
    · have e:betw a b (.int i) = false:=by show (decide (a≤i) && decide (i≤b)) = _; rw [Bool.eq_false_iff.mpr c]; rfl
      rw [e] at q
      exact q
  · cases hw:wholeB H v with
    | true=>exact q
    | false=>rw [betw_eq hw] at q; exact q
def allIn (t:Str) (z:Str):Bool:=(cod z).all fun c=>decide (c∈cod t)
def textB (a b:Int):V→Bool
  | .str z=>decide (a≤(z.length:Int)) && decide ((z.length:Int)≤b) && allIn SG z
  | _=>false
theorem textB_no {H:Hp} {v:V} {a b:Int} (h:isA (tyN H v) "str" = false):textB a b v = false:=by
  cases v with
  | str z=>exact absurd (show isA "str" "str" = false from h) (by decide)
  | _=>rfl
def sp_is_text (K:PySem.W.Frag):Sp:=fun vs H Q _=>∃ v a b,vs = [v,.int a,.int b]∧Ok H v∧∀ H',Same H H'→Q (.bl (textB a b v)) H'
theorem signs_all (t z:Str):((cod z).map fun c=>V.str ⟨#[c]⟩).map (fun v=>match v with | V.str y=>V.bl (!(Builtin.Str.occurrences t y 0 t.length 1).isEmpty) | _=>V.non) = ((cod z).map fun c=>decide (c∈cod t)).map V.bl:=by
  rw [List.map_map,List.map_map]
  refine List.map_congr_left fun c _=>?_
  show V.bl (!(Builtin.Str.occurrences t ⟨#[c]⟩ 0 t.length 1).isEmpty) = V.bl (decide (c∈cod t))
  rw [PySem.StrLaws.found_one]
theorem ok_is_text (T:Txt K mg) (F:Fun K "is_text" "is_text" s_is_text f fd):FnOk P w K mg base CX0 1 f fd ["thing","least","most"] (sp_is_text K):=by
  refine F.ok sc_is_text (fun vs H Q E h=>?_) (fun cdv A outer s H vs Q E hr h=>?_)
  · obtain ⟨v,a,b,rfl,_⟩:=h
    rfl
  obtain ⟨v,a,b,rfl,ok,q⟩:=h
  refine ⟨_,(@pss_cons _ _ _ _ _ (@ps_if _ _ _ _ _ _ _ _ (@PW.pt _ _ _ (@pw_or _ _ _ _ _ _ _ (@pt_not _ _ _ _ (@pt_val _ _ _ (@pe_callB _ _ _ _ _ _ _ _ _ call_isinst (by rfl) T.b_isinstance bt_isinstance (@pa_cons _ _ _ _ _ (pv 0) (@pa_cons _ _ _ _ _ (@pe_ty _ _ _ _ rfl T.b_str bt_str (by decide) (by decide)) (@pa_nil _) (by rfl)) (by rfl)) (by decide) (by decide) (by rfl) (by rfl)) (by intro _; rfl))) (@pw_or1 _ _ _ _ (@pt_not _ _ _ _ (@pt_chain _ _ _ _ _ _ _ _ _ _ _ _ op_le op_le (pv 1) (@pe_callB _ _ _ _ _ _ _ _ _ call_len_str (by rfl) T.b_len bt_len (@pa_cons _ _ _ _ _ (pv 0) (@pa_nil _) (by rfl)) (by decide) (by decide) (by rfl) (by rfl)) (pv 2) (by with_unfolding_all rfl)))))) (@pss_one _ _ _ (@ps_ret _ _ _ _ (@pe_bl _ _ _ _))) (@pss_nil _)) (@pss_one _ _ _ (@ps_ret _ _ _ _ (@pe_callB _ _ _ _ _ _ _ _ _ (call_all rfl) (by rfl) T.b_all bt_all (@pa_cons _ _ _ _ _ (@pe_comp0 _ ["sign"] _ _ _ _ _ _ _ _ _ _ rfl (@pi_str _ _ _ _ (pv 0)) (by decide +kernel) (fun C s H fp=>⟨(@pg_name _ _ (0) _ (show (["sign"]:List Str).Nodup by decide +kernel) rfl (by first | exact Or.inl rfl | exact Or.inr rfl) (by first | exact .inl rfl | exact .inr rfl | assumption)),(@pifs_nil _),(@pe_cmpR _ _ _ _ _ _ _ _ op_in_str (pv 0) (@pe_globS _ _ _ _ rfl T.c_SIGNS (by decide)) rfl)⟩) (by intro _; rfl)) (@pa_nil _) (by rfl)) (by decide) (by decide) (by rfl) (by rfl))))),?_⟩
  refine ⟨_,rfl,_,_,_,_,rfl,ok.ty K,ok.kit K,_,rfl,?_⟩
  cases hw:isA (tyN H v) "str" with
  | false=>
    refine iteTc rfl ?_
    have:=q H (Same.refl _)
    rw [textB_no hw] at this
    exact this
  | true=>
    refine iteFc rfl ?_
    obtain ⟨z,rfl,hz⟩:=str_of ok hw
    have zl:=cod_len z
    refine ⟨_,rfl,_,rfl,_,rfl,small (by omega),_,_,rfl,rfl,_,rfl,?_⟩
    refine ite2 (fun c=>?_) (fun c=>?_)
    · refine ⟨_,rfl,_,_,rfl,rfl,_,rfl,?_⟩
      refine ite2 (fun d=>?_) (fun d=>?_)
      · have d':decide ((z.length:Int)≤b) = false:=by simpa using d
        have e:textB a b (.str z) = false:=by show (decide (a≤(z.length:Int)) && decide ((z.length:Int)≤b) && allIn SG z) = _; rw [d',Bool.and_false]; rfl
        have:=q H (Same.refl _)
        rw [e] at this
        exact this
      · have d':decide ((z.length:Int)≤b) = true:=by simpa using d
        refine ⟨_,rfl,z,rfl,?_⟩
        refine comp_map (fun v=>match v with | .str y=>.bl (!(Builtin.Str.occurrences SG y 0 SG.length 1).isEmpty) | _=>.non) itIs_str (by rw [List.length_map]; exact Nat.le_trans (Nat.le_of_eq zl) (by omega)) (fun x H' R hx s' hR=>?_) fun l H7 n7 s7 h7=>?_
        · obtain ⟨u,_,rfl⟩:=List.mem_map.mp hx
          exact ⟨_,rfl,_,_,rfl,rfl,hR H' (Same.refl _)⟩
        rw [signs_all] at h7
        refine ⟨l,_,rfl,SqL.of h7,?_⟩
        have e:textB a b (.str z) = ((cod z).map fun c=>decide (c∈cod SG)).all id:=by
          show (decide (a≤(z.length:Int)) && decide ((z.length:Int)≤b) && allIn SG z) = _; unfold allIn; rw [c,d',List.all_map]; rfl
        have:=q H7 s7
        rw [e] at this
        exact this
    · have c':decide (a≤(z.length:Int)) = false:=Bool.eq_false_iff.mpr c
      have e:textB a b (.str z) = false:=by show (decide (a≤(z.length:Int)) && decide ((z.length:Int)≤b) && allIn SG z) = _; rw [c',Bool.false_and]; rfl
      have:=q H (Same.refl _)
      rw [e] at this
      exact ⟨_,rfl,this⟩
abbrev NS:Str:=PySem.Str.ofString "0123456789abcdefghijklmnopqrstuvwxyz"
abbrev LN:Str:=PySem.Str.ofString "abcdefghijklmnopqrstuvwxyz0123456789"
theorem ns_ln:(∀ c∈cod NS,c∈cod LN)∧∀ c∈cod LN,c∈cod NS∧c∈cod SG:=by decide +kernel
def nameB:V→Bool
  | .str z=>decide ((1:Int)≤z.length) && decide ((z.length:Int)≤8) && allIn LN z
  | _=>false
theorem allIn_two (z:Str):(allIn SG z && allIn NS z) = allIn LN z:=by
  unfold allIn
  rw [Bool.eq_iff_iff,Bool.and_eq_true,List.all_eq_true,List.all_eq_true,List.all_eq_true]
  simp only [decide_eq_true_eq]
  exact ⟨fun h c hc=>ns_ln.1 c (h.2 c hc),fun h=>⟨fun c hc=>(ns_ln.2 c (h c hc)).2,fun c hc=>(ns_ln.2 c (h c hc)).1⟩⟩
theorem name_text (v:V):nameB v = match v with | .str z=>textB 1 8 v && allIn NS z | _=>false:=by
  cases v with
  | str z=>
    show (decide ((1:Int)≤z.length) && decide ((z.length:Int)≤8) && allIn LN z) = ((decide ((1:Int)≤(z.length:Int)) && decide ((z.length:Int)≤8) && allIn SG z) && allIn NS z)
    rw [← allIn_two z]
    simp only [Bool.and_assoc]
  | _=>rfl
def sp_is_name (K:PySem.W.Frag):Sp:=fun vs H Q _=>∃ v,vs = [v]∧Ok H v∧∀ H',Same H H'→Q (.bl (nameB v)) H'
theorem ok_is_name (T:Txt K mg) (F:Fun K "is_name" "is_name" s_is_name f fd) (D_is_text:Def P w K mg base 1 "is_text" ["thing","least","most"] (sp_is_text K)):FnOk P w K mg base CX0 2 f fd ["thing"] (sp_is_name K):=by
  refine F.ok sc_is_name (fun vs H Q E h=>?_) (fun cdv A outer s H vs Q E hr h=>?_)
  · obtain ⟨v,rfl,_⟩:=h
    rfl
  obtain ⟨v,rfl,ok,q⟩:=h
  refine ⟨_,(@pss_one _ _ _ (@ps_ret _ _ _ _ (@pe_and _ _ _ _ _ _ _ (@pe_fn _ _ _ _ _ _ _ _ _ _ D_is_text (hr.mono (by decide)) rfl (@pa_cons _ _ _ _ _ (pv 0) (@pa_cons _ _ _ _ _ (@pe_int _ _ _ _) (@pa_cons _ _ _ _ _ (@pe_globI _ _ _ _ rfl T.c_MOST_NAME_SIGNS (by decide)) (@pa_nil _) (by rfl)) (by rfl)) (by rfl)) (by decide) (by rfl) (by rfl)) (@pe_one _ _ _ _ _ (@pe_callB _ _ _ _ _ _ _ _ _ (call_all rfl) (by rfl) T.b_all bt_all (@pa_cons _ _ _ _ _ (@pe_comp0 _ ["sign"] _ _ _ _ _ _ _ _ _ _ rfl (@pi_str _ _ _ _ (pv 0)) (by decide +kernel) (fun C s H fp=>⟨(@pg_name _ _ (0) _ (show (["sign"]:List Str).Nodup by decide +kernel) rfl (by first | exact Or.inl rfl | exact Or.inr rfl) (by first | exact .inl rfl | exact .inr rfl | assumption)),(@pifs_nil _),(@pe_cmpR _ _ _ _ _ _ _ _ op_in_str (pv 0) (@pe_globS _ _ _ _ rfl T.c_NAME_SIGNS (by decide)) rfl)⟩) (by intro _; rfl)) (@pa_nil _) (by rfl)) (by decide) (by decide) (by rfl) (by rfl)))))),?_⟩
  refine ⟨_,rfl,v,1,8,rfl,ok,fun H1 s1=>⟨_,rfl,?_⟩⟩
  have en:=name_text v
  refine ite2 (fun c=>?_) (fun c=>?_)
  · cases v with
    | str z=>
      have hz:z.length≤1000:=ok
      have zl:=cod_len z
      refine ⟨_,rfl,z,rfl,?_⟩
      refine comp_map (fun v=>match v with | .str y=>.bl (!(Builtin.Str.occurrences NS y 0 NS.length 1).isEmpty) | _=>.non) itIs_str (by rw [List.length_map]; exact Nat.le_trans (Nat.le_of_eq zl) (by omega)) (fun x H' R hx s' hR=>?_) fun l H7 n7 s7 h7=>?_
      · obtain ⟨u,_,rfl⟩:=List.mem_map.mp hx
        exact ⟨_,rfl,_,_,rfl,rfl,hR H' (Same.refl _)⟩
      rw [signs_all] at h7
      refine ⟨l,_,rfl,SqL.of h7,?_⟩
      have e:nameB (.str z) = ((cod z).map fun c=>decide (c∈cod NS)).all id:=by
        rw [en]; show (textB 1 8 (.str z) && allIn NS z) = _; rw [c]; unfold allIn; rw [List.all_map]; rfl
      have:=q H7 (s1.trans s7)
      rw [e] at this
      exact this
    | _=>exact absurd (show false = true from c) Bool.false_ne_true
  · have e:nameB v = false:=by
      rw [en]
      cases v with
      | str z=>show (textB 1 8 (.str z) && allIn NS z) = false; rw [Bool.eq_false_iff.mpr c]; rfl
      | _=>rfl
    have:=q H1 s1
    rw [e] at this
    exact this
def tupN (H:Hp) (v:V) (n:Int):Bool:=match v with
  | .ref a=>match H a with
    | some (.tup xs)=>decide ((xs.length:Int) = n)
    | _=>false
  | _=>false
theorem tupN_tup {H:Hp} {a:Addr} {xs:List V} {n:Int} (h:H a = some (.tup xs)):tupN H (.ref a) n = decide ((xs.length:Int) = n):=by simp only [tupN,h]
theorem tupN_no {H:Hp} {v:V} {n:Int} (ok:Ok H v) (h:isA (tyN H v) "tuple" = false):tupN H v n = false:=by
  refine ok.elim (fun e _=>?_) (fun _ e _=>?_) (fun _ e _=>?_) (fun _ e _ _=>?_) (fun a xs e e2 _=>?_) (fun _ _ _ _ e=>?_)
  · rw [e]; rfl
  · rw [e]; rfl
  · rw [e]; rfl
  · rw [e]; rfl
  · rw [e]; simp only [tupN,e2]
  · rw [e] at h; exact absurd h (by decide)
theorem tupN_of {H:Hp} {v:V} {n:Int} (h:tupN H v n = true):∃ a xs,v = .ref a∧H a = some (.tup xs)∧(xs.length:Int) = n:=by
  unfold tupN at h
  split at h
  · split at h
    · rename_i a _ xs e
      exact ⟨a,xs,rfl,e,of_decide_eq_true h⟩
    · cases h
  · cases h
def sp_is_tuple_of (K:PySem.W.Frag):Sp:=fun vs H Q _=>∃ v n,vs = [v,.int n]∧Ok H v∧Q (.bl (tupN H v n)) H
theorem ok_is_tuple_of (T:Txt K mg) (F:Fun K "is_tuple_of" "is_tuple_of" s_is_tuple_of f fd):FnOk P w K mg base CX0 1 f fd ["thing","many"] (sp_is_tuple_of K):=by
  refine F.ok sc_is_tuple_of (fun vs H Q E h=>?_) (fun cdv A outer s H vs Q E hr h=>?_)
  · obtain ⟨v,n,rfl,_⟩:=h
    rfl
  obtain ⟨v,n,rfl,ok,q⟩:=h
  refine ⟨_,(@pss_one _ _ _ (@ps_ret _ _ _ _ (@pe_and _ _ _ _ _ _ _ (@pe_callB _ _ _ _ _ _ _ _ _ call_isinst (by rfl) T.b_isinstance bt_isinstance (@pa_cons _ _ _ _ _ (pv 0) (@pa_cons _ _ _ _ _ (@pe_ty _ _ _ _ rfl T.b_tuple bt_tuple (by decide) (by decide)) (@pa_nil _) (by rfl)) (by rfl)) (by decide) (by decide) (by rfl) (by rfl)) (@pe_one _ _ _ _ _ (@pe_cmpR _ _ _ _ _ _ _ _ op_eq (@pe_callB _ _ _ _ _ _ _ _ _ call_len_seq (by rfl) T.b_len bt_len (@pa_cons _ _ _ _ _ (pv 0) (@pa_nil _) (by rfl)) (by decide) (by decide) (by rfl) (by rfl)) (pv 1) (nomark _)))))),?_⟩
  refine tAndV_p (isA (tyN H v) "tuple") (tupN H v n) (fun R q=>⟨_,rfl,_,_,_,_,rfl,ok.ty K,ok.kit K,q⟩) (fun hw R q=>?_) ?_
  · obtain ⟨a,xs,rfl,e⟩:=tuple_of ok hw
    rw [tupN_tup e] at q
    refine ⟨_,rfl,a,xs,rfl,.inr (SqT.of e),_,rfl,rfl,?_⟩
    rw [dec_int,Bool.beq_eq_decide_eq]; exact q
  · cases hw:isA (tyN H v) "tuple" with
    | true=>exact q
    | false=>rw [tupN_no ok hw] at q; exact q
def itemsOk (H:Hp) (v:V):Prop:=∀ a xs,v = .ref a→H a = some (.tup xs)→∀ x∈xs,Ok H x
def tagB (H:Hp) (v:V):Bool:=match v with
  | .ref a=>match H a with
    | some (.tup [x,y,z])=>betw 1 999999 x && betw 0 999999999 y && betw 0 996 z
    | _=>false
  | _=>false
theorem three_of {xs:List V} (h:(xs.length:Int) = 3):∃ x y z,xs = [x,y,z]:=by
  match xs,h with
  | [x,y,z],_=>exact ⟨x,y,z,rfl⟩
  | [],h=>simp at h
  | [_],h=>simp at h
  | [_,_],h=>simp at h
  | _ :: _ :: _ :: _ :: _,h=>simp at h; omega
theorem tagB_no {H:Hp} {v:V} (h:tupN H v 3 = false):tagB H v = false:=by
  unfold tagB
  split
  · rename_i a
    split
    · rename_i x y z e
      rw [tupN_tup e] at h
      exact absurd h (by simp)
    · rfl
  · rfl
theorem tagB_three {H:Hp} {a:Addr} {x y z:V} (e:H a = some (.tup [x,y,z])):tagB H (.ref a) = (betw 1 999999 x && betw 0 999999999 y && betw 0 996 z):=by simp only [tagB,e]
theorem at3 {x y z:V}:atI [x,y,z] 0 = some x∧atI [x,y,z] 1 = some y∧atI [x,y,z] 2 = some z:=⟨rfl,rfl,rfl⟩
def sp_is_tag (K:PySem.W.Frag):Sp:=fun vs H Q _=>∃ v,vs = [v]∧Ok H v∧itemsOk H v∧Q (.bl (tagB H v)) H
theorem ok_is_tag (T:Txt K mg) (F:Fun K "is_tag" "is_tag" s_is_tag f fd) (D_is_between:Def P w K mg base 2 "is_between" ["thing","least","most"] (sp_is_between K)) (D_is_tuple_of:Def P w K mg base 1 "is_tuple_of" ["thing","many"] (sp_is_tuple_of K)):FnOk P w K mg base CX0 3 f fd ["thing"] (sp_is_tag K):=by
  refine F.ok sc_is_tag (fun vs H Q E h=>?_) (fun cdv A outer s H vs Q E hr h=>?_)
  · obtain ⟨v,rfl,_⟩:=h
    rfl
  obtain ⟨v,rfl,ok,iok,q⟩:=h
  refine ⟨_,(@pss_cons _ _ _ _ _ (@ps_if _ _ _ _ _ _ _ _ (@pt_not _ _ _ _ (@pt_val _ _ _ (@pe_fn _ _ _ _ _ _ _ _ _ _ D_is_tuple_of (hr.mono (by decide)) rfl (@pa_cons _ _ _ _ _ (pv 0) (@pa_cons _ _ _ _ _ (@pe_int _ _ _ _) (@pa_nil _) (by rfl)) (by rfl)) (by decide) (by rfl) (by rfl)) (by intro _; rfl))) (@pss_one _ _ _ (@ps_ret _ _ _ _ (@pe_bl _ _ _ _))) (@pss_nil _)) (@pss_cons _ _ _ _ _ (@ps_if _ _ _ _ _ _ _ _ (@PW.pt _ _ _ (@pw_or _ _ _ _ _ _ _ (@pt_not _ _ _ _ (@pt_val _ _ _ (@pe_fn _ _ _ _ _ _ _ _ _ _ D_is_between (hr.mono (by decide)) rfl (@pa_cons _ _ _ _ _ (@pe_ix _ _ _ _ _ _ _ ix_tup (pv 0) (@pe_int _ _ _ _) (fun _ _=>rfl)) (@pa_cons _ _ _ _ _ (@pe_int _ _ _ _) (@pa_cons _ _ _ _ _ (@pe_globI _ _ _ _ rfl T.c_MOST_CELL (by decide)) (@pa_nil _) (by rfl)) (by rfl)) (by rfl)) (by decide) (by rfl) (by rfl)) (by intro _; rfl))) (@pw_or1 _ _ _ _ (@pt_not _ _ _ _ (@pt_val _ _ _ (@pe_fn _ _ _ _ _ _ _ _ _ _ D_is_between (hr.mono (by decide)) rfl (@pa_cons _ _ _ _ _ (@pe_ix _ _ _ _ _ _ _ ix_tup (pv 0) (@pe_int _ _ _ _) (fun _ _=>rfl)) (@pa_cons _ _ _ _ _ (@pe_int _ _ _ _) (@pa_cons _ _ _ _ _ (@pe_globI _ _ _ _ rfl T.c_MOST_BIRTH (by decide)) (@pa_nil _) (by rfl)) (by rfl)) (by rfl)) (by decide) (by rfl) (by rfl)) (by intro _; rfl)))))) (@pss_one _ _ _ (@ps_ret _ _ _ _ (@pe_bl _ _ _ _))) (@pss_nil _)) (@pss_one _ _ _ (@ps_ret _ _ _ _ (@pe_fn _ _ _ _ _ _ _ _ _ _ D_is_between (hr.mono (by decide)) rfl (@pa_cons _ _ _ _ _ (@pe_ix _ _ _ _ _ _ _ ix_tup (pv 0) (@pe_int _ _ _ _) (fun _ _=>rfl)) (@pa_cons _ _ _ _ _ (@pe_int _ _ _ _) (@pa_cons _ _ _ _ _ (@pe_op _ _ _ _ _ _ _ _ op_sub (@pe_globI _ _ _ _ rfl T.c_SUM_RESTS (by decide)) (@pe_int _ _ _ _)) (@pa_nil _) (by rfl)) (by rfl)) (by rfl)) (by decide) (by rfl) (by rfl)))))),?_⟩
  refine ⟨_,rfl,v,3,rfl,ok,_,rfl,?_⟩
  cases hw:tupN H v 3 with
  | false=>
    refine iteTc rfl ?_
    rw [tagB_no hw] at q
    exact q
  | true=>
    refine iteFc rfl ?_
    obtain ⟨a,xs,rfl,e,hl⟩:=tupN_of hw
    obtain ⟨x,y,z,rfl⟩:=three_of hl
    have i1:=iok a _ rfl e
    have ox:Ok H x:=i1 x (by simp)
    have oy:Ok H y:=i1 y (by simp)
    have oz:Ok H z:=i1 z (by simp)
    rw [tagB_three e] at q
    dsimp only [tNext,tSeq,tIfS]
    refine tOr_p (!betw 1 999999 x) (!betw 0 999999999 y) (fun R q=>⟨_,rfl,a,_,_,_,rfl,rfl,SqT.of e,at3.1,x,1,999999,rfl,ox,_,rfl,q⟩) (fun _ R q=>⟨_,rfl,a,_,_,_,rfl,rfl,SqT.of e,at3.2.1,y,0,999999999,rfl,oy,_,rfl,q⟩) ?_
    refine ite2 (fun c=>?_) (fun c=>?_)
    · have:(betw 1 999999 x && betw 0 999999999 y && betw 0 996 z) = false:=by
        cases h1:betw 1 999999 x <;> cases h2:betw 0 999999999 y <;> simp_all
      rw [this] at q
      exact q
    · have:(betw 1 999999 x && betw 0 999999999 y && betw 0 996 z) = betw 0 996 z:=by
        cases h1:betw 1 999999 x <;> cases h2:betw 0 999999999 y <;> simp_all
      rw [this] at q
      exact ⟨_,rfl,a,_,_,_,rfl,rfl,SqT.of e,at3.2.2,_,_,rfl,rfl,z,0,996,rfl,oz,q⟩
end
theorem reps_mem {F:Addr→Prop} {H:Hp} {ts:List Tr} {vs:List V} (h:Reps F H ts vs) {v:V} (hv:v∈vs):∃ t∈ts,Rep F H t v:=by
  obtain ⟨i,hi,e⟩:=List.getElem_of_mem hv
  obtain ⟨t,ht,r⟩:=Reps.get h (show vs[i]? = some v by rw [List.getElem?_eq_getElem hi,e])
  exact ⟨t,List.mem_of_getElem? ht,r⟩
def sh:Nat→Tr→Bool
  | _,.str z=>decide (z.length≤1000)
  | n + 1,.tup ts=>ts.all (sh n)
  | _,_=>true
theorem sh_le:∀ {n m:Nat} {t:Tr},n≤m→sh m t = true→sh n t = true
  | 0,_,.non,_,_=>rfl
  | 0,_,.bl _,_,_=>rfl
  | 0,_,.int _,_,_=>rfl
  | 0,0,.str _,_,h=>h
  | 0,_ + 1,.str _,_,h=>h
  | 0,_,.tup _,_,_=>rfl
  | 0,_,.lst _,_,_=>rfl
  | n + 1,0,_,h,_=>absurd h (by omega)
  | n + 1,m + 1,.non,_,_=>rfl
  | n + 1,m + 1,.bl _,_,_=>rfl
  | n + 1,m + 1,.int _,_,_=>rfl
  | n + 1,m + 1,.str _,_,h=>h
  | n + 1,m + 1,.lst _,_,_=>rfl
  | n + 1,m + 1,.tup ts,h,s=>List.all_eq_true.mpr fun t ht=>sh_le (by omega) (List.all_eq_true.mp s t ht)
def sN:Tr→Bool
  | .str z=>nameB (.str z)
  | _=>false
def sB (a b:Int):Tr→Bool
  | .int i=>decide (a≤i) && decide (i≤b)
  | _=>false
def tLen (n:Nat):Tr→Bool
  | .tup ts=>decide (ts.length = n)
  | _=>false
def tagT:Tr→Bool
  | .tup [x,y,z]=>sB 1 999999 x && sB 0 999999999 y && sB 0 996 z
  | _=>false
def keeperT:Tr→Bool
  | .tup [x,y]=>sN x && sB 0 999999999 y
  | _=>false
def orgT:Tr→Bool
  | .str z=>decide (z = EM) || nameB (.str z)
  | _=>false
def stemT:Tr→Bool
  | .tup [a,b,c,d,e]=>sB 1 1 b && (sN a && (sN c && (orgT d && tagT e)))
  | _=>false
def sealT:Tr→Bool
  | .tup [a,b,c,d,e]=>sB 2 2 b && (sN a && (sN c && (sB 1 999999999 d && tagT e)))
  | _=>false
def isTup:Tr→Bool
  | .tup _=>true
  | _=>false
abbrev AllF:Addr→Prop:=fun _=>True
theorem rep_okS {H:Hp} {v:V} {n:Nat}:∀ {t:Tr},Rep AllF H t v→sh n t = true→Ok H v
  | .non,h,_=>by rw [show v = .non from h]; trivial
  | .bl b,h,_=>by rw [show v = .bl b from h]; trivial
  | .int i,h,_=>by rw [show v = .int i from h]; trivial
  | .str z,h,s=>by
    rw [show v = .str z from h]
    show z.length≤1000
    cases n <;> exact of_decide_eq_true s
  | .tup ts,h,_=>by
    obtain ⟨a,vs,rfl,e,_⟩:=h
    exact .inr ⟨_,e⟩
  | .lst ts,h,_=>by
    obtain ⟨a,vs,rfl,_,e,_⟩:=h
    exact .inl ⟨_,e⟩
theorem sh_mem {n:Nat} {ts:List Tr} (h:sh (n + 1) (.tup ts) = true) {t:Tr} (m:t∈ts):sh n t = true:=List.all_eq_true.mp h t m
theorem tupN_T {H:Hp} {v:V} {n:Nat}:∀ {t:Tr},Rep AllF H t v→tupN H v n = tLen n t
  | .non,h=>by rw [show v = .non from h]; rfl
  | .bl b,h=>by rw [show v = .bl b from h]; rfl
  | .int i,h=>by rw [show v = .int i from h]; rfl
  | .str z,h=>by rw [show v = .str z from h]; rfl
  | .tup ts,h=>by
    obtain ⟨a,vs,rfl,e,r⟩:=h
    rw [tupN_tup e]
    show decide ((vs.length:Int) = (n:Int)) = decide (ts.length = n)
    rw [Reps.len ts vs r,Bool.eq_iff_iff,decide_eq_true_eq,decide_eq_true_eq]
    omega
  | .lst ts,h=>by
    obtain ⟨a,vs,rfl,_,e,_⟩:=h
    simp only [tupN,e,tLen]
theorem betw_T {H:Hp} {v:V} {a b:Int}:∀ {t:Tr},Rep AllF H t v→betw a b v = sB a b t
  | .non,h=>by rw [show v = .non from h]; rfl
  | .bl c,h=>by rw [show v = .bl c from h]; rfl
  | .int i,h=>by rw [show v = .int i from h]; rfl
  | .str z,h=>by rw [show v = .str z from h]; rfl
  | .tup ts,h=>by obtain ⟨a,vs,rfl,e,r⟩:=h; rfl
  | .lst ts,h=>by obtain ⟨a,vs,rfl,_,e,_⟩:=h; rfl
theorem name_T {H:Hp} {v:V}:∀ {t:Tr},Rep AllF H t v→nameB v = sN t
  | .non,h=>by rw [show v = .non from h]; rfl
  | .bl c,h=>by rw [show v = .bl c from h]; rfl
  | .int i,h=>by rw [show v = .int i from h]; rfl
  | .str z,h=>by rw [show v = .str z from h]; rfl
  | .tup ts,h=>by obtain ⟨a,vs,rfl,e,r⟩:=h; rfl
  | .lst ts,h=>by obtain ⟨a,vs,rfl,_,e,_⟩:=h; rfl
theorem tup2 {t:Tr} (h:tLen 2 t = true):∃ x y,t = .tup [x,y]:=by
  match t,h with
  | .tup [x,y],_=>exact ⟨x,y,rfl⟩
  | .tup [],h=>exact absurd h (by simp [tLen])
  | .tup [_],h=>exact absurd h (by simp [tLen])
  | .tup (_ :: _ :: _ :: _),h=>exact absurd h (by simp [tLen])
theorem tup3 {t:Tr} (h:tLen 3 t = true):∃ x y z,t = .tup [x,y,z]:=by
  match t,h with
  | .tup [x,y,z],_=>exact ⟨x,y,z,rfl⟩
  | .tup [],h=>exact absurd h (by simp [tLen])
  | .tup [_],h=>exact absurd h (by simp [tLen])
  | .tup [_,_],h=>exact absurd h (by simp [tLen])
  | .tup (_ :: _ :: _ :: _ :: _),h=>exact absurd h (by simp [tLen])
theorem tup5 {t:Tr} (h:tLen 5 t = true):∃ a b c d e,t = .tup [a,b,c,d,e]:=by
  match t,h with
  | .tup [a,b,c,d,e],_=>exact ⟨a,b,c,d,e,rfl⟩
  | .tup [],h=>exact absurd h (by simp [tLen])
  | .tup [_],h=>exact absurd h (by simp [tLen])
  | .tup [_,_],h=>exact absurd h (by simp [tLen])
  | .tup [_,_,_],h=>exact absurd h (by simp [tLen])
  | .tup [_,_,_,_],h=>exact absurd h (by simp [tLen])
  | .tup (_ :: _ :: _ :: _ :: _ :: _ :: _),h=>exact absurd h (by simp [tLen])
theorem keeper_no {t:Tr} (h:tLen 2 t = false):keeperT t = false:=by
  unfold keeperT
  split
  · exact absurd h (by simp [tLen])
  · rfl
theorem stem_no {t:Tr} (h:tLen 5 t = false):stemT t = false:=by
  unfold stemT
  split
  · exact absurd h (by simp [tLen])
  · rfl
theorem seal_no {t:Tr} (h:tLen 5 t = false):sealT t = false:=by
  unfold sealT
  split
  · exact absurd h (by simp [tLen])
  · rfl
theorem tag_T {H:Hp} {v:V} {t:Tr} (h:Rep AllF H t v):tagB H v = tagT t:=by
  cases c:tLen 3 t with
  | false=>
    rw [tagB_no (by rw [show (3:Int) = ((3:Nat):Int) from rfl,tupN_T h]; exact c)]
    unfold tagT
    split
    · exact absurd c (by simp [tLen])
    · rfl
  | true=>
    obtain ⟨x,y,z,rfl⟩:=tup3 c
    obtain ⟨a,vs,rfl,e,v1,vs1,rfl,r1,v2,vs2,rfl,r2,v3,vs3,rfl,r3,rfl⟩:=h
    rw [tagB_three e,betw_T r1,betw_T r2,betw_T r3]
    rfl
theorem items_T {H:Hp} {v:V} {t:Tr} {n:Nat} (h:Rep AllF H t v) (s:sh (n + 1) t = true):itemsOk H v:=by
  rintro a xs rfl e x hx
  cases t with
  | tup ts=>
    obtain ⟨a',vs,q,e',r⟩:=h
    cases q
    rw [e] at e'
    cases e'
    obtain ⟨t,ht,rt⟩:=reps_mem r hx
    exact rep_okS rt (sh_mem s ht)
  | lst ts=>
    obtain ⟨a',vs,q,_,e',r⟩:=h
    cases q
    rw [e] at e'
    cases e'
  | non=>cases h
  | bl _=>cases h
  | int _=>cases h
  | str _=>cases h
section
variable {P:Program} {w:World} {K:PySem.W.Frag} {mg:Str→Option Value} {base:Heap} {f:Addr} {fd:FuncData}
def sp_is_keeper (K:PySem.W.Frag):Sp:=fun vs H Q _=>∃ v t,vs = [v]∧Rep AllF H t v∧sh 1 t = true∧∀ H',Same H H'→Q (.bl (keeperT t)) H'
theorem ok_is_keeper (T:Txt K mg) (F:Fun K "is_keeper" "is_keeper" s_is_keeper f fd) (D_is_tuple_of:Def P w K mg base 1 "is_tuple_of" ["thing","many"] (sp_is_tuple_of K)) (D_is_name:Def P w K mg base 2 "is_name" ["thing"] (sp_is_name K)) (D_is_between:Def P w K mg base 2 "is_between" ["thing","least","most"] (sp_is_between K)):FnOk P w K mg base CX0 3 f fd ["thing"] (sp_is_keeper K):=by
  refine F.ok sc_is_keeper (fun vs H Q E h=>?_) (fun cdv A outer s H vs Q E hr h=>?_)
  · obtain ⟨v,t,rfl,_⟩:=h
    rfl
  obtain ⟨v,t,rfl,hv,hs,q⟩:=h
  have okv:=rep_okS hv hs
  refine ⟨_,(@pss_one _ _ _ (@ps_ret _ _ _ _ (@pe_and _ _ _ _ _ _ _ (@pe_fn _ _ _ _ _ _ _ _ _ _ D_is_tuple_of (hr.mono (by decide)) rfl (@pa_cons _ _ _ _ _ (pv 0) (@pa_cons _ _ _ _ _ (@pe_int _ _ _ _) (@pa_nil _) (by rfl)) (by rfl)) (by decide) (by rfl) (by rfl)) (@pe_and _ _ _ _ _ _ _ (@pe_fn _ _ _ _ _ _ _ _ _ _ D_is_name (hr.mono (by decide)) rfl (@pa_cons _ _ _ _ _ (@pe_ix _ _ _ _ _ _ _ ix_tup (pv 0) (@pe_int _ _ _ _) (fun _ _=>rfl)) (@pa_nil _) (by rfl)) (by decide) (by rfl) (by rfl)) (@pe_one _ _ _ _ _ (@pe_fn _ _ _ _ _ _ _ _ _ _ D_is_between (hr.mono (by decide)) rfl (@pa_cons _ _ _ _ _ (@pe_ix _ _ _ _ _ _ _ ix_tup (pv 0) (@pe_int _ _ _ _) (fun _ _=>rfl)) (@pa_cons _ _ _ _ _ (@pe_int _ _ _ _) (@pa_cons _ _ _ _ _ (@pe_globI _ _ _ _ rfl T.c_MOST_NUMBER (by decide)) (@pa_nil _) (by rfl)) (by rfl)) (by rfl)) (by decide) (by rfl) (by rfl))))))),?_⟩
  refine ⟨_,rfl,_,2,rfl,okv,_,rfl,?_⟩
  rw [show (2:Int) = ((2:Nat):Int) from rfl,tupN_T hv]
  cases c:tLen 2 t with
  | false=>
    rw [keeper_no c] at q
    exact iteFc rfl (q H (Same.refl _))
  | true=>
    obtain ⟨x,y,rfl⟩:=tup2 c
    obtain ⟨a,us,rfl,e,v1,us1,rfl,r1,v2,us2,rfl,r2,rfl⟩:=hv
    replace q:∀ H',Same H H'→Q (.bl (sN x && sB 0 999999999 y)) H':=q
    refine iteTc rfl ⟨_,rfl,a,_,_,_,rfl,rfl,SqT.of e,rfl,_,rfl,rep_okS r1 (sh_mem hs (by simp)),fun H1 s1=>⟨_,rfl,?_⟩⟩
    rw [name_T r1]
    cases c1:sN x with
    | false=>rw [c1] at q; exact iteFc rfl (q H1 s1)
    | true=>
      rw [c1] at q
      have r2':=Rep.same s1 _ _ r2
      refine iteTc rfl ⟨_,rfl,a,_,_,_,rfl,rfl,SqT.of (s1.get e),rfl,_,0,999999999,rfl,rep_okS r2' (sh_mem hs (by simp)),?_⟩
      rw [betw_T r2']
      exact q H1 s1
def flatT:Tr→Bool
  | .tup _=>false
  | .lst _=>false
  | _=>true
def thirdOk:Tr→Bool
  | .tup [_,.int 1,_,d,_]=>flatT d
  | _=>true
theorem flat_eq {H:Hp} {v:V}:∀ {t:Tr},Rep AllF H t v→flatT t = true→∀ {Q:VK},(Q (.bl (match t with | .str z=>decide (z = EM) | _=>false)) H)→rEq v (.str EM) H Q
  | .non,h,_,Q,q=>by rw [show v = .non from h]; exact ⟨rfl,q⟩
  | .bl b,h,_,Q,q=>by rw [show v = .bl b from h]; exact ⟨rfl,q⟩
  | .int i,h,_,Q,q=>by rw [show v = .int i from h]; exact ⟨rfl,q⟩
  | .str z,h,_,Q,q=>by
    rw [show v = .str z from h]
    refine ⟨rfl,?_⟩
    have e:decide (V.str z = V.str EM) = decide (z = EM):=by
      by_cases c:z = EM
      · rw [decide_eq_true c,decide_eq_true (by rw [c])]
      · rw [decide_eq_false c,decide_eq_false fun y=>c (V.str.inj y)]
    rw [e]
    exact q
  | .tup _,_,h,_,_=>by cases h
  | .lst _,_,h,_,_=>by cases h
def sp_is_stem (K:PySem.W.Frag):Sp:=fun vs H Q _=>∃ v t,vs = [v]∧Rep AllF H t v∧sh 2 t = true∧thirdOk t = true∧∀ H',Same H H'→Q (.bl (stemT t)) H'
theorem sB_one {n:Int} {t:Tr}:sB n n t = true→t = .int n:=by
  intro h
  cases t with
  | int i=>
    have:(decide (n≤i) && decide (i≤n)) = true:=h
    rw [Bool.and_eq_true,decide_eq_true_eq,decide_eq_true_eq] at this
    rw [show i = n by omega]
  | _=>cases h
theorem ok_is_stem (T:Txt K mg) (F:Fun K "is_stem" "is_stem" s_is_stem f fd) (D_is_name:Def P w K mg base 2 "is_name" ["thing"] (sp_is_name K)) (D_is_tag:Def P w K mg base 3 "is_tag" ["thing"] (sp_is_tag K)) (D_is_tuple_of:Def P w K mg base 1 "is_tuple_of" ["thing","many"] (sp_is_tuple_of K)) (D_is_between:Def P w K mg base 2 "is_between" ["thing","least","most"] (sp_is_between K)):FnOk P w K mg base CX0 4 f fd ["thing"] (sp_is_stem K):=by
  refine F.ok sc_is_stem (fun vs H Q E h=>?_) (fun cdv A outer s H vs Q E hr h=>?_)
  · obtain ⟨v,t,rfl,_⟩:=h
    rfl
  obtain ⟨v,t,rfl,hv,hs,th,q⟩:=h
  have okv:=rep_okS hv hs
  have hu:=hu_of hr
  refine ⟨_,(@pss_cons _ _ _ _ _ (@ps_if _ _ _ _ _ _ _ _ (@PW.pt _ _ _ (@pw_or _ _ _ _ _ _ _ (@pt_not _ _ _ _ (@pt_val _ _ _ (@pe_fn _ _ _ _ _ _ _ _ _ _ D_is_tuple_of (hr.mono (by decide)) rfl (@pa_cons _ _ _ _ _ (pv 0) (@pa_cons _ _ _ _ _ (@pe_int _ _ _ _) (@pa_nil _) (by rfl)) (by rfl)) (by decide) (by rfl) (by rfl)) (by intro _; rfl))) (@pw_or1 _ _ _ _ (@pt_not _ _ _ _ (@pt_val _ _ _ (@pe_fn _ _ _ _ _ _ _ _ _ _ D_is_between (hr.mono (by decide)) rfl (@pa_cons _ _ _ _ _ (@pe_ix _ _ _ _ _ _ _ ix_tup (pv 0) (@pe_int _ _ _ _) (fun _ _=>rfl)) (@pa_cons _ _ _ _ _ (@pe_globI _ _ _ _ rfl T.c_STEM (by decide)) (@pa_cons _ _ _ _ _ (@pe_globI _ _ _ _ rfl T.c_STEM (by decide)) (@pa_nil _) (by rfl)) (by rfl)) (by rfl)) (by decide) (by rfl) (by rfl)) (by intro _; rfl)))))) (@pss_one _ _ _ (@ps_ret _ _ _ _ (@pe_bl _ _ _ _))) (@pss_nil _)) (@pss_one _ _ _ (@ps_ret _ _ _ _ (@pe_and _ _ _ _ _ _ _ (@pe_fn _ _ _ _ _ _ _ _ _ _ D_is_name (hr.mono (by decide)) rfl (@pa_cons _ _ _ _ _ (@pe_ix _ _ _ _ _ _ _ ix_tup (pv 0) (@pe_int _ _ _ _) (fun _ _=>rfl)) (@pa_nil _) (by rfl)) (by decide) (by rfl) (by rfl)) (@pe_and _ _ _ _ _ _ _ (@pe_fn _ _ _ _ _ _ _ _ _ _ D_is_name (hr.mono (by decide)) rfl (@pa_cons _ _ _ _ _ (@pe_ix _ _ _ _ _ _ _ ix_tup (pv 0) (@pe_int _ _ _ _) (fun _ _=>rfl)) (@pa_nil _) (by rfl)) (by decide) (by rfl) (by rfl)) (@pe_and _ _ _ _ _ _ _ (@pe_or _ _ _ _ _ _ _ (@pe_cmpR _ _ _ _ _ _ _ _ op_eq (@pe_ix _ _ _ _ _ _ _ ix_tup (pv 0) (@pe_int _ _ _ _) (fun _ _=>rfl)) (@pe_str _ _ _ _) (nomark _)) (@pe_one _ _ _ _ _ (@pe_fn _ _ _ _ _ _ _ _ _ _ D_is_name (hr.mono (by decide)) rfl (@pa_cons _ _ _ _ _ (@pe_ix _ _ _ _ _ _ _ ix_tup (pv 0) (@pe_int _ _ _ _) (fun _ _=>rfl)) (@pa_nil _) (by rfl)) (by decide) (by rfl) (by rfl)))) (@pe_one _ _ _ _ _ (@pe_fn _ _ _ _ _ _ _ _ _ _ D_is_tag (hr.mono (by decide)) rfl (@pa_cons _ _ _ _ _ (@pe_ix _ _ _ _ _ _ _ ix_tup (pv 0) (@pe_int _ _ _ _) (fun _ _=>rfl)) (@pa_nil _) (by rfl)) (by decide) (by rfl) (by rfl))))))))),?_⟩
  dsimp only [tNext,tSeq,tIfS]
  refine ⟨_,rfl,_,5,rfl,okv,_,rfl,?_⟩
  rw [show (5:Int) = ((5:Nat):Int) from rfl,tupN_T hv]
  cases c:tLen 5 t with
  | false=>
    rw [stem_no c] at q
    exact iteTc rfl (q H (Same.refl _))
  | true=>
    obtain ⟨a,b,d,o,g,rfl⟩:=tup5 c
    obtain ⟨p,us,rfl,e,v1,us1,rfl,r1,v2,us2,rfl,r2,v3,us3,rfl,r3,v4,us4,rfl,r4,v5,us5,rfl,r5,rfl⟩:=hv
    replace q:∀ H',Same H H'→Q (.bl (sB 1 1 b && (sN a && (sN d && (orgT o && tagT g))))) H':=q
    have ok1:=rep_okS r1 (sh_mem hs (by simp))
    have ok2:=rep_okS r2 (sh_mem hs (by simp))
    have ok3:=rep_okS r3 (sh_mem hs (by simp))
    have ok4:=rep_okS r4 (sh_mem hs (by simp))
    refine iteFc rfl ⟨_,rfl,p,_,_,_,rfl,rfl,SqT.of e,rfl,_,1,1,rfl,ok2,_,rfl,?_⟩
    rw [betw_T r2]
    cases cb:sB 1 1 b with
    | false=>rw [cb] at q; exact iteTc rfl (q H (Same.refl _))
    | true=>
      rw [cb] at q
      have:=sB_one cb
      subst this
      have fl:flatT o = true:=th
      refine iteFc rfl ⟨_,rfl,p,_,_,_,rfl,rfl,SqT.of e,rfl,_,rfl,ok1,fun H1 s1=>⟨_,rfl,?_⟩⟩
      rw [name_T r1]
      cases ca:sN a with
      | false=>rw [ca] at q; exact iteFc rfl (q H1 s1)
      | true=>
        rw [ca] at q
        refine iteTc rfl ⟨_,rfl,p,_,_,_,rfl,rfl,SqT.of (s1.get e),rfl,_,rfl,ok3.same s1,fun H2 s2=>⟨_,rfl,?_⟩⟩
        have s12:=s1.trans s2
        rw [name_T r3]
        cases cd:sN d with
        | false=>rw [cd] at q; exact iteFc rfl (q H2 s12)
        | true=>
          rw [cd] at q
          replace q:∀ H',Same H H'→Q (.bl (orgT o && tagT g)) H':=q
          have r4':=Rep.same s12 _ _ r4
          have tag:∀ {H3:Hp},Same H H3→Ok H3 v5∧itemsOk H3 v5∧tagB H3 v5 = tagT g:=fun {H3} s3=>by
            have r5':=Rep.same s3 _ _ r5
            have sg:=sh_mem hs (show g∈[a,Tr.int 1,d,o,g] by simp)
            exact ⟨rep_okS r5' sg,items_T r5' sg,tag_T r5'⟩
          refine iteTc rfl ⟨_,rfl,p,_,_,_,rfl,rfl,SqT.of (s12.get e),rfl,?_⟩
          dsimp only [tC]
          refine flat_eq r4' fl ?_
          refine ⟨_,rfl,?_⟩
          have fin:∀ {H3:Hp},Same H H3→orgT o = true→∃ v',[v5] = [v']∧Ok H3 v'∧itemsOk H3 v'∧Q (.bl (tagB H3 v')) H3:=fun {H3} s3 co=>by
            obtain ⟨t1,t2,t3⟩:=tag s3
            refine ⟨v5,rfl,t1,t2,?_⟩
            rw [t3]
            have:=q H3 s3
            rw [co] at this
            exact this
          cases o with
          | str z=>
            by_cases ce:z = EM
            · refine iteTc (decide_eq_true ce) ⟨_,rfl,iteTc rfl ?_⟩
              exact ⟨_,rfl,p,_,_,_,rfl,rfl,SqT.of (s12.get e),rfl,fin s12 (by show (decide (z = EM) || nameB (.str z)) = true; rw [decide_eq_true ce]; rfl)⟩
            · refine iteFc (decide_eq_false ce) ?_
              refine ⟨_,rfl,p,_,_,_,rfl,rfl,SqT.of (s12.get e),rfl,_,rfl,ok4.same s12,fun H3 s3=>⟨_,rfl,?_⟩⟩
              have s13:=s12.trans s3
              rw [name_T r4]
              cases cn:sN (.str z) with
              | true=>
                refine iteTc rfl ⟨_,rfl,p,_,_,_,rfl,rfl,SqT.of (s13.get e),rfl,fin s13 ?_⟩
                show (decide (z = EM) || nameB (.str z)) = true
                rw [show nameB (.str z) = true from cn,Bool.or_true]
              | false=>
                have co:orgT (.str z) = false:=by
                  show (decide (z = EM) || nameB (.str z)) = false
                  rw [show nameB (.str z) = false from cn,decide_eq_false ce]
                  rfl
                rw [co] at q
                exact iteFc rfl (q H3 s13)
          | tup _=>cases fl
          | lst _=>cases fl
          | _=>
            refine iteFc rfl ?_
            refine ⟨_,rfl,p,_,_,_,rfl,rfl,SqT.of (s12.get e),rfl,_,rfl,ok4.same s12,fun H3 s3=>⟨_,rfl,?_⟩⟩
            rw [name_T r4]
            exact iteFc rfl (q H3 (s12.trans s3))
def sp_is_seal (K:PySem.W.Frag):Sp:=fun vs H Q _=>∃ v t,vs = [v]∧Rep AllF H t v∧sh 2 t = true∧∀ H',Same H H'→Q (.bl (sealT t)) H'
theorem ok_is_seal (T:Txt K mg) (F:Fun K "is_seal" "is_seal" s_is_seal f fd) (D_is_name:Def P w K mg base 2 "is_name" ["thing"] (sp_is_name K)) (D_is_between:Def P w K mg base 2 "is_between" ["thing","least","most"] (sp_is_between K)) (D_is_tag:Def P w K mg base 3 "is_tag" ["thing"] (sp_is_tag K)) (D_is_tuple_of:Def P w K mg base 1 "is_tuple_of" ["thing","many"] (sp_is_tuple_of K)):FnOk P w K mg base CX0 4 f fd ["thing"] (sp_is_seal K):=by
  refine F.ok sc_is_seal (fun vs H Q E h=>?_) (fun cdv A outer s H vs Q E hr h=>?_)
  · obtain ⟨v,t,rfl,_⟩:=h
    rfl
  obtain ⟨v,t,rfl,hv,hs,q⟩:=h
  have okv:=rep_okS hv hs
  refine ⟨_,(@pss_cons _ _ _ _ _ (@ps_if _ _ _ _ _ _ _ _ (@PW.pt _ _ _ (@pw_or _ _ _ _ _ _ _ (@pt_not _ _ _ _ (@pt_val _ _ _ (@pe_fn _ _ _ _ _ _ _ _ _ _ D_is_tuple_of (hr.mono (by decide)) rfl (@pa_cons _ _ _ _ _ (pv 0) (@pa_cons _ _ _ _ _ (@pe_int _ _ _ _) (@pa_nil _) (by rfl)) (by rfl)) (by decide) (by rfl) (by rfl)) (by intro _; rfl))) (@pw_or1 _ _ _ _ (@pt_not _ _ _ _ (@pt_val _ _ _ (@pe_fn _ _ _ _ _ _ _ _ _ _ D_is_between (hr.mono (by decide)) rfl (@pa_cons _ _ _ _ _ (@pe_ix _ _ _ _ _ _ _ ix_tup (pv 0) (@pe_int _ _ _ _) (fun _ _=>rfl)) (@pa_cons _ _ _ _ _ (@pe_globI _ _ _ _ rfl T.c_SEAL (by decide)) (@pa_cons _ _ _ _ _ (@pe_globI _ _ _ _ rfl T.c_SEAL (by decide)) (@pa_nil _) (by rfl)) (by rfl)) (by rfl)) (by decide) (by rfl) (by rfl)) (by intro _; rfl)))))) (@pss_one _ _ _ (@ps_ret _ _ _ _ (@pe_bl _ _ _ _))) (@pss_nil _)) (@pss_one _ _ _ (@ps_ret _ _ _ _ (@pe_and _ _ _ _ _ _ _ (@pe_fn _ _ _ _ _ _ _ _ _ _ D_is_name (hr.mono (by decide)) rfl (@pa_cons _ _ _ _ _ (@pe_ix _ _ _ _ _ _ _ ix_tup (pv 0) (@pe_int _ _ _ _) (fun _ _=>rfl)) (@pa_nil _) (by rfl)) (by decide) (by rfl) (by rfl)) (@pe_and _ _ _ _ _ _ _ (@pe_fn _ _ _ _ _ _ _ _ _ _ D_is_name (hr.mono (by decide)) rfl (@pa_cons _ _ _ _ _ (@pe_ix _ _ _ _ _ _ _ ix_tup (pv 0) (@pe_int _ _ _ _) (fun _ _=>rfl)) (@pa_nil _) (by rfl)) (by decide) (by rfl) (by rfl)) (@pe_and _ _ _ _ _ _ _ (@pe_fn _ _ _ _ _ _ _ _ _ _ D_is_between (hr.mono (by decide)) rfl (@pa_cons _ _ _ _ _ (@pe_ix _ _ _ _ _ _ _ ix_tup (pv 0) (@pe_int _ _ _ _) (fun _ _=>rfl)) (@pa_cons _ _ _ _ _ (@pe_int _ _ _ _) (@pa_cons _ _ _ _ _ (@pe_globI _ _ _ _ rfl T.c_MOST_NUMBER (by decide)) (@pa_nil _) (by rfl)) (by rfl)) (by rfl)) (by decide) (by rfl) (by rfl)) (@pe_one _ _ _ _ _ (@pe_fn _ _ _ _ _ _ _ _ _ _ D_is_tag (hr.mono (by decide)) rfl (@pa_cons _ _ _ _ _ (@pe_ix _ _ _ _ _ _ _ ix_tup (pv 0) (@pe_int _ _ _ _) (fun _ _=>rfl)) (@pa_nil _) (by rfl)) (by decide) (by rfl) (by rfl))))))))),?_⟩
  dsimp only [tNext,tSeq,tIfS]
  refine ⟨_,rfl,_,5,rfl,okv,_,rfl,?_⟩
  rw [show (5:Int) = ((5:Nat):Int) from rfl,tupN_T hv]
  cases c:tLen 5 t with
  | false=>
    rw [seal_no c] at q
    exact iteTc rfl (q H (Same.refl _))
  | true=>
    obtain ⟨a,b,d,o,g,rfl⟩:=tup5 c
    obtain ⟨p,us,rfl,e,v1,us1,rfl,r1,v2,us2,rfl,r2,v3,us3,rfl,r3,v4,us4,rfl,r4,v5,us5,rfl,r5,rfl⟩:=hv
    replace q:∀ H',Same H H'→Q (.bl (sB 2 2 b && (sN a && (sN d && (sB 1 999999999 o && tagT g))))) H':=q
    have ok1:=rep_okS r1 (sh_mem hs (by simp))
    have ok2:=rep_okS r2 (sh_mem hs (by simp))
    have ok3:=rep_okS r3 (sh_mem hs (by simp))
    have ok4:=rep_okS r4 (sh_mem hs (by simp))
    refine iteFc rfl ⟨_,rfl,p,_,_,_,rfl,rfl,SqT.of e,rfl,_,2,2,rfl,ok2,_,rfl,?_⟩
    rw [betw_T r2]
    cases cb:sB 2 2 b with
    | false=>rw [cb] at q; exact iteTc rfl (q H (Same.refl _))
    | true=>
      rw [cb] at q
      refine iteFc rfl ⟨_,rfl,p,_,_,_,rfl,rfl,SqT.of e,rfl,_,rfl,ok1,fun H1 s1=>⟨_,rfl,?_⟩⟩
      rw [name_T r1]
      cases ca:sN a with
      | false=>rw [ca] at q; exact iteFc rfl (q H1 s1)
      | true=>
        rw [ca] at q
        refine iteTc rfl ⟨_,rfl,p,_,_,_,rfl,rfl,SqT.of (s1.get e),rfl,_,rfl,ok3.same s1,fun H2 s2=>⟨_,rfl,?_⟩⟩
        have s12:=s1.trans s2
        rw [name_T r3]
        cases cd:sN d with
        | false=>rw [cd] at q; exact iteFc rfl (q H2 s12)
        | true=>
          rw [cd] at q
          refine iteTc rfl ⟨_,rfl,p,_,_,_,rfl,rfl,SqT.of (s12.get e),rfl,_,1,999999999,rfl,ok4.same s12,_,rfl,?_⟩
          rw [betw_T r4]
          cases co:sB 1 999999999 o with
          | false=>rw [co] at q; exact iteFc rfl (q H2 s12)
          | true=>
            rw [co] at q
            have r5':=Rep.same s12 _ _ r5
            have sg:=sh_mem hs (show g∈[a,b,d,o,g] by simp)
            refine iteTc rfl ⟨_,rfl,p,_,_,_,rfl,rfl,SqT.of (s12.get e),rfl,v5,rfl,rep_okS r5' sg,items_T r5' sg,?_⟩
            rw [tag_T r5']
            exact q H2 s12
end
section
variable {P:Program} {w:World} {K:PySem.W.Frag} {mg:Str→Option Value} {base:Heap} {f:Addr} {fd:FuncData}
def adr:V→Addr
  | .ref b=>b
  | _=>0
def nm0:Tr→Str
  | .tup (.str z :: _)=>z
  | _=>EM
open Classical in
noncomputable def riseB (ks:List Str):Bool:=decide (ks.Pairwise Slt)
theorem rise_iff (ks:List Str):riseB ks = true↔ks.Pairwise Slt:=by unfold riseB; exact decide_eq_true_iff
noncomputable def keepersT:Tr→Bool
  | .tup ks=>decide (ks.length≤8) && (ks.all keeperT && riseB (ks.map nm0))
  | _=>false
noncomputable def namesT:Tr→Bool
  | .tup ns=>decide (ns.length≤24) && (ns.all (fun t=>stemT t || sealT t) && riseB (ns.map nm0))
  | _=>false
theorem ty_T {H:Hp} {v:V}:∀ {t:Tr},Rep AllF H t v→isA (tyN H v) "tuple" = isTup t
  | .non,h=>by rw [show v = .non from h]; rfl
  | .bl c,h=>by rw [show v = .bl c from h]; rfl
  | .int i,h=>by rw [show v = .int i from h]; rfl
  | .str z,h=>by rw [show v = .str z from h]; rfl
  | .tup ts,h=>by obtain ⟨a,vs,rfl,e,r⟩:=h; simp only [tyN,e]; rfl
  | .lst ts,h=>by obtain ⟨a,vs,rfl,_,e,_⟩:=h; simp only [tyN,e]; rfl
theorem reps_zip {F:Addr→Prop} {H:Hp}:∀ {ts:List Tr} {vs:List V},Reps F H ts vs→∃ ps:List (V×Tr),vs = ps.map (·.1)∧ts = ps.map (·.2)∧∀ p∈ps,Rep F H p.2 p.1
  | [],vs,h=>⟨[],by rw [show vs = [] from h]; rfl,rfl,fun _ h=>nomatch h⟩
  | t :: ts,vs,h=>by
    obtain ⟨v,vs',rfl,r,rs⟩:=h
    obtain ⟨ps,h1,h2,h3⟩:=reps_zip rs
    refine ⟨(v,t) :: ps,by rw [h1]; rfl,by rw [h2]; rfl,fun p hp=>?_⟩
    rcases List.mem_cons.mp hp with rfl | hp
    · exact r
    · exact h3 p hp
theorem pure_strs (ks:List Str):(ks.map V.str).all pureV = true:=by
  rw [List.all_map,List.all_eq_true]
  exact fun _ _=>rfl
theorem once_go:∀ (l ks:List Str),ks.Nodup→(l.foldl (fun ks k=>if k∈ks then ks else ks ++ [k]) ks).Nodup∧((ks ++ l).Nodup→l.foldl (fun ks k=>if k∈ks then ks else ks ++ [k]) ks = ks ++ l)
  | [],ks,nd=>⟨nd,fun _=>(List.append_nil _).symm⟩
  | k :: r,ks,nd=>by
    rw [List.foldl_cons]
    by_cases c:k∈ks
    · rw [if_pos c]
      refine ⟨(once_go r ks nd).1,fun h=>?_⟩
      exact absurd rfl ((List.nodup_append.mp h).2.2 k c k List.mem_cons_self)
    · rw [if_neg c]
      have nd':(ks ++ [k]).Nodup:=List.nodup_append.mpr ⟨nd,List.pairwise_singleton _ _,fun a ha b hb e=>c (by rw [List.mem_singleton.mp hb] at e; exact e ▸ ha)⟩
      refine ⟨(once_go r _ nd').1,fun h=>?_⟩
      rw [(once_go r _ nd').2 (by rw [List.append_assoc]; exact h),List.append_assoc]
      rfl
theorem once_nd (l:List Str):(onceS l).Nodup:=(once_go l [] List.nodup_nil).1
theorem once_id {l:List Str} (h:l.Nodup):onceS l = l:=(once_go l [] List.nodup_nil).2 h
theorem slt_nd {l:List Str} (h:l.Pairwise Slt):l.Nodup:=List.Pairwise.imp (fun {a b} h e=>by subst e; exact List.lt_irrefl _ h) h
theorem rising_le:∀ {p:Str} {l:List Str},PyProof.Rows.risingS p l = true→∀ x∈l,¬ x.cps.toList < p.cps.toList
  | p,y :: r,h,x,hx=>by
    have h':=h
    rw [PyProof.Rows.risingS,Bool.and_eq_true,PyProof.Rows.ltCps_eq] at h'
    have h1:¬ y.cps.toList < p.cps.toList:=by simpa using h'.1
    rcases List.mem_cons.mp hx with rfl | hx
    · exact h1
    · exact List.le_trans h1 (rising_le h'.2 x hx)
theorem rise_of:∀ {l:List Str},PyProof.Rows.sortedS l = true→l.Nodup→l.Pairwise Slt
  | [],_,_=>List.Pairwise.nil
  | x :: l,h,nd=>by
    rw [List.nodup_cons] at nd
    refine List.pairwise_cons.mpr ⟨fun y hy=>slt_of (rising_le (p:=x) h y hy) fun e=>nd.1 (e ▸ hy),rise_of ?_ nd.2⟩
    cases l with
    | nil=>rfl
    | cons y r=>
      have h':=h
      rw [PyProof.Rows.sortedS,PyProof.Rows.risingS,Bool.and_eq_true] at h'
      exact h'.2
theorem uniq_by {α:Type} {key:α→Str}:∀ {l1 l2:List α},l1.Perm l2→l1.Pairwise (fun x y=>Slt (key x) (key y))→l2.Pairwise (fun x y=>Slt (key x) (key y))→l1 = l2
  | [],l2,h,_,_=>(List.nil_perm.mp h).symm
  | a :: r1,[],h,_,_=>by have:=h.length_eq; cases this
  | a :: r1,b :: r2,h,p1,p2=>by
    rw [List.pairwise_cons] at p1 p2
    rcases Classical.em (a = b) with e | e
    · subst e
      rw [uniq_by (List.Perm.cons_inv h) p1.2 p2.2]
    · have ha:a∈b :: r2:=h.mem_iff.mp List.mem_cons_self
      have hb:b∈a :: r1:=h.mem_iff.mpr List.mem_cons_self
      have h1:=(List.mem_cons.mp ha).resolve_left e
      have h2:=(List.mem_cons.mp hb).resolve_left fun z=>e z.symm
      exact absurd (List.lt_trans (p1.1 b h2) (p2.1 a h1)) (List.lt_irrefl _)
def sp_are_rising (K:PySem.W.Frag):Sp:=fun vs H Q _=>∃ (n:Addr) (ts:List (Addr×Str)),vs = [.ref n]∧H n = some (.tup (ts.map fun t=>V.ref t.1))∧(∀ t∈ts,∃ r,H t.1 = some (.tup (.str t.2 :: r)))∧ts.length≤24∧∀ H',Same H H'→Q (.bl (riseB (ts.map (·.2)))) H'
theorem ok_are_rising (T:Txt K mg) (F:Fun K "are_rising" "are_rising" s_are_rising f fd):FnOk P w K mg base CX0 1 f fd ["named"] (sp_are_rising K):=by
  refine F.ok sc_are_rising (fun vs H Q E h=>?_) (fun cdv A outer s H vs Q E hr h=>?_)
  · obtain ⟨n,ts,rfl,_⟩:=h
    rfl
  obtain ⟨n,ts,rfl,hn,ht,few,q⟩:=h
  have hu:=hu_of hr
  refine ⟨_,(@pss_cons _ _ _ _ _ (@ps_setC0 _ ["one"] (1) _ _ _ _ _ _ _ _ _ _ _ _ _ sc_are_rising.nd rfl (by first | exact Or.inl rfl | exact Or.inr rfl) rfl (@pi_tup _ _ _ _ (pv 0)) (by decide +kernel) (fun C s H fp=>⟨(@pg_name _ _ (0) _ (show (["one"]:List Str).Nodup by decide +kernel) rfl (by first | exact Or.inl rfl | exact Or.inr rfl) (by first | exact .inl rfl | exact .inr rfl | assumption)),(@pifs_nil _),(@pe_ix _ _ _ _ _ _ _ (ix_tupK (K:=K) (by rfl)) (pv 0) (@pe_int _ _ _ _) (fun _ _=>rfl))⟩) (by intro _; rfl) (by rfl) (by first | exact .inl rfl | exact .inr rfl | assumption)) (@pss_one _ _ _ (@ps_ret _ _ _ _ (@pe_cmpR _ _ _ _ _ _ _ _ (op_eqD hu) (pv 1) (@pe_callB _ _ _ _ _ _ _ _ _ (call_sortT (P:=P) (w:=w) (by rfl) (by rfl) rfl) (by rfl) T.b_sorted bt_sorted (@pa_cons _ _ _ _ _ (@pe_callTy _ _ _ _ _ _ _ _ _ (call_setT (P:=P) (w:=w) (K:=K) (by rfl) (by rfl) (by rfl) rfl) (by rfl) T.b_set bt_set (@pa_cons _ _ _ _ _ (pv 1) (@pa_nil _) (by rfl)) (by decide) (by decide) (by rfl) (by rfl)) (@pa_nil _) (by rfl)) (by decide) (by decide) (by rfl) (by rfl)) (nomark _))))),?_⟩
  try dsimp only [cxOf,Cx.nox,Cx.wish]
  refine ⟨_,rfl,n,rfl,⟨_,SqT.of hn⟩,?_⟩
  refine comp_selF (ps:=ts) (g:=fun p=>V.ref p.1) (fun _=>true) (fun p=>V.str p.2) (itIs_tup hn) (by omega) (fun p hp H' R s' hR=>hR) (fun p hp hs H' R s' hR=>?_) fun l2 H8 n8 s8 h8=>?_
  · obtain ⟨r,hr'⟩:=ht p hp
    exact ⟨_,rfl,p.1,_,_,_,rfl,rfl,SqT.of (s'.get hr'),atI_nat (j:=0) rfl,hR H' (Same.refl _)⟩
  rw [List.filter_eq_self.mpr (fun _ _=>rfl),show (ts.map fun p=>V.str p.2) = (ts.map (·.2)).map V.str by rw [List.map_map]; rfl] at h8
  have ln:(ts.map (·.2)).length≤24:=by rw [List.length_map]; exact few
  generalize ts.map (·.2) = ks at h8 ln q
  refine ⟨_,rfl,_,rfl,l2,_,rfl,SqL.of h8,by omega,fun p hp=>?_⟩
  have sp:=same_new hp (SetT P w p (onceS ks))
  have ol:=once_len ks
  refine ⟨p,_,rfl,upd_same,by omega,fun us p2 pt st hp2=>?_⟩
  have s2:=same_new hp2 (.lst (us.map V.str))
  refine ⟨l2,p2,_,_,rfl,rfl,SqL.of (s2.get (sp.get h8)),SqL.of upd_same,pure_strs _,pure_strs _,?_⟩
  rw [if_neg Bool.false_ne_true]
  have ri:us.Pairwise Slt:=rise_of st (pt.nodup_iff.mpr (once_nd ks))
  have e:decide (ks.map V.str = us.map V.str) = riseB ks:=by
    rw [Bool.eq_iff_iff,decide_eq_true_eq,rise_iff]
    constructor
    · intro z
      have z':ks = us:=by
        have inj:∀ {a b:List Str},a.map V.str = b.map V.str→a = b:=fun {a}=>by
          induction a with
          | nil=>intro b h; cases b with
            | nil=>rfl
            | cons _ _=>cases h
          | cons x a ih=>intro b h; cases b with
            | nil=>cases h
            | cons y b=>
              rw [List.map_cons,List.map_cons] at h
              injection h with h1 h2
              rw [V.str.inj h1,ih h2]
        exact inj z
      rw [z']; exact ri
    · intro z
      rw [once_id (slt_nd z)] at pt
      rw [uniq_by (key:=fun z:Str=>z) pt ri z]
  rw [e]
  exact q _ ((s8.trans sp).trans s2)
theorem bools_of {α:Type} {H:Hp} {l:Addr} {us:List α} {c:α→Bool} (h:H l = some (.lst ((us.filter fun _=>true).map fun x=>V.bl (c x)))):H l = some (.lst ((us.map c).map V.bl)):=by
  rw [h,List.filter_eq_self.mpr (fun _ _=>rfl),List.map_map]; rfl
theorem all_of {α:Type} (us:List α) (c:α→Bool):(us.map c).all id = us.all c:=by rw [List.all_map]; rfl
theorem keeper_is {H:Hp} {v:V} {t:Tr} (h:Rep AllF H t v) (k:keeperT t = true):v = .ref (adr v)∧∃ r,H (adr v) = some (.tup (.str (nm0 t) :: r)):=by
  unfold keeperT at k
  split at k
  · rename_i x y
    obtain ⟨a,us,rfl,e,v1,us1,rfl,r1,v2,us2,rfl,r2,rfl⟩:=h
    rw [Bool.and_eq_true] at k
    cases x with
    | str z=>
      have:v1 = .str z:=r1
      subst this
      exact ⟨rfl,_,e⟩
    | _=>cases k.1
  · cases k
theorem named_is {H:Hp} {v:V} {t:Tr} (h:Rep AllF H t v) (k:(stemT t || sealT t) = true):v = .ref (adr v)∧∃ r,H (adr v) = some (.tup (.str (nm0 t) :: r)):=by
  have sn:∀ {a b c d e:Tr},t = .tup [a,b,c,d,e]→sN a = true→v = .ref (adr v)∧∃ r,H (adr v) = some (.tup (.str (nm0 t) :: r)):=fun {a b c d e} et ka=>by
    clear k
    subst et
    obtain ⟨p,us,rfl,e,v1,us1,rfl,r1,r⟩:=h
    cases a with
    | str z=>
      have:v1 = .str z:=r1
      subst this
      exact ⟨rfl,_,e⟩
    | _=>cases ka
  rcases Bool.or_eq_true _ _ ▸ k with k | k
  · unfold stemT at k
    split at k
    · rw [Bool.and_eq_true,Bool.and_eq_true] at k
      exact sn rfl k.2.1
    · cases k
  · unfold sealT at k
    split at k
    · rw [Bool.and_eq_true,Bool.and_eq_true] at k
      exact sn rfl k.2.1
    · cases k
def sp_are_keepers (K:PySem.W.Frag):Sp:=fun vs H Q _=>∃ v t,vs = [v]∧Rep AllF H t v∧sh 2 t = true∧∀ H',Same H H'→Q (.bl (keepersT t)) H'
theorem ok_are_keepers (T:Txt K mg) (F:Fun K "are_keepers" "are_keepers" s_are_keepers f fd) (D_are_rising:Def P w K mg base 1 "are_rising" ["named"] (sp_are_rising K)) (D_is_keeper:Def P w K mg base 3 "is_keeper" ["thing"] (sp_is_keeper K)):FnOk P w K mg base CX0 4 f fd ["thing"] (sp_are_keepers K):=by
  refine F.ok sc_are_keepers (fun vs H Q E h=>?_) (fun cdv A outer s H vs Q E hr h=>?_)
  · obtain ⟨v,t,rfl,_⟩:=h
    rfl
  obtain ⟨v,t,rfl,hv,hs,q⟩:=h
  have okv:=rep_okS hv hs
  refine ⟨_,(@pss_cons _ _ _ _ _ (@ps_if _ _ _ _ _ _ _ _ (@PW.pt _ _ _ (@pw_or _ _ _ _ _ _ _ (@pt_not _ _ _ _ (@pt_val _ _ _ (@pe_callB _ _ _ _ _ _ _ _ _ call_isinst (by rfl) T.b_isinstance bt_isinstance (@pa_cons _ _ _ _ _ (pv 0) (@pa_cons _ _ _ _ _ (@pe_ty _ _ _ _ rfl T.b_tuple bt_tuple (by decide) (by decide)) (@pa_nil _) (by rfl)) (by rfl)) (by decide) (by decide) (by rfl) (by rfl)) (by intro _; rfl))) (@pw_or1 _ _ _ _ (@pt_cmpR _ _ _ _ _ _ _ _ op_gt (@pe_callB _ _ _ _ _ _ _ _ _ call_len_seq (by rfl) T.b_len bt_len (@pa_cons _ _ _ _ _ (pv 0) (@pa_nil _) (by rfl)) (by decide) (by decide) (by rfl) (by rfl)) (@pe_globI _ _ _ _ rfl T.c_MOST_KEEPERS (by decide)) (nomark _))))) (@pss_one _ _ _ (@ps_ret _ _ _ _ (@pe_bl _ _ _ _))) (@pss_nil _)) (@pss_one _ _ _ (@ps_ret _ _ _ _ (@pe_and _ _ _ _ _ _ _ (@pe_callB _ _ _ _ _ _ _ _ _ (call_all rfl) (by rfl) T.b_all bt_all (@pa_cons _ _ _ _ _ (@pe_comp0 _ ["keeper"] _ _ _ _ _ _ _ _ _ _ rfl (@pi_tup _ _ _ _ (pv 0)) (by decide +kernel) (fun C s H fp=>⟨(@pg_name _ _ (0) _ (show (["keeper"]:List Str).Nodup by decide +kernel) rfl (by first | exact Or.inl rfl | exact Or.inr rfl) (by first | exact .inl rfl | exact .inr rfl | assumption)),(@pifs_nil _),(@pe_fn _ _ _ _ _ _ _ _ _ _ D_is_keeper (hr.mono (by decide)) rfl (@pa_cons _ _ _ _ _ (pv 0) (@pa_nil _) (by rfl)) (by decide) (by rfl) (by rfl))⟩) (by intro _; rfl)) (@pa_nil _) (by rfl)) (by decide) (by decide) (by rfl) (by rfl)) (@pe_one _ _ _ _ _ (@pe_fn _ _ _ _ _ _ _ _ _ _ D_are_rising (hr.mono (by decide)) rfl (@pa_cons _ _ _ _ _ (pv 0) (@pa_nil _) (by rfl)) (by decide) (by rfl) (by rfl))))))),?_⟩
  try dsimp only [cxOf,Cx.nox,Cx.wish]
  refine ⟨_,rfl,_,_,_,_,rfl,okv.ty K,okv.kit K,_,rfl,?_⟩
  have ty:=ty_T hv
  cases t with
  | tup ts=>
    obtain ⟨a,vs,rfl,e,r⟩:=hv
    obtain ⟨ps,rfl,rfl,hp⟩:=reps_zip r
    refine iteFc (by show (!isA (tyN H (V.ref a)) "tuple") = false; rw [ty]; rfl) ?_
    refine ⟨_,rfl,a,_,rfl,.inr (SqT.of e),_,_,rfl,rfl,_,rfl,?_⟩
    by_cases c8:ps.length≤8
    · refine iteFc (decide_eq_false (by rw [List.length_map]; omega)) ?_
      replace q:∀ H',Same H H'→Q (.bl (decide ((ps.map (·.2)).length≤8) && ((ps.map (·.2)).all keeperT && riseB ((ps.map (·.2)).map nm0)))) H':=q
      rw [List.length_map,decide_eq_true c8,Bool.true_and] at q
      refine ⟨_,rfl,a,rfl,⟨_,SqT.of e⟩,?_⟩
      refine comp_selF (ps:=ps) (g:=fun p=>p.1) (fun _=>true) (fun p=>V.bl (keeperT p.2)) (itIs_tup e) (by omega) (fun p hp H' R s' hR=>hR) (fun p hpm hs' H' R s' hR=>?_) fun l H7 n7 s7 h7=>?_
      · exact ⟨_,rfl,p.1,p.2,rfl,Rep.same s' _ _ (hp p hpm),sh_mem hs (List.mem_map.mpr ⟨p,hpm,rfl⟩),fun H'' s''=>hR H'' s''⟩
      refine ⟨l,_,rfl,SqL.of (bools_of h7),_,rfl,?_⟩
      rw [all_of]
      have ea:(ps.map (·.2)).all keeperT = ps.all fun p=>keeperT p.2:=by rw [List.all_map]; rfl
      rw [ea] at q
      cases ca:ps.all fun p=>keeperT p.2 with
      | false=>rw [ca] at q; exact iteFc rfl (q H7 s7)
      | true=>
        rw [ca] at q
        have kp:∀ p∈ps,p.1 = .ref (adr p.1)∧∃ r,H (adr p.1) = some (.tup (.str (nm0 p.2) :: r)):=fun p hpm=>keeper_is (hp p hpm) (List.all_eq_true.mp ca p hpm)
        refine iteTc rfl ⟨_,rfl,a,ps.map fun p=>(adr p.1,nm0 p.2),rfl,?_,fun t ht=>?_,by rw [List.length_map]; omega,fun H' s'=>?_⟩
        · rw [s7.get e,List.map_map]
          exact congrArg (fun z=>some (HO.tup z)) (List.map_congr_left fun p hpm=>(kp p hpm).1)
        · obtain ⟨p,hpm,rfl⟩:=List.mem_map.mp ht
          obtain ⟨r,hr'⟩:=(kp p hpm).2
          exact ⟨r,s7.get hr'⟩
        · have:=q H' (s7.trans s')
          rw [List.map_map] at this
          rw [List.map_map]
          exact this
    · refine iteTc (decide_eq_true (by rw [List.length_map]; omega)) ?_
      have:=q H (Same.refl _)
      rw [show keepersT (.tup (ps.map (·.2))) = false by show (decide ((ps.map (·.2)).length≤8) && _) = false; rw [List.length_map,decide_eq_false c8]; rfl] at this
      exact this
  | _=>exact iteTc (by show (!isA (tyN H v) "tuple") = true; rw [ty]; rfl) (q H (Same.refl _))
def sp_are_names (K:PySem.W.Frag):Sp:=fun vs H Q _=>∃ v t,vs = [v]∧Rep AllF H t v∧sh 3 t = true∧(∀ ns,t = .tup ns→∀ x∈ns,thirdOk x = true)∧∀ H',Same H H'→Q (.bl (namesT t)) H'
theorem ok_are_names (T:Txt K mg) (F:Fun K "are_names" "are_names" s_are_names f fd) (D_are_rising:Def P w K mg base 1 "are_rising" ["named"] (sp_are_rising K)) (D_is_stem:Def P w K mg base 4 "is_stem" ["thing"] (sp_is_stem K)) (D_is_seal:Def P w K mg base 4 "is_seal" ["thing"] (sp_is_seal K)):FnOk P w K mg base CX0 5 f fd ["thing"] (sp_are_names K):=by
  refine F.ok sc_are_names (fun vs H Q E h=>?_) (fun cdv A outer s H vs Q E hr h=>?_)
  · obtain ⟨v,t,rfl,_⟩:=h
    rfl
  obtain ⟨v,t,rfl,hv,hs,th,q⟩:=h
  have okv:=rep_okS hv hs
  refine ⟨_,(@pss_cons _ _ _ _ _ (@ps_if _ _ _ _ _ _ _ _ (@PW.pt _ _ _ (@pw_or _ _ _ _ _ _ _ (@pt_not _ _ _ _ (@pt_val _ _ _ (@pe_callB _ _ _ _ _ _ _ _ _ call_isinst (by rfl) T.b_isinstance bt_isinstance (@pa_cons _ _ _ _ _ (pv 0) (@pa_cons _ _ _ _ _ (@pe_ty _ _ _ _ rfl T.b_tuple bt_tuple (by decide) (by decide)) (@pa_nil _) (by rfl)) (by rfl)) (by decide) (by decide) (by rfl) (by rfl)) (by intro _; rfl))) (@pw_or1 _ _ _ _ (@pt_cmpR _ _ _ _ _ _ _ _ op_gt (@pe_callB _ _ _ _ _ _ _ _ _ call_len_seq (by rfl) T.b_len bt_len (@pa_cons _ _ _ _ _ (pv 0) (@pa_nil _) (by rfl)) (by decide) (by decide) (by rfl) (by rfl)) (@pe_globI _ _ _ _ rfl T.c_MOST_NAMES (by decide)) (nomark _))))) (@pss_one _ _ _ (@ps_ret _ _ _ _ (@pe_bl _ _ _ _))) (@pss_nil _)) (@pss_one _ _ _ (@ps_ret _ _ _ _ (@pe_and _ _ _ _ _ _ _ (@pe_callB _ _ _ _ _ _ _ _ _ (call_all rfl) (by rfl) T.b_all bt_all (@pa_cons _ _ _ _ _ (@pe_comp0 _ ["named"] _ _ _ _ _ _ _ _ _ _ rfl (@pi_tup _ _ _ _ (pv 0)) (by decide +kernel) (fun C s H fp=>⟨(@pg_name _ _ (0) _ (show (["named"]:List Str).Nodup by decide +kernel) rfl (by first | exact Or.inl rfl | exact Or.inr rfl) (by first | exact .inl rfl | exact .inr rfl | assumption)),(@pifs_nil _),(@pe_or _ _ _ _ _ _ _ (@pe_fn _ _ _ _ _ _ _ _ _ _ D_is_stem (hr.mono (by decide)) rfl (@pa_cons _ _ _ _ _ (pv 0) (@pa_nil _) (by rfl)) (by decide) (by rfl) (by rfl)) (@pe_one _ _ _ _ _ (@pe_fn _ _ _ _ _ _ _ _ _ _ D_is_seal (hr.mono (by decide)) rfl (@pa_cons _ _ _ _ _ (pv 0) (@pa_nil _) (by rfl)) (by decide) (by rfl) (by rfl))))⟩) (by intro _; rfl)) (@pa_nil _) (by rfl)) (by decide) (by decide) (by rfl) (by rfl)) (@pe_one _ _ _ _ _ (@pe_fn _ _ _ _ _ _ _ _ _ _ D_are_rising (hr.mono (by decide)) rfl (@pa_cons _ _ _ _ _ (pv 0) (@pa_nil _) (by rfl)) (by decide) (by rfl) (by rfl))))))),?_⟩
  try dsimp only [cxOf,Cx.nox,Cx.wish]
  refine ⟨_,rfl,_,_,_,_,rfl,okv.ty K,okv.kit K,_,rfl,?_⟩
  have ty:=ty_T hv
  cases t with
  | tup ts=>
    obtain ⟨a,vs,rfl,e,r⟩:=hv
    obtain ⟨ps,rfl,rfl,hp⟩:=reps_zip r
    refine iteFc (by show (!isA (tyN H (V.ref a)) "tuple") = false; rw [ty]; rfl) ?_
    refine ⟨_,rfl,a,_,rfl,.inr (SqT.of e),_,_,rfl,rfl,_,rfl,?_⟩
    by_cases c8:ps.length≤24
    · refine iteFc (decide_eq_false (by rw [List.length_map]; omega)) ?_
      replace q:∀ H',Same H H'→Q (.bl (decide ((ps.map (·.2)).length≤24) && ((ps.map (·.2)).all (fun t=>stemT t || sealT t) && riseB ((ps.map (·.2)).map nm0)))) H':=q
      rw [List.length_map,decide_eq_true c8,Bool.true_and] at q
      refine ⟨_,rfl,a,rfl,⟨_,SqT.of e⟩,?_⟩
      refine comp_selF (ps:=ps) (g:=fun p=>p.1) (fun _=>true) (fun p=>V.bl (stemT p.2 || sealT p.2)) (itIs_tup e) (by omega) (fun p hp H' R s' hR=>hR) (fun p hpm hs' H' R s' hR=>?_) fun l H7 n7 s7 h7=>?_
      · have sp:=sh_mem hs (List.mem_map.mpr ⟨p,hpm,rfl⟩)
        refine ⟨_,rfl,p.1,p.2,rfl,Rep.same s' _ _ (hp p hpm),sp,th _ rfl _ (List.mem_map.mpr ⟨p,hpm,rfl⟩),fun H1 s1=>⟨_,rfl,?_⟩⟩
        cases cs:stemT p.2 with
        | true=>rw [cs] at hR; exact iteTc rfl (hR H1 s1)
        | false=>
          rw [cs] at hR
          exact iteFc rfl ⟨_,rfl,p.1,p.2,rfl,Rep.same (s'.trans s1) _ _ (hp p hpm),sp,fun H2 s2=>hR H2 (s1.trans s2)⟩
      refine ⟨l,_,rfl,SqL.of (bools_of h7),_,rfl,?_⟩
      rw [all_of]
      have ea:(ps.map (·.2)).all (fun t=>stemT t || sealT t) = ps.all fun p=>stemT p.2 || sealT p.2:=by rw [List.all_map]; rfl
      rw [ea] at q
      cases ca:ps.all fun p=>stemT p.2 || sealT p.2 with
      | false=>rw [ca] at q; exact iteFc rfl (q H7 s7)
      | true=>
        rw [ca] at q
        have kp:∀ p∈ps,p.1 = .ref (adr p.1)∧∃ r,H (adr p.1) = some (.tup (.str (nm0 p.2) :: r)):=fun p hpm=>named_is (hp p hpm) (List.all_eq_true.mp ca p hpm)
        refine iteTc rfl ⟨_,rfl,a,ps.map fun p=>(adr p.1,nm0 p.2),rfl,?_,fun t ht=>?_,by rw [List.length_map]; omega,fun H' s'=>?_⟩
        · rw [s7.get e,List.map_map]
          exact congrArg (fun z=>some (HO.tup z)) (List.map_congr_left fun p hpm=>(kp p hpm).1)
        · obtain ⟨p,hpm,rfl⟩:=List.mem_map.mp ht
          obtain ⟨r,hr'⟩:=(kp p hpm).2
          exact ⟨r,s7.get hr'⟩
        · have:=q H' (s7.trans s')
          rw [List.map_map] at this
          rw [List.map_map]
          exact this
    · refine iteTc (decide_eq_true (by rw [List.length_map]; omega)) ?_
      have:=q H (Same.refl _)
      rw [show namesT (.tup (ps.map (·.2))) = false by show (decide ((ps.map (·.2)).length≤24) && _) = false; rw [List.length_map,decide_eq_false c8]; rfl] at this
      exact this
  | _=>exact iteTc (by show (!isA (tyN H v) "tuple") = true; rw [ty]; rfl) (q H (Same.refl _))
end
inductive En where
  | st (nm kp og:Str) (t:Int×Int×Int)
  | sl (nm sm:Str) (tn:Int) (t:Int×Int×Int)
def En.nm:En→Str
  | .st nm _ _ _=>nm
  | .sl nm _ _ _=>nm
def En.tg:En→Int×Int×Int
  | .st _ _ _ t=>t
  | .sl _ _ _ t=>t
def En.turn:En→Int
  | .sl _ _ tn _=>tn
  | _=>0
def En.isS:En→Bool
  | .st _ _ _ _=>true
  | _=>false
def En.items (ta:Addr):En→List V
  | .st nm kp og _=>[.str nm,.int 1,.str kp,.str og,.ref ta]
  | .sl nm sm tn _=>[.str nm,.int 2,.str sm,.int tn,.ref ta]
def tgV (t:Int×Int×Int):List V:=[.int t.1,.int t.2.1,.int t.2.2]
def EnAt (H:Hp) (p:Addr×En):Prop:=∃ ta,H ta = some (.tup (tgV p.2.tg))∧H p.1 = some (.tup (p.2.items ta))
theorem EnAt.get {H H':Hp} {p:Addr×En} (h:EnAt H p) (k:∀ b xs,H b = some (.tup xs)→H' b = some (.tup xs)):EnAt H' p:=by
  obtain ⟨ta,h1,h2⟩:=h
  exact ⟨ta,k _ _ h1,k _ _ h2⟩
theorem EnAt.same {H H':Hp} {p:Addr×En} (h:EnAt H p) (s:Same H H'):EnAt H' p:=h.get fun _ _ e=>s.get e
theorem EnAt.fst {H:Hp} {p:Addr×En} (h:EnAt H p):∃ r,H p.1 = some (.tup (.str p.2.nm :: r)):=by
  obtain ⟨ta,_,h2⟩:=h
  obtain ⟨a,e⟩:=p
  cases e <;> exact ⟨_,h2⟩
structure HeadAt (H:Hp) (h:Addr) (ag:Int) (k n:Addr) (ps:List (Addr×En)):Prop where
  at_:H h = some (.tup [.int ag,.ref k,.ref n])
  nm:H n = some (.tup (ps.map fun p=>V.ref p.1))
  en:∀ p∈ps,EnAt H p
theorem HeadAt.get {H H':Hp} {h:Addr} {ag:Int} {k n:Addr} {ps:List (Addr×En)} (x:HeadAt H h ag k n ps) (g:∀ b xs,H b = some (.tup xs)→H' b = some (.tup xs)):HeadAt H' h ag k n ps:=
  ⟨g _ _ x.at_,g _ _ x.nm,fun p hp=>(x.en p hp).get g⟩
theorem HeadAt.same {H H':Hp} {h:Addr} {ag:Int} {k n:Addr} {ps:List (Addr×En)} (x:HeadAt H h ag k n ps) (s:Same H H'):HeadAt H' h ag k n ps:=x.get fun _ _ e=>s.get e
abbrev Nms (ps:List (Addr×En)):Prop:=(ps.map fun p=>p.2.nm).Nodup
theorem nd_inj {α β:Type} {f:α→β}:∀ {l:List α},(l.map f).Nodup→∀ {x y:α},x∈l→y∈l→f x = f y→x = y
  | [],_,x,_,hx,_,_=>nomatch hx
  | a :: l,nd,x,y,hx,hy,e=>by
    rw [List.map_cons,List.nodup_cons] at nd
    rcases List.mem_cons.mp hx with e1 | h1
    · rcases List.mem_cons.mp hy with e2 | h2
      · rw [e1,e2]
      · exact absurd (List.mem_map.mpr ⟨y,h2,by rw [← e,e1]⟩) nd.1
    · rcases List.mem_cons.mp hy with e2 | h2
      · exact absurd (List.mem_map.mpr ⟨x,h1,by rw [e,e2]⟩) nd.1
      · exact nd_inj nd.2 h1 h2 e
theorem perm_lift {α β:Type} {f:α→β} {us vs:List β} (h:us.Perm vs):∀ {qs:List α},vs = qs.map f→∃ us':List α,us'.Perm qs∧us'.map f = us:=by
  induction h with
  | nil=>intro qs e; exact ⟨[],by rw [List.map_eq_nil_iff.mp e.symm],rfl⟩
  | cons x _ ih=>
    intro qs e
    cases qs with
    | nil=>cases e
    | cons q qs=>
      rw [List.map_cons] at e
      injection e with e1 e2
      obtain ⟨us',h1,h2⟩:=ih e2
      exact ⟨q :: us',h1.cons q,by rw [List.map_cons,h2,e1]⟩
  | swap x y l=>
    intro qs e
    cases qs with
    | nil=>cases e
    | cons q qs=>
      cases qs with
      | nil=>cases e
      | cons q' qs=>
        rw [List.map_cons,List.map_cons] at e
        injection e with e1 e2
        injection e2 with e2 e3
        exact ⟨q' :: q :: qs,List.Perm.swap _ _ _,by rw [List.map_cons,List.map_cons,e1,e2,e3]⟩
  | trans _ _ ih1 ih2=>
    intro qs e
    obtain ⟨a,h1,h2⟩:=ih2 e
    obtain ⟨b,h3,h4⟩:=ih1 h2.symm
    exact ⟨b,h3.trans h1,h4⟩
theorem inV_str (x:Str) (ns:List Str):inV (V.str x) (ns.map V.str) = decide (x∈ns):=by
  unfold inV
  rw [List.any_map,Bool.eq_iff_iff,List.any_eq_true,decide_eq_true_eq]
  constructor
  · rintro ⟨y,hy,e⟩
    have:y = x:=of_decide_eq_true (show decide (y = x) = true from e)
    rw [← this]; exact hy
  · intro h
    exact ⟨x,h,(show decide (x = x) = true from decide_eq_true rfl)⟩
def En.og:En→Str
  | .st _ _ og _=>og
  | _=>EM
def En.v2:En→Str
  | .st _ kp _ _=>kp
  | .sl _ sm _ _=>sm
def En.v3:En→V
  | .st _ _ og _=>.str og
  | .sl _ _ tn _=>.int tn
theorem EnAt.v3 {H:Hp} {p:Addr×En} (h:EnAt H p):∃ xs,H p.1 = some (.tup xs)∧xs[0]? = some (.str p.2.nm)∧xs[2]? = some (.str p.2.v2)∧xs[3]? = some p.2.v3:=by
  obtain ⟨ta,_,h2⟩:=h
  obtain ⟨a,e⟩:=p
  cases e <;> exact ⟨_,h2,rfl,rfl,rfl⟩
structure AtOne (ks:List Str) (es:List En):Prop where
  kp:∀ nm kp og t,En.st nm kp og t∈es→kp∈ks
  tns:((es.filter fun e=>!e.isS).map En.turn).Nodup
  org:∀ nm kp og t,En.st nm kp og t∈es→og = EM∨∃ sm tn t',En.sl og sm tn t'∈es
  stm:∀ nm sm tn t,En.sl nm sm tn t∈es→∃ kp og t',En.st sm kp og t'∈es
  beg:∀ nm kp og t sm tg t' x tn t'',En.st nm kp og t∈es→En.sl og sm tg t'∈es→En.sl x nm tn t''∈es→tg < tn
section
variable {P:Program} {w:World} {K:PySem.W.Frag} {mg:Str→Option Value} {base:Heap} {f:Addr} {fd:FuncData}
theorem mem_en {ps:List (Addr×En)} {e:En} (h:e∈ps.map (·.2)):∃ a,(a,e)∈ps:=by
  obtain ⟨⟨a,e'⟩,hp,rfl⟩:=List.mem_map.mp h
  exact ⟨a,hp⟩
theorem val_find {α:Type} {key:α→Str} {val:α→V} {z:Str}:∀ {l:List α},valV (l.map fun y=>((Sum.inr (key y):Key),val y)) (Sum.inr z) = (l.find? fun y=>decide (key y = z)).map val
  | []=>rfl
  | y :: l=>by
    rw [List.map_cons,List.find?_cons]
    by_cases e:key y = z
    · rw [decide_eq_true e,valV_pos (by rw [e])]
      rfl
    · rw [decide_eq_false e,valV_neg (fun h=>e (Sum.inr.inj h))]
      exact val_find
def Pn (v:En→Int) (p:Addr×En) (y:V) (H:Hp):Prop:=∃ b,y = .ref b∧H b = some (.tup [.str p.2.nm,.int (v p.2)])
theorem Pn.adr {v:En→Int} {p:Addr×En} {y:V} {H:Hp} (h:Pn v p y H):y = .ref (adr y)∧H (adr y) = some (.tup [.str p.2.nm,.int (v p.2)]):=by
  obtain ⟨b,rfl,h⟩:=h
  exact ⟨rfl,h⟩
theorem Pn.same {v:En→Int} (x:Addr×En) (y:V) (H1 H2:Hp) (h:Pn v x y H1) (s:Same H1 H2):Pn v x y H2:=by
  obtain ⟨b,e,h⟩:=h
  exact ⟨b,e,s.get h⟩
theorem Pn.upd {v:En→Int} (x:Addr×En) (y:V) (H1:Hp) (l:Addr) (us us':List V) (h:Pn v x y H1) (hl:H1 l = some (.lst us)):Pn v x y (L2.upd H1 l (.lst us')):=by
  obtain ⟨b,e,h⟩:=h
  exact ⟨b,e,by rw [upd_ne fun z=>by rw [z,hl] at h; cases h]; exact h⟩
theorem dict_pn {v:En→Int} {H:Hp} {l:Addr} {ps:List (Addr×En)} {ys:List ((Addr×En)×V)} {Q:VK} (h:H l = some (.lst (ys.map (·.2)))) (ey:ys.map (·.1) = ps) (hy:∀ q∈ys,Pn v q.1 q.2 H) (nd:Nms ps) (few:ps.length≤24)
    (q:∀ d,H d = none→Q (.ref d) (L2.upd H d (.dK (ps.map fun p=>((Sum.inr p.2.nm:Key),V.int (v p.2)))))):rDictK K [.ref l] H Q:=by
  have ly:ys.length = ps.length:=by rw [← ey,List.length_map]
  refine ⟨l,ys.map fun q=>adr q.2,ps.map fun p=>((Sum.inr p.2.nm:Key),V.int (v p.2)),rfl,SqL.of ?_,by rw [List.length_map,List.length_map,ly],by rw [List.length_map]; omega,?_,fun i t k u h1 h2=>?_,q⟩
  · rw [h,List.map_map]
    exact congrArg (fun z=>some (HO.lst z)) (List.map_congr_left fun q hq=>(hy q hq).adr.1)
  · rw [List.map_map]
    have:(ps.map fun p=>(Sum.inr p.2.nm:Key)).Nodup:=by
      have:=List.pairwise_map.mp nd
      exact List.pairwise_map.mpr (List.Pairwise.imp (fun {a b} z e=>z (Sum.inr.inj e)) this)
    exact this
  · rw [List.getElem?_map] at h1 h2
    obtain ⟨q,hq,rfl⟩:=Option.map_eq_some_iff.mp h1
    rw [← ey,List.getElem?_map,hq] at h2
    cases h2
    exact (hy q (List.mem_of_getElem? hq)).adr.2
def sp_are_at_one (K:PySem.W.Frag):Sp:=fun vs H Q _=>∃ (k n:Addr) (ks:List (Addr×Str)) (ps:List (Addr×En)),vs = [.ref k,.ref n]∧H k = some (.tup (ks.map fun t=>V.ref t.1))∧(∀ t∈ks,∃ r,H t.1 = some (.tup (.str t.2 :: r)))∧ks.length≤8∧H n = some (.tup (ps.map fun p=>V.ref p.1))∧(∀ p∈ps,EnAt H p)∧Nms ps∧(∀ p∈ps,p.2.nm≠EM)∧(∀ nm sm tn t,En.sl nm sm tn t∈ps.map (·.2)→0 < tn)∧ps.length≤24∧
  ∀ b H',(b = true↔AtOne (ks.map (·.2)) (ps.map (·.2)))→Same H H'→Q (.bl b) H'
theorem ok_are_at_one (T:Txt K mg) (F:Fun K "are_at_one" "are_at_one" s_are_at_one f fd):FnOk P w K mg base CX0 1 f fd ["keepers","names"] (sp_are_at_one K):=by
  refine F.ok sc_are_at_one (fun vs H Q E h=>?_) (fun cdv A outer s H vs Q E hr h=>?_)
  · obtain ⟨k,n,ks,ps,rfl,_⟩:=h
    rfl
  obtain ⟨k,n,ks,ps,rfl,h0,hks,fewk,hn,he,nd,nem,pos,few,q⟩:=h
  have hu:=hu_of hr
  have hu9:=hu9_of hr
  refine ⟨_,(@pss_cons _ _ _ _ _ (@ps_setC0 _ ["named"] (2) _ _ _ _ _ _ _ _ _ _ _ _ _ sc_are_at_one.nd rfl (by first | exact Or.inl rfl | exact Or.inr rfl) rfl (@pi_tup _ _ _ _ (pv 1)) (by decide +kernel) (fun C s H fp=>⟨(@pg_name _ _ (0) _ (show (["named"]:List Str).Nodup by decide +kernel) rfl (by first | exact Or.inl rfl | exact Or.inr rfl) (by first | exact .inl rfl | exact .inr rfl | assumption)),(@pifs_one _ _ _ (@pt_cmpR _ _ _ _ _ _ _ _ op_eq (@pe_ix _ _ _ _ _ _ _ (ix_tupK (K:=K) (by rfl)) (pv 0) (@pe_int _ _ _ _) (fun _ _=>rfl)) (@pe_globI _ _ _ _ rfl T.c_STEM (by decide)) (nomark _))),(pv 0)⟩) (by intro _; rfl) (by rfl) (by first | exact .inl rfl | exact .inr rfl | assumption)) (@pss_cons _ _ _ _ _ (@ps_setC0 _ ["named"] (3) _ _ _ _ _ _ _ _ _ _ _ _ _ sc_are_at_one.nd rfl (by first | exact Or.inl rfl | exact Or.inr rfl) rfl (@pi_tup _ _ _ _ (pv 1)) (by decide +kernel) (fun C s H fp=>⟨(@pg_name _ _ (0) _ (show (["named"]:List Str).Nodup by decide +kernel) rfl (by first | exact Or.inl rfl | exact Or.inr rfl) (by first | exact .inl rfl | exact .inr rfl | assumption)),(@pifs_one _ _ _ (@pt_cmpR _ _ _ _ _ _ _ _ op_eq (@pe_ix _ _ _ _ _ _ _ (ix_tupK (K:=K) (by rfl)) (pv 0) (@pe_int _ _ _ _) (fun _ _=>rfl)) (@pe_globI _ _ _ _ rfl T.c_SEAL (by decide)) (nomark _))),(pv 0)⟩) (by intro _; rfl) (by rfl) (by first | exact .inl rfl | exact .inr rfl | assumption)) (@pss_cons _ _ _ _ _ (@ps_set _ _ (4) _ _ _ _ sc_are_at_one.nd rfl (by first | exact Or.inl rfl | exact Or.inr rfl) (@pe_comp0 _ ["keeper"] _ _ _ _ _ _ _ _ _ _ rfl (@pi_tup _ _ _ _ (pv 0)) (by decide +kernel) (fun C s H fp=>⟨(@pg_name _ _ (0) _ (show (["keeper"]:List Str).Nodup by decide +kernel) rfl (by first | exact Or.inl rfl | exact Or.inr rfl) (by first | exact .inl rfl | exact .inr rfl | assumption)),(@pifs_nil _),(@pe_ix _ _ _ _ _ _ _ (ix_tupK (K:=K) (by rfl)) (pv 0) (@pe_int _ _ _ _) (fun _ _=>rfl))⟩) (by intro _; rfl)) (by rfl) (by first | exact .inl rfl | exact .inr rfl | assumption)) (@pss_cons _ _ _ _ _ (@ps_if _ _ _ _ _ _ _ _ (@pt_not _ _ _ _ (@pt_val _ _ _ (@pe_callB _ _ _ _ _ _ _ _ _ (call_all rfl) (by rfl) T.b_all bt_all (@pa_cons _ _ _ _ _ (@pe_comp _ ["stem","called"] [none,some 4] _ _ _ _ _ _ _ _ _ _ _ rfl (@pi_list _ _ _ _ (pv 2)) (by rfl) rfl (by repeat (first | exact trivial | refine ⟨rfl,?_⟩)) (by repeat (first | exact trivial | refine ⟨fun h=>(by first | exact ⟨_,rfl⟩ | cases h),?_⟩)) (fun C s H fp=>⟨(@pg_name _ _ (0) _ (show (["stem","called"]:List Str).Nodup by decide +kernel) rfl (by first | exact Or.inl rfl | exact Or.inr rfl) (by first | exact .inl rfl | exact .inr rfl | assumption)),(@pifs_nil _),(@pe_cmpR _ _ _ _ _ _ _ _ (op_in_seqK (K:=K) (by rfl)) (@pe_ix _ _ _ _ _ _ _ (ix_tupK (K:=K) (by rfl)) (pv 0) (@pe_int _ _ _ _) (fun _ _=>rfl)) (pv 1) rfl)⟩) (by intro _; rfl)) (@pa_nil _) (by rfl)) (by decide) (by decide) (by rfl) (by rfl)) (by intro _; rfl))) (@pss_one _ _ _ (@ps_ret _ _ _ _ (@pe_bl _ _ _ _))) (@pss_nil _)) (@pss_cons _ _ _ _ _ (@ps_if _ _ _ _ _ _ _ _ (@pt_cmpR _ _ _ _ _ _ _ _ op_lt (@pe_callB _ _ _ _ _ _ _ _ _ call_lenSet (by rfl) T.b_len bt_len (@pa_cons _ _ _ _ _ (@pe_callTy _ _ _ _ _ _ _ _ _ (call_setD (K:=K) (by rfl) rfl) (by rfl) T.b_set bt_set (@pa_cons _ _ _ _ _ (@pe_comp0 _ ["seal"] _ _ _ _ _ _ _ _ _ _ rfl (@pi_list _ _ _ _ (pv 3)) (by decide +kernel) (fun C s H fp=>⟨(@pg_name _ _ (0) _ (show (["seal"]:List Str).Nodup by decide +kernel) rfl (by first | exact Or.inl rfl | exact Or.inr rfl) (by first | exact .inl rfl | exact .inr rfl | assumption)),(@pifs_nil _),(@pe_ix _ _ _ _ _ _ _ (ix_tupK (K:=K) (by rfl)) (pv 0) (@pe_int _ _ _ _) (fun _ _=>rfl))⟩) (by intro _; rfl)) (@pa_nil _) (by rfl)) (by decide) (by decide) (by rfl) (by rfl)) (@pa_nil _) (by rfl)) (by decide) (by decide) (by rfl) (by rfl)) (@pe_callB _ _ _ _ _ _ _ _ _ call_len_seq (by rfl) T.b_len bt_len (@pa_cons _ _ _ _ _ (pv 3) (@pa_nil _) (by rfl)) (by decide) (by decide) (by rfl) (by rfl)) (nomark _)) (@pss_one _ _ _ (@ps_ret _ _ _ _ (@pe_bl _ _ _ _))) (@pss_nil _)) (@pss_cons _ _ _ _ _ (@ps_set _ _ (5) _ _ _ _ sc_are_at_one.nd rfl (by first | exact Or.inl rfl | exact Or.inr rfl) (@pe_callTy _ _ _ _ _ _ _ _ _ (call_dictK (K:=K) (by rfl) rfl) (by rfl) T.b_dict bt_dict (@pa_cons _ _ _ _ _ (@pe_comp0 _ ["seal"] _ _ _ _ _ _ _ _ _ _ rfl (@pi_list _ _ _ _ (pv 3)) (by decide +kernel) (fun C s H fp=>⟨(@pg_name _ _ (0) _ (show (["seal"]:List Str).Nodup by decide +kernel) rfl (by first | exact Or.inl rfl | exact Or.inr rfl) (by first | exact .inl rfl | exact .inr rfl | assumption)),(@pifs_nil _),(@pe_tup _ _ _ _ _ (@pa_cons _ _ _ _ _ (@pe_ix _ _ _ _ _ _ _ (ix_tupK (K:=K) (by rfl)) (pv 0) (@pe_int _ _ _ _) (fun _ _=>rfl)) (@pa_cons _ _ _ _ _ (@pe_ix _ _ _ _ _ _ _ (ix_tupK (K:=K) (by rfl)) (pv 0) (@pe_int _ _ _ _) (fun _ _=>rfl)) (@pa_nil _) (by rfl)) (by rfl)))⟩) (by intro _; rfl)) (@pa_nil _) (by rfl)) (by decide) (by decide) (by rfl) (by rfl)) (by rfl) (by first | exact .inl rfl | exact .inr rfl | assumption)) (@pss_cons _ _ _ _ _ (@ps_if _ _ _ _ _ _ _ _ (@pt_not _ _ _ _ (@pt_val _ _ _ (@pe_callB _ _ _ _ _ _ _ _ _ (call_all rfl) (by rfl) T.b_all bt_all (@pa_cons _ _ _ _ _ (@pe_comp _ ["stem","turns"] [none,some 5] _ _ _ _ _ _ _ _ _ _ _ rfl (@pi_list _ _ _ _ (pv 2)) (by rfl) rfl (by repeat (first | exact trivial | refine ⟨rfl,?_⟩)) (by repeat (first | exact trivial | refine ⟨fun h=>(by first | exact ⟨_,rfl⟩ | cases h),?_⟩)) (fun C s H fp=>⟨(@pg_name _ _ (0) _ (show (["stem","turns"]:List Str).Nodup by decide +kernel) rfl (by first | exact Or.inl rfl | exact Or.inr rfl) (by first | exact .inl rfl | exact .inr rfl | assumption)),(@pifs_nil _),(@pe_or _ _ _ _ _ _ _ (@pe_cmpR _ _ _ _ _ _ _ _ op_eq (@pe_ix _ _ _ _ _ _ _ (ix_tupK (K:=K) (by rfl)) (pv 0) (@pe_int _ _ _ _) (fun _ _=>rfl)) (@pe_str _ _ _ _) (nomark _)) (@pe_one _ _ _ _ _ (@pe_cmp _ _ _ _ _ _ (@pc_din _ _ _ _ _ hu (@pe_ix _ _ _ _ _ _ _ (ix_tupK (K:=K) (by rfl)) (pv 0) (@pe_int _ _ _ _) (fun _ _=>rfl)) (pv 1)) (by first | exact nobehind _ (by decide) (by decide) | rfl))))⟩) (by intro _; rfl)) (@pa_nil _) (by rfl)) (by decide) (by decide) (by rfl) (by rfl)) (by intro _; rfl))) (@pss_one _ _ _ (@ps_ret _ _ _ _ (@pe_bl _ _ _ _))) (@pss_nil _)) (@pss_cons _ _ _ _ _ (@ps_set _ _ (6) _ _ _ _ sc_are_at_one.nd rfl (by first | exact Or.inl rfl | exact Or.inr rfl) (@pe_callTy _ _ _ _ _ _ _ _ _ (call_dictK (K:=K) (by rfl) rfl) (by rfl) T.b_dict bt_dict (@pa_cons _ _ _ _ _ (@pe_comp _ ["stem","turns"] [none,some 5] _ _ _ _ _ _ _ _ _ _ _ rfl (@pi_list _ _ _ _ (pv 2)) (by rfl) rfl (by repeat (first | exact trivial | refine ⟨rfl,?_⟩)) (by repeat (first | exact trivial | refine ⟨fun h=>(by first | exact ⟨_,rfl⟩ | cases h),?_⟩)) (fun C s H fp=>⟨(@pg_name _ _ (0) _ (show (["stem","turns"]:List Str).Nodup by decide +kernel) rfl (by first | exact Or.inl rfl | exact Or.inr rfl) (by first | exact .inl rfl | exact .inr rfl | assumption)),(@pifs_nil _),(@pe_tup _ _ _ _ _ (@pa_cons _ _ _ _ _ (@pe_ix _ _ _ _ _ _ _ (ix_tupK (K:=K) (by rfl)) (pv 0) (@pe_int _ _ _ _) (fun _ _=>rfl)) (@pa_cons _ _ _ _ _ (@pe_dget2 _ _ _ _ _ _ _ _ _ hu (pv 1) (@pe_ix _ _ _ _ _ _ _ (ix_tupK (K:=K) (by rfl)) (pv 0) (@pe_int _ _ _ _) (fun _ _=>rfl)) (@pe_int _ _ _ _) ⟨rfl,rfl,rfl,rfl⟩) (@pa_nil _) (by rfl)) (by rfl)))⟩) (by intro _; rfl)) (@pa_nil _) (by rfl)) (by decide) (by decide) (by rfl) (by rfl)) (by rfl) (by first | exact .inl rfl | exact .inr rfl | assumption)) (@pss_one _ _ _ (@ps_ret _ _ _ _ (@pe_callB _ _ _ _ _ _ _ _ _ (call_all rfl) (by rfl) T.b_all bt_all (@pa_cons _ _ _ _ _ (@pe_comp _ ["seal","begins"] [none,some 6] _ _ _ _ _ _ _ _ _ _ _ rfl (@pi_list _ _ _ _ (pv 3)) (by rfl) rfl (by repeat (first | exact trivial | refine ⟨rfl,?_⟩)) (by repeat (first | exact trivial | refine ⟨fun h=>(by first | exact ⟨_,rfl⟩ | cases h),?_⟩)) (fun C s H fp=>⟨(@pg_name _ _ (0) _ (show (["seal","begins"]:List Str).Nodup by decide +kernel) rfl (by first | exact Or.inl rfl | exact Or.inr rfl) (by first | exact .inl rfl | exact .inr rfl | assumption)),(@pifs_nil _),(@pe_and _ _ _ _ _ _ _ (@pe_cmp _ _ _ _ _ _ (@pc_din _ _ _ _ _ hu (@pe_ix _ _ _ _ _ _ _ (ix_tupK (K:=K) (by rfl)) (pv 0) (@pe_int _ _ _ _) (fun _ _=>rfl)) (pv 1)) (by first | exact nobehind _ (by decide) (by decide) | rfl)) (@pe_one _ _ _ _ _ (@pe_cmpR _ _ _ _ _ _ _ _ op_gt (@pe_ix _ _ _ _ _ _ _ (ix_tupK (K:=K) (by rfl)) (pv 0) (@pe_int _ _ _ _) (fun _ _=>rfl)) (@pe_dget _ _ _ _ _ _ hu (pv 1) (@pe_ix _ _ _ _ _ _ _ (ix_tupK (K:=K) (by rfl)) (pv 0) (@pe_int _ _ _ _) (fun _ _=>rfl)) (fun _ _=>rfl)) (nomark _))))⟩) (by intro _; rfl)) (@pa_nil _) (by rfl)) (by decide) (by decide) (by rfl) (by rfl)))))))))))),?_⟩
  try dsimp only [cxOf,Cx.nox,Cx.wish]
  have lS:=List.length_filter_le (fun p:Addr×En=>p.2.isS) ps
  have lL:=List.length_filter_le (fun p:Addr×En=>!p.2.isS) ps
  have ndS:Nms (ps.filter fun p=>p.2.isS):=nd.sublist (List.filter_sublist.map _)
  have ndL:Nms (ps.filter fun p=>!p.2.isS):=nd.sublist (List.filter_sublist.map _)
  have tnL:((ps.map (·.2)).filter fun e=>!e.isS).map En.turn = (ps.filter fun p=>!p.2.isS).map fun p=>p.2.turn:=by
    rw [List.filter_map,List.map_map]; rfl
  have isS:∀ p∈ps.filter (fun p=>p.2.isS),p∈ps∧∃ nm kp og t,p.2 = .st nm kp og t:=fun p hp=>by
    obtain ⟨g1,g2⟩:=List.mem_filter.mp hp
    refine ⟨g1,?_⟩
    cases e:p.2 with
    | st nm kp og t=>exact ⟨_,_,_,_,rfl⟩
    | sl _ _ _ _=>rw [e] at g2; cases g2
  have isL:∀ p∈ps.filter (fun p=>!p.2.isS),p∈ps∧∃ nm sm n t,p.2 = .sl nm sm n t:=fun p hp=>by
    obtain ⟨g1,g2⟩:=List.mem_filter.mp hp
    refine ⟨g1,?_⟩
    cases e:p.2 with
    | st nm kp og t=>rw [e] at g2; cases g2
    | sl _ _ _ _=>exact ⟨_,_,_,_,rfl⟩
  have memS:∀ {nm kp og t},En.st nm kp og t∈ps.map (·.2)→∃ a,(a,En.st nm kp og t)∈ps.filter fun p=>p.2.isS:=fun {nm kp og t} h=>by
    obtain ⟨a,ha⟩:=mem_en h
    exact ⟨a,List.mem_filter.mpr ⟨ha,rfl⟩⟩
  have memL:∀ {nm sm n t},En.sl nm sm n t∈ps.map (·.2)→∃ a,(a,En.sl nm sm n t)∈ps.filter fun p=>!p.2.isS:=fun {nm sm n t} h=>by
    obtain ⟨a,ha⟩:=mem_en h
    exact ⟨a,List.mem_filter.mpr ⟨ha,rfl⟩⟩
  have inE:∀ {p:Addr×En},p∈ps→p.2∈ps.map (·.2):=fun hp=>List.mem_map.mpr ⟨_,hp,rfl⟩
  refine ⟨_,rfl,n,rfl,⟨_,SqT.of hn⟩,?_⟩
  refine comp_selF (ps:=ps) (g:=fun p=>V.ref p.1) (fun p=>p.2.isS) (fun p=>V.ref p.1) (itIs_tup hn) (by omega) (fun p hp H' R s' hR=>?_) (fun p hp hs H' R s' hR=>⟨_,rfl,hR H' (Same.refl _)⟩) fun l1 H1 n1 s1 h1=>?_
  · obtain ⟨a,e⟩:=p
    obtain ⟨ta,_,ha⟩:=he _ hp
    cases e <;> exact ⟨_,rfl,a,_,_,_,rfl,rfl,SqT.of (s'.get ha),atI_nat (j:=1) rfl,rfl,_,rfl,hR⟩
  refine ⟨_,rfl,n,rfl,⟨_,SqT.of (s1.get hn)⟩,?_⟩
  refine comp_selF (ps:=ps) (g:=fun p=>V.ref p.1) (fun p=>!p.2.isS) (fun p=>V.ref p.1) (itIs_tup (s1.get hn)) (by omega) (fun p hp H' R s' hR=>?_) (fun p hp hs H' R s' hR=>⟨_,rfl,hR H' (Same.refl _)⟩) fun l2 H2 n2 s2 h2=>?_
  · obtain ⟨a,e⟩:=p
    obtain ⟨ta,_,ha⟩:=he _ hp
    cases e <;> exact ⟨_,rfl,a,_,_,_,rfl,rfl,SqT.of (s'.get (s1.get ha)),atI_nat (j:=1) rfl,rfl,_,rfl,hR⟩
  have s12:=s1.trans s2
  have h1:=s2.get h1
  generalize ps.filter (fun p=>p.2.isS) = ss at h1 lS ndS isS memS
  generalize ps.filter (fun p=>!p.2.isS) = ls at h2 lL ndL tnL isL memL
  have stAt:∀ {p:Addr×En},p∈ps→∃ xs,H p.1 = some (.tup xs)∧xs[0]? = some (.str p.2.nm)∧xs[2]? = some (.str p.2.v2)∧xs[3]? = some p.2.v3:=fun hp=>(he _ hp).v3
  refine ⟨_,rfl,k,rfl,⟨_,SqT.of (s12.get h0)⟩,?_⟩
  refine comp_selF (ps:=ks) (g:=fun p=>V.ref p.1) (fun _=>true) (fun p=>V.str p.2) (itIs_tup (s12.get h0)) (by omega) (fun p hp H' R s' hR=>hR) (fun p hp hs H' R s' hR=>?_) fun l3 H3 n3 s3 h3=>?_
  · obtain ⟨r,hr'⟩:=hks p hp
    exact ⟨_,rfl,p.1,_,_,_,rfl,rfl,SqT.of (s'.get (s12.get hr')),atI_nat (j:=0) rfl,hR H' (Same.refl _)⟩
  have s13:=s12.trans s3
  have h1:=s3.get h1
  have h2:=s3.get h2
  rw [List.filter_eq_self.mpr (fun _ _=>rfl),show (ks.map fun p=>V.str p.2) = (ks.map (·.2)).map V.str by rw [List.map_map]; rfl] at h3
  generalize ks.map (·.2) = kz at h3 q
  refine ⟨_,rfl,l1,rfl,⟨_,SqL.of h1⟩,?_⟩
  refine comp_selF (ps:=ss) (g:=fun p=>V.ref p.1) (fun _=>true) (fun p=>V.bl (decide (p.2.v2∈kz))) (itIs_list (SqL.of h1)) (by omega) (fun p hp H' R s' hR=>hR) (fun p hp hs H' R s' hR=>?_) fun l4 H4 n4 s4 h4=>?_
  · obtain ⟨hp,_⟩:=isS p hp
    obtain ⟨xs,hx,_,x2,_⟩:=stAt hp
    refine ⟨_,rfl,p.1,_,_,_,rfl,rfl,SqT.of (s'.get (s13.get hx)),atI_nat (j:=2) x2,_,rfl,l3,_,rfl,.inl (SqL.of (s'.get h3)),rfl,by rw [List.all_map,List.all_eq_true]; exact fun _ _=>rfl,?_⟩
    rw [if_neg Bool.false_ne_true,inV_str]
    exact hR H' (Same.refl _)
  have s14:=s13.trans s4
  have h1:=s4.get h1
  have h2:=s4.get h2
  refine ⟨l4,_,rfl,SqL.of (bools_of h4),_,rfl,?_⟩
  rw [all_of]
  cases c1:ss.all fun p=>decide (p.2.v2∈kz) with
  | false=>
    refine iteTc rfl (q false H4 ⟨fun z=>(by cases z),fun z=>?_⟩ s14)
    rw [← c1,List.all_eq_true]
    intro p hp
    obtain ⟨hp',nm,kp,og,t,e⟩:=isS p hp
    have:=z.kp nm kp og t (e ▸ inE hp')
    exact decide_eq_true (by rw [e]; exact this)
  | true=>
  refine iteFc rfl ?_
  refine ⟨_,rfl,l2,rfl,⟨_,SqL.of h2⟩,?_⟩
  refine comp_selF (ps:=ls) (g:=fun p=>V.ref p.1) (fun _=>true) (fun p=>V.int p.2.turn) (itIs_list (SqL.of h2)) (by omega) (fun p hp H' R s' hR=>hR) (fun p hp hs H' R s' hR=>?_) fun l5 H5 n5 s5 h5=>?_
  · obtain ⟨hp,nm,sm,n0,t,e⟩:=isL p hp
    obtain ⟨xs,hx,_,_,x3⟩:=stAt hp
    have x3:xs[3]? = some (.int p.2.turn):=by rw [x3,e]; rfl
    exact ⟨_,rfl,p.1,_,_,_,rfl,rfl,SqT.of (s'.get (s14.get hx)),atI_nat (j:=3) x3,hR H' (Same.refl _)⟩
  have s15:=s14.trans s5
  have h1:=s5.get h1
  have h2:=s5.get h2
  rw [List.filter_eq_self.mpr (fun _ _=>rfl),show (ls.map fun p=>V.int p.2.turn) = (ls.map fun p=>p.2.turn).map V.int by rw [List.map_map]; rfl] at h5
  refine ⟨l5,ls.map fun p=>p.2.turn,rfl,SqL.of h5,by rw [List.length_map]; omega,fun p6 n6=>?_⟩
  have s6:=same_new n6 (.set (fun k=>decide (k∈ls.map fun p=>p.2.turn)) (cI (ls.map fun p=>p.2.turn) (ls.map fun p=>p.2.turn).length))
  have h6:(upd H5 p6 (.set (fun k=>decide (k∈ls.map fun p=>p.2.turn)) (cI (ls.map fun p=>p.2.turn) (ls.map fun p=>p.2.turn).length))) p6 = some (.set (fun k=>decide (k∈ls.map fun p=>p.2.turn)) (cI (ls.map fun p=>p.2.turn) (ls.map fun p=>p.2.turn).length)):=upd_same
  generalize upd H5 p6 (.set (fun k=>decide (k∈ls.map fun p=>p.2.turn)) (cI (ls.map fun p=>p.2.turn) (ls.map fun p=>p.2.turn).length)) = H6 at s6 h6
  have s16:=s15.trans s6
  have h1:=s6.get h1
  have h2:=s6.get h2
  refine ⟨p6,_,_,rfl,h6,_,rfl,l2,_,rfl,.inl (SqL.of h2),_,_,rfl,rfl,_,rfl,?_⟩
  rcases Classical.em ((ls.map fun p=>p.2.turn).Nodup) with tn | tn
  rotate_left
  · refine iteTc (decide_eq_true ?_) (q false H6 ⟨fun z=>(by cases z),fun z=>absurd (tnL ▸ z.tns) tn⟩ s16)
    have lt:cI (ls.map fun p=>p.2.turn) (ls.map fun p=>p.2.turn).length < (ls.map fun p=>p.2.turn).length:=by
      generalize ls.map (fun p=>p.2.turn) = ns at tn
      obtain ⟨i,j,x,hi,hj,ij⟩:∃ (i j:Nat) (x:Int),ns[i]? = some x∧ns[j]? = some x∧i < j:=by
        refine Classical.byContradiction fun no=>tn (List.pairwise_iff_getElem.mpr fun i j hi hj ij e=>no ⟨i,j,ns[i],List.getElem?_eq_getElem hi,by rw [e]; exact List.getElem?_eq_getElem hj,ij⟩)
      exact cI_lt hi hj ij _ (List.getElem?_eq_some_iff.mp hj).1 (Nat.le_refl _)
    rw [List.length_map] at lt ⊢
    rw [List.length_map]
    omega
  refine iteFc (decide_eq_false ?_) ?_
  · rw [cI_one tn _ (Nat.le_refl _),List.length_map,List.length_map]
    omega
  refine ⟨_,rfl,l2,rfl,⟨_,SqL.of h2⟩,?_⟩
  refine comp_sel (ps:=ls) (g:=fun p=>V.ref p.1) (fun _=>true) (Pn En.turn) Pn.same Pn.upd (itIs_list (SqL.of h2)) (by omega) (fun p hp H' R s' hR=>hR) (fun p hp hs H' R s' hR=>?_) fun l7 H7 y7 n7 s7 h7 e7 q7=>?_
  · obtain ⟨hp,nm,sm,n0,t,e⟩:=isL p hp
    obtain ⟨xs,hx,x0,_,x3⟩:=stAt hp
    have x3:xs[3]? = some (.int p.2.turn):=by rw [x3,e]; rfl
    have hx':=s'.get (s16.get hx)
    refine ⟨_,rfl,p.1,_,_,_,rfl,rfl,SqT.of hx',atI_nat (j:=0) x0,_,rfl,p.1,_,_,_,rfl,rfl,SqT.of hx',atI_nat (j:=3) x3,small (by show 2≤1000000; decide),fun b hb=>?_⟩
    exact hR _ _ (same_new hb _) ⟨b,rfl,upd_same⟩
  rw [List.filter_eq_self.mpr (fun _ _=>rfl)] at e7
  have s17:=s16.trans s7
  have h1:=s7.get h1
  have h2:=s7.get h2
  dsimp only [tNil]
  refine dict_pn h7 e7 q7 ndL (by omega) fun d nd8=>?_
  have s8:=same_new nd8 (.dK (ls.map fun p=>((Sum.inr p.2.nm:Key),V.int p.2.turn)))
  have hd8:(upd H7 d (.dK (ls.map fun p=>((Sum.inr p.2.nm:Key),V.int p.2.turn)))) d = some (.dK (ls.map fun p=>((Sum.inr p.2.nm:Key),V.int p.2.turn))):=upd_same
  dsimp only [gName]
  generalize upd H7 d (.dK (ls.map fun p=>((Sum.inr p.2.nm:Key),V.int p.2.turn))) = H8 at s8 hd8
  have s18:=s17.trans s8
  have h1:=s8.get h1
  have h2:=s8.get h2
  have valT:∀ {o sm n0 t},En.sl o sm n0 t∈ps.map (·.2)→valV (ls.map fun p=>((Sum.inr p.2.nm:Key),V.int p.2.turn)) (Sum.inr o) = some (.int n0):=fun {o sm n0 t} h=>by
    obtain ⟨a,ha⟩:=memL h
    rw [val_find (key:=fun p:Addr×En=>p.2.nm) (val:=fun p=>V.int p.2.turn),show (ls.find? fun y=>decide (y.2.nm = o)) = some (a,En.sl o sm n0 t) from ?_]
    · rfl
    · cases q':ls.find? fun y=>decide (y.2.nm = o) with
      | none=>exact absurd (decide_eq_true rfl) (List.find?_eq_none.mp q' _ ha)
      | some x=>
        have q2:decide (x.2.nm = o) = true:=List.find?_some (p:=fun y:Addr×En=>decide (y.2.nm = o)) q'
        rw [nd_inj ndL (List.mem_of_find?_eq_some q') ha (of_decide_eq_true q2)]
  have valN:∀ {o},(¬ ∃ sm n0 t,En.sl o sm n0 t∈ps.map (·.2))→valV (ls.map fun p=>((Sum.inr p.2.nm:Key),V.int p.2.turn)) (Sum.inr o) = none:=fun {o} no=>by
    rw [val_find (key:=fun p:Addr×En=>p.2.nm) (val:=fun p=>V.int p.2.turn),Option.map_eq_none_iff,List.find?_eq_none]
    intro p hp z
    obtain ⟨hp',nm,sm,n0,t,e⟩:=isL p hp
    have z:=of_decide_eq_true z
    refine no ⟨sm,n0,t,?_⟩
    rw [← z,e]
    exact e ▸ inE hp'
  refine ⟨_,rfl,l1,rfl,⟨_,SqL.of h1⟩,?_⟩
  refine comp_selF (ps:=ss) (g:=fun p=>V.ref p.1) (fun _=>true) (fun p=>V.bl (decide (p.2.og = EM) || (valV (ls.map fun p=>((Sum.inr p.2.nm:Key),V.int p.2.turn)) (Sum.inr p.2.og)).isSome)) (itIs_list (SqL.of h1)) (by omega) (fun p hp H' R s' hR=>hR) (fun p hp hs H' R s' hR=>?_) fun l9 H9 n9 s9 h9=>?_
  · obtain ⟨hp,nm,kp,og,t,e⟩:=isS p hp
    obtain ⟨xs,hx,_,_,x3⟩:=stAt hp
    rw [e] at x3 hR
    have hx':=s'.get (s18.get hx)
    refine ⟨_,rfl,p.1,_,_,_,rfl,rfl,SqT.of hx',atI_nat (j:=3) x3,rfl,_,rfl,?_⟩
    by_cases c:og = EM
    · rw [show decide ((En.st nm kp og t).og = EM) = true from decide_eq_true c] at hR
      exact iteTc (decide_eq_true (by show V.str og = V.str EM; rw [c])) (hR H' (Same.refl _))
    · rw [show decide ((En.st nm kp og t).og = EM) = false from decide_eq_false c] at hR
      exact iteFc (decide_eq_false fun z=>c (V.str.inj z)) ⟨_,rfl,p.1,_,_,_,rfl,rfl,SqT.of hx',atI_nat (j:=3) x3,_,rfl,d,_,rfl,DGet.k (k:=Sum.inr og) (s'.get hd8),hR H' (Same.refl _)⟩
  have s19:=s18.trans s9
  have h1:=s9.get h1
  have h2:=s9.get h2
  have hd9:=s9.get hd8
  refine ⟨l9,_,rfl,SqL.of (bools_of h9),_,rfl,?_⟩
  rw [all_of]
  have org_iff:(ss.all fun p=>decide (p.2.og = EM) || (valV (ls.map fun p=>((Sum.inr p.2.nm:Key),V.int p.2.turn)) (Sum.inr p.2.og)).isSome) = true↔∀ nm kp og t,En.st nm kp og t∈ps.map (·.2)→og = EM∨∃ sm tn t',En.sl og sm tn t'∈ps.map (·.2):=by
    rw [List.all_eq_true]
    constructor
    · intro z nm kp og t h
      obtain ⟨a,ha⟩:=memS h
      have:=z _ ha
      rcases Bool.or_eq_true _ _ ▸ this with y | y
      · exact .inl (of_decide_eq_true y)
      · refine .inr (Classical.byContradiction fun no=>?_)
        rw [show valV (ls.map fun p=>((Sum.inr p.2.nm:Key),V.int p.2.turn)) (Sum.inr (En.st nm kp og t).og) = none from valN no] at y
        cases y
    · intro z p hp
      obtain ⟨hp',nm,kp,og,t,e⟩:=isS p hp
      rw [e]
      rcases z nm kp og t (e ▸ inE hp') with y | ⟨sm,n0,t',hs⟩
      · rw [show decide ((En.st nm kp og t).og = EM) = true from decide_eq_true y]; rfl
      · rw [show valV (ls.map fun p=>((Sum.inr p.2.nm:Key),V.int p.2.turn)) (Sum.inr (En.st nm kp og t).og) = _ from valT hs,Bool.or_eq_true]
        exact .inr rfl
  cases c3:ss.all fun p=>decide (p.2.og = EM) || (valV (ls.map fun p=>((Sum.inr p.2.nm:Key),V.int p.2.turn)) (Sum.inr p.2.og)).isSome with
  | false=>
    refine iteTc rfl (q false H9 ⟨fun z=>(by cases z),fun z=>?_⟩ s19)
    rw [← c3]
    exact org_iff.mpr z.org
  | true=>
  have org:=org_iff.mp c3
  refine iteFc rfl ?_
  have bgv:∃ bg:En→Int,(∀ nm kp og t,En.st nm kp og t∈ps.map (·.2)→(valV (ls.map fun p=>((Sum.inr p.2.nm:Key),V.int p.2.turn)) (Sum.inr og)).getD (.int 0) = .int (bg (.st nm kp og t)))∧(∀ nm kp og t sm tg t',En.st nm kp og t∈ps.map (·.2)→En.sl og sm tg t'∈ps.map (·.2)→bg (.st nm kp og t) = tg)∧(∀ nm kp t,bg (.st nm kp EM t) = 0):=by
    refine ⟨fun e=>match valV (ls.map fun p=>((Sum.inr p.2.nm:Key),V.int p.2.turn)) (Sum.inr e.og) with | some (.int g)=>g | _=>0,fun nm kp og t h=>?_,fun nm kp og t sm tg t' h h2=>?_,fun nm kp t=>?_⟩
    · show _ = V.int (match valV (ls.map fun p=>((Sum.inr p.2.nm:Key),V.int p.2.turn)) (Sum.inr og) with | some (.int g)=>g | _=>0)
      rcases Classical.em (∃ sm n0 t,En.sl og sm n0 t∈ps.map (·.2)) with ⟨sm,n0,t',hs⟩ | no
      · rw [valT hs]; rfl
      · rw [valN no]; rfl
    · show (match valV (ls.map fun p=>((Sum.inr p.2.nm:Key),V.int p.2.turn)) (Sum.inr og) with | some (.int g)=>g | _=>0) = tg
      rw [valT h2]
    · show (match valV (ls.map fun p=>((Sum.inr p.2.nm:Key),V.int p.2.turn)) (Sum.inr EM) with | some (.int g)=>g | _=>0) = 0
      rw [valN fun ⟨sm,n0,t',hs⟩=>by
        obtain ⟨a,ha⟩:=mem_en hs
        exact nem _ ha rfl]
  obtain ⟨bg,bg1,bg2,bg3⟩:=bgv
  refine ⟨_,rfl,l1,rfl,⟨_,SqL.of h1⟩,?_⟩
  refine comp_sel (ps:=ss) (g:=fun p=>V.ref p.1) (fun _=>true) (Pn bg) Pn.same Pn.upd (itIs_list (SqL.of h1)) (by omega) (fun p hp H' R s' hR=>hR) (fun p hp hs H' R s' hR=>?_) fun l10 H10 y10 n10 s10 h10 e10 q10=>?_
  · obtain ⟨hp,nm,kp,og,t,e⟩:=isS p hp
    obtain ⟨xs,hx,x0,_,x3⟩:=stAt hp
    have me:=inE hp
    rw [e] at x3 me
    have hx':=s'.get (s19.get hx)
    have dg:=DGet.k (k:=Sum.inr og) (s'.get hd9)
    refine ⟨_,rfl,p.1,_,_,_,rfl,rfl,SqT.of hx',atI_nat (j:=0) x0,_,rfl,d,rfl,.inl ⟨_,.inl (s'.get hd9)⟩,_,rfl,p.1,_,_,_,rfl,rfl,SqT.of hx',atI_nat (j:=3) x3,_,dg,small (by show 2≤1000000; decide),fun b hb=>?_⟩
    refine hR _ _ (same_new hb _) ⟨b,rfl,?_⟩
    rw [upd_same,e,← bg1 _ _ _ _ me]
  rw [List.filter_eq_self.mpr (fun _ _=>rfl)] at e10
  have s110:=s19.trans s10
  have h2:=s10.get h2
  dsimp only [tNil]
  refine dict_pn h10 e10 q10 ndS (by omega) fun b nb=>?_
  have s11:=same_new nb (.dK (ss.map fun p=>((Sum.inr p.2.nm:Key),V.int (bg p.2))))
  have hb11:(upd H10 b (.dK (ss.map fun p=>((Sum.inr p.2.nm:Key),V.int (bg p.2))))) b = some (.dK (ss.map fun p=>((Sum.inr p.2.nm:Key),V.int (bg p.2)))):=upd_same
  dsimp only [gName]
  generalize upd H10 b (.dK (ss.map fun p=>((Sum.inr p.2.nm:Key),V.int (bg p.2)))) = H11 at s11 hb11
  have s111:=s110.trans s11
  have h2:=s11.get h2
  have vS:∀ {sm kp og t},En.st sm kp og t∈ps.map (·.2)→valV (ss.map fun p=>((Sum.inr p.2.nm:Key),V.int (bg p.2))) (Sum.inr sm) = some (.int (bg (.st sm kp og t))):=fun {sm kp og t} h=>by
    obtain ⟨a,ha⟩:=memS h
    rw [val_find (key:=fun p:Addr×En=>p.2.nm) (val:=fun p=>V.int (bg p.2)),show (ss.find? fun y=>decide (y.2.nm = sm)) = some (a,En.st sm kp og t) from ?_]
    · rfl
    · cases q':ss.find? fun y=>decide (y.2.nm = sm) with
      | none=>exact absurd (decide_eq_true rfl) (List.find?_eq_none.mp q' _ ha)
      | some x=>
        have q2:decide (x.2.nm = sm) = true:=List.find?_some (p:=fun y:Addr×En=>decide (y.2.nm = sm)) q'
        rw [nd_inj ndS (List.mem_of_find?_eq_some q') ha (of_decide_eq_true q2)]
  have vN:∀ {sm},(¬ ∃ kp og t,En.st sm kp og t∈ps.map (·.2))→valV (ss.map fun p=>((Sum.inr p.2.nm:Key),V.int (bg p.2))) (Sum.inr sm) = none:=fun {sm} no=>by
    rw [val_find (key:=fun p:Addr×En=>p.2.nm) (val:=fun p=>V.int (bg p.2)),Option.map_eq_none_iff,List.find?_eq_none]
    intro p hp z
    obtain ⟨hp',nm,kp,og,t,e⟩:=isS p hp
    have z:=of_decide_eq_true z
    refine no ⟨kp,og,t,?_⟩
    rw [← z,e]
    exact e ▸ inE hp'
  have cc:∃ c:Addr×En→Bool,∀ p∈ls,(c p = true↔∃ kp og t,En.st p.2.v2 kp og t∈ps.map (·.2)∧bg (.st p.2.v2 kp og t) < p.2.turn):=⟨fun p=>@decide (∃ kp og t,En.st p.2.v2 kp og t∈ps.map (·.2)∧bg (.st p.2.v2 kp og t) < p.2.turn) (Classical.propDecidable _),fun p _=>@decide_eq_true_iff _ (Classical.propDecidable _)⟩
  obtain ⟨c,hc⟩:=cc
  have one:∀ {sm kp og t kp' og' t'},En.st sm kp og t∈ps.map (·.2)→En.st sm kp' og' t'∈ps.map (·.2)→En.st sm kp og t = En.st sm kp' og' t':=fun h h'=>by
    obtain ⟨a,ha⟩:=mem_en h
    obtain ⟨a',ha'⟩:=mem_en h'
    have:=nd_inj nd ha ha' rfl
    exact congrArg (·.2) this
  refine ⟨_,rfl,l2,rfl,⟨_,SqL.of h2⟩,?_⟩
  refine comp_selF (ps:=ls) (g:=fun p=>V.ref p.1) (fun _=>true) (fun p=>V.bl (c p)) (itIs_list (SqL.of h2)) (by omega) (fun p hp H' R s' hR=>hR) (fun p hp hs H' R s' hR=>?_) fun l12 H12 n12 s12' h12=>?_
  · have hcp:=hc p hp
    obtain ⟨hp,nm,sm,n0,t,e⟩:=isL p hp
    obtain ⟨xs,hx,_,x2,x3⟩:=stAt hp
    rw [e] at x2 x3 hcp
    have hx':=s'.get (s111.get hx)
    have dg:=DGet.k (k:=Sum.inr sm) (s'.get hb11)
    rcases Classical.em (∃ kp og t,En.st sm kp og t∈ps.map (·.2)) with ⟨kp,og,t',hst⟩ | no
    · rw [vS hst] at dg
      refine ⟨_,rfl,p.1,_,_,_,rfl,rfl,SqT.of hx',atI_nat (j:=2) x2,_,rfl,b,_,rfl,dg,_,rfl,iteTc rfl ?_⟩
      refine ⟨_,rfl,p.1,_,_,_,rfl,rfl,SqT.of hx',atI_nat (j:=3) x3,_,rfl,_,rfl,p.1,_,_,_,rfl,rfl,SqT.of hx',atI_nat (j:=2) x2,b,_,rfl,dg,_,_,rfl,rfl,?_⟩
      dsimp only
      have:decide (bg (.st sm kp og t') < n0) = c p:=by
        rw [Bool.eq_iff_iff,decide_eq_true_eq,hcp]
        constructor
        · exact fun z=>⟨kp,og,t',hst,z⟩
        · rintro ⟨kp2,og2,t2,g1,g2⟩
          rw [one hst g1]
          exact g2
      rw [this]
      exact hR H' (Same.refl _)
    · rw [vN no] at dg
      have:c p = false:=by
        cases z:c p with
        | false=>rfl
        | true=>
          obtain ⟨kp,og,t,g1,_⟩:=hcp.mp z
          exact absurd ⟨kp,og,t,g1⟩ no
      rw [this] at hR
      exact ⟨_,rfl,p.1,_,_,_,rfl,rfl,SqT.of hx',atI_nat (j:=2) x2,_,rfl,b,_,rfl,dg,_,rfl,iteFc rfl (hR H' (Same.refl _))⟩
  refine ⟨l12,_,rfl,SqL.of (bools_of h12),?_⟩
  rw [all_of]
  refine q _ H12 ?_ (s111.trans s12')
  rw [List.all_eq_true]
  constructor
  · intro z
    have zs:∀ nm sm tn t,En.sl nm sm tn t∈ps.map (·.2)→∃ kp og t',En.st sm kp og t'∈ps.map (·.2)∧bg (.st sm kp og t') < tn:=fun nm sm tn t h=>by
      obtain ⟨a,ha⟩:=memL h
      exact (hc _ ha).mp (z _ ha)
    refine ⟨fun nm kp og t h=>?_,by rw [tnL]; exact tn,org,fun nm sm tn t h=>?_,fun nm kp og t sm tg t' x tn t'' g1 g2 g3=>?_⟩
    · obtain ⟨a,ha⟩:=memS h
      exact of_decide_eq_true (List.all_eq_true.mp c1 _ ha)
    · obtain ⟨kp,og,t',g,_⟩:=zs nm sm tn t h
      exact ⟨kp,og,t',g⟩
    · obtain ⟨kp2,og2,t2,g4,g5⟩:=zs x nm tn t'' g3
      rw [← one g1 g4,bg2 _ _ _ _ _ _ _ g1 g2] at g5
      exact g5
  · intro z p hp
    obtain ⟨hp',nm,sm,n0,t,e⟩:=isL p hp
    have me:En.sl nm sm n0 t∈ps.map (·.2):=e ▸ inE hp'
    refine (hc p hp).mpr ?_
    rw [e]
    obtain ⟨kp,og,t',g⟩:=z.stm _ _ _ _ me
    refine ⟨kp,og,t',g,?_⟩
    show bg (.st sm kp og t') < n0
    rcases org _ _ _ _ g with rfl | ⟨sm2,tg,t2,g2⟩
    · rw [bg3]; exact pos _ _ _ _ me
    · rw [bg2 _ _ _ _ _ _ _ g g2]
      exact z.beg _ _ _ _ _ _ _ _ _ _ g g2 me
end
def deT:Tr→En
  | .tup [.str nm,.int 1,.str kp,.str og,.tup [.int x,.int y,.int z]]=>.st nm kp og (x,y,z)
  | .tup [.str nm,.int 2,.str sm,.int tn,.tup [.int x,.int y,.int z]]=>.sl nm sm tn (x,y,z)
  | _=>.st EM EM EM (0,0,0)
theorem sN_str {t:Tr} (h:sN t = true):∃ z,t = .str z∧nameB (.str z) = true:=by
  cases t with
  | str z=>exact ⟨z,rfl,h⟩
  | _=>cases h
theorem sB_int {a b:Int} {t:Tr} (h:sB a b t = true):∃ i,t = .int i∧a≤i∧i≤b:=by
  cases t with
  | int i=>
    have:(decide (a≤i) && decide (i≤b)) = true:=h
    rw [Bool.and_eq_true,decide_eq_true_eq,decide_eq_true_eq] at this
    exact ⟨i,rfl,this.1,this.2⟩
  | _=>cases h
theorem tag_is {t:Tr} (h:tagT t = true):∃ x y z,t = .tup [.int x,.int y,.int z]:=by
  unfold tagT at h
  split at h
  · rename_i x y z
    rw [Bool.and_eq_true,Bool.and_eq_true] at h
    obtain ⟨i,rfl,_⟩:=sB_int h.1.1
    obtain ⟨j,rfl,_⟩:=sB_int h.1.2
    obtain ⟨k,rfl,_⟩:=sB_int h.2
    exact ⟨i,j,k,rfl⟩
  · cases h
theorem stem_is {t:Tr} (h:stemT t = true):∃ nm kp og x y z,t = .tup [.str nm,.int 1,.str kp,.str og,.tup [.int x,.int y,.int z]]∧nameB (.str nm) = true∧nameB (.str kp) = true∧orgT (.str og) = true∧tagT (.tup [.int x,.int y,.int z]) = true:=by
  unfold stemT at h
  split at h
  · rename_i a b c d e
    rw [Bool.and_eq_true,Bool.and_eq_true,Bool.and_eq_true,Bool.and_eq_true] at h
    obtain ⟨h1,h2,h3,h4,h5⟩:=h
    have:=sB_one h1
    subst this
    obtain ⟨nm,rfl,n1⟩:=sN_str h2
    obtain ⟨kp,rfl,n2⟩:=sN_str h3
    obtain ⟨x,y,z,rfl⟩:=tag_is h5
    cases d with
    | str og=>exact ⟨nm,kp,og,x,y,z,rfl,n1,n2,h4,h5⟩
    | _=>cases h4
  · cases h
theorem seal_is {t:Tr} (h:sealT t = true):∃ nm sm tn x y z,t = .tup [.str nm,.int 2,.str sm,.int tn,.tup [.int x,.int y,.int z]]∧nameB (.str nm) = true∧nameB (.str sm) = true∧1≤tn∧tn≤999999999∧tagT (.tup [.int x,.int y,.int z]) = true:=by
  unfold sealT at h
  split at h
  · rename_i a b c d e
    rw [Bool.and_eq_true,Bool.and_eq_true,Bool.and_eq_true,Bool.and_eq_true] at h
    obtain ⟨h1,h2,h3,h4,h5⟩:=h
    have:=sB_one h1
    subst this
    obtain ⟨nm,rfl,n1⟩:=sN_str h2
    obtain ⟨sm,rfl,n2⟩:=sN_str h3
    obtain ⟨tn,rfl,b1,b2⟩:=sB_int h4
    obtain ⟨x,y,z,rfl⟩:=tag_is h5
    exact ⟨nm,sm,tn,x,y,z,rfl,n1,n2,b1,b2,h5⟩
  · cases h
theorem nameB_ne {z:Str} (h:nameB (.str z) = true):z≠EM:=fun e=>by
  rw [e] at h
  exact absurd h (by decide +kernel)
theorem de_at {H:Hp} {v:V} {t:Tr} (h:Rep AllF H t v) (k:(stemT t || sealT t) = true):EnAt H (adr v,deT t)∧(deT t).nm = nm0 t∧nm0 t≠EM∧∀ nm sm tn t',deT t = .sl nm sm tn t'→0 < tn:=by
  rcases Bool.or_eq_true _ _ ▸ k with k | k
  · obtain ⟨nm,kp,og,x,y,z,rfl,n1,_⟩:=stem_is k
    obtain ⟨p,us,rfl,e,v1,us1,rfl,r1,v2,us2,rfl,r2,v3,us3,rfl,r3,v4,us4,rfl,r4,v5,us5,rfl,r5,rfl⟩:=h
    obtain ⟨ta,ws,rfl,e5,w1,ws1,rfl,q1,w2,ws2,rfl,q2,w3,ws3,rfl,q3,rfl⟩:=r5
    cases r1; cases r2; cases r3; cases r4; cases q1; cases q2; cases q3
    exact ⟨⟨ta,e5,e⟩,rfl,nameB_ne n1,fun _ _ _ _ z=>by cases z⟩
  · obtain ⟨nm,sm,tn,x,y,z,rfl,n1,_,b1,_⟩:=seal_is k
    obtain ⟨p,us,rfl,e,v1,us1,rfl,r1,v2,us2,rfl,r2,v3,us3,rfl,r3,v4,us4,rfl,r4,v5,us5,rfl,r5,rfl⟩:=h
    obtain ⟨ta,ws,rfl,e5,w1,ws1,rfl,q1,w2,ws2,rfl,q2,w3,ws3,rfl,q3,rfl⟩:=r5
    cases r1; cases r2; cases r3; cases r4; cases q1; cases q2; cases q3
    exact ⟨⟨ta,e5,e⟩,rfl,nameB_ne n1,fun _ _ _ _ z=>by cases z; omega⟩
def HeadP:Tr→Prop
  | .tup [a,.tup ks,.tup ns]=>sB 0 999999999 a = true∧keepersT (.tup ks) = true∧namesT (.tup ns) = true∧AtOne (ks.map nm0) (ns.map deT)
  | _=>False
def thirds:Tr→Prop
  | .tup [_,_,.tup ns]=>∀ x∈ns,thirdOk x = true
  | _=>True
section
variable {P:Program} {w:World} {K:PySem.W.Frag} {mg:Str→Option Value} {base:Heap} {f:Addr} {fd:FuncData}
def sp_is_head (K:PySem.W.Frag):Sp:=fun vs H Q _=>∃ v t,vs = [v]∧Rep AllF H t v∧sh 4 t = true∧thirds t∧∀ b H',(b = true↔HeadP t)→Same H H'→Q (.bl b) H'
theorem ok_is_head (T:Txt K mg) (F:Fun K "is_head" "is_head" s_is_head f fd) (D_are_keepers:Def P w K mg base 4 "are_keepers" ["thing"] (sp_are_keepers K)) (D_are_names:Def P w K mg base 5 "are_names" ["thing"] (sp_are_names K)) (D_are_at_one:Def P w K mg base 1 "are_at_one" ["keepers","names"] (sp_are_at_one K)) (D_is_tuple_of:Def P w K mg base 1 "is_tuple_of" ["thing","many"] (sp_is_tuple_of K)) (D_is_between:Def P w K mg base 2 "is_between" ["thing","least","most"] (sp_is_between K)):FnOk P w K mg base CX0 6 f fd ["thing"] (sp_is_head K):=by
  refine F.ok sc_is_head (fun vs H Q E h=>?_) (fun cdv A outer s H vs Q E hr h=>?_)
  · obtain ⟨v,t,rfl,_⟩:=h
    rfl
  obtain ⟨v,t,rfl,hv,hs,th,q⟩:=h
  have okv:=rep_okS hv hs
  refine ⟨_,(@pss_cons _ _ _ _ _ (@ps_if _ _ _ _ _ _ _ _ (@PW.pt _ _ _ (@pw_or _ _ _ _ _ _ _ (@pt_not _ _ _ _ (@pt_val _ _ _ (@pe_fn _ _ _ _ _ _ _ _ _ _ D_is_tuple_of (hr.mono (by decide)) rfl (@pa_cons _ _ _ _ _ (pv 0) (@pa_cons _ _ _ _ _ (@pe_int _ _ _ _) (@pa_nil _) (by rfl)) (by rfl)) (by decide) (by rfl) (by rfl)) (by intro _; rfl))) (@pw_or1 _ _ _ _ (@pt_not _ _ _ _ (@pt_val _ _ _ (@pe_fn _ _ _ _ _ _ _ _ _ _ D_is_between (hr.mono (by decide)) rfl (@pa_cons _ _ _ _ _ (@pe_ix _ _ _ _ _ _ _ ix_tup (pv 0) (@pe_int _ _ _ _) (fun _ _=>rfl)) (@pa_cons _ _ _ _ _ (@pe_int _ _ _ _) (@pa_cons _ _ _ _ _ (@pe_globI _ _ _ _ rfl T.c_MOST_NUMBER (by decide)) (@pa_nil _) (by rfl)) (by rfl)) (by rfl)) (by decide) (by rfl) (by rfl)) (by intro _; rfl)))))) (@pss_one _ _ _ (@ps_ret _ _ _ _ (@pe_bl _ _ _ _))) (@pss_nil _)) (@pss_one _ _ _ (@ps_ret _ _ _ _ (@pe_and _ _ _ _ _ _ _ (@pe_fn _ _ _ _ _ _ _ _ _ _ D_are_keepers (hr.mono (by decide)) rfl (@pa_cons _ _ _ _ _ (@pe_ix _ _ _ _ _ _ _ ix_tup (pv 0) (@pe_int _ _ _ _) (fun _ _=>rfl)) (@pa_nil _) (by rfl)) (by decide) (by rfl) (by rfl)) (@pe_and _ _ _ _ _ _ _ (@pe_fn _ _ _ _ _ _ _ _ _ _ D_are_names (hr.mono (by decide)) rfl (@pa_cons _ _ _ _ _ (@pe_ix _ _ _ _ _ _ _ ix_tup (pv 0) (@pe_int _ _ _ _) (fun _ _=>rfl)) (@pa_nil _) (by rfl)) (by decide) (by rfl) (by rfl)) (@pe_one _ _ _ _ _ (@pe_fn _ _ _ _ _ _ _ _ _ _ D_are_at_one (hr.mono (by decide)) rfl (@pa_cons _ _ _ _ _ (@pe_ix _ _ _ _ _ _ _ ix_tup (pv 0) (@pe_int _ _ _ _) (fun _ _=>rfl)) (@pa_cons _ _ _ _ _ (@pe_ix _ _ _ _ _ _ _ ix_tup (pv 0) (@pe_int _ _ _ _) (fun _ _=>rfl)) (@pa_nil _) (by rfl)) (by rfl)) (by decide) (by rfl) (by rfl)))))))),?_⟩
  dsimp only [tNext,tSeq,tIfS]
  refine ⟨_,rfl,_,3,rfl,okv,_,rfl,?_⟩
  rw [show (3:Int) = ((3:Nat):Int) from rfl,tupN_T hv]
  cases c:tLen 3 t with
  | false=>
    refine iteTc rfl (q false H ⟨fun z=>(by cases z),fun z=>?_⟩ (Same.refl _))
    unfold HeadP at z
    split at z
    · exact absurd c (by simp [tLen])
    · exact z.elim
  | true=>
    obtain ⟨a,k,n,rfl⟩:=tup3 c
    have s1:=sh_mem hs (show a∈[a,k,n] by simp)
    have s2:=sh_mem hs (show k∈[a,k,n] by simp)
    have s3:=sh_mem hs (show n∈[a,k,n] by simp)
    obtain ⟨p,us,rfl,e,v1,us1,rfl,r1,v2,us2,rfl,r2,v3,us3,rfl,r3,rfl⟩:=hv
    refine iteFc rfl ⟨_,rfl,p,_,_,_,rfl,rfl,SqT.of e,rfl,_,0,999999999,rfl,rep_okS r1 s1,_,rfl,?_⟩
    rw [betw_T r1]
    have no:∀ {H':Hp},Same H H'→¬ HeadP (.tup [a,k,n])→Q (.bl false) H':=fun s' z=>q false _ ⟨fun y=>(by cases y),fun y=>absurd y z⟩ s'
    have hk:∀ {H':Hp},Same H H'→(¬ ∃ ks ns,k = .tup ks∧n = .tup ns∧sB 0 999999999 a = true∧keepersT k = true∧namesT n = true)→Q (.bl false) H':=fun s' z=>no s' fun y=>by
      unfold HeadP at y
      split at y
      · rename_i ks ns e
        cases e
        exact z ⟨ks,ns,rfl,rfl,y.1,y.2.1,y.2.2.1⟩
      · exact y
    cases c1:sB 0 999999999 a with
    | false=>exact iteTc rfl (hk (Same.refl _) fun ⟨_,_,_,_,z,_⟩=>by rw [c1] at z; cases z)
    | true=>
      refine iteFc rfl ⟨_,rfl,p,_,_,_,rfl,rfl,SqT.of e,rfl,v2,k,rfl,r2,?_,fun H1 t1=>⟨_,rfl,?_⟩⟩
      · exact sh_le (by decide) s2
      cases c2:keepersT k with
      | false=>exact iteFc rfl (hk t1 fun ⟨_,_,_,_,_,z,_⟩=>by rw [c2] at z; cases z)
      | true=>
        refine iteTc rfl ⟨_,rfl,p,_,_,_,rfl,rfl,SqT.of (t1.get e),rfl,v3,n,rfl,Rep.same t1 _ _ r3,s3,(fun ns z=>by subst z; exact th),fun H2 t2=>⟨_,rfl,?_⟩⟩
        have t12:=t1.trans t2
        cases c3:namesT n with
        | false=>exact iteFc rfl (hk t12 fun ⟨_,_,_,_,_,_,z⟩=>by rw [c3] at z; cases z)
        | true=>
          cases k with
          | tup ks=>
            cases n with
            | tup ns=>
              have d2:=c2
              have d3:=c3
              replace d2:(decide (ks.length≤8) && (ks.all keeperT && riseB (ks.map nm0))) = true:=d2
              replace d3:(decide (ns.length≤24) && (ns.all (fun t=>stemT t || sealT t) && riseB (ns.map nm0))) = true:=d3
              rw [Bool.and_eq_true,Bool.and_eq_true,decide_eq_true_eq,List.all_eq_true,rise_iff] at d2 d3
              obtain ⟨kl,kk,kr⟩:=d2
              obtain ⟨nl,nk,nr⟩:=d3
              obtain ⟨ka,kvs,rfl,ke,krr⟩:=Rep.same t12 _ _ r2
              obtain ⟨na,nvs,rfl,ne,nrr⟩:=Rep.same t12 _ _ r3
              obtain ⟨kps,rfl,rfl,kp⟩:=reps_zip krr
              obtain ⟨nps,rfl,rfl,np⟩:=reps_zip nrr
              have kat:∀ x∈kps,x.1 = .ref (adr x.1)∧∃ r,H2 (adr x.1) = some (.tup (.str (nm0 x.2) :: r)):=fun x hx=>keeper_is (kp x hx) (kk _ (List.mem_map.mpr ⟨x,hx,rfl⟩))
              have nat:∀ x∈nps,x.1 = .ref (adr x.1):=fun x hx=>(named_is (np x hx) (nk _ (List.mem_map.mpr ⟨x,hx,rfl⟩))).1
              have nen:∀ x∈nps,EnAt H2 (adr x.1,deT x.2)∧(deT x.2).nm = nm0 x.2∧nm0 x.2≠EM∧∀ nm sm tn t',deT x.2 = .sl nm sm tn t'→0 < tn:=fun x hx=>de_at (np x hx) (nk _ (List.mem_map.mpr ⟨x,hx,rfl⟩))
              refine iteTc rfl ⟨_,rfl,p,_,_,_,rfl,rfl,SqT.of (t12.get e),rfl,_,rfl,p,_,_,_,rfl,rfl,SqT.of (t12.get e),rfl,ka,na,kps.map fun x=>(adr x.1,nm0 x.2),nps.map fun x=>(adr x.1,deT x.2),rfl,?_,fun t ht=>?_,?_,?_,fun x hx=>?_,?_,fun x hx=>?_,fun nm sm tn t' hx=>?_,?_,fun b H3 hb t3=>q b H3 ?_ (t12.trans t3)⟩
              · rw [ke,List.map_map]
                exact congrArg (fun z=>some (HO.tup z)) (List.map_congr_left fun x hx=>(kat x hx).1)
              · obtain ⟨x,hx,rfl⟩:=List.mem_map.mp ht
                exact (kat x hx).2
              · rw [List.length_map] at kl ⊢; exact kl
              · rw [ne,List.map_map]
                exact congrArg (fun z=>some (HO.tup z)) (List.map_congr_left fun x hx=>nat x hx)
              · obtain ⟨x,hx',rfl⟩:=List.mem_map.mp hx
                exact (nen x hx').1
              · show ((nps.map fun x=>(adr x.1,deT x.2)).map fun p=>p.2.nm).Nodup
                rw [List.map_map]
                have:=slt_nd nr
                rw [List.map_map] at this
                rw [show nps.map ((fun p:Addr×En=>p.2.nm)∘fun x:V×Tr=>(adr x.1,deT x.2)) = nps.map (nm0∘fun x=>x.2) from List.map_congr_left fun x hx=>(nen x hx).2.1]
                exact this
              · obtain ⟨x,hx',rfl⟩:=List.mem_map.mp hx
                show (deT x.2).nm≠EM
                rw [(nen x hx').2.1]
                exact (nen x hx').2.2.1
              · rw [List.map_map] at hx
                obtain ⟨x,hx',e'⟩:=List.mem_map.mp hx
                exact (nen x hx').2.2.2 _ _ _ _ e'
              · rw [List.length_map] at nl ⊢; exact nl
              · rw [hb,List.map_map,List.map_map]
                show _↔(sB 0 999999999 a = true∧keepersT (.tup (kps.map (·.2))) = true∧namesT (.tup (nps.map (·.2))) = true∧AtOne ((kps.map (·.2)).map nm0) ((nps.map (·.2)).map deT))
                rw [List.map_map,List.map_map]
                exact ⟨fun z=>⟨c1,c2,c3,z⟩,fun z=>z.2.2.2⟩
            | _=>cases c3
          | _=>cases c2
end
section
variable {P:Program} {w:World} {K:PySem.W.Frag} {mg:Str→Option Value} {base:Heap} {f:Addr} {fd:FuncData}
def sp__law_row (K:PySem.W.Frag):Sp:=fun vs H Q _=>∃ (c m:Int),vs = [.int c,.int m]∧0≤m∧m≤1000∧
  ∀ (r:Addr) (H':Hp) (ns:List Int),Same H H'→H r = none→H' r = some (.lst (ns.map V.int))→ns.length = m.toNat→(∀ x∈ns,0≤x∧x < 1000000)→Q (.ref r) H'
theorem ok__law_row (T:Txt K mg) (F:Fun K "_law_row" "_law_row" s__law_row f fd):FnOk P w K mg base CX0 1 f fd ["_law_cell","_law_many"] (sp__law_row K):=by
  refine F.ok sc__law_row (fun vs H Q E h=>?_) (fun cdv A outer s H vs Q E hr h=>?_)
  · obtain ⟨c,m,rfl,_⟩:=h
    rfl
  obtain ⟨c,m,rfl,hm0,hm1,q⟩:=h
  refine ⟨_,(@pss_cons _ _ _ _ _ (@ps_set _ _ (2) _ _ _ _ sc__law_row.nd rfl (by first | exact Or.inl rfl | exact Or.inr rfl) (@pe_lst _ _ _ _ (@pa_nil _)) (by rfl) (by first | exact .inl rfl | exact .inr rfl | assumption)) (@pss_cons _ _ _ _ _ (@ps_set _ _ (3) _ _ _ _ sc__law_row.nd rfl (by first | exact Or.inl rfl | exact Or.inr rfl) (pv 0) (by rfl) (by first | exact .inl rfl | exact .inr rfl | assumption)) (@pss_cons _ _ _ _ _ (@ps_if _ _ _ _ _ _ _ _ (@pt_cmpR _ _ _ _ _ _ _ _ op_lt (@pe_callB _ _ _ _ _ _ _ _ _ call_abs (by rfl) T.b_abs bt_abs (@pa_cons _ _ _ _ _ (pv 0) (@pa_nil _) (by rfl)) (by decide) (by decide) (by rfl) (by rfl)) (@pe_op _ _ _ _ _ _ _ _ op_pow (@pe_int _ _ _ _) (@pe_int _ _ _ _)) (nomark _)) (@pss_one _ _ _ (@ps_set _ _ (3) _ _ _ _ sc__law_row.nd rfl (by first | exact Or.inl rfl | exact Or.inr rfl) (@pe_op _ _ _ _ _ _ _ _ op_add (@pe_op _ _ _ _ _ _ _ _ op_mod (pv 0) (@pe_int _ _ _ _)) (@pe_int _ _ _ _)) (by rfl) (by first | exact .inl rfl | exact .inr rfl | assumption))) (@pss_nil _)) (@pss_cons _ _ _ _ _ (@ps_for _ _ _ _ _ _ _ _ PassesOwn.never rfl (@pi_range1 _ _ _ _ _ _ rfl T.b_range (@pa_cons _ _ _ _ _ (pv 1) (@pa_nil _) (by rfl)) (by rfl)) (@pg_name _ _ (4) _ sc__law_row.nd rfl (by first | exact Or.inl rfl | exact Or.inr rfl) (by first | exact .inl rfl | exact .inr rfl | assumption)) (@pss_one _ _ _ (@ps_if _ _ _ _ _ _ _ _ (@pt_cmpR _ _ _ _ _ _ _ _ op_lt (@pe_callB _ _ _ _ _ _ _ _ _ call_abs (by rfl) T.b_abs bt_abs (@pa_cons _ _ _ _ _ (pv 0) (@pa_nil _) (by rfl)) (by decide) (by decide) (by rfl) (by rfl)) (@pe_op _ _ _ _ _ _ _ _ op_pow (@pe_int _ _ _ _) (@pe_int _ _ _ _)) (nomark _)) (@pss_cons _ _ _ _ _ (@ps_set _ _ (3) _ _ _ _ sc__law_row.nd rfl (by first | exact Or.inl rfl | exact Or.inr rfl) (@pe_op _ _ _ _ _ _ _ _ op_mod (@pe_op _ _ _ _ _ _ _ _ op_mul (pv 3) (@pe_int _ _ _ _)) (@pe_int _ _ _ _)) (by rfl) (by first | exact .inl rfl | exact .inr rfl | assumption)) (@pss_one _ _ _ (@ps_expr _ _ _ _ (@pe_bm _ _ _ _ _ _ _ _ _ _ _ _ PySem.F.plainAttrs_list PySem.F.slot_list_append PySem.F.type_list_append mt_append (pv 2) (@pa_cons _ _ _ _ _ (@pe_op _ _ _ _ _ _ _ _ op_mod (@pe_op _ _ _ _ _ _ _ _ op_fdiv (@pe_op _ _ _ _ _ _ _ _ op_mod (@pe_op _ _ _ _ _ _ _ _ op_add (@pe_op _ _ _ _ _ _ _ _ op_add (@pe_op _ _ _ _ _ _ _ _ op_mul (pv 3) (pv 3)) (@pe_op _ _ _ _ _ _ _ _ op_mul (@pe_int _ _ _ _) (pv 3))) (pv 4)) (@pe_int _ _ _ _)) (@pe_int _ _ _ _)) (@pe_op _ _ _ _ _ _ _ _ op_pow (@pe_int _ _ _ _) (@pe_int _ _ _ _))) (@pa_nil _) (by rfl)) (by rfl) (by rfl) (by rfl) (by rfl) (by rfl)) (by rfl)))) (@pss_cons _ _ _ _ _ (@ps_expr _ _ _ _ (@pe_bm _ _ _ _ _ _ _ _ _ _ _ _ PySem.F.plainAttrs_list PySem.F.slot_list_append PySem.F.type_list_append mt_append (pv 2) (@pa_cons _ _ _ _ _ (@pe_op _ _ _ _ _ _ _ _ op_mod (pv 3) (@pe_op _ _ _ _ _ _ _ _ op_pow (@pe_int _ _ _ _) (@pe_int _ _ _ _))) (@pa_nil _) (by rfl)) (by rfl) (by rfl) (by rfl) (by rfl) (by rfl)) (by rfl)) (@pss_one _ _ _ (@ps_set _ _ (3) _ _ _ _ sc__law_row.nd rfl (by first | exact Or.inl rfl | exact Or.inr rfl) (@pe_op _ _ _ _ _ _ _ _ op_fdiv (pv 3) (@pe_op _ _ _ _ _ _ _ _ op_pow (@pe_int _ _ _ _) (@pe_int _ _ _ _))) (by rfl) (by first | exact .inl rfl | exact .inr rfl | assumption)))))) (by intro _; rfl)) (@pss_one _ _ _ (@ps_ret _ _ _ _ (pv 2))))))),?_⟩
  refine ⟨small (by show 0≤1000000; decide),fun g hg=>?_⟩
  refine ⟨_,rfl,?_⟩
  have z1:∀ (N:St→Hp→Prop),(∀ z:Int,N [some (.int c),some (.int m),some (.ref g),some (.int z),none] (upd H g (.lst [])))→tIfS (tTest (tOp (rI0 fun i j=>V.bl (decide (i < j))) (tCB (fun xs H Q=>∃ i,xs = [V.int i]∧Q (V.int (if i < 0 then -i else i)) H) (tCons (tVar 0) tNil)) (tOp (rI CPow fun i j=>V.int (i ^ j.toNat)) (tC (V.int 10)) (tC (V.int 18))))) (tAsg (tOp (rI0 fun i j=>V.int (i + j)) (tOp (rI (fun x j=>0 < j) fun i j=>V.int (i % j)) (tVar 0) (tC (V.int 2147483647))) (tC (V.int 1))) (gName 3)) tNext { nx:=N,rt:=Q } [some (.int c),some (.int m),some (.ref g),some (.int c),none] (upd H g (.lst [])):=fun N hN=>by
    refine ⟨_,rfl,_,rfl,_,_,rfl,rfl,⟨by decide,by decide,by decide⟩,_,_,rfl,rfl,_,rfl,ite2 (fun _=>?_) (fun _=>?_)⟩
    · exact ⟨_,rfl,_,_,rfl,rfl,(by show (0:Int) < 2147483647; decide),_,_,rfl,rfl,hN _⟩
    · exact hN _
  refine z1 _ fun z0=>?_
  refine ⟨_,rfl,m,rfl,by omega,by omega,for_range (lo:=0) (n:=m.toNat) (fun i σ H2=>∃ (ns:List Int) (z:Int) (v:Option V),σ = [some (.int c),some (.int m),some (.ref g),some (.int z),v]∧Same H H2∧H2 g = some (.lst (ns.map V.int))∧ns.length = i∧∀ x∈ns,0≤x∧x < 1000000)
    ⟨[],_,none,rfl,same_new hg _,upd_same,rfl,fun _ h=>nomatch h⟩ ?_ ?_⟩
  · rintro i σ H2 hi ⟨ns,z,v,rfl,s2,hg2,hl,hb⟩
    refine ⟨_,rfl,_,rfl,_,_,rfl,rfl,⟨by decide,by decide,by decide⟩,_,_,rfl,rfl,_,rfl,ite2 (fun _=>?_) (fun _=>?_)⟩
    · refine ⟨_,rfl,_,_,rfl,rfl,.inr ⟨by decide,by decide⟩,_,_,rfl,rfl,(by show (0:Int) < 2147483647; decide),?_⟩
      have b0:=Int.emod_nonneg (z * 48271) (show (2147483647:Int)≠0 by decide)
      have b1:=Int.emod_lt_of_pos (z * 48271) (show (0:Int) < 2147483647 by decide)
      dsimp only
      generalize z * 48271 % 2147483647 = y at b0 b1
      refine ⟨_,rfl,.inl ⟨rfl,_,SqL.of hg2⟩,_,rfl,_,rfl,_,_,rfl,rfl,.inl ⟨by omega,by omega⟩,_,rfl,_,_,rfl,rfl,.inl ⟨by decide,by decide⟩,_,_,rfl,rfl,_,rfl,_,_,rfl,rfl,_,_,rfl,rfl,(by show (0:Int) < 2147483629; decide),_,_,rfl,rfl,⟨by decide,by decide⟩,_,_,rfl,rfl,⟨by decide,by decide,by decide⟩,_,_,rfl,rfl,(by show (0:Int) < 10 ^ (6:Int).toNat; decide),?_⟩
      refine ⟨g,_,_,rfl,rfl,hg2,smallLt (by rw [List.length_map]; omega),?_⟩
      refine ⟨ns ++ [_],_,_,rfl,same_upd s2 hg _,by rw [upd_same,List.map_append]; rfl,by rw [List.length_append,hl]; rfl,fun x hx=>?_⟩
      rcases List.mem_append.mp hx with hx | hx
      · exact hb x hx
      · rw [List.mem_singleton.mp hx]
        exact ⟨Int.emod_nonneg _ (by decide),Int.emod_lt_of_pos _ (by decide)⟩
    · refine ⟨_,rfl,.inl ⟨rfl,_,SqL.of hg2⟩,_,rfl,_,_,rfl,rfl,⟨by decide,by decide,by decide⟩,_,_,rfl,rfl,(by show (0:Int) < 10 ^ (6:Int).toNat; decide),g,_,_,rfl,rfl,hg2,smallLt (by rw [List.length_map]; omega),?_⟩
      refine ⟨_,rfl,_,_,rfl,rfl,⟨by decide,by decide,by decide⟩,_,_,rfl,rfl,⟨by decide,by decide⟩,?_⟩
      refine ⟨ns ++ [_],_,_,rfl,same_upd s2 hg _,by rw [upd_same,List.map_append]; rfl,by rw [List.length_append,hl]; rfl,fun x hx=>?_⟩
      rcases List.mem_append.mp hx with hx | hx
      · exact hb x hx
      · rw [List.mem_singleton.mp hx]
        exact ⟨Int.emod_nonneg _ (by decide),Int.emod_lt_of_pos _ (by decide)⟩
  · rintro σ H2 ⟨ns,z,v,rfl,s2,hg2,hl,hb⟩
    exact ⟨_,rfl,q g _ ns s2 hg hg2 hl hb⟩
def sp__law_cell_at (K:PySem.W.Frag):Sp:=fun vs H Q _=>∃ (a:Addr) (ns:List Int) (k:Int),vs = [.ref a,.int k]∧0≤k∧SqL K H a (ns.map V.int)∧∀ z:Int,Q (.int z) H
theorem ok__law_cell_at (T:Txt K mg) (F:Fun K "_law_cell_at" "_law_cell_at" s__law_cell_at f fd):FnOk P w K mg base CX0 1 f fd ["_law_script","_law_k"] (sp__law_cell_at K):=by
  refine F.ok sc__law_cell_at (fun vs H Q E h=>?_) (fun cdv A outer s H vs Q E hr h=>?_)
  · obtain ⟨a,ns,k,rfl,_⟩:=h
    rfl
  obtain ⟨a,ns,k,rfl,hk,hS,q⟩:=h
  refine ⟨_,(@pss_cons _ _ _ _ _ (@ps_if _ _ _ _ _ _ _ _ (@pt_cmpR _ _ _ _ _ _ _ _ op_lt (pv 1) (@pe_callB _ _ _ _ _ _ _ _ _ call_len_seq (by rfl) T.b_len bt_len (@pa_cons _ _ _ _ _ (pv 0) (@pa_nil _) (by rfl)) (by decide) (by decide) (by rfl) (by rfl)) (nomark _)) (@pss_one _ _ _ (@ps_ret _ _ _ _ (@pe_ix _ _ _ _ _ _ _ ix_list (pv 0) (pv 1) (fun _ _=>rfl)))) (@pss_nil _)) (@pss_one _ _ _ (@ps_ret _ _ _ _ (@pe_int _ _ _ _)))),?_⟩
  refine ⟨_,rfl,_,rfl,a,_,rfl,.inl hS,_,_,rfl,rfl,_,rfl,ite2 (fun c=>?_) (fun c=>q 0)⟩
  have c':=dec_true c
  rw [List.length_map] at c'
  exact ⟨_,rfl,_,rfl,a,_,_,_,rfl,rfl,hS,at_int hk c',q _⟩
end
section
variable {P:Program} {w:World} {K:PySem.W.Frag} {mg:Str→Option Value} {base:Heap} {f:Addr} {fd:FuncData}
abbrev AB:Str:=PySem.Str.ofString "abcdefghijklmnopqrstuvwxyz"
theorem ab_len:(cod AB).length = 26:=by decide +kernel
theorem ab_nd:(cod AB).Nodup:=by decide +kernel
theorem ab_ln:∀ c∈cod AB,c∈cod LN:=by decide +kernel
def abC (i:Int):Nat:=(cod AB).getD (i % 26).toNat 0
theorem abC_inj {i j:Int} (h:abC i = abC j):i % 26 = j % 26:=by
  have i0:=Int.emod_nonneg i (show (26:Int)≠0 by decide)
  have i1:=Int.emod_lt_of_pos i (show (0:Int) < 26 by decide)
  have j0:=Int.emod_nonneg j (show (26:Int)≠0 by decide)
  have j1:=Int.emod_lt_of_pos j (show (0:Int) < 26 by decide)
  by_cases e:(i % 26).toNat = (j % 26).toNat
  · omega
  · exact absurd h (nodup_getD ab_nd (by rw [ab_len]; omega) (by rw [ab_len]; omega) e)
theorem at_ab (i:Int):atI AB.cps.toList (i % 26) = some (abC i)∧abC i∈cod AB:=by
  have i0:=Int.emod_nonneg i (show (26:Int)≠0 by decide)
  have i1:=Int.emod_lt_of_pos i (show (0:Int) < 26 by decide)
  have hk:(i % 26).toNat < (cod AB).length:=by rw [ab_len]; omega
  have e:abC i = (cod AB)[(i % 26).toNat]:=by
    show (cod AB).getD (i % 26).toNat 0 = _
    rw [List.getD_eq_getElem?_getD,List.getElem?_eq_getElem hk]
    rfl
  have:=atI_nat (xs:=cod AB) (j:=(i % 26).toNat) (List.getElem?_eq_getElem hk)
  rw [show (((i % 26).toNat:Nat):Int) = i % 26 by omega] at this
  exact ⟨by rw [e]; exact this,by rw [e]; exact List.getElem_mem hk⟩
def nmL (z:Str):Prop:=∃ c k,cod z = List.replicate (k + 1) c∧k < 8∧c∈cod AB
theorem nmL.name {z:Str} (h:nmL z):nameB (.str z) = true:=by
  obtain ⟨c,k,e,hk,hc⟩:=h
  have l:=cod_len z
  rw [e,List.length_replicate] at l
  show (decide ((1:Int)≤z.length) && decide ((z.length:Int)≤8) && allIn LN z) = true
  rw [decide_eq_true (by omega),decide_eq_true (by omega)]
  unfold allIn
  rw [Bool.true_and,Bool.true_and,List.all_eq_true,e]
  exact fun x hx=>decide_eq_true (by rw [List.eq_of_mem_replicate hx]; exact ab_ln c hc)
theorem nmL.ne {z:Str} (h:nmL z):z≠EM:=nameB_ne h.name
def sp__law_names (K:PySem.W.Frag):Sp:=fun vs H Q _=>∃ c m:Int,vs = [.int c,.int m]∧0≤m∧m≤24∧
  ∀ l H' (zs:List Str),Same H H'→H l = none→H' l = some (.lst (zs.map V.str))→zs.length = m.toNat→(∀ z∈zs,nmL z)→zs.Pairwise Slt→Q (.ref l) H'
theorem ok__law_names (T:Txt K mg) (F:Fun K "_law_names" "_law_names" s__law_names f fd):FnOk P w K mg base CX0 1 f fd ["_law_cell","_law_many"] (sp__law_names K):=by
  refine F.ok sc__law_names (fun vs H Q E h=>?_) (fun cdv A outer s H vs Q E hr h=>?_)
  · obtain ⟨c,m,rfl,_⟩:=h
    rfl
  obtain ⟨c,m,rfl,m0,m1,q⟩:=h
  refine ⟨_,(@pss_cons _ _ _ _ _ (@ps_set _ _ (2) _ _ _ _ sc__law_names.nd rfl (by first | exact Or.inl rfl | exact Or.inr rfl) (@pe_lst _ _ _ _ (@pa_nil _)) (by rfl) (by first | exact .inl rfl | exact .inr rfl | assumption)) (@pss_cons _ _ _ _ _ (@ps_for _ _ _ _ _ _ _ _ PassesOwn.never rfl (@pi_range1 _ _ _ _ _ _ rfl T.b_range (@pa_cons _ _ _ _ _ (pv 1) (@pa_nil _) (by rfl)) (by rfl)) (@pg_name _ _ (3) _ sc__law_names.nd rfl (by first | exact Or.inl rfl | exact Or.inr rfl) (by first | exact .inl rfl | exact .inr rfl | assumption)) (@pss_one _ _ _ (@ps_expr _ _ _ _ (@pe_bm _ _ _ _ _ _ _ _ _ _ _ _ PySem.F.plainAttrs_list PySem.F.slot_list_append PySem.F.type_list_append mt_append (pv 2) (@pa_cons _ _ _ _ _ (@pe_op _ _ _ _ _ _ _ _ op_mul_str (@pe_ix _ _ _ _ _ _ _ ix_str (@pe_str _ _ _ _) (@pe_op _ _ _ _ _ _ _ _ op_mod (@pe_op _ _ _ _ _ _ _ _ op_add (pv 0) (pv 3)) (@pe_int _ _ _ _)) (fun _ _=>rfl)) (@pe_op _ _ _ _ _ _ _ _ op_add (@pe_int _ _ _ _) (@pe_op _ _ _ _ _ _ _ _ op_mod (@pe_op _ _ _ _ _ _ _ _ op_add (@pe_op _ _ _ _ _ _ _ _ op_fdiv (pv 0) (@pe_int _ _ _ _)) (@pe_op _ _ _ _ _ _ _ _ op_mul (pv 3) (pv 3))) (@pe_int _ _ _ _)))) (@pa_nil _) (by rfl)) (by rfl) (by rfl) (by rfl) (by rfl) (by rfl)) (by rfl))) (by intro _; rfl)) (@pss_one _ _ _ (@ps_ret _ _ _ _ (@pe_callB _ _ _ _ _ _ _ _ _ (call_sortL (K:=K) (by rfl)) (by rfl) T.b_sorted bt_sorted (@pa_cons _ _ _ _ _ (pv 2) (@pa_nil _) (by rfl)) (by decide) (by decide) (by rfl) (by rfl)))))),?_⟩
  try dsimp only [cxOf,Cx.nox,Cx.wish]
  refine ⟨small (by show 0≤1000000; decide),fun g hg=>?_⟩
  refine ⟨_,rfl,m,rfl,by omega,by omega,for_range (lo:=0) (n:=m.toNat) (fun i σ H2=>∃ (zs:List Str) (v:Option V),σ = [some (.int c),some (.int m),some (.ref g),v]∧Same H H2∧H2 g = some (.lst (zs.map V.str))∧zs.length = i∧∀ (j:Nat) z,zs[j]? = some z→∃ k,cod z = List.replicate (k + 1) (abC (c + (0 + (j:Int))))∧k < 8)
    ⟨[],none,rfl,same_new hg _,upd_same,rfl,(fun j z h=>by simp at h)⟩ ?_ ?_⟩
  · rintro i σ H2 hi ⟨zs,v,rfl,s2,hg2,hl,hat⟩
    obtain ⟨hc,mc⟩:=at_ab (c + (0 + (i:Int)))
    refine ⟨_,rfl,.inl ⟨rfl,_,SqL.of hg2⟩,_,rfl,_,rfl,_,_,rfl,rfl,_,_,rfl,rfl,(by show (0:Int) < 26; decide),AB,_,abC (c + (0 + (i:Int))),rfl,rfl,small (by decide +kernel),hc,?_⟩
    refine ⟨_,rfl,_,_,rfl,rfl,⟨by decide,by decide⟩,_,rfl,_,rfl,_,_,rfl,rfl,.inl ⟨by omega,by omega⟩,_,_,rfl,rfl,_,_,rfl,rfl,(by show (0:Int) < 8; decide),_,_,rfl,rfl,?_⟩
    have r0:=Int.emod_nonneg (c / 26 + (0 + (i:Int)) * (0 + (i:Int))) (show (8:Int)≠0 by decide)
    have r1:=Int.emod_lt_of_pos (c / 26 + (0 + (i:Int)) * (0 + (i:Int))) (show (0:Int) < 8 by decide)
    dsimp only
    generalize (c / 26 + (0 + (i:Int)) * (0 + (i:Int))) % 8 = r at r0 r1
    refine ⟨_,_,rfl,rfl,by omega,by omega,(by show 1≤1000; decide),g,_,_,rfl,rfl,hg2,smallLt (by rw [List.length_map]; omega),?_⟩
    refine ⟨zs ++ [PySem.Txt.mul ⟨#[abC (c + (0 + (i:Int)))]⟩ (1 + r)],_,rfl,same_upd s2 hg _,by rw [upd_same,List.map_append]; rfl,by rw [List.length_append,hl]; rfl,fun j y hj=>?_⟩
    by_cases hjl:j < zs.length
    · rw [List.getElem?_append_left hjl] at hj
      exact hat j y hj
    · rw [List.getElem?_append_right (by omega)] at hj
      have h0:j - zs.length = 0:=by
        have:=(List.getElem?_eq_some_iff.mp hj).1
        simp at this
        omega
      rw [h0] at hj
      cases hj
      refine ⟨r.toNat,?_,by omega⟩
      rw [show j = i by omega]
      show (PySem.Txt.mul ⟨#[abC (c + (0 + (i:Int)))]⟩ (1 + r)).cps.toList = _
      rw [PyProof.Rows.mul_one_list,show (1 + r).toNat = r.toNat + 1 by omega]
  · rintro σ H2 ⟨zs,v,rfl,s2,hg2,hl,hat⟩
    refine ⟨_,rfl,g,zs,rfl,SqL.of hg2,by omega,fun ts p pm so hp=>?_⟩
    have nd:zs.Nodup:=by
      refine List.pairwise_iff_getElem.mpr fun i j hi hj hij e=>?_
      obtain ⟨k1,e1,_⟩:=hat i _ (List.getElem?_eq_getElem hi)
      obtain ⟨k2,e2,_⟩:=hat j _ (List.getElem?_eq_getElem hj)
      rw [e,e2] at e1
      have e3:=congrArg (fun l:List Nat=>l[0]?) e1
      simp only [List.replicate_succ,List.getElem?_cons_zero,Option.some.injEq] at e3
      have:=abC_inj e3
      omega
    have s3:=same_new hp (.lst (ts.map V.str))
    refine q p _ ts (s2.trans s3) (s2.free hp) upd_same (by rw [pm.length_eq,hl]) (fun z hz=>?_) (rise_of so (pm.nodup_iff.mpr nd))
    obtain ⟨j,hj⟩:=List.getElem?_of_mem (pm.mem_iff.mp hz)
    obtain ⟨k,e,hk⟩:=hat j z hj
    exact ⟨_,k,e,hk,(at_ab _).2⟩
def tgOk (t:Int×Int×Int):Prop:=(1≤t.1∧t.1≤999999)∧(0≤t.2.1∧t.2.1≤999999999)∧(0≤t.2.2∧t.2.2≤996)
def sp__law_tag (K:PySem.W.Frag):Sp:=fun vs H Q _=>∃ n:Int,vs = [.int n]∧0≤n∧n≤2000000∧∀ a t H',Same H H'→H a = none→tgOk t→H' a = some (.tup (tgV t))→Q (.ref a) H'
theorem ok__law_tag (T:Txt K mg) (F:Fun K "_law_tag" "_law_tag" s__law_tag f fd):FnOk P w K mg base CX0 1 f fd ["_law_number"] (sp__law_tag K):=by
  refine F.ok sc__law_tag (fun vs H Q E h=>?_) (fun cdv A outer s H vs Q E hr h=>?_)
  · obtain ⟨n,rfl,_⟩:=h
    rfl
  obtain ⟨n,rfl,n0,n1,q⟩:=h
  refine ⟨_,(@pss_one _ _ _ (@ps_ret _ _ _ _ (@pe_tup _ _ _ _ _ (@pa_cons _ _ _ _ _ (@pe_op _ _ _ _ _ _ _ _ op_add (@pe_int _ _ _ _) (@pe_op _ _ _ _ _ _ _ _ op_mod (pv 0) (@pe_int _ _ _ _))) (@pa_cons _ _ _ _ _ (@pe_op _ _ _ _ _ _ _ _ op_mod (@pe_op _ _ _ _ _ _ _ _ op_mul (pv 0) (@pe_int _ _ _ _)) (@pe_int _ _ _ _)) (@pa_cons _ _ _ _ _ (@pe_op _ _ _ _ _ _ _ _ op_mod (@pe_op _ _ _ _ _ _ _ _ op_fdiv (pv 0) (@pe_int _ _ _ _)) (@pe_int _ _ _ _)) (@pa_nil _) (by rfl)) (by rfl)) (by rfl))))),?_⟩
  try dsimp only [cxOf,Cx.nox,Cx.wish]
  refine ⟨_,rfl,_,_,rfl,rfl,(by show (0:Int) < 999999; decide),_,_,rfl,rfl,_,rfl,_,_,rfl,rfl,.inl ⟨by omega,by omega⟩,_,_,rfl,rfl,(by show (0:Int) < 1000000000; decide),_,rfl,_,_,rfl,rfl,⟨by decide,by decide⟩,_,_,rfl,rfl,(by show (0:Int) < 997; decide),small (by show 3≤1000000; decide),fun a na=>?_⟩
  have a0:=Int.emod_nonneg n (show (999999:Int)≠0 by decide)
  have a1:=Int.emod_lt_of_pos n (show (0:Int) < 999999 by decide)
  have b0:=Int.emod_nonneg (n * 991) (show (1000000000:Int)≠0 by decide)
  have b1:=Int.emod_lt_of_pos (n * 991) (show (0:Int) < 1000000000 by decide)
  have c0:=Int.emod_nonneg (n / 7) (show (997:Int)≠0 by decide)
  have c1:=Int.emod_lt_of_pos (n / 7) (show (0:Int) < 997 by decide)
  exact q a (1 + n % 999999,n * 991 % 1000000000,n / 7 % 997) _ (same_new na _) na ⟨⟨(show 1≤1 + n % 999999 by omega),(show 1 + n % 999999≤999999 by omega)⟩,⟨b0,(show n * 991 % 1000000000≤999999999 by omega)⟩,c0,(show n / 7 % 997≤996 by omega)⟩ upd_same
end
structure Bd (ks:List Str) (T:Int) (ss sl:List Str) (es:List En):Prop where
  nms:(es.map En.nm).Nodup
  sN:∀ nm kp og t,En.st nm kp og t∈es→nm∈ss∧kp∈ks∧tgOk t∧(og = EM∨∃ sm tn t',En.sl og sm tn t'∈es)
  lN:∀ nm sm tn t,En.sl nm sm tn t∈es→nm∈sl∧(0 < tn∧tn≤T)∧tgOk t∧∃ kp og t',En.st sm kp og t'∈es
  sA:∀ z∈ss,∃ kp og t,En.st z kp og t∈es
  lA:∀ z∈sl,∃ sm tn t,En.sl z sm tn t∈es
  tns:((es.filter fun e=>!e.isS).map En.turn).Nodup
  beg:∀ nm kp og t sm tg t' x tn t'',En.st nm kp og t∈es→En.sl og sm tg t'∈es→En.sl x nm tn t''∈es→tg < tn
  len:es.length = ss.length + sl.length
theorem Bd.nil (ks:List Str) (T:Int):Bd ks T [] [] []:=
  ⟨List.nodup_nil,(fun _ _ _ _ h=>nomatch h),(fun _ _ _ _ h=>nomatch h),(fun _ h=>nomatch h),(fun _ h=>nomatch h),List.nodup_nil,(fun _ _ _ _ _ _ _ _ _ _ h=>nomatch h),rfl⟩
theorem Bd.mem {ks:List Str} {T:Int} {ss sl:List Str} {es:List En} (b:Bd ks T ss sl es) {e:En} (h:e∈es):e.nm∈ss ++ sl:=by
  cases e with
  | st nm kp og t=>exact List.mem_append_left _ (b.sN _ _ _ _ h).1
  | sl nm sm tn t=>exact List.mem_append_right _ (b.lN _ _ _ _ h).1
theorem Bd.nd {ks:List Str} {T:Int} {ss sl:List Str} {es:List En} (b:Bd ks T ss sl es) {e:En} (hz:e.nm ∉ ss ++ sl):((es ++ [e]).map En.nm).Nodup:=by
  rw [List.map_append,List.nodup_append]
  refine ⟨b.nms,List.pairwise_singleton _ _,fun x hx y hy q=>?_⟩
  obtain ⟨e',he,rfl⟩:=List.mem_map.mp hx
  rw [List.mem_singleton.mp hy] at q
  exact hz (q ▸ b.mem he)
theorem Bd.stem {ks:List Str} {T:Int} {ss sl:List Str} {es:List En} (b:Bd ks T ss sl es) {z kp og:Str} {t:Int×Int×Int} (hz:z ∉ ss ++ sl) (hk:kp∈ks) (ht:tgOk t) (ho:og = EM∨og∈sl):Bd ks T (ss ++ [z]) sl (es ++ [.st z kp og t]):=by
  have isL:∀ {nm sm:Str} {tn:Int} {t':Int×Int×Int},En.sl nm sm tn t'∈es ++ [En.st z kp og t]→En.sl nm sm tn t'∈es:=fun {nm sm tn t'} h=>(List.mem_append.mp h).elim id fun h=>by cases List.mem_singleton.mp h
  refine ⟨b.nd hz,fun nm kp' og' t' h=>?_,fun nm sm tn t' h=>?_,fun y hy=>?_,fun y hy=>?_,?_,fun nm kp' og' t' sm tg t2 x tn t3 h1 h2 h3=>?_,?_⟩
  · rcases List.mem_append.mp h with h | h
    · obtain ⟨g1,g2,g3,g4⟩:=b.sN _ _ _ _ h
      exact ⟨List.mem_append_left _ g1,g2,g3,g4.imp id fun ⟨sm,tn,t2,g⟩=>⟨sm,tn,t2,List.mem_append_left _ g⟩⟩
    · cases List.mem_singleton.mp h
      refine ⟨List.mem_append_right _ List.mem_cons_self,hk,ht,ho.imp id fun g=>?_⟩
      obtain ⟨sm,tn,t2,g⟩:=b.lA _ g
      exact ⟨sm,tn,t2,List.mem_append_left _ g⟩
  · obtain ⟨g1,g2,g3,kp2,og2,t2,g⟩:=b.lN _ _ _ _ (isL h)
    exact ⟨g1,g2,g3,kp2,og2,t2,List.mem_append_left _ g⟩
  · rcases List.mem_append.mp hy with hy | hy
    · obtain ⟨kp2,og2,t2,g⟩:=b.sA y hy
      exact ⟨kp2,og2,t2,List.mem_append_left _ g⟩
    · rw [List.mem_singleton.mp hy]
      exact ⟨_,_,_,List.mem_append_right _ List.mem_cons_self⟩
  · obtain ⟨sm,tn,t2,g⟩:=b.lA y hy
    exact ⟨sm,tn,t2,List.mem_append_left _ g⟩
  · rw [List.filter_append,show List.filter (fun e:En=>!e.isS) [En.st z kp og t] = [] from rfl,List.append_nil]
    exact b.tns
  · rcases List.mem_append.mp h1 with h | h
    · exact b.beg _ _ _ _ _ _ _ _ _ _ h (isL h2) (isL h3)
    · cases List.mem_singleton.mp h
      obtain ⟨_,_,_,kp2,og2,t4,g⟩:=b.lN _ _ _ _ (isL h3)
      exact absurd (List.mem_append_left _ (b.sN _ _ _ _ g).1) hz
  · rw [List.length_append,List.length_append,b.len]
    show _ + 1 = _ + 1 + _
    omega
theorem Bd.seal {ks:List Str} {T T':Int} {ss sl:List Str} {es:List En} (b:Bd ks T ss sl es) {z sm:Str} {t:Int×Int×Int} (hz:z ∉ ss ++ sl) (zne:z≠EM) (hs:sm∈ss) (hT:T < T') (h0:0≤T) (ht:tgOk t):Bd ks T' ss (sl ++ [z]) (es ++ [.sl z sm T' t]):=by
  have isS:∀ {nm kp og:Str} {t':Int×Int×Int},En.st nm kp og t'∈es ++ [En.sl z sm T' t]→En.st nm kp og t'∈es:=fun {nm kp og t'} h=>(List.mem_append.mp h).elim id fun h=>by cases List.mem_singleton.mp h
  refine ⟨b.nd (fun h=>hz h),fun nm kp' og' t' h=>?_,fun nm sm' tn t' h=>?_,fun y hy=>?_,fun y hy=>?_,?_,fun nm kp' og' t' sm' tg t2 x tn t3 h1 h2 h3=>?_,?_⟩
  · obtain ⟨g1,g2,g3,g4⟩:=b.sN _ _ _ _ (isS h)
    exact ⟨g1,g2,g3,g4.imp id fun ⟨sm,tn,t2,g⟩=>⟨sm,tn,t2,List.mem_append_left _ g⟩⟩
  · rcases List.mem_append.mp h with h | h
    · obtain ⟨g1,⟨g2,g2'⟩,g3,kp2,og2,t2,g⟩:=b.lN _ _ _ _ h
      exact ⟨List.mem_append_left _ g1,⟨g2,by omega⟩,g3,kp2,og2,t2,List.mem_append_left _ g⟩
    · cases List.mem_singleton.mp h
      obtain ⟨kp2,og2,t2,g⟩:=b.sA _ hs
      exact ⟨List.mem_append_right _ List.mem_cons_self,⟨by omega,Int.le_refl _⟩,ht,kp2,og2,t2,List.mem_append_left _ g⟩
  · obtain ⟨kp2,og2,t2,g⟩:=b.sA y hy
    exact ⟨kp2,og2,t2,List.mem_append_left _ g⟩
  · rcases List.mem_append.mp hy with hy | hy
    · obtain ⟨sm,tn,t2,g⟩:=b.lA y hy
      exact ⟨sm,tn,t2,List.mem_append_left _ g⟩
    · rw [List.mem_singleton.mp hy]
      exact ⟨_,_,_,List.mem_append_right _ List.mem_cons_self⟩
  · rw [List.filter_append,show List.filter (fun e:En=>!e.isS) [En.sl z sm T' t] = [En.sl z sm T' t] from rfl,List.map_append,List.nodup_append]
    refine ⟨b.tns,List.pairwise_singleton _ _,fun x hx y hy q=>?_⟩
    obtain ⟨e,he,rfl⟩:=List.mem_map.mp hx
    obtain ⟨he1,he2⟩:=List.mem_filter.mp he
    have h2:y = T':=List.mem_singleton.mp hy
    cases e with
    | st _ _ _ _=>cases he2
    | sl nm sm' tn t'=>
      have:=(b.lN _ _ _ _ he1).2.1.2
      have q:tn = y:=q
      omega
  · have h2':En.sl og' sm' tg t2∈es:=by
      rcases List.mem_append.mp h2 with h | h
      · exact h
      · cases List.mem_singleton.mp h
        rcases (b.sN _ _ _ _ (isS h1)).2.2.2 with e | ⟨_,_,_,g⟩
        · exact absurd e zne
        · exact absurd (List.mem_append_right _ (b.lN _ _ _ _ g).1) hz
    rcases List.mem_append.mp h3 with h | h
    · exact b.beg _ _ _ _ _ _ _ _ _ _ (isS h1) h2' h
    · cases List.mem_singleton.mp h
      have:=(b.lN _ _ _ _ h2').2.1.2
      omega
  · rw [List.length_append,List.length_append,b.len]
    show _ + 1 = _ + (_ + 1)
    omega
theorem Bd.at_one {ks:List Str} {T:Int} {ss sl:List Str} {es:List En} (b:Bd ks T ss sl es):AtOne ks es:=
  ⟨fun _ _ _ _ h=>(b.sN _ _ _ _ h).2.1,b.tns,fun _ _ _ _ h=>(b.sN _ _ _ _ h).2.2.2,fun _ _ _ _ h=>(b.lN _ _ _ _ h).2.2.2,b.beg⟩
theorem AtOne.perm {ks:List Str} {es es':List En} (a:AtOne ks es) (p:es'.Perm es):AtOne ks es':=
  ⟨fun _ _ _ _ h=>a.kp _ _ _ _ (p.mem_iff.mp h),((p.filter _).map En.turn).nodup_iff.mpr a.tns,fun _ _ _ _ h=>(a.org _ _ _ _ (p.mem_iff.mp h)).imp id (by rintro ⟨sm,tn,t',h2⟩; exact ⟨sm,tn,t',p.mem_iff.mpr h2⟩),fun _ _ _ _ h=>by
    obtain ⟨kp,og,t',h2⟩:=a.stm _ _ _ _ (p.mem_iff.mp h)
    exact ⟨kp,og,t',p.mem_iff.mpr h2⟩,fun _ _ _ _ _ _ _ _ _ _ h1 h2 h3=>a.beg _ _ _ _ _ _ _ _ _ _ (p.mem_iff.mp h1) (p.mem_iff.mp h2) (p.mem_iff.mp h3)⟩
section
variable {P:Program} {w:World} {K:PySem.W.Frag} {mg:Str→Option Value} {base:Heap} {f:Addr} {fd:FuncData}
def KpAt (H:Hp) (p:Addr×Str×Int):Prop:=H p.1 = some (.tup [.str p.2.1,.int p.2.2])
theorem tAndV_s {t u:TE} {σ:St} {H:Hp} {Q:VK} (c d:Bool) (ht:∀ R:VK,(∀ H',Same H H'→R (.bl c) H')→t σ H R) (hu:∀ H',Same H H'→∀ R:VK,(∀ H'',Same H' H''→R (.bl d) H'')→u σ H' R) (q:∀ H',Same H H'→Q (.bl (c && d)) H'):tAndV t u σ H Q:=by
  refine ht _ fun H' s'=>⟨_,rfl,?_⟩
  cases c with
  | false=>exact iteFc rfl (q H' s')
  | true=>exact iteTc rfl (hu H' s' _ fun H'' s''=>q H'' (s'.trans s''))
theorem erase_perm {α:Type}:∀ {l:List α} {i:Nat} (h:i < l.length),(l[i] :: l.eraseIdx i).Perm l
  | x :: l,0,_=>List.Perm.refl _
  | x :: l,i + 1,h=>by
    rw [List.eraseIdx_cons_succ,List.getElem_cons_succ]
    exact (List.Perm.swap _ _ _).trans ((erase_perm (l:=l) (i:=i) (by simpa using h)).cons x)
theorem upd_tup {H:Hp} {l:Addr} {us:List V} {o:HO} (hl:H l = some (.lst us)):∀ b xs,H b = some (.tup xs)→(upd H l o) b = some (.tup xs):=fun b xs e=>by
  rw [upd_ne fun z=>by rw [z,hl] at e; cases e]; exact e
theorem at_mod {α:Type} {xs:List α} (g:α→V) (ne:xs≠[]) (i:Int) {n:Int} (hn:n = (xs.length:Int)):∃ x∈xs,atI (xs.map g) (i % n) = some (g x):=by
  subst hn
  have hp:0 < xs.length:=List.length_pos_iff.mpr ne
  have m0:=Int.emod_nonneg i (show (xs.length:Int)≠0 by omega)
  have m1:=Int.emod_lt_of_pos i (show (0:Int) < (xs.length:Int) by omega)
  have hk:(i % (xs.length:Int)).toNat < xs.length:=by omega
  refine ⟨xs[(i % (xs.length:Int)).toNat],List.getElem_mem hk,?_⟩
  have:=atI_nat (xs:=xs.map g) (j:=(i % (xs.length:Int)).toNat) (v:=g xs[(i % (xs.length:Int)).toNat]) (by rw [List.getElem?_map,List.getElem?_eq_getElem hk]; rfl)
  rw [show (((i % (xs.length:Int)).toNat:Nat):Int) = i % (xs.length:Int) by omega] at this
  exact this
structure Ds (H0:Hp) (r lk p5 p6 R S:Addr):Prop where
  n6:H0 p6 = none
  nR:H0 R = none
  nS:H0 S = none
  d6:p6≠r∧p6≠lk∧p6≠p5∧p6≠R∧p6≠S
  dR:R≠r∧R≠lk∧R≠p5∧R≠S
  dS:S≠r∧S≠lk∧S≠p5
structure Ld (H0 H:Hp) (r lk p5 p6 R S:Addr) (rs:List Int) (kps:List (Addr×Str×Int)) (st td sl:List Str) (ps:List (Addr×En)):Prop where
  sm:Same H0 H
  hr:H r = some (.lst (rs.map V.int))
  hk:H lk = some (.lst (kps.map fun p=>V.ref p.1))
  kp:∀ p∈kps,KpAt H p
  h5:H p5 = some (.lst (st.map V.str))
  h6:H p6 = some (.lst (td.map V.str))
  hR:H R = some (.lst (ps.map fun p=>V.ref p.1))
  hS:H S = some (.lst (sl.map V.str))
  en:∀ p∈ps,EnAt H p
section
variable {H0 H H':Hp} {r lk p5 p6 R S:Addr} {rs:List Int} {kps:List (Addr×Str×Int)} {st td sl:List Str} {ps:List (Addr×En)}
theorem Ld.same (x:Ld H0 H r lk p5 p6 R S rs kps st td sl ps) (s:Same H H'):Ld H0 H' r lk p5 p6 R S rs kps st td sl ps:=
  ⟨x.sm.trans s,s.get x.hr,s.get x.hk,fun p hp=>s.get (x.kp p hp),s.get x.h5,s.get x.h6,s.get x.hR,s.get x.hS,fun p hp=>(x.en p hp).same s⟩
theorem Ld.row (x:Ld H0 H r lk p5 p6 R S rs kps st td sl ps) (d:Ds H0 r lk p5 p6 R S) {p:Addr×En} (hp:EnAt H p):Ld H0 (upd H R (.lst ((ps.map fun p=>V.ref p.1) ++ [V.ref p.1]))) r lk p5 p6 R S rs kps st td sl (ps ++ [p]):=by
  obtain ⟨a1,a2,a3,a4⟩:=d.dR
  refine ⟨same_upd x.sm d.nR _,by rw [upd_ne a1.symm]; exact x.hr,by rw [upd_ne a2.symm]; exact x.hk,fun q hq=>upd_tup x.hR _ _ (x.kp q hq),by rw [upd_ne a3.symm]; exact x.h5,by rw [upd_ne d.d6.2.2.2.1]; exact x.h6,by rw [upd_same,List.map_append]; rfl,by rw [upd_ne a4.symm]; exact x.hS,fun q hq=>?_⟩
  rcases List.mem_append.mp hq with h | h
  · exact (x.en q h).get (upd_tup x.hR)
  · rw [List.mem_singleton.mp h]; exact hp.get (upd_tup x.hR)
theorem Ld.pop (x:Ld H0 H r lk p5 p6 R S rs kps st td sl ps) (d:Ds H0 r lk p5 p6 R S) (i:Nat):Ld H0 (upd H p6 (.lst ((td.map V.str).eraseIdx i))) r lk p5 p6 R S rs kps st (td.eraseIdx i) sl ps:=by
  obtain ⟨a1,a2,a3,a4,a5⟩:=d.d6
  exact ⟨same_upd x.sm d.n6 _,by rw [upd_ne a1.symm]; exact x.hr,by rw [upd_ne a2.symm]; exact x.hk,fun q hq=>upd_tup x.h6 _ _ (x.kp q hq),by rw [upd_ne a3.symm]; exact x.h5,by rw [upd_same,erase_map],by rw [upd_ne a4.symm]; exact x.hR,by rw [upd_ne a5.symm]; exact x.hS,fun q hq=>(x.en q hq).get (upd_tup x.h6)⟩
theorem Ld.seal (x:Ld H0 H r lk p5 p6 R S rs kps st td sl ps) (d:Ds H0 r lk p5 p6 R S) (z:Str):Ld H0 (upd H S (.lst (sl.map V.str ++ [V.str z]))) r lk p5 p6 R S rs kps st td (sl ++ [z]) ps:=by
  obtain ⟨a1,a2,a3⟩:=d.dS
  exact ⟨same_upd x.sm d.nS _,by rw [upd_ne a1.symm]; exact x.hr,by rw [upd_ne a2.symm]; exact x.hk,fun q hq=>upd_tup x.hS _ _ (x.kp q hq),by rw [upd_ne a3.symm]; exact x.h5,by rw [upd_ne d.d6.2.2.2.2]; exact x.h6,by rw [upd_ne d.dR.2.2.2]; exact x.hR,by rw [upd_same,List.map_append]; rfl,fun q hq=>(x.en q hq).get (upd_tup x.hS)⟩
end
structure Dr (ks:List Str) (T:Int) (st done td sl:List Str) (es:List En) (b:Nat):Prop where
  bd:Bd ks T done sl es
  nd:(st ++ (sl ++ td)).Nodup
  nl:∀ z∈st ++ (sl ++ td),nmL z
  t0:0≤T
  t1:T≤50 + 3 * (b:Int)
  ln:sl.length≤b
  tot:st.length + (sl.length + td.length) = 24
def sp__law_head (K:PySem.W.Frag):Sp:=fun vs H Q _=>∃ (a:Addr) (ns:List Int),vs = [.ref a]∧SqL K H a (ns.map V.int)∧
  ∀ h H' ag k n (kps:List (Addr×Str×Int)) (ps:List (Addr×En)) (ss sl:List Str) (T:Int),Same H H'→H h = none→H' h = some (.tup [.int ag,.ref k,.ref n])→0≤ag→ag≤999999999→H' k = some (.tup (kps.map fun p=>V.ref p.1))→(∀ p∈kps,KpAt H' p)→1≤kps.length→kps.length≤8→(kps.map fun p=>p.2.1).Pairwise Slt→(∀ p∈kps,nmL p.2.1∧0≤p.2.2∧p.2.2≤999999999)→
    H' n = some (.tup (ps.map fun p=>V.ref p.1))→(∀ p∈ps,EnAt H' p)→ps.length≤24→(ps.map fun p=>p.2.nm).Pairwise Slt→(∀ p∈ps,nmL p.2.nm)→T≤999999999→(∃ es,(ps.map (·.2)).Perm es∧Bd (kps.map fun p=>p.2.1) T ss sl es)→Q (.ref h) H'
theorem ok__law_head (T:Txt K mg) (F:Fun K "_law_head" "_law_head" s__law_head f fd) (D__law_cell_at:Def P w K mg base 1 "_law_cell_at" ["_law_script","_law_k"] (sp__law_cell_at K)) (D__law_row:Def P w K mg base 1 "_law_row" ["_law_cell","_law_many"] (sp__law_row K)) (D__law_names:Def P w K mg base 1 "_law_names" ["_law_cell","_law_many"] (sp__law_names K)) (D__law_tag:Def P w K mg base 1 "_law_tag" ["_law_number"] (sp__law_tag K)):FnOk P w K mg base CX0 2 f fd ["_law_script"] (sp__law_head K):=by
  refine F.ok sc__law_head (fun vs H Q E h=>?_) (fun cdv A outer s H vs Q E hr h=>?_)
  · obtain ⟨a,ns,rfl,_⟩:=h
    rfl
  obtain ⟨a,ns,rfl,hS,q⟩:=h
  have hu:=hu_of hr
  refine ⟨_,(@pss_cons _ _ _ _ _ (@ps_set _ _ (1) _ _ _ _ sc__law_head.nd rfl (by first | exact Or.inl rfl | exact Or.inr rfl) (@pe_fn _ _ _ _ _ _ _ _ _ _ D__law_cell_at (hr.mono (by decide)) rfl (@pa_cons _ _ _ _ _ (pv 0) (@pa_cons _ _ _ _ _ (@pe_int _ _ _ _) (@pa_nil _) (by rfl)) (by rfl)) (by decide) (by rfl) (by rfl)) (by rfl) (by first | exact .inl rfl | exact .inr rfl | assumption)) (@pss_cons _ _ _ _ _ (@ps_set _ _ (2) _ _ _ _ sc__law_head.nd rfl (by first | exact Or.inl rfl | exact Or.inr rfl) (@pe_fn _ _ _ _ _ _ _ _ _ _ D__law_row (hr.mono (by decide)) rfl (@pa_cons _ _ _ _ _ (@pe_fn _ _ _ _ _ _ _ _ _ _ D__law_cell_at (hr.mono (by decide)) rfl (@pa_cons _ _ _ _ _ (pv 0) (@pa_cons _ _ _ _ _ (@pe_int _ _ _ _) (@pa_nil _) (by rfl)) (by rfl)) (by decide) (by rfl) (by rfl)) (@pa_cons _ _ _ _ _ (@pe_int _ _ _ _) (@pa_nil _) (by rfl)) (by rfl)) (by decide) (by rfl) (by rfl)) (by rfl) (by first | exact .inl rfl | exact .inr rfl | assumption)) (@pss_cons _ _ _ _ _ (@ps_setC _ ["_law_k","_law_name","_law_row_here"] [none,none,some 2] (3) _ _ _ _ _ _ _ _ _ _ _ _ _ _ sc__law_head.nd rfl (by first | exact Or.inl rfl | exact Or.inr rfl) rfl (@pi_enum0 _ _ _ _ _ _ _ _ rfl T.b_enumerate (@pa_cons _ _ _ _ _ (@pe_fn _ _ _ _ _ _ _ _ _ _ D__law_names (hr.mono (by decide)) rfl (@pa_cons _ _ _ _ _ (pv 1) (@pa_cons _ _ _ _ _ (@pe_op _ _ _ _ _ _ _ _ op_add (@pe_int _ _ _ _) (@pe_op _ _ _ _ _ _ _ _ op_mod (@pe_op _ _ _ _ _ _ _ _ op_fdiv (pv 1) (@pe_int _ _ _ _)) (@pe_int _ _ _ _))) (@pa_nil _) (by rfl)) (by rfl)) (by decide) (by rfl) (by rfl)) (@pa_nil _) (by rfl)) (by rfl)) (by rfl) rfl (by repeat (first | exact trivial | refine ⟨rfl,?_⟩)) (by repeat (first | exact trivial | refine ⟨fun h=>(by first | exact ⟨_,rfl⟩ | cases h),?_⟩)) (fun C s H fp=>⟨(@pg_tupK _ (K) _ _ _ _ (2) (by rfl) rfl (@pgs_cons _ _ _ _ _ (@pg_name _ _ (0) _ (show (["_law_k","_law_name","_law_row_here"]:List Str).Nodup by decide +kernel) rfl (by first | exact Or.inl rfl | exact Or.inr rfl) (by first | exact .inl rfl | exact .inr rfl | assumption)) (@pgs_cons _ _ _ _ _ (@pg_name _ _ (1) _ (show (["_law_k","_law_name","_law_row_here"]:List Str).Nodup by decide +kernel) rfl (by first | exact Or.inl rfl | exact Or.inr rfl) (by first | exact .inl rfl | exact .inr rfl | assumption)) (@pgs_nil _) (by rfl)) (by rfl)) (by rfl) (by rfl)),(@pifs_nil _),(@pe_tup _ _ _ _ _ (@pa_cons _ _ _ _ _ (pv 1) (@pa_cons _ _ _ _ _ (@pe_op _ _ _ _ _ _ _ _ op_mod (@pe_op _ _ _ _ _ _ _ _ op_mul (@pe_ix _ _ _ _ _ _ _ (ix_listK (K:=K) (by rfl)) (pv 2) (pv 0) (fun _ _=>rfl)) (@pe_int _ _ _ _)) (@pe_op _ _ _ _ _ _ _ _ op_pow (@pe_int _ _ _ _) (@pe_int _ _ _ _))) (@pa_nil _) (by rfl)) (by rfl)))⟩) (by intro _; rfl) (by rfl) (by first | exact .inl rfl | exact .inr rfl | assumption)) (@pss_cons _ _ _ _ _ (@ps_set _ _ (4) _ _ _ _ sc__law_head.nd rfl (by first | exact Or.inl rfl | exact Or.inr rfl) (@pe_fn _ _ _ _ _ _ _ _ _ _ D__law_names (hr.mono (by decide)) rfl (@pa_cons _ _ _ _ _ (@pe_op _ _ _ _ _ _ _ _ op_fdiv (pv 1) (@pe_int _ _ _ _)) (@pa_cons _ _ _ _ _ (@pe_int _ _ _ _) (@pa_nil _) (by rfl)) (by rfl)) (by decide) (by rfl) (by rfl)) (by rfl) (by first | exact .inl rfl | exact .inr rfl | assumption)) (@pss_cons _ _ _ _ _ (@ps_set _ _ (5) _ _ _ _ sc__law_head.nd rfl (by first | exact Or.inl rfl | exact Or.inr rfl) (@pe_slice _ _ _ _ _ _ _ _ _ _ sl_list (pv 4) (@po_none _) (@po_some _ _ _ (@pe_op _ _ _ _ _ _ _ _ op_mod (@pe_op _ _ _ _ _ _ _ _ op_fdiv (pv 1) (@pe_int _ _ _ _)) (@pe_int _ _ _ _)))) (by rfl) (by first | exact .inl rfl | exact .inr rfl | assumption)) (@pss_cons _ _ _ _ _ (@ps_set _ _ (6) _ _ _ _ sc__law_head.nd rfl (by first | exact Or.inl rfl | exact Or.inr rfl) (@pe_slice _ _ _ _ _ _ _ _ _ _ sl_list (pv 4) (@po_some _ _ _ (@pe_callB _ _ _ _ _ _ _ _ _ call_len_seq (by rfl) T.b_len bt_len (@pa_cons _ _ _ _ _ (pv 5) (@pa_nil _) (by rfl)) (by decide) (by decide) (by rfl) (by rfl))) (@po_none _)) (by rfl) (by first | exact .inl rfl | exact .inr rfl | assumption)) (@pss_cons _ _ _ _ _ (@ps_set _ _ (7) _ _ _ _ sc__law_head.nd rfl (by first | exact Or.inl rfl | exact Or.inr rfl) (@pe_lst _ _ _ _ (@pa_nil _)) (by rfl) (by first | exact .inl rfl | exact .inr rfl | assumption)) (@pss_cons _ _ _ _ _ (@ps_set _ _ (8) _ _ _ _ sc__law_head.nd rfl (by first | exact Or.inl rfl | exact Or.inr rfl) (@pe_lst _ _ _ _ (@pa_nil _)) (by rfl) (by first | exact .inl rfl | exact .inr rfl | assumption)) (@pss_cons _ _ _ _ _ (@ps_set _ _ (9) _ _ _ _ sc__law_head.nd rfl (by first | exact Or.inl rfl | exact Or.inr rfl) (@pe_op _ _ _ _ _ _ _ _ op_mod (@pe_op _ _ _ _ _ _ _ _ op_fdiv (pv 1) (@pe_int _ _ _ _)) (@pe_int _ _ _ _)) (by rfl) (by first | exact .inl rfl | exact .inr rfl | assumption)) (@pss_cons _ _ _ _ _ (@ps_for _ _ _ _ _ _ _ _ PassesOwn.never rfl (@pi_enum0 _ _ _ _ _ _ _ _ rfl T.b_enumerate (@pa_cons _ _ _ _ _ (pv 5) (@pa_nil _) (by rfl)) (by rfl)) (@pg_tup _ _ _ _ _ _ rfl (@pgs_cons _ _ _ _ _ (@pg_name _ _ (10) _ sc__law_head.nd rfl (by first | exact Or.inl rfl | exact Or.inr rfl) (by first | exact .inl rfl | exact .inr rfl | assumption)) (@pgs_cons _ _ _ _ _ (@pg_name _ _ (11) _ sc__law_head.nd rfl (by first | exact Or.inl rfl | exact Or.inr rfl) (by first | exact .inl rfl | exact .inr rfl | assumption)) (@pgs_nil _) (by rfl)) (by rfl)) (by rfl) (by rfl)) (@pss_cons _ _ _ _ _ (@ps_set _ _ (12) _ _ _ _ sc__law_head.nd rfl (by first | exact Or.inl rfl | exact Or.inr rfl) (@pe_ix _ _ _ _ _ _ _ ix_list (@pe_op _ _ _ _ _ _ _ _ op_catS (@pe_lst _ _ _ _ (@pa_cons _ _ _ _ _ (@pe_str _ _ _ _) (@pa_nil _) (by rfl))) (pv 8)) (@pe_op _ _ _ _ _ _ _ _ op_mod (@pe_ix _ _ _ _ _ _ _ ix_list (pv 2) (pv 10) (fun _ _=>rfl)) (@pe_op _ _ _ _ _ _ _ _ op_add (@pe_int _ _ _ _) (@pe_callB _ _ _ _ _ _ _ _ _ call_len_seq (by rfl) T.b_len bt_len (@pa_cons _ _ _ _ _ (pv 8) (@pa_nil _) (by rfl)) (by decide) (by decide) (by rfl) (by rfl)))) (fun _ _=>rfl)) (by rfl) (by first | exact .inl rfl | exact .inr rfl | assumption)) (@pss_cons _ _ _ _ _ (@ps_expr _ _ _ _ (@pe_bm _ _ _ _ _ _ _ _ _ _ _ _ PySem.F.plainAttrs_list PySem.F.slot_list_append PySem.F.type_list_append mt_append (pv 7) (@pa_cons _ _ _ _ _ (@pe_tup _ _ _ _ _ (@pa_cons _ _ _ _ _ (pv 11) (@pa_cons _ _ _ _ _ (@pe_int _ _ _ _) (@pa_cons _ _ _ _ _ (@pe_ix _ _ _ _ _ _ _ ix_tup (@pe_ix _ _ _ _ _ _ _ ix_list (pv 3) (@pe_op _ _ _ _ _ _ _ _ op_mod (@pe_ix _ _ _ _ _ _ _ ix_list (pv 2) (@pe_op _ _ _ _ _ _ _ _ op_add (@pe_int _ _ _ _) (pv 10)) (fun _ _=>rfl)) (@pe_callB _ _ _ _ _ _ _ _ _ call_len_seq (by rfl) T.b_len bt_len (@pa_cons _ _ _ _ _ (pv 3) (@pa_nil _) (by rfl)) (by decide) (by decide) (by rfl) (by rfl))) (fun _ _=>rfl)) (@pe_int _ _ _ _) (fun _ _=>rfl)) (@pa_cons _ _ _ _ _ (pv 12) (@pa_cons _ _ _ _ _ (@pe_fn _ _ _ _ _ _ _ _ _ _ D__law_tag (hr.mono (by decide)) rfl (@pa_cons _ _ _ _ _ (@pe_ix _ _ _ _ _ _ _ ix_list (pv 2) (pv 10) (fun _ _=>rfl)) (@pa_nil _) (by rfl)) (by decide) (by rfl) (by rfl)) (@pa_nil _) (by rfl)) (by rfl)) (by rfl)) (by rfl)) (by rfl))) (@pa_nil _) (by rfl)) (by rfl) (by rfl) (by rfl) (by rfl) (by rfl)) (by rfl)) (@pss_one _ _ _ (@ps_for _ _ _ _ _ _ _ _ PassesOwn.never rfl (@pi_range1 _ _ _ _ _ _ rfl T.b_range (@pa_cons _ _ _ _ _ (@pe_op _ _ _ _ _ _ _ _ op_mod (@pe_ix _ _ _ _ _ _ _ ix_list (pv 2) (@pe_op _ _ _ _ _ _ _ _ op_add (@pe_int _ _ _ _) (pv 10)) (fun _ _=>rfl)) (@pe_int _ _ _ _)) (@pa_nil _) (by rfl)) (by rfl)) (@pg_name _ _ (13) _ sc__law_head.nd rfl (by first | exact Or.inl rfl | exact Or.inr rfl) (by first | exact .inl rfl | exact .inr rfl | assumption)) (@pss_cons _ _ _ _ _ (@ps_set _ _ (9) _ _ _ _ sc__law_head.nd rfl (by first | exact Or.inl rfl | exact Or.inr rfl) (@pe_op _ _ _ _ _ _ _ _ op_add (@pe_op _ _ _ _ _ _ _ _ op_add (pv 9) (@pe_int _ _ _ _)) (@pe_op _ _ _ _ _ _ _ _ op_mod (@pe_ix _ _ _ _ _ _ _ ix_list (pv 2) (pv 10) (fun _ _=>rfl)) (@pe_int _ _ _ _))) (by rfl) (by first | exact .inl rfl | exact .inr rfl | assumption)) (@pss_cons _ _ _ _ _ (@ps_expr _ _ _ _ (@pe_bm _ _ _ _ _ _ _ _ _ _ _ _ PySem.F.plainAttrs_list PySem.F.slot_list_append PySem.F.type_list_append mt_append (pv 8) (@pa_cons _ _ _ _ _ (@pe_bm _ _ _ _ _ _ _ _ _ _ _ _ PySem.F.plainAttrs_list PySem.F.slot_list_pop PySem.F.type_list_pop mt_popAt (pv 6) (@pa_cons _ _ _ _ _ (@pe_op _ _ _ _ _ _ _ _ op_mod (@pe_ix _ _ _ _ _ _ _ ix_list (pv 2) (@pe_op _ _ _ _ _ _ _ _ op_add (@pe_int _ _ _ _) (pv 10)) (fun _ _=>rfl)) (@pe_callB _ _ _ _ _ _ _ _ _ call_len_seq (by rfl) T.b_len bt_len (@pa_cons _ _ _ _ _ (pv 6) (@pa_nil _) (by rfl)) (by decide) (by decide) (by rfl) (by rfl))) (@pa_nil _) (by rfl)) (by rfl) (by rfl) (by rfl) (by rfl) (by rfl)) (@pa_nil _) (by rfl)) (by rfl) (by rfl) (by rfl) (by rfl) (by rfl)) (by rfl)) (@pss_one _ _ _ (@ps_expr _ _ _ _ (@pe_bm _ _ _ _ _ _ _ _ _ _ _ _ PySem.F.plainAttrs_list PySem.F.slot_list_append PySem.F.type_list_append mt_append (pv 7) (@pa_cons _ _ _ _ _ (@pe_tup _ _ _ _ _ (@pa_cons _ _ _ _ _ (@pe_ix _ _ _ _ _ _ _ ix_list (pv 8) (@pe_un _ _ _ _ _ _ un_neg (@pe_int _ _ _ _)) (fun _ _=>rfl)) (@pa_cons _ _ _ _ _ (@pe_int _ _ _ _) (@pa_cons _ _ _ _ _ (pv 11) (@pa_cons _ _ _ _ _ (pv 9) (@pa_cons _ _ _ _ _ (@pe_fn _ _ _ _ _ _ _ _ _ _ D__law_tag (hr.mono (by decide)) rfl (@pa_cons _ _ _ _ _ (@pe_op _ _ _ _ _ _ _ _ op_add (@pe_ix _ _ _ _ _ _ _ ix_list (pv 2) (pv 10) (fun _ _=>rfl)) (pv 13)) (@pa_nil _) (by rfl)) (by decide) (by rfl) (by rfl)) (@pa_nil _) (by rfl)) (by rfl)) (by rfl)) (by rfl)) (by rfl))) (@pa_nil _) (by rfl)) (by rfl) (by rfl) (by rfl) (by rfl) (by rfl)) (by rfl))))) (by intro _; rfl))))) (by intro _; rfl)) (@pss_cons _ _ _ _ _ (@ps_for _ _ _ _ _ _ _ _ PassesOwn.never rfl (@pi_range1 _ _ _ _ _ _ rfl T.b_range (@pa_cons _ _ _ _ _ (@pe_op _ _ _ _ _ _ _ _ op_mul (@pe_callB _ _ _ _ _ _ _ _ _ call_len_seq (by rfl) T.b_len bt_len (@pa_cons _ _ _ _ _ (pv 6) (@pa_nil _) (by rfl)) (by decide) (by decide) (by rfl) (by rfl)) (@pe_callTy _ _ _ _ _ _ _ _ _ call_int1 (by rfl) T.b_int bt_int (@pa_cons _ _ _ _ _ (@pe_and _ _ _ _ _ _ _ (@pe_cmpR _ _ _ _ _ _ _ _ (op_neE hu) (pv 5) (@pe_lst _ _ _ _ (@pa_nil _)) (nomark _)) (@pe_one _ _ _ _ _ (@pe_cmpR _ _ _ _ _ _ _ _ op_eq (@pe_op _ _ _ _ _ _ _ _ op_mod (@pe_op _ _ _ _ _ _ _ _ op_fdiv (pv 1) (@pe_int _ _ _ _)) (@pe_int _ _ _ _)) (@pe_int _ _ _ _) (nomark _)))) (@pa_nil _) (by rfl)) (by decide) (by decide) (by rfl) (by rfl))) (@pa_nil _) (by rfl)) (by rfl)) (@pg_name _ _ (10) _ sc__law_head.nd rfl (by first | exact Or.inl rfl | exact Or.inr rfl) (by first | exact .inl rfl | exact .inr rfl | assumption)) (@pss_one _ _ _ (@ps_expr _ _ _ _ (@pe_bm _ _ _ _ _ _ _ _ _ _ _ _ PySem.F.plainAttrs_list PySem.F.slot_list_append PySem.F.type_list_append mt_append (pv 7) (@pa_cons _ _ _ _ _ (@pe_tup _ _ _ _ _ (@pa_cons _ _ _ _ _ (@pe_ix _ _ _ _ _ _ _ ix_list (pv 6) (pv 10) (fun _ _=>rfl)) (@pa_cons _ _ _ _ _ (@pe_int _ _ _ _) (@pa_cons _ _ _ _ _ (@pe_ix _ _ _ _ _ _ _ ix_list (pv 5) (@pe_un _ _ _ _ _ _ un_neg (@pe_int _ _ _ _)) (fun _ _=>rfl)) (@pa_cons _ _ _ _ _ (@pe_op _ _ _ _ _ _ _ _ op_add (@pe_op _ _ _ _ _ _ _ _ op_add (pv 9) (@pe_int _ _ _ _)) (pv 10)) (@pa_cons _ _ _ _ _ (@pe_fn _ _ _ _ _ _ _ _ _ _ D__law_tag (hr.mono (by decide)) rfl (@pa_cons _ _ _ _ _ (@pe_ix _ _ _ _ _ _ _ ix_list (pv 2) (pv 10) (fun _ _=>rfl)) (@pa_nil _) (by rfl)) (by decide) (by rfl) (by rfl)) (@pa_nil _) (by rfl)) (by rfl)) (by rfl)) (by rfl)) (by rfl))) (@pa_nil _) (by rfl)) (by rfl) (by rfl) (by rfl) (by rfl) (by rfl)) (by rfl))) (by intro _; rfl)) (@pss_one _ _ _ (@ps_ret _ _ _ _ (@pe_tup _ _ _ _ _ (@pa_cons _ _ _ _ _ (@pe_op _ _ _ _ _ _ _ _ op_mod (@pe_op _ _ _ _ _ _ _ _ op_mul (@pe_ix _ _ _ _ _ _ _ ix_list (pv 2) (@pe_int _ _ _ _) (fun _ _=>rfl)) (@pe_int _ _ _ _)) (@pe_op _ _ _ _ _ _ _ _ op_pow (@pe_int _ _ _ _) (@pe_int _ _ _ _))) (@pa_cons _ _ _ _ _ (@pe_callTy _ _ _ _ _ _ _ _ _ call_tuple_of (by rfl) T.b_tuple bt_tuple (@pa_cons _ _ _ _ _ (pv 3) (@pa_nil _) (by rfl)) (by decide) (by decide) (by rfl) (by rfl)) (@pa_cons _ _ _ _ _ (@pe_callTy _ _ _ _ _ _ _ _ _ call_tuple_of (by rfl) T.b_tuple bt_tuple (@pa_cons _ _ _ _ _ (@pe_callB _ _ _ _ _ _ _ _ _ (call_sortTT (K:=K) (by rfl)) (by rfl) T.b_sorted bt_sorted (@pa_cons _ _ _ _ _ (pv 7) (@pa_nil _) (by rfl)) (by decide) (by decide) (by rfl) (by rfl)) (@pa_nil _) (by rfl)) (by decide) (by decide) (by rfl) (by rfl)) (@pa_nil _) (by rfl)) (by rfl)) (by rfl)))))))))))))))),?_⟩
  try dsimp only [cxOf,Cx.nox,Cx.wish]
  refine ⟨_,rfl,a,ns,0,rfl,by decide,hS,fun c0=>?_⟩
  refine ⟨_,rfl,a,ns,1,rfl,by decide,hS,fun c1=>⟨c1,24,rfl,by decide,by decide,fun r H1 rs s1 n1 h1 l1 b1=>?_⟩⟩
  have rl:rs.length = 24:=by rw [l1]; rfl
  have at_:∀ {i:Int},0≤i→i < 24→atI (rs.map V.int) i = some (.int (rs.getD i.toNat 0))∧0≤rs.getD i.toNat 0∧rs.getD i.toNat 0 < 1000000:=fun {i} h0 hi=>by
    have hk:i.toNat < rs.length:=by omega
    refine ⟨at_int h0 (by omega),?_⟩
    simp only [List.getD,List.getElem?_eq_getElem hk,Option.getD_some]
    exact b1 _ (List.getElem_mem hk)
  have m8a:=Int.emod_nonneg (c0 / 3) (show (8:Int)≠0 by decide)
  have m8b:=Int.emod_lt_of_pos (c0 / 3) (show (0:Int) < 8 by decide)
  dsimp only [gName]
  refine ⟨_,rfl,_,rfl,_,_,rfl,rfl,⟨by decide,by decide⟩,_,_,rfl,rfl,(by show (0:Int) < 8; decide),_,_,rfl,rfl,c0,1 + c0 / 3 % 8,rfl,by omega,by omega,fun l H2 zs s2 n2 h2 lz nz rz=>?_⟩
  refine ⟨l,_,rfl,SqL.of h2,?_⟩
  have s12:=s1.trans s2
  have lz8:zs.length≤8:=by omega
  have lz1:1≤zs.length:=by omega
  have hr2:=s2.get h1
  refine comp_enumN (fun i y H=>∃ b,y = .ref b∧H b = some (.tup [.str (zs.getD i EM),.int (rs.getD i 0 * 1000 % 10 ^ (9:Int).toNat)])) (fun i y H1 H2 ⟨b,e,h⟩ s=>⟨b,e,s.get h⟩) (fun i y H1 l us us' ⟨b,e,h⟩ hl=>⟨b,e,by rw [upd_ne fun z=>by rw [z,hl] at h; cases h]; exact h⟩) h2 (by rw [List.length_map]; omega) rfl (by decide) (fun i x H' R hx s' hR=>?_) fun lk H3 ys n3 s3 h3 l3 y3=>?_
  · rw [List.getElem?_map] at hx
    obtain ⟨z,hz,rfl⟩:=Option.map_eq_some_iff.mp hx
    have iz:=(List.getElem?_eq_some_iff.mp hz).1
    obtain ⟨ia,ib,ic⟩:=at_ (i:=(i:Int)) (by omega) (by omega)
    rw [Int.toNat_natCast] at ia ib ic
    refine ⟨_,rfl,_,rfl,_,rfl,r,_,_,_,rfl,rfl,SqL.of (s'.get hr2),ia,_,_,rfl,rfl,.inl ⟨by omega,by omega⟩,_,_,rfl,rfl,⟨by decide,by decide,by decide⟩,_,_,rfl,rfl,(by show (0:Int) < 10 ^ (9:Int).toNat; decide),small (by show 2≤1000000; decide),fun b hb=>?_⟩
    refine hR _ _ (same_new hb _) ⟨b,rfl,?_⟩
    rw [upd_same,List.getD_eq_getElem?_getD (l:=zs),hz]
    rfl
  have s13:=s12.trans s3
  rw [List.length_map] at l3
  obtain ⟨kps,ek,kn,kat,kb⟩:∃ kps:List (Addr×Str×Int),ys = kps.map (fun p=>V.ref p.1)∧(kps.map fun p=>p.2.1) = zs∧(∀ p∈kps,KpAt H3 p)∧∀ p∈kps,0≤p.2.2∧p.2.2≤999999999:=by
    refine ⟨(List.range ys.length).map fun i=>(adr (ys.getD i .non),zs.getD i EM,rs.getD i 0 * 1000 % 10 ^ (9:Int).toNat),?_,?_,fun p hp=>?_,fun p hp=>?_⟩
    · refine List.ext_getElem? fun i=>?_
      rw [List.map_map,List.getElem?_map]
      by_cases hi:i < ys.length
      · obtain ⟨b,e,_⟩:=y3 i _ (List.getElem?_eq_getElem hi)
        simp [hi,e,adr]
      · simp [hi]
    · refine List.ext_getElem? fun i=>?_
      rw [List.map_map,List.getElem?_map]
      by_cases hi:i < ys.length
      · have hz:i < zs.length:=by omega
        simp [hi,hz]
      · have hz:¬ i < zs.length:=by omega
        simp [hi,hz]
    · obtain ⟨i,hi,rfl⟩:=List.mem_map.mp hp
      have hi':=List.mem_range.mp hi
      obtain ⟨b,e,hb⟩:=y3 i _ (List.getElem?_eq_getElem hi')
      show H3 (adr (ys.getD i .non)) = _
      rw [show ys.getD i .non = .ref b by rw [← e]; simp [hi']]
      exact hb
    · obtain ⟨i,hi,rfl⟩:=List.mem_map.mp hp
      have p0:=Int.emod_nonneg (rs.getD i 0 * 1000) (show (10:Int) ^ (9:Int).toNat≠0 by decide)
      have p1:=Int.emod_lt_of_pos (rs.getD i 0 * 1000) (show (0:Int) < 10 ^ (9:Int).toNat by decide)
      rw [show (10:Int) ^ (9:Int).toNat = 1000000000 by decide] at p0 p1
      show 0≤rs.getD i 0 * 1000 % 10 ^ (9:Int).toNat∧rs.getD i 0 * 1000 % 10 ^ (9:Int).toNat≤999999999
      rw [show (10:Int) ^ (9:Int).toNat = 1000000000 by decide]
      omega
  subst ek
  have kl:kps.length = zs.length:=by rw [← kn,List.length_map]
  refine ⟨_,rfl,_,_,rfl,rfl,⟨by decide,by decide⟩,_,24,rfl,by decide,by decide,fun ln H4 zn s4 n4 h4 lzn nzn rzn=>?_⟩
  have s14:=s13.trans s4
  have lz24:zn.length = 24:=lzn
  have x0:=Int.emod_nonneg (c0 / 24) (show (6:Int)≠0 by decide)
  have x1:=Int.emod_lt_of_pos (c0 / 24) (show (0:Int) < 6 by decide)
  refine ⟨_,rfl,_,rfl,_,_,rfl,rfl,⟨by decide,by decide⟩,_,_,rfl,rfl,(by show (0:Int) < 6; decide),_,rfl,ln,_,rfl,SqL.of h4,fun p5 n5=>?_⟩
  dsimp only [gName]
  rw [cut_hi x0,← List.map_take]
  have lst:(zn.take (c0 / 24 % 6).toNat).length≤5:=by rw [List.length_take]; omega
  have ndz:zn.Nodup:=slt_nd rzn
  have esd:zn = zn.take (c0 / 24 % 6).toNat ++ zn.drop (c0 / 24 % 6).toNat:=(List.take_append_drop _ _).symm
  have ltk:(zn.take (c0 / 24 % 6).toNat).length = (c0 / 24 % 6).toNat:=by rw [List.length_take]; omega
  have s5:=same_new n5 (.lst ((zn.take (c0 / 24 % 6).toNat).map V.str))
  have h5:(upd H4 p5 (.lst ((zn.take (c0 / 24 % 6).toNat).map V.str))) p5 = some (.lst ((zn.take (c0 / 24 % 6).toNat).map V.str)):=upd_same
  generalize upd H4 p5 (.lst ((zn.take (c0 / 24 % 6).toNat).map V.str)) = H5 at s5 h5
  have s15:=s14.trans s5
  have h45:=s5.get h4
  refine ⟨_,rfl,_,rfl,p5,_,rfl,.inl (SqL.of h5),_,rfl,ln,_,rfl,SqL.of h45,fun p6 n6=>?_⟩
  dsimp only [gName]
  rw [cut_lo (by omega),← List.map_drop,List.length_map,ltk,show ((((c0 / 24 % 6).toNat:Nat):Int)).toNat = (c0 / 24 % 6).toNat by omega]
  generalize zn.take (c0 / 24 % 6).toNat = st at lst esd h5
  generalize zn.drop (c0 / 24 % 6).toNat = td at esd
  have s6:=same_new n6 (.lst (td.map V.str))
  have h6:(upd H5 p6 (.lst (td.map V.str))) p6 = some (.lst (td.map V.str)):=upd_same
  generalize upd H5 p6 (.lst (td.map V.str)) = H6 at s6 h6
  have s16:=s15.trans s6
  refine ⟨small (by show 0≤1000000; decide),fun R nR=>?_⟩
  dsimp only [gName]
  have s7:=same_new nR (.lst [])
  have hR7:(upd H6 R (.lst [])) R = some (.lst []):=upd_same
  generalize upd H6 R (.lst []) = H7 at s7 hR7
  have s17:=s16.trans s7
  refine ⟨small (by show 0≤1000000; decide),fun S nS=>?_⟩
  dsimp only [gName]
  have s8:=same_new nS (.lst [])
  have hS8:(upd H7 S (.lst [])) S = some (.lst []):=upd_same
  generalize upd H7 S (.lst []) = H8 at s8 hS8
  have s18:=s17.trans s8
  refine ⟨_,rfl,_,_,rfl,rfl,⟨by decide,by decide⟩,_,_,rfl,rfl,(by show (0:Int) < 50; decide),?_⟩
  have t50a:=Int.emod_nonneg (c0 / 144) (show (50:Int)≠0 by decide)
  have t50b:=Int.emod_lt_of_pos (c0 / 144) (show (0:Int) < 50 by decide)
  dsimp only [gName]
  generalize c0 / 144 % 50 = T0 at t50a t50b
  have nd0:(st ++ ([] ++ td)).Nodup:=by rw [List.nil_append,← esd]; exact ndz
  have nl0:∀ z∈st ++ ([] ++ td),nmL z:=by rw [List.nil_append,← esd]; exact nzn
  have tot0:st.length + (([]:List Str).length + td.length) = 24:=by
    have:=congrArg List.length esd
    rw [List.length_append] at this
    show _ + (0 + _) = 24
    omega
  have neq:∀ {x y:Addr} {o:HO} {Hx:Hp},Hx x = some o→Hx y = none→y≠x:=fun hx hy e=>by rw [e,hx] at hy; cases hy
  have r5:H5 r = some (.lst (rs.map V.int)):=s5.get (s4.get (s3.get hr2))
  have k5:H5 lk = some (.lst (kps.map fun p=>V.ref p.1)):=s5.get (s4.get h3)
  have ds:Ds H r lk p5 p6 R S:=⟨s15.free n6,s16.free nR,s17.free nS,⟨neq r5 n6,neq k5 n6,neq h5 n6,(neq h6 nR).symm,(neq (s7.get h6) nS).symm⟩,⟨neq (s6.get r5) nR,neq (s6.get k5) nR,neq (s6.get h5) nR,(neq hR7 nS).symm⟩,⟨neq (s7.get (s6.get r5)) nS,neq (s7.get (s6.get k5)) nS,neq (s7.get (s6.get h5)) nS⟩⟩
  have s58:=(s6.trans s7).trans s8
  have ld0:Ld H H8 r lk p5 p6 R S rs kps st td [] []:=⟨s18,s58.get r5,s58.get k5,fun p hp=>s58.get (s5.get (s4.get (kat p hp))),s58.get h5,(s7.trans s8).get h6,s8.get hR7,hS8,fun _ h=>nomatch h⟩
  have ks0:zs = kps.map fun p=>p.2.1:=kn.symm
  subst ks0
  refine ⟨_,rfl,p5,_,rfl,SqL.of ld0.h5,for_enum0 (K:=K) (a:=p5) (xs:=st.map V.str) (fun i σ H9=>∃ ps sl td T v10 v11 v12 v13,σ = [some (.ref a),some (.int c0),some (.ref r),some (.ref lk),some (.ref ln),some (.ref p5),some (.ref p6),some (.ref R),some (.ref S),some (.int T),v10,v11,v12,v13]∧Ld H H9 r lk p5 p6 R S rs kps st td sl ps∧Dr (kps.map fun p=>p.2.1) T st (st.take i) td sl (ps.map (·.2)) (2 * i))
    ⟨[],[],td,T0,none,none,none,none,rfl,ld0,⟨.nil _ _,nd0,nl0,t50a,by omega,Nat.le_refl _,tot0⟩⟩ (fun i σ H9 _ ⟨_,_,_,_,_,_,_,_,_,ld,_⟩=>SqL.of ld.h5) ?_ ?_⟩
  · rintro i x σ H9 TT hi ⟨ps,sl,td,Tn,v10,v11,v12,v13,rfl,ld9,dr⟩ nTT
    rw [List.getElem?_map] at hi
    obtain ⟨z,hz,rfl⟩:=Option.map_eq_some_iff.mp hi
    have il:=(List.getElem?_eq_some_iff.mp hz).1
    have i5:i < 5:=by omega
    have ld10:=ld9.same (same_new nTT (.tup [.int (i:Int),V.str z]))
    refine ⟨TT,_,rfl,SqT.of upd_same,rfl,_,_,rfl,_,_,rfl,rfl,?_⟩
    generalize upd H9 TT (.tup [.int (i:Int),V.str z]) = H10 at ld10
    dsimp only [gName]
    obtain ⟨ia,ib,ic⟩:=at_ (i:=(i:Int)) (by omega) (by omega)
    obtain ⟨ja,jb,jc⟩:=at_ (i:=8 + (i:Int)) (by omega) (by omega)
    obtain ⟨ka,kb',kc⟩:=at_ (i:=16 + (i:Int)) (by omega) (by omega)
    obtain ⟨ma,mb,mc⟩:=at_ (i:=12 + (i:Int)) (by omega) (by omega)
    generalize rs.getD ((i:Int)).toNat 0 = xi at ia ib ic
    generalize rs.getD (8 + (i:Int)).toNat 0 = xj at ja jb jc
    generalize rs.getD (16 + (i:Int)).toNat 0 = xk at ka kb' kc
    generalize rs.getD (12 + (i:Int)).toNat 0 = xm at ma mb mc
    refine ⟨small (by show 1≤1000000; decide),fun q1 nq1=>?_⟩
    have sq1:=same_new nq1 (.lst [V.str EM])
    have hq1:(upd H10 q1 (.lst [V.str EM])) q1 = some (.lst [V.str EM]):=upd_same
    have ld11:=ld10.same sq1
    generalize upd H10 q1 (.lst [V.str EM]) = H11 at hq1 ld11
    refine ⟨_,rfl,q1,S,_,_,rfl,rfl,SqL.of hq1,SqL.of ld11.hS,small (by rw [List.length_map]; have:=dr.ln; show 1 + _≤1000000; omega),fun q2 nq2=>?_⟩
    have sq2:=same_new nq2 (.lst ([V.str EM] ++ sl.map V.str))
    have hq2:(upd H11 q2 (.lst ([V.str EM] ++ sl.map V.str))) q2 = some (.lst ((EM :: sl).map V.str)):=upd_same
    have ld12:=ld11.same sq2
    generalize upd H11 q2 (.lst ([V.str EM] ++ sl.map V.str)) = H12 at hq2 ld12
    obtain ⟨og,ho,AO⟩:=at_mod V.str (xs:=EM :: sl) (by simp) xi (n:=1 + ((sl.map V.str).length:Int)) (by rw [List.length_map,List.length_cons]; omega)
    refine ⟨_,rfl,_,rfl,r,_,_,_,rfl,rfl,SqL.of ld12.hr,ia,_,rfl,S,_,rfl,.inl (SqL.of ld12.hS),_,_,rfl,rfl,_,_,rfl,rfl,(by show (0:Int) < 1 + ((sl.map V.str).length:Int); omega),q2,_,_,_,rfl,rfl,SqL.of hq2,AO,?_⟩
    have ho':og = EM∨og∈sl:=(List.mem_cons.mp ho)
    obtain ⟨kp,hkp,AK⟩:=at_mod (fun p:Addr×Str×Int=>V.ref p.1) (xs:=kps) (by intro e; rw [e] at lz1; simp at lz1) xj (n:=((kps.map fun p=>V.ref p.1).length:Int)) (by rw [List.length_map])
    refine ⟨_,rfl,.inl ⟨rfl,_,SqL.of ld12.hR⟩,_,rfl,_,rfl,_,rfl,_,rfl,_,_,rfl,rfl,r,_,_,_,rfl,rfl,SqL.of ld12.hr,ja,_,rfl,lk,_,rfl,.inl (SqL.of ld12.hk),_,_,rfl,rfl,(by show (0:Int) < ((kps.map fun p=>V.ref p.1).length:Int); rw [List.length_map] at lz1 ⊢; omega),lk,_,_,_,rfl,rfl,SqL.of ld12.hk,AK,kp.1,_,_,_,rfl,rfl,SqT.of (ld12.kp kp hkp),atI_nat (j:=0) rfl,_,rfl,_,rfl,_,rfl,r,_,_,_,rfl,rfl,SqL.of ld12.hr,ia,xi,rfl,ib,by omega,fun ta t H13 s13' nta tok hta=>?_⟩
    refine ⟨small (by show 5≤1000000; decide),fun ep nep=>?_⟩
    have s14':=same_new nep (.tup ((En.st z kp.2.1 og t).items ta))
    have ld14:=(ld12.same s13').same s14'
    have en14:EnAt (upd H13 ep (.tup ((En.st z kp.2.1 og t).items ta))) (ep,.st z kp.2.1 og t):=⟨ta,s14'.get hta,upd_same⟩
    have pl:ps.length≤30:=by
      have l2:=dr.ln
      have l3:=dr.bd.len
      rw [List.length_map,List.length_take] at l3
      omega
    refine ⟨R,_,_,rfl,rfl,ld14.hR,smallLt (by rw [List.length_map]; omega),?_⟩
    have ld15:=ld14.row ds en14
    have tk:st.take (i + 1) = st.take i ++ [z]:=by rw [List.take_add_one,hz]; rfl
    have zn':z ∉ st.take i ++ sl:=fun h=>by
      have nd:=List.nodup_append.mp dr.nd
      rcases List.mem_append.mp h with h | h
      · have:=(List.take_append_drop (i + 1) st) ▸ nd.1
        rw [tk] at this
        have:=(List.nodup_append.mp this).1
        exact (List.nodup_append.mp this).2.2 z h z List.mem_cons_self rfl
      · exact nd.2.2 z (List.mem_of_getElem? hz) z (List.mem_append_left _ h) rfl
    have dr15:Dr (kps.map fun p=>p.2.1) Tn st (st.take (i + 1)) td sl ((ps ++ [(ep,En.st z kp.2.1 og t)]).map (·.2)) (2 * i):=by
      refine ⟨?_,dr.nd,dr.nl,dr.t0,dr.t1,dr.ln,dr.tot⟩
      rw [tk,List.map_append]
      exact dr.bd.stem zn' (List.mem_map.mpr ⟨kp,hkp,rfl⟩) tok ho'
    clear dr ld9 ld10 ld11 ld12 ld14
    generalize ps ++ [(ep,En.st z kp.2.1 og t)] = ps15 at ld15 dr15
    have r3a:=Int.emod_nonneg xk (show (3:Int)≠0 by decide)
    have r3b:=Int.emod_lt_of_pos xk (show (0:Int) < 3 by decide)
    refine ⟨_,rfl,_,rfl,_,_,rfl,rfl,r,_,_,_,rfl,rfl,SqL.of ld15.hr,ka,_,_,rfl,rfl,(by show (0:Int) < 3; decide),_,rfl,by omega,by omega,?_⟩
    refine for_range (lo:=0) (n:=(xk % 3).toNat) (fun j σ H9=>∃ ps sl td T v12 v13,σ = [some (.ref a),some (.int c0),some (.ref r),some (.ref lk),some (.ref ln),some (.ref p5),some (.ref p6),some (.ref R),some (.ref S),some (.int T),some (.int (i:Int)),some (.str z),v12,v13]∧Ld H H9 r lk p5 p6 R S rs kps st td sl ps∧Dr (kps.map fun p=>p.2.1) T st (st.take (i + 1)) td sl (ps.map (·.2)) (2 * i + j))
      ⟨ps15,sl,td,Tn,_,_,rfl,ld15,dr15⟩ ?_ ?_
    · rintro j σ H16 hj ⟨ps16,sl16,td16,T16,v12',v13',rfl,ld16,dr16⟩
      have j2:j < 2:=by omega
      have tl:0 < td16.length:=by
        have:=dr16.tot
        have:=dr16.ln
        omega
      have tl24:td16.length≤24:=by
        have:=dr16.tot
        omega
      have x3a:=Int.emod_nonneg xi (show (3:Int)≠0 by decide)
      have x3b:=Int.emod_lt_of_pos xi (show (0:Int) < 3 by decide)
      have da:=Int.emod_nonneg xm (show (td16.length:Int)≠0 by omega)
      have db:=Int.emod_lt_of_pos xm (show (0:Int) < (td16.length:Int) by omega)
      refine ⟨_,rfl,_,_,rfl,rfl,_,rfl,_,rfl,r,_,_,_,rfl,rfl,SqL.of ld16.hr,ia,_,_,rfl,rfl,(by show (0:Int) < 3; decide),_,_,rfl,rfl,?_⟩
      have dk:(xm % (td16.length:Int)).toNat < td16.length:=by omega
      have hy:td16[(xm % (td16.length:Int)).toNat]? = some td16[(xm % (td16.length:Int)).toNat]:=List.getElem?_eq_getElem dk
      have pe:(td16[(xm % (td16.length:Int)).toNat] :: td16.eraseIdx (xm % (td16.length:Int)).toNat).Perm td16:=erase_perm dk
      generalize ey:td16[(xm % (td16.length:Int)).toNat] = y at hy pe
      refine ⟨_,rfl,.inl ⟨rfl,_,SqL.of ld16.hS⟩,_,rfl,.inl ⟨rfl,_,SqL.of ld16.h6⟩,_,rfl,_,rfl,_,_,rfl,rfl,r,_,_,_,rfl,rfl,SqL.of ld16.hr,ma,_,rfl,p6,_,rfl,.inl (SqL.of ld16.h6),_,_,rfl,rfl,(by show (0:Int) < ((td16.map V.str).length:Int); rw [List.length_map]; omega),?_⟩
      refine ⟨p6,_,xm % ((td16.map V.str).length:Int),(xm % (td16.length:Int)).toNat,V.str y,rfl,rfl,ld16.h6,by rw [List.length_map]; omega,by rw [List.length_map]; omega,by rw [List.length_map]; exact PySem.seqIndex_of da db,by rw [List.getElem?_map,hy]; rfl,?_⟩
      have ld17:=ld16.pop ds (xm % (td16.length:Int)).toNat
      generalize upd H16 p6 (.lst ((td16.map V.str).eraseIdx (xm % (td16.length:Int)).toNat)) = H17 at ld17
      generalize td16.eraseIdx (xm % (td16.length:Int)).toNat = td17 at ld17 pe
      refine ⟨S,_,_,rfl,rfl,ld17.hS,smallLt (by rw [List.length_map]; have:=dr16.ln; omega),?_⟩
      have ld18:=ld17.seal ds y
      generalize upd H17 S (.lst (sl16.map V.str ++ [V.str y])) = H18 at ld18
      have d17:(st ++ ((sl16 ++ [y]) ++ td17)).Perm (st ++ (sl16 ++ td16)):=by
        refine List.Perm.append_left st ?_
        rw [List.append_assoc]
        exact List.Perm.append_left sl16 pe
      have pl16:ps16.length≤30:=by
        have l2:=dr16.ln
        have l3:=dr16.bd.len
        rw [List.length_map,List.length_take] at l3
        omega
      have yin:y∈td16:=pe.mem_iff.mp List.mem_cons_self
      have zst:z∈st.take (i + 1):=by rw [tk]; exact List.mem_append_right _ List.mem_cons_self
      have yno:y ∉ st.take (i + 1) ++ sl16:=fun h=>by
        have nd:=List.nodup_append.mp dr16.nd
        rcases List.mem_append.mp h with h | h
        · exact nd.2.2 y (List.mem_of_mem_take h) y (List.mem_append_right _ yin) rfl
        · exact (List.nodup_append.mp nd.2.1).2.2 y h y yin rfl
      have ynl:=dr16.nl y (List.mem_append_right _ (List.mem_append_right _ yin))
      refine ⟨_,rfl,.inl ⟨rfl,_,SqL.of ld18.hR⟩,_,rfl,_,rfl,S,_,_,_,rfl,rfl,SqL.of ld18.hS,by rw [List.map_append]; exact atI_last _ _,_,rfl,_,rfl,_,rfl,_,rfl,r,_,_,_,rfl,rfl,SqL.of ld18.hr,ia,_,rfl,_,_,rfl,rfl,xi + (0 + (j:Int)),rfl,by omega,by omega,fun ta2 t2 H19 s19 nta2 tok2 hta2=>?_⟩
      refine ⟨small (by show 5≤1000000; decide),fun ep2 nep2=>?_⟩
      have s20:=same_new nep2 (.tup ((En.sl y z (T16 + 1 + xi % 3) t2).items ta2))
      have ld20:=(ld18.same s19).same s20
      have en20:EnAt (upd H19 ep2 (.tup ((En.sl y z (T16 + 1 + xi % 3) t2).items ta2))) (ep2,.sl y z (T16 + 1 + xi % 3) t2):=⟨ta2,s20.get hta2,upd_same⟩
      refine ⟨R,_,_,rfl,rfl,ld20.hR,smallLt (by rw [List.length_map]; omega),?_⟩
      refine ⟨ps16 ++ [(ep2,En.sl y z (T16 + 1 + xi % 3) t2)],sl16 ++ [y],td17,T16 + 1 + xi % 3,_,_,rfl,ld20.row ds en20,?_⟩
      have t0:=dr16.t0
      have t1:=dr16.t1
      refine ⟨?_,d17.nodup_iff.mpr dr16.nd,fun x hx=>dr16.nl x (d17.mem_iff.mp hx),by omega,?_,?_,?_⟩
      · rw [List.map_append]
        exact dr16.bd.seal yno ynl.ne zst (by omega) t0 tok2
      · show T16 + 1 + xi % 3≤50 + 3 * ((2 * i + (j + 1):Nat):Int)
        omega
      · have:=dr16.ln
        rw [List.length_append]
        show _ + 1≤_
        omega
      · have:=d17.length_eq
        have:=dr16.tot
        simp only [List.length_append,List.length_cons,List.length_nil] at *
        omega
    · rintro σ H16 ⟨ps16,sl16,td16,T16,v12',v13',rfl,ld16,dr16⟩
      refine ⟨ps16,sl16,td16,T16,_,_,_,_,rfl,ld16,dr16.bd,dr16.nd,dr16.nl,dr16.t0,?_,?_,dr16.tot⟩
      · have:=dr16.t1
        omega
      · have:=dr16.ln
        omega
  · rintro σ H9 ⟨ps,sl,td,Tn,v10,v11,v12,v13,rfl,ld9,dr⟩
    rw [List.length_map,List.take_length] at dr
    have tl24:st.length + td.length≤24:=by
      have:=dr.tot
      omega
    have t0:=dr.t0
    have t1:=dr.t1
    refine ⟨_,rfl,p6,_,rfl,.inl (SqL.of ld9.h6),?_⟩
    refine tAndV_s (!decide (st.map V.str = [])) (decide (c0 / 7200 % 4 = 3)) (fun R0 hR=>?_) (fun H' s' R0 hR=>?_) fun H10 s10=>?_
    · refine ⟨_,rfl,small (by show 0≤1000000; decide),fun p2 n2=>?_⟩
      have t2:=same_new n2 (.lst [])
      exact ⟨p5,p2,_,rfl,rfl,SqL.of (t2.get ld9.h5),SqL.of upd_same,hR _ t2⟩
    · refine ⟨_,rfl,_,_,rfl,rfl,⟨by decide,by decide⟩,_,_,rfl,rfl,(by show (0:Int) < 4; decide),rfl,?_⟩
      have e:decide (V.int (c0 / 7200 % 4) = V.int 3) = decide (c0 / 7200 % 4 = 3):=by
        by_cases z:c0 / 7200 % 4 = 3
        · rw [decide_eq_true z,decide_eq_true (by rw [z])]
        · rw [decide_eq_false z,decide_eq_false fun y=>z (V.int.inj y)]
      dsimp only
      rw [e]
      exact hR H' (Same.refl _)
    have ld10:=ld9.same s10
    have mst:(!decide (st.map V.str = []) && decide (c0 / 7200 % 4 = 3)) = true→st≠[]:=fun z e=>by
      rw [e] at z
      cases z
    generalize (!decide (st.map V.str = []) && decide (c0 / 7200 % 4 = 3)) = m at mst
    have mm:(td.length:Int) * (if m = true then 1 else 0) = ((if m = true then td.length else 0:Nat):Int):=by cases m <;> simp
    have bm:(if m = true then td.length else 0)≤td.length:=by cases m <;> simp
    refine .inr ⟨m,rfl,_,_,rfl,rfl,.inl ⟨by rw [List.length_map]; omega,by rw [List.length_map]; omega⟩,_,rfl,?_,?_,?_⟩
    · rw [List.length_map,mm]
      omega
    · rw [List.length_map,mm]
      omega
    have eN:(((td.map V.str).length:Int) * (if m = true then 1 else 0)).toNat = (if m = true then td.length else 0):=by rw [List.length_map,mm,Int.toNat_natCast]
    have nN:∀ k,k < (if m = true then td.length else 0)→st≠[]∧k < td.length:=fun k hk=>by
      cases m with
      | false=>exact absurd hk (by simp)
      | true=>exact ⟨mst rfl,by simpa using hk⟩
    refine for_range (lo:=0) (n:=(((td.map V.str).length:Int) * (if m = true then 1 else 0)).toNat) (fun k σ H9=>∃ ps v10,σ = [some (.ref a),some (.int c0),some (.ref r),some (.ref lk),some (.ref ln),some (.ref p5),some (.ref p6),some (.ref R),some (.ref S),some (.int Tn),v10,v11,v12,v13]∧Ld H H9 r lk p5 p6 R S rs kps st td sl ps∧Bd (kps.map fun p=>p.2.1) (Tn + (k:Int)) st (sl ++ td.take k) (ps.map (·.2)))
      ⟨ps,v10,rfl,ld10,by rw [List.take_zero,List.append_nil,show Tn + ((0:Nat):Int) = Tn by omega]; exact dr.bd⟩ ?_ ?_
    · rintro k σ H11 hk ⟨ps11,v10',rfl,ld11,bd11⟩
      rw [eN] at hk
      obtain ⟨sne,kt⟩:=nN k hk
      have spos:=List.length_pos_iff.mpr sne
      obtain ⟨ia,ib,ic⟩:=at_ (i:=(0 + (k:Int))) (by omega) (by omega)
      generalize rs.getD ((0 + (k:Int))).toNat 0 = xi at ia ib ic
      have hy:td[k]? = some td[k]:=List.getElem?_eq_getElem kt
      have tk:td.take (k + 1) = td.take k ++ [td[k]]:=by rw [List.take_add_one,hy]; rfl
      have ay:atI (td.map V.str) (0 + (k:Int)) = some (.str td[k]):=by
        rw [Int.zero_add]
        exact atI_nat (by rw [List.getElem?_map,hy]; rfl)
      have yin:td[k]∈td:=List.getElem_mem kt
      generalize td[k] = y at hy tk ay yin
      obtain ⟨zl,hzl,AL⟩:∃ z∈st,atI (st.map V.str) (-1) = some (.str z):=by
        obtain ⟨st',z,rfl⟩:∃ st' z,st = st' ++ [z]:=⟨st.dropLast,st.getLast sne,(List.dropLast_concat_getLast sne).symm⟩
        exact ⟨z,List.mem_append_right _ List.mem_cons_self,by rw [List.map_append]; exact atI_last _ _⟩
      refine ⟨_,rfl,.inl ⟨rfl,_,SqL.of ld11.hR⟩,_,rfl,_,rfl,p6,_,_,_,rfl,rfl,SqL.of ld11.h6,ay,_,rfl,_,rfl,p5,_,_,_,rfl,rfl,SqL.of ld11.h5,AL,_,rfl,_,_,rfl,rfl,_,rfl,_,_,rfl,rfl,_,rfl,_,rfl,r,_,_,_,rfl,rfl,SqL.of ld11.hr,ia,xi,rfl,ib,by omega,fun ta2 t2 H19 s19 nta2 tok2 hta2=>?_⟩
      refine ⟨small (by show 5≤1000000; decide),fun ep2 nep2=>?_⟩
      have s20:=same_new nep2 (.tup ((En.sl y zl (Tn + 1 + (0 + (k:Int))) t2).items ta2))
      have ld20:=(ld11.same s19).same s20
      have en20:EnAt (upd H19 ep2 (.tup ((En.sl y zl (Tn + 1 + (0 + (k:Int))) t2).items ta2))) (ep2,.sl y zl (Tn + 1 + (0 + (k:Int))) t2):=⟨ta2,s20.get hta2,upd_same⟩
      have pl11:ps11.length≤30:=by
        have l3:=bd11.len
        have l4:=dr.tot
        rw [List.length_map,List.length_append,List.length_take] at l3
        omega
      refine ⟨R,_,_,rfl,rfl,ld20.hR,smallLt (by rw [List.length_map]; omega),?_⟩
      refine ⟨ps11 ++ [(ep2,En.sl y zl (Tn + 1 + (0 + (k:Int))) t2)],_,rfl,ld20.row ds en20,?_⟩
      have nd:=List.nodup_append.mp dr.nd
      have yno:y ∉ st ++ (sl ++ td.take k):=fun h=>by
        rcases List.mem_append.mp h with h | h
        · exact nd.2.2 y h y (List.mem_append_right _ yin) rfl
        · have nd2:=List.nodup_append.mp nd.2.1
          rcases List.mem_append.mp h with h | h
          · exact nd2.2.2 y h y yin rfl
          · have:=(List.take_append_drop (k + 1) td) ▸ nd2.2.1
            rw [tk] at this
            have:=(List.nodup_append.mp this).1
            exact (List.nodup_append.mp this).2.2 y h y List.mem_cons_self rfl
      have e1:Tn + 1 + (0 + (k:Int)) = Tn + ((k + 1:Nat):Int):=by omega
      rw [tk,← List.append_assoc,List.map_append,e1]
      exact bd11.seal yno (dr.nl y (List.mem_append_right _ (List.mem_append_right _ yin))).ne hzl (by omega) (by omega) tok2
    · rintro σ H11 ⟨ps11,v10',rfl,ld11,bd11⟩
      rw [eN] at bd11
      generalize (if m = true then td.length else 0) = N at bm bd11
      obtain ⟨ia,ib,ic⟩:=at_ (i:=23) (by decide) (by decide)
      generalize rs.getD (23:Int).toNat 0 = xi at ia ib ic
      have g0:=Int.emod_nonneg (xi * 1000) (show (10:Int) ^ (9:Int).toNat≠0 by decide)
      have g1:=Int.emod_lt_of_pos (xi * 1000) (show (0:Int) < 10 ^ (9:Int).toNat by decide)
      have pl11:ps11.length≤24:=by
        have l3:=bd11.len
        have l4:=dr.tot
        rw [List.length_map,List.length_append,List.length_take] at l3
        omega
      refine ⟨_,rfl,r,_,_,_,rfl,rfl,SqL.of ld11.hr,ia,_,_,rfl,rfl,.inl ⟨by omega,by omega⟩,_,_,rfl,rfl,⟨by decide,by decide,by decide⟩,_,_,rfl,rfl,(by show (0:Int) < 10 ^ (9:Int).toNat; decide),_,rfl,lk,_,rfl,.inl ⟨SqL.of ld11.hk,fun kk nkk=>?_⟩⟩
      dsimp only
      generalize xi * 1000 % 10 ^ (9:Int).toNat = ag at g0 g1
      rw [show (10:Int) ^ (9:Int).toNat = 1000000000 by decide] at g1
      have s12':=same_new nkk (.tup (kps.map fun p=>V.ref p.1))
      have hkk:(upd H11 kk (.tup (kps.map fun p=>V.ref p.1))) kk = some (.tup (kps.map fun p=>V.ref p.1)):=upd_same
      have ld12:=ld11.same s12'
      generalize upd H11 kk (.tup (kps.map fun p=>V.ref p.1)) = H12 at hkk ld12
      refine ⟨_,rfl,R,ps11.map fun p=>(p.1,p.2.nm),rfl,SqL.of (by rw [List.map_map]; exact ld12.hR),by rw [List.length_map]; omega,fun t ht=>?_,?_,fun us p9 up us2 n9=>?_⟩
      · obtain ⟨p,hp,rfl⟩:=List.mem_map.mp ht
        obtain ⟨rr,hrr⟩:=(ld12.en p hp).fst
        exact ⟨rr,SqT.of hrr⟩
      · rw [List.map_map]
        have:=bd11.nms
        rw [List.map_map] at this
        exact this
      obtain ⟨us',q1,rfl⟩:=perm_lift up rfl
      rw [List.map_map]
      have s13':=same_new n9 (.lst (us'.map ((fun t:Addr×Str=>V.ref t.1)∘fun p:Addr×En=>(p.1,p.2.nm))))
      have h13:(upd H12 p9 (.lst (us'.map ((fun t:Addr×Str=>V.ref t.1)∘fun p:Addr×En=>(p.1,p.2.nm))))) p9 = some (.lst (us'.map fun p=>V.ref p.1)):=upd_same
      have ld13:=ld12.same s13'
      have hk13:=s13'.get hkk
      generalize upd H12 p9 (.lst (us'.map ((fun t:Addr×Str=>V.ref t.1)∘fun p:Addr×En=>(p.1,p.2.nm)))) = H13 at h13 ld13 hk13
      refine ⟨p9,_,rfl,.inl ⟨SqL.of h13,fun nn nnn=>?_⟩⟩
      have s14':=same_new nnn (.tup (us'.map fun p=>V.ref p.1))
      have ld14:=ld13.same s14'
      have hn14:(upd H13 nn (.tup (us'.map fun p=>V.ref p.1))) nn = some (.tup (us'.map fun p=>V.ref p.1)):=upd_same
      have hk14:=s14'.get hk13
      generalize upd H13 nn (.tup (us'.map fun p=>V.ref p.1)) = H14 at ld14 hn14 hk14
      refine ⟨small (by show 3≤1000000; decide),fun hh nhh=>?_⟩
      have s15':=same_new nhh (.tup [V.int ag,V.ref kk,V.ref nn])
      have ld15:=ld14.same s15'
      have ndu:(us'.map fun p=>p.2.nm).Nodup:=by
        have:=bd11.nms
        rw [List.map_map] at this
        exact (q1.map fun p=>p.2.nm).nodup_iff.mpr this
      refine q hh _ ag kk nn kps us' st (sl ++ td.take N) (Tn + (N:Int)) ld15.sm (ld14.sm.free nhh) upd_same g0 (by omega) (s15'.get hk14) ld15.kp (by rw [List.length_map] at lz1; exact lz1) (by rw [List.length_map] at lz8; exact lz8) rz (fun p hp=>⟨nz _ (List.mem_map.mpr ⟨p,hp,rfl⟩),kb p hp⟩) (s15'.get hn14) (fun p hp=>ld15.en p (q1.mem_iff.mp hp)) (by rw [q1.length_eq]; exact pl11) (rise_of (by rw [List.map_map] at us2; exact us2) ndu) (fun p hp=>?_) (by omega) ⟨_,q1.map _,bd11⟩
      have:=bd11.mem (List.mem_map.mpr ⟨p,q1.mem_iff.mp hp,rfl⟩)
      refine dr.nl _ ?_
      rcases List.mem_append.mp this with h | h
      · exact List.mem_append_left _ h
      · refine List.mem_append_right _ ?_
        rcases List.mem_append.mp h with h | h
        · exact List.mem_append_left _ h
        · exact List.mem_append_right _ (List.mem_of_mem_take h)
end
section
variable {P:Program} {w:World} {K:PySem.W.Frag} {mg:Str→Option Value} {base:Heap} {f:Addr} {fd:FuncData}
def sp__law_with (K:PySem.W.Frag):Sp:=fun vs H Q _=>∃ (b:Addr) (xs:List V) (i:Nat) (v:V),vs = [.ref b,.int i,v]∧H b = some (.tup xs)∧i < xs.length∧xs.length≤1000∧∀ b' H',Same H H'→H' b' = some (.tup (xs.set i v))→Q (.ref b') H'
theorem ok__law_with (T:Txt K mg) (F:Fun K "_law_with" "_law_with" s__law_with f fd):FnOk P w K mg base CX0 1 f fd ["_law_things","_law_at","_law_thing"] (sp__law_with K):=by
  refine F.ok sc__law_with (fun vs H Q E h=>?_) (fun cdv A outer s H vs Q E hr h=>?_)
  · obtain ⟨b,xs,i,v,rfl,_⟩:=h
    rfl
  obtain ⟨b,xs,i,v,rfl,hb,il,few,q⟩:=h
  refine ⟨_,(@pss_one _ _ _ (@ps_ret _ _ _ _ (@pe_op _ _ _ _ _ _ _ _ op_catT3 (@pe_op _ _ _ _ _ _ _ _ op_catT3 (@pe_slice _ _ _ _ _ _ _ _ _ _ sl_tup (pv 0) (@po_none _) (@po_some _ _ _ (pv 1))) (@pe_tup _ _ _ _ _ (@pa_cons _ _ _ _ _ (pv 2) (@pa_nil _) (by rfl)))) (@pe_slice _ _ _ _ _ _ _ _ _ _ sl_tup (pv 0) (@po_some _ _ _ (@pe_op _ _ _ _ _ _ _ _ op_add (pv 1) (@pe_int _ _ _ _))) (@po_none _))))),?_⟩
  try dsimp only [cxOf,Cx.nox,Cx.wish]
  refine ⟨_,rfl,_,rfl,(i:Int),rfl,b,_,rfl,SqT.of hb,(fun z=>?_),fun p1 n1=>?_⟩
  · have:=z.2
    rw [HT.sIx_nat] at this
    omega
  rw [cut_hi (by omega),Int.toNat_natCast]
  have s1:=same_new n1 (.tup (xs.take i))
  have h1:(upd H p1 (.tup (xs.take i))) p1 = some (.tup (xs.take i)):=upd_same
  dsimp only
  generalize upd H p1 (.tup (xs.take i)) = H1 at s1 h1
  refine ⟨_,rfl,small (by show 1≤1000000; decide),fun p2 n2=>?_⟩
  have s2:=same_new n2 (.tup [v])
  have h2:(upd H1 p2 (.tup [v])) p2 = some (.tup [v]):=upd_same
  generalize upd H1 p2 (.tup [v]) = H2 at s2 h2
  have s12:=s1.trans s2
  have lt:(xs.take i).length = i:=by rw [List.length_take]; omega
  have rest:∀ c H3,Same H2 H3→H3 c = some (.tup (xs.take i ++ [v]))→∀ {Q':VK},(∀ b' H',Same H H'→H' b' = some (.tup (xs.set i v))→Q' (.ref b') H')→tSl (rSlT K) (tVar 0) (tPart (tOp (rI0 fun i j=>V.int (i + j)) (tVar 1) (tC (V.int 1)))) tNoPart (L2.start [Str.ofString "_law_things",Str.ofString "_law_at",Str.ofString "_law_thing"] [V.ref b,V.int (i:Int),v]) H3 fun y H4=>rCatT3 K (.ref c) y H4 Q':=fun c H3 s3 hc Q' q'=>by
    have s13:=s12.trans s3
    refine ⟨_,rfl,_,rfl,_,_,rfl,rfl,(i:Int) + 1,rfl,b,_,rfl,SqT.of (s13.get hb),(fun z=>?_),fun p4 n4=>?_⟩
    · have:=z.1
      rw [show (i:Int) + 1 = ((i + 1:Nat):Int) by omega,HT.sIx_nat] at this
      omega
    rw [cut_lo (by omega),show ((i:Int) + 1).toNat = i + 1 by omega]
    have s4:=same_new n4 (.tup (xs.drop (i + 1)))
    have e:xs.set i v = (xs.take i ++ [v]) ++ xs.drop (i + 1):=by
      rw [List.set_eq_take_append_cons_drop,if_pos il,List.append_assoc]
      rfl
    refine ⟨c,p4,_,_,rfl,rfl,SqT.of (s4.get hc),SqT.of upd_same,small (by rw [List.length_append,List.length_drop,lt]; show i + 1 + _≤1000000; omega),(fun z=>absurd z (by simp)),fun _ z=>?_,fun _ _ p5 n5=>?_⟩
    · rw [z,List.append_nil] at e
      exact q' c _ (s13.trans s4) (by rw [e]; exact s4.get hc)
    · refine q' p5 _ ((s13.trans s4).trans (same_new n5 _)) (by rw [upd_same,e])
  refine ⟨p1,p2,_,_,rfl,rfl,SqT.of (s2.get h1),SqT.of h2,small (by rw [lt]; show i + 1≤1000000; omega),fun z=>?_,(fun _ z=>by cases z),fun _ _ p3 n3=>?_⟩
  · exact rest p2 H2 (Same.refl _) (by rw [z]; exact h2) q
  · exact rest p3 _ (same_new n3 _) upd_same q
end
def tgT (t:Int×Int×Int):Tr:=.tup [.int t.1,.int t.2.1,.int t.2.2]
def enT:En→Tr
  | .st nm kp og t=>.tup [.str nm,.int 1,.str kp,.str og,tgT t]
  | .sl nm sm tn t=>.tup [.str nm,.int 2,.str sm,.int tn,tgT t]
theorem de_en (e:En):deT (enT e) = e:=by cases e <;> rfl
theorem nm_en (e:En):nm0 (enT e) = e.nm:=by cases e <;> rfl
def kpT (p:Str×Int):Tr:=.tup [.str p.1,.int p.2]
def EnOk (ks:List Str):En→Prop
  | .st nm kp og t=>nmL nm∧nmL kp∧kp∈ks∧(og = EM∨nmL og)∧tgOk t
  | .sl nm sm tn t=>nmL nm∧nmL sm∧0 < tn∧tn≤999999999∧tgOk t
theorem tag_ok {t:Int×Int×Int} (h:tgOk t):tagT (tgT t) = true:=by
  obtain ⟨⟨a,b⟩,⟨c,d⟩,e,f⟩:=h
  show ((decide (1≤t.1) && decide (t.1≤999999)) && (decide (0≤t.2.1) && decide (t.2.1≤999999999)) && (decide (0≤t.2.2) && decide (t.2.2≤996))) = true
  rw [decide_eq_true a,decide_eq_true b,decide_eq_true c,decide_eq_true d,decide_eq_true e,decide_eq_true f]
  rfl
theorem en_ok {ks:List Str} {e:En} (h:EnOk ks e):(stemT (enT e) || sealT (enT e)) = true:=by
  cases e with
  | st nm kp og t=>
    obtain ⟨h1,h2,_,h3,h4⟩:=h
    have:stemT (enT (.st nm kp og t)) = true:=by
      show (sB 1 1 (.int 1) && (nameB (.str nm) && (nameB (.str kp) && ((decide (og = EM) || nameB (.str og)) && tagT (tgT t))))) = true
      rw [h1.name,h2.name,tag_ok h4]
      rcases h3 with rfl | h3
      · rfl
      · rw [h3.name,Bool.or_true]; rfl
    rw [this]; rfl
  | sl nm sm tn t=>
    obtain ⟨h1,h2,h3,h4,h5⟩:=h
    have:sealT (enT (.sl nm sm tn t)) = true:=by
      show (sB 2 2 (.int 2) && (nameB (.str nm) && (nameB (.str sm) && ((decide (1≤tn) && decide (tn≤999999999)) && tagT (tgT t))))) = true
      rw [h1.name,h2.name,tag_ok h5,decide_eq_true (show 1≤tn by omega),decide_eq_true h4]
      rfl
    rw [this,Bool.or_true]
theorem Bd.ok {ks:List Str} {T:Int} {ss sl:List Str} {es:List En} (b:Bd ks T ss sl es) (hT:T≤999999999) (hk:∀ k∈ks,nmL k) (hn:∀ z∈ss ++ sl,nmL z):∀ e∈es,EnOk ks e:=fun e he=>by
  have nm:=hn _ (b.mem he)
  cases e with
  | st nm kp og t=>
    obtain ⟨g1,g2,g3,g4⟩:=b.sN _ _ _ _ he
    refine ⟨nm,hk _ g2,g2,g4.imp id ?_,g3⟩
    rintro ⟨sm,tn,t',g⟩
    exact hn _ (b.mem g)
  | sl nm sm tn t=>
    obtain ⟨g1,⟨g2,g2'⟩,g3,kp,og,t',g⟩:=b.lN _ _ _ _ he
    exact ⟨nm,hn _ (b.mem g),g2,by omega,g3⟩
theorem names_ok {ks:List Str} {es:List En} (h:∀ e∈es,EnOk ks e) (few:es.length≤24) (ri:(es.map En.nm).Pairwise Slt):namesT (.tup (es.map enT)) = true:=by
  show (decide ((es.map enT).length≤24) && ((es.map enT).all (fun t=>stemT t || sealT t) && riseB ((es.map enT).map nm0))) = true
  rw [List.length_map,decide_eq_true few,Bool.true_and,Bool.and_eq_true]
  refine ⟨?_,?_⟩
  · rw [List.all_map,List.all_eq_true]
    exact fun e he=>en_ok (h e he)
  · rw [rise_iff,List.map_map]
    rw [show es.map (nm0∘enT) = es.map En.nm from List.map_congr_left fun e _=>nm_en e]
    exact ri
theorem keepers_ok {kz:List (Str×Int)} (h:∀ p∈kz,nmL p.1∧0≤p.2∧p.2≤999999999) (few:kz.length≤8) (ri:(kz.map (·.1)).Pairwise Slt):keepersT (.tup (kz.map kpT)) = true:=by
  show (decide ((kz.map kpT).length≤8) && ((kz.map kpT).all keeperT && riseB ((kz.map kpT).map nm0))) = true
  rw [List.length_map,decide_eq_true few,Bool.true_and,Bool.and_eq_true]
  refine ⟨?_,?_⟩
  · rw [List.all_map,List.all_eq_true]
    intro p hp
    obtain ⟨h1,h2,h3⟩:=h p hp
    show (nameB (.str p.1) && (decide (0≤p.2) && decide (p.2≤999999999))) = true
    rw [h1.name,decide_eq_true h2,decide_eq_true h3]
    rfl
  · rw [rise_iff,List.map_map]
    exact ri
def BadN (ks:List Str) (t:Tr):Prop:=namesT t = false∨∃ ns,t = .tup ns∧¬ AtOne ks (ns.map deT)
theorem BadN.no {ks:List Tr} {a t:Tr} (h:BadN (ks.map nm0) t):¬ HeadP (.tup [a,.tup ks,t]):=fun z=>by
  cases t with
  | tup ns=>
    obtain ⟨_,_,z3,z4⟩:=(show sB 0 999999999 a = true∧keepersT (.tup ks) = true∧namesT (.tup ns) = true∧AtOne (ks.map nm0) (ns.map deT) from z)
    rcases h with h | ⟨ns',e,h⟩
    · rw [h] at z3; cases z3
    · cases e; exact h z4
  | _=>exact z
theorem bad_one {ks:List Str} {ns:List Tr} {t:Tr} (m:t∈ns) (h1:stemT t = false) (h2:sealT t = false):BadN ks (.tup ns):=by
  left
  show (decide (ns.length≤24) && (ns.all (fun t=>stemT t || sealT t) && riseB (ns.map nm0))) = false
  have:ns.all (fun t=>stemT t || sealT t) = false:=by
    cases c:ns.all (fun t=>stemT t || sealT t) with
    | false=>rfl
    | true=>
      have:=List.all_eq_true.mp c t m
      rw [h1,h2] at this
      cases this
  rw [this,Bool.false_and,Bool.and_false]
theorem bad_rise {ks:List Str} {ns:List Tr} (h:¬ (ns.map nm0).Pairwise Slt):BadN ks (.tup ns):=by
  left
  show (decide (ns.length≤24) && (ns.all (fun t=>stemT t || sealT t) && riseB (ns.map nm0))) = false
  have:riseB (ns.map nm0) = false:=by
    cases c:riseB (ns.map nm0) with
    | false=>rfl
    | true=>exact absurd ((rise_iff _).mp c) h
  rw [this,Bool.and_false,Bool.and_false]
theorem bad_tag {a b c d g:Tr} (h:tagT g = false):stemT (.tup [a,b,c,d,g]) = false∧sealT (.tup [a,b,c,d,g]) = false:=by
  constructor
  · show (sB 1 1 b && (sN a && (sN c && (orgT d && tagT g)))) = false
    rw [h,Bool.and_false,Bool.and_false,Bool.and_false,Bool.and_false]
  · show (sB 2 2 b && (sN a && (sN c && (sB 1 999999999 d && tagT g)))) = false
    rw [h,Bool.and_false,Bool.and_false,Bool.and_false,Bool.and_false]
theorem bad_kind {a b c d g:Tr} (h1:sB 1 1 b = false) (h2:sB 2 2 b = false):stemT (.tup [a,b,c,d,g]) = false∧sealT (.tup [a,b,c,d,g]) = false:=by
  constructor
  · show (sB 1 1 b && _) = false
    rw [h1,Bool.false_and]
  · show (sB 2 2 b && _) = false
    rw [h2,Bool.false_and]
theorem bad_name {a b c d g:Tr} (h:sN a = false):stemT (.tup [a,b,c,d,g]) = false∧sealT (.tup [a,b,c,d,g]) = false:=by
  constructor
  · show (sB 1 1 b && (sN a && _)) = false
    rw [h,Bool.false_and,Bool.and_false]
  · show (sB 2 2 b && (sN a && _)) = false
    rw [h,Bool.false_and,Bool.and_false]
theorem mem_set_of {α:Type} {l:List α} {i:Nat} {x:α} (h:i < l.length):x∈l.set i x:=List.mem_iff_getElem.mpr ⟨i,by rw [List.length_set]; exact h,by rw [List.getElem_set_self]⟩
theorem set_map {α β:Type} (f:α→β) (l:List α) (i:Nat) (x:α):(l.map f).set i (f x) = (l.set i x).map f:=List.map_set.symm
theorem nothere_no {z:Str} (h:nmL z):z≠PySem.Str.ofString "nothere":=fun e=>by
  obtain ⟨c,k,ec,_,_⟩:=h
  rw [e] at ec
  have h0:=congrArg (fun l:List Nat=>l[0]?) ec
  have h1:=congrArg (fun l:List Nat=>l[1]?) ec
  have e0:(cod (PySem.Str.ofString "nothere"))[0]? = some 110:=by decide +kernel
  have e1:(cod (PySem.Str.ofString "nothere"))[1]? = some 111:=by decide +kernel
  simp only [e0,e1,List.getElem?_replicate] at h0 h1
  split at h0
  · split at h1
    · have a:=Option.some.inj h0
      have b:=Option.some.inj h1
      omega
    · cases h1
  · cases h0
theorem tg_rep {F:Addr→Prop} {H:Hp} {a:Addr} {t:Int×Int×Int} (h:H a = some (.tup (tgV t))):Rep F H (tgT t) (.ref a):=⟨a,_,rfl,h,_,_,rfl,rfl,_,_,rfl,rfl,_,_,rfl,rfl,rfl⟩
theorem EnAt.rep {F:Addr→Prop} {H:Hp} {p:Addr×En} (h:EnAt H p):Rep F H (enT p.2) (.ref p.1):=by
  obtain ⟨ta,h1,h2⟩:=h
  obtain ⟨a,e⟩:=p
  cases e <;> exact ⟨a,_,rfl,h2,_,_,rfl,rfl,_,_,rfl,rfl,_,_,rfl,rfl,_,_,rfl,rfl,_,_,rfl,tg_rep h1,rfl⟩
theorem nmL.len {z:Str} (h:nmL z):z.length≤8:=by
  obtain ⟨c,k,e,hk,_⟩:=h
  have l:=cod_len z
  rw [e,List.length_replicate] at l
  omega
theorem sh_int (n:Nat) (i:Int):sh n (.int i) = true:=by cases n <;> rfl
theorem sh_str {n:Nat} {z:Str} (h:z.length≤1000):sh n (.str z) = true:=by cases n <;> exact decide_eq_true h
theorem sh_tg (n:Nat) (t:Int×Int×Int):sh (n + 1) (tgT t) = true:=by
  refine List.all_eq_true.mpr fun x hx=>?_
  simp only [List.mem_cons,List.not_mem_nil,or_false] at hx
  rcases hx with rfl | rfl | rfl <;> exact sh_int _ _
theorem en_sh {ks:List Str} {e:En} (h:EnOk ks e) (n:Nat):sh (n + 2) (enT e) = true:=by
  have nm:∀ {z:Str},nmL z→z.length≤1000:=fun h=>by have:=h.len; omega
  cases e with
  | st nm' kp og t=>
    obtain ⟨h1,h2,_,h3,_⟩:=h
    have ho:og.length≤1000:=by
      rcases h3 with rfl | h3
      · decide +kernel
      · exact nm h3
    refine List.all_eq_true.mpr fun x hx=>?_
    simp only [List.mem_cons,List.not_mem_nil,or_false] at hx
    rcases hx with rfl | rfl | rfl | rfl | rfl
    · exact sh_str (nm h1)
    · exact sh_int _ _
    · exact sh_str (nm h2)
    · exact sh_str ho
    · exact sh_tg _ _
  | sl nm' sm tn t=>
    obtain ⟨h1,h2,_⟩:=h
    refine List.all_eq_true.mpr fun x hx=>?_
    simp only [List.mem_cons,List.not_mem_nil,or_false] at hx
    rcases hx with rfl | rfl | rfl | rfl | rfl
    · exact sh_str (nm h1)
    · exact sh_int _ _
    · exact sh_str (nm h2)
    · exact sh_int _ _
    · exact sh_tg _ _
theorem en_third (e:En):thirdOk (enT e) = true:=by cases e <;> rfl
theorem reps_en {F:Addr→Prop} {H:Hp} {ps:List (Addr×En)} (h:∀ p∈ps,EnAt H p):Reps F H ((ps.map (·.2)).map enT) (ps.map fun p=>V.ref p.1):=by
  refine reps_of (by rw [List.length_map,List.length_map,List.length_map]) fun i t v h1 h2=>?_
  rw [List.map_map,List.getElem?_map] at h1
  rw [List.getElem?_map] at h2
  cases hi:ps[i]? with
  | none=>rw [hi] at h1; cases h1
  | some p=>
    rw [hi] at h1 h2
    cases h1
    cases h2
    exact (h p (List.mem_of_getElem? hi)).rep
theorem reps_set {F:Addr→Prop} {H:Hp} {ts:List Tr} {vs:List V} {t:Tr} {v:V} (h:Reps F H ts vs) (r:Rep F H t v) (i:Nat):Reps F H (ts.set i t) (vs.set i v):=by
  have l:=Reps.len ts vs h
  refine reps_of (by rw [List.length_set,List.length_set,l]) fun j t' v' h1 h2=>?_
  rw [List.getElem?_set] at h1 h2
  by_cases e:i = j
  · subst e
    rw [if_pos rfl] at h1 h2
    by_cases c:i < ts.length
    · rw [if_pos c] at h1
      rw [if_pos (by omega)] at h2
      cases h1
      cases h2
      exact r
    · rw [if_neg c] at h1
      cases h1
  · rw [if_neg e] at h1 h2
    obtain ⟨t2,g1,g2⟩:=Reps.get h h2
    rw [h1] at g1
    cases g1
    exact g2
structure Nms0 (ks:List Str) (H:Hp) (v:V) (t:Tr):Prop where
  rep:Rep AllF H t v
  sh3:sh 3 t = true
  thd:∀ ns,t = .tup ns→∀ x∈ns,thirdOk x = true
  bad:BadN ks t
theorem Nms0.set {ks:List Str} {H:Hp} {b:Addr} {ps:List (Addr×En)} {i:Nat} {v:V} {t:Tr} (he:∀ p∈ps,EnAt H p) (ok:∀ e∈ps.map (·.2),EnOk ks e) (hb:H b = some (.tup ((ps.map fun p=>V.ref p.1).set i v))) (r:Rep AllF H t v) (s:sh 2 t = true) (th:thirdOk t = true) (bad:BadN ks (.tup (((ps.map (·.2)).map enT).set i t))) :
    Nms0 ks H (.ref b) (.tup (((ps.map (·.2)).map enT).set i t)):=by
  have all:∀ x∈((ps.map (·.2)).map enT).set i t,x = t∨∃ e∈ps.map (·.2),x = enT e:=fun x hx=>by
    rcases List.mem_or_eq_of_mem_set hx with h | h
    · obtain ⟨e,he,rfl⟩:=List.mem_map.mp h
      exact .inr ⟨e,he,rfl⟩
    · exact .inl h
  refine ⟨⟨b,_,rfl,hb,reps_set (reps_en he) r i⟩,List.all_eq_true.mpr fun x hx=>?_,fun ns e x hx=>?_,bad⟩
  · rcases all x hx with rfl | ⟨e,he,rfl⟩
    · exact s
    · exact en_sh (ok e he) 0
  · cases e
    rcases all x hx with rfl | ⟨e,he,rfl⟩
    · exact th
    · exact en_third e
section
variable {P:Program} {w:World} {K:PySem.W.Frag} {mg:Str→Option Value} {base:Heap} {f:Addr} {fd:FuncData}
structure HG (ks:List Str) (H:Hp) (h:Addr) (ag:Int) (k n:Addr) (ps:List (Addr×En)):Prop where
  at_:H h = some (.tup [.int ag,.ref k,.ref n])
  nm:H n = some (.tup (ps.map fun p=>V.ref p.1))
  en:∀ p∈ps,EnAt H p
  ok:∀ e∈ps.map (·.2),EnOk ks e
  few:ps.length≤24
  ri:(ps.map fun p=>p.2.nm).Pairwise Slt
  one:AtOne ks (ps.map (·.2))
theorem HG.same {ks:List Str} {H H':Hp} {h:Addr} {ag:Int} {k n:Addr} {ps:List (Addr×En)} (x:HG ks H h ag k n ps) (s:Same H H'):HG ks H' h ag k n ps:=
  ⟨s.get x.at_,s.get x.nm,fun p hp=>(x.en p hp).same s,x.ok,x.few,x.ri,x.one⟩
def En.kd:En→Int
  | .st _ _ _ _=>1
  | .sl _ _ _ _=>2
theorem six_tags {H8:Hp} {e:En} {q1 q2 q3 q4 q5 q7:Addr} {way:Int} (w0:0≤way) (w6:way < 6) (k1:H8 q1 = some (.tup [V.int 0,V.int 5,V.int 7])) (k2:H8 q2 = some (.tup [V.int 5,V.int 5,V.int 997])) (k3:H8 q3 = some (.lst (tgV e.tg))) (k4:H8 q4 = some (.tup [V.int 5,V.int 5,V.bl true])) (k5:H8 q5 = some (.tup [V.int 5,V.int (-1),V.int 5])) (k7:H8 q7 = some (.tup (tgV e.tg ++ [V.int 1]))) :
    ∃ bv bt,atI [V.ref q1,V.ref q2,V.ref q3,V.ref q4,V.ref q5,V.ref q7] way = some bv∧Rep AllF H8 bt bv∧tagT bt = false∧sh 1 bt = true:=by
  have:way = 0∨way = 1∨way = 2∨way = 3∨way = 4∨way = 5:=by omega
  rcases this with rfl | rfl | rfl | rfl | rfl | rfl
  · exact ⟨_,.tup [.int 0,.int 5,.int 7],rfl,⟨q1,_,rfl,k1,_,_,rfl,rfl,_,_,rfl,rfl,_,_,rfl,rfl,rfl⟩,by decide,rfl⟩
  · exact ⟨_,.tup [.int 5,.int 5,.int 997],rfl,⟨q2,_,rfl,k2,_,_,rfl,rfl,_,_,rfl,rfl,_,_,rfl,rfl,rfl⟩,by decide,rfl⟩
  · exact ⟨_,.lst [.int e.tg.1,.int e.tg.2.1,.int e.tg.2.2],rfl,⟨q3,_,rfl,trivial,k3,_,_,rfl,rfl,_,_,rfl,rfl,_,_,rfl,rfl,rfl⟩,rfl,rfl⟩
  · exact ⟨_,.tup [.int 5,.int 5,.bl true],rfl,⟨q4,_,rfl,k4,_,_,rfl,rfl,_,_,rfl,rfl,_,_,rfl,rfl,rfl⟩,by decide,rfl⟩
  · exact ⟨_,.tup [.int 5,.int (-1),.int 5],rfl,⟨q5,_,rfl,k5,_,_,rfl,rfl,_,_,rfl,rfl,_,_,rfl,rfl,rfl⟩,by decide,rfl⟩
  · exact ⟨_,.tup [.int e.tg.1,.int e.tg.2.1,.int e.tg.2.2,.int 1],rfl,⟨q7,_,rfl,k7,_,_,rfl,rfl,_,_,rfl,rfl,_,_,rfl,rfl,_,_,rfl,rfl,rfl⟩,rfl,rfl⟩
theorem sh_flat {n:Nat} {t:Tr} (f:flatT t = true) (h:sh 0 t = true):sh n t = true:=by
  cases t with
  | str z=>exact sh_str (of_decide_eq_true h)
  | tup _=>cases f
  | lst _=>cases f
  | _=>cases n <;> rfl
def sp__law_bad_name (K:PySem.W.Frag):Sp:=fun vs H Q _=>∃ (h r:Addr) (way:Int) (ag:Int) (k n:Addr) (ps:List (Addr×En)) (rs:List Int) (ks:List Str),vs = [.ref h,.ref r,.int way]∧HG ks H h ag k n ps∧ps≠[]∧(∀ z∈ks,nmL z)∧SqL K H r (rs.map V.int)∧2≤rs.length∧0≤way∧way < 15∧
  ∀ v t H',Same H H'→Nms0 ks H' v t→Q v H'
theorem ok__law_bad_name (T:Txt K mg) (F:Fun K "_law_bad_name" "_law_bad_name" s__law_bad_name f fd) (D__law_with:Def P w K mg base 1 "_law_with" ["_law_things","_law_at","_law_thing"] (sp__law_with K)):FnOk P w K mg base CX0 2 f fd ["_law_head_here","_law_row_here","_law_way"] (sp__law_bad_name K):=by
  refine F.ok sc__law_bad_name (fun vs H Q E h=>?_) (fun cdv A outer s H vs Q E hr h=>?_)
  · obtain ⟨h,r,way,ag,k,n,ps,rs,ks,rfl,_⟩:=h
    rfl
  obtain ⟨h,r,way,ag,k,n,ps,rs,ks,rfl,hg,ne,nks,hrs,lr,w0,w1,q⟩:=h
  have hu:=hu_of hr
  refine ⟨_,(@pss_cons _ _ _ _ _ (@ps_set _ _ (3) _ _ _ _ sc__law_bad_name.nd rfl (by first | exact Or.inl rfl | exact Or.inr rfl) (@pe_ix _ _ _ _ _ _ _ ix_tup (pv 0) (@pe_int _ _ _ _) (fun _ _=>rfl)) (by rfl) (by first | exact .inl rfl | exact .inr rfl | assumption)) (@pss_cons _ _ _ _ _ (@ps_set _ _ (4) _ _ _ _ sc__law_bad_name.nd rfl (by first | exact Or.inl rfl | exact Or.inr rfl) (@pe_op _ _ _ _ _ _ _ _ op_mod (@pe_ix _ _ _ _ _ _ _ ix_list (pv 1) (@pe_int _ _ _ _) (fun _ _=>rfl)) (@pe_callB _ _ _ _ _ _ _ _ _ call_len_seq (by rfl) T.b_len bt_len (@pa_cons _ _ _ _ _ (pv 3) (@pa_nil _) (by rfl)) (by decide) (by decide) (by rfl) (by rfl))) (by rfl) (by first | exact .inl rfl | exact .inr rfl | assumption)) (@pss_cons _ _ _ _ _ (@ps_set _ _ (5) _ _ _ _ sc__law_bad_name.nd rfl (by first | exact Or.inl rfl | exact Or.inr rfl) (@pe_ix _ _ _ _ _ _ _ ix_tup (pv 3) (pv 4) (fun _ _=>rfl)) (by rfl) (by first | exact .inl rfl | exact .inr rfl | assumption)) (@pss_cons _ _ _ _ _ (@ps_set _ _ (6) _ _ _ _ sc__law_bad_name.nd rfl (by first | exact Or.inl rfl | exact Or.inr rfl) (@pe_ix _ _ _ _ _ _ _ ix_tup (pv 5) (@pe_int _ _ _ _) (fun _ _=>rfl)) (by rfl) (by first | exact .inl rfl | exact .inr rfl | assumption)) (@pss_cons _ _ _ _ _ (@ps_setC _ ["_law_other","_law_entry"] [none,some 5] (7) _ _ _ _ _ _ _ _ _ _ _ _ _ _ sc__law_bad_name.nd rfl (by first | exact Or.inl rfl | exact Or.inr rfl) rfl (@pi_tup _ _ _ _ (pv 3)) (by rfl) rfl (by repeat (first | exact trivial | refine ⟨rfl,?_⟩)) (by repeat (first | exact trivial | refine ⟨fun h=>(by first | exact ⟨_,rfl⟩ | cases h),?_⟩)) (fun C s H fp=>⟨(@pg_name _ _ (0) _ (show (["_law_other","_law_entry"]:List Str).Nodup by decide +kernel) rfl (by first | exact Or.inl rfl | exact Or.inr rfl) (by first | exact .inl rfl | exact .inr rfl | assumption)),(@pifs_one _ _ _ (@pt_cmpR _ _ _ _ _ _ _ _ op_eq (@pe_ix _ _ _ _ _ _ _ (ix_tupK (K:=K) (by rfl)) (pv 0) (@pe_int _ _ _ _) (fun _ _=>rfl)) (@pe_ix _ _ _ _ _ _ _ (ix_tupK (K:=K) (by rfl)) (pv 1) (@pe_int _ _ _ _) (fun _ _=>rfl)) (nomark _))),(@pe_ix _ _ _ _ _ _ _ (ix_tupK (K:=K) (by rfl)) (pv 0) (@pe_int _ _ _ _) (fun _ _=>rfl))⟩) (by intro _; rfl) (by rfl) (by first | exact .inl rfl | exact .inr rfl | assumption)) (@pss_cons _ _ _ _ _ (@ps_if _ _ _ _ _ _ _ _ (@pt_cmpR _ _ _ _ _ _ _ _ op_lt (pv 2) (@pe_int _ _ _ _) (nomark _)) (@pss_cons _ _ _ _ _ (@ps_set _ _ (8) _ _ _ _ sc__law_bad_name.nd rfl (by first | exact Or.inl rfl | exact Or.inr rfl) (@pe_ix _ _ _ _ _ _ _ ix_list (@pe_lst _ _ _ _ (@pa_cons _ _ _ _ _ (@pe_tup _ _ _ _ _ (@pa_cons _ _ _ _ _ (@pe_int _ _ _ _) (@pa_cons _ _ _ _ _ (@pe_int _ _ _ _) (@pa_cons _ _ _ _ _ (@pe_int _ _ _ _) (@pa_nil _) (by rfl)) (by rfl)) (by rfl))) (@pa_cons _ _ _ _ _ (@pe_tup _ _ _ _ _ (@pa_cons _ _ _ _ _ (@pe_int _ _ _ _) (@pa_cons _ _ _ _ _ (@pe_int _ _ _ _) (@pa_cons _ _ _ _ _ (@pe_int _ _ _ _) (@pa_nil _) (by rfl)) (by rfl)) (by rfl))) (@pa_cons _ _ _ _ _ (@pe_callTy _ _ _ _ _ _ _ _ _ call_list_of (by rfl) T.b_list bt_list (@pa_cons _ _ _ _ _ (pv 6) (@pa_nil _) (by rfl)) (by decide) (by decide) (by rfl) (by rfl)) (@pa_cons _ _ _ _ _ (@pe_tup _ _ _ _ _ (@pa_cons _ _ _ _ _ (@pe_int _ _ _ _) (@pa_cons _ _ _ _ _ (@pe_int _ _ _ _) (@pa_cons _ _ _ _ _ (@pe_bl _ _ _ _) (@pa_nil _) (by rfl)) (by rfl)) (by rfl))) (@pa_cons _ _ _ _ _ (@pe_tup _ _ _ _ _ (@pa_cons _ _ _ _ _ (@pe_int _ _ _ _) (@pa_cons _ _ _ _ _ (@pe_un _ _ _ _ _ _ un_neg (@pe_int _ _ _ _)) (@pa_cons _ _ _ _ _ (@pe_int _ _ _ _) (@pa_nil _) (by rfl)) (by rfl)) (by rfl))) (@pa_cons _ _ _ _ _ (@pe_op _ _ _ _ _ _ _ _ op_catT3 (pv 6) (@pe_tup _ _ _ _ _ (@pa_cons _ _ _ _ _ (@pe_int _ _ _ _) (@pa_nil _) (by rfl)))) (@pa_nil _) (by rfl)) (by rfl)) (by rfl)) (by rfl)) (by rfl)) (by rfl))) (pv 2) (fun _ _=>rfl)) (by rfl) (by first | exact .inl rfl | exact .inr rfl | assumption)) (@pss_one _ _ _ (@ps_ret _ _ _ _ (@pe_fn _ _ _ _ _ _ _ _ _ _ D__law_with (hr.mono (by decide)) rfl (@pa_cons _ _ _ _ _ (pv 3) (@pa_cons _ _ _ _ _ (pv 4) (@pa_cons _ _ _ _ _ (@pe_op _ _ _ _ _ _ _ _ op_catT3 (@pe_slice _ _ _ _ _ _ _ _ _ _ sl_tup (pv 5) (@po_none _) (@po_some _ _ _ (@pe_int _ _ _ _))) (@pe_tup _ _ _ _ _ (@pa_cons _ _ _ _ _ (pv 8) (@pa_nil _) (by rfl)))) (@pa_nil _) (by rfl)) (by rfl)) (by rfl)) (by decide) (by rfl) (by rfl))))) (@pss_nil _)) (@pss_cons _ _ _ _ _ (@ps_if _ _ _ _ _ _ _ _ (@pt_cmpR _ _ _ _ _ _ _ _ op_lt (pv 2) (@pe_int _ _ _ _) (nomark _)) (@pss_one _ _ _ (@ps_ret _ _ _ _ (@pe_fn _ _ _ _ _ _ _ _ _ _ D__law_with (hr.mono (by decide)) rfl (@pa_cons _ _ _ _ _ (pv 3) (@pa_cons _ _ _ _ _ (pv 4) (@pa_cons _ _ _ _ _ (@pe_op _ _ _ _ _ _ _ _ op_catT3 (@pe_tup _ _ _ _ _ (@pa_cons _ _ _ _ _ (@pe_ix _ _ _ _ _ _ _ ix_tup (pv 5) (@pe_int _ _ _ _) (fun _ _=>rfl)) (@pa_cons _ _ _ _ _ (@pe_ix _ _ _ _ _ _ _ ix_list (@pe_lst _ _ _ _ (@pa_cons _ _ _ _ _ (@pe_int _ _ _ _) (@pa_cons _ _ _ _ _ (@pe_int _ _ _ _) (@pa_cons _ _ _ _ _ (@pe_bl _ _ _ _) (@pa_nil _) (by rfl)) (by rfl)) (by rfl))) (@pe_op _ _ _ _ _ _ _ _ op_sub (pv 2) (@pe_int _ _ _ _)) (fun _ _=>rfl)) (@pa_nil _) (by rfl)) (by rfl))) (@pe_slice _ _ _ _ _ _ _ _ _ _ sl_tup (pv 5) (@po_some _ _ _ (@pe_int _ _ _ _)) (@po_none _))) (@pa_nil _) (by rfl)) (by rfl)) (by rfl)) (by decide) (by rfl) (by rfl)))) (@pss_nil _)) (@pss_cons _ _ _ _ _ (@ps_if _ _ _ _ _ _ _ _ (@pt_cmpR _ _ _ _ _ _ _ _ op_eq (pv 2) (@pe_int _ _ _ _) (nomark _)) (@pss_one _ _ _ (@ps_ret _ _ _ _ (@pe_fn _ _ _ _ _ _ _ _ _ _ D__law_with (hr.mono (by decide)) rfl (@pa_cons _ _ _ _ _ (pv 3) (@pa_cons _ _ _ _ _ (pv 4) (@pa_cons _ _ _ _ _ (@pe_op _ _ _ _ _ _ _ _ op_catT3 (@pe_op _ _ _ _ _ _ _ _ op_catT3 (@pe_slice _ _ _ _ _ _ _ _ _ _ sl_tup (pv 5) (@po_none _) (@po_some _ _ _ (@pe_int _ _ _ _))) (@pe_tup _ _ _ _ _ (@pa_cons _ _ _ _ _ (@pe_str _ _ _ _) (@pa_nil _) (by rfl)))) (@pe_slice _ _ _ _ _ _ _ _ _ _ sl_tup (pv 5) (@po_some _ _ _ (@pe_int _ _ _ _)) (@po_none _))) (@pa_nil _) (by rfl)) (by rfl)) (by rfl)) (by decide) (by rfl) (by rfl)))) (@pss_nil _)) (@pss_cons _ _ _ _ _ (@ps_if _ _ _ _ _ _ _ _ (@PW.pt _ _ _ (@pw_and _ _ _ _ _ _ _ (@pt_cmpR _ _ _ _ _ _ _ _ op_eq (pv 2) (@pe_int _ _ _ _) (nomark _)) (@pw_and1 _ _ _ _ (@pt_cmpR _ _ _ _ _ _ _ _ op_eq (@pe_ix _ _ _ _ _ _ _ ix_tup (pv 5) (@pe_int _ _ _ _) (fun _ _=>rfl)) (@pe_int _ _ _ _) (nomark _))))) (@pss_one _ _ _ (@ps_ret _ _ _ _ (@pe_fn _ _ _ _ _ _ _ _ _ _ D__law_with (hr.mono (by decide)) rfl (@pa_cons _ _ _ _ _ (pv 3) (@pa_cons _ _ _ _ _ (pv 4) (@pa_cons _ _ _ _ _ (@pe_op _ _ _ _ _ _ _ _ op_catT3 (@pe_slice _ _ _ _ _ _ _ _ _ _ sl_tup (pv 5) (@po_none _) (@po_some _ _ _ (@pe_int _ _ _ _))) (@pe_tup _ _ _ _ _ (@pa_cons _ _ _ _ _ (@pe_ix _ _ _ _ _ _ _ ix_list (@pe_op _ _ _ _ _ _ _ _ op_catS (@pe_lst _ _ _ _ (@pa_cons _ _ _ _ _ (@pe_str _ _ _ _) (@pa_cons _ _ _ _ _ (@pe_int _ _ _ _) (@pa_cons _ _ _ _ _ (@pe_non _ _ _) (@pa_nil _) (by rfl)) (by rfl)) (by rfl))) (pv 7)) (@pe_op _ _ _ _ _ _ _ _ op_mod (@pe_ix _ _ _ _ _ _ _ ix_list (pv 1) (@pe_int _ _ _ _) (fun _ _=>rfl)) (@pe_op _ _ _ _ _ _ _ _ op_add (@pe_int _ _ _ _) (@pe_callB _ _ _ _ _ _ _ _ _ call_len_seq (by rfl) T.b_len bt_len (@pa_cons _ _ _ _ _ (pv 7) (@pa_nil _) (by rfl)) (by decide) (by decide) (by rfl) (by rfl)))) (fun _ _=>rfl)) (@pa_cons _ _ _ _ _ (pv 6) (@pa_nil _) (by rfl)) (by rfl)))) (@pa_nil _) (by rfl)) (by rfl)) (by rfl)) (by decide) (by rfl) (by rfl)))) (@pss_nil _)) (@pss_cons _ _ _ _ _ (@ps_if _ _ _ _ _ _ _ _ (@pt_cmpR _ _ _ _ _ _ _ _ op_eq (pv 2) (@pe_int _ _ _ _) (nomark _)) (@pss_one _ _ _ (@ps_ret _ _ _ _ (@pe_fn _ _ _ _ _ _ _ _ _ _ D__law_with (hr.mono (by decide)) rfl (@pa_cons _ _ _ _ _ (pv 3) (@pa_cons _ _ _ _ _ (pv 4) (@pa_cons _ _ _ _ _ (@pe_op _ _ _ _ _ _ _ _ op_catT3 (@pe_slice _ _ _ _ _ _ _ _ _ _ sl_tup (pv 5) (@po_none _) (@po_some _ _ _ (@pe_int _ _ _ _))) (@pe_tup _ _ _ _ _ (@pa_cons _ _ _ _ _ (@pe_ix _ _ _ _ _ _ _ ix_list (@pe_lst _ _ _ _ (@pa_cons _ _ _ _ _ (@pe_int _ _ _ _) (@pa_cons _ _ _ _ _ (@pe_un _ _ _ _ _ _ un_neg (@pe_int _ _ _ _)) (@pa_cons _ _ _ _ _ (@pe_op _ _ _ _ _ _ _ _ op_pow (@pe_int _ _ _ _) (@pe_int _ _ _ _)) (@pa_cons _ _ _ _ _ (@pe_bl _ _ _ _) (@pa_cons _ _ _ _ _ (@pe_str _ _ _ _) (@pa_nil _) (by rfl)) (by rfl)) (by rfl)) (by rfl)) (by rfl))) (@pe_op _ _ _ _ _ _ _ _ op_mod (@pe_ix _ _ _ _ _ _ _ ix_list (pv 1) (@pe_int _ _ _ _) (fun _ _=>rfl)) (@pe_int _ _ _ _)) (fun _ _=>rfl)) (@pa_cons _ _ _ _ _ (pv 6) (@pa_nil _) (by rfl)) (by rfl)))) (@pa_nil _) (by rfl)) (by rfl)) (by rfl)) (by decide) (by rfl) (by rfl)))) (@pss_nil _)) (@pss_cons _ _ _ _ _ (@ps_if _ _ _ _ _ _ _ _ (@pt_cmpR _ _ _ _ _ _ _ _ op_eq (pv 2) (@pe_int _ _ _ _) (nomark _)) (@pss_one _ _ _ (@ps_ret _ _ _ _ (@pe_op _ _ _ _ _ _ _ _ op_catT3 (@pe_op _ _ _ _ _ _ _ _ op_catT3 (@pe_slice _ _ _ _ _ _ _ _ _ _ sl_tup (pv 3) (@po_none _) (@po_some _ _ _ (pv 4))) (@pe_tup _ _ _ _ _ (@pa_cons _ _ _ _ _ (pv 5) (@pa_nil _) (by rfl)))) (@pe_slice _ _ _ _ _ _ _ _ _ _ sl_tupW (pv 3) (@po_some _ _ _ (pv 4)) (@po_none _))))) (@pss_nil _)) (@pss_cons _ _ _ _ _ (@ps_if _ _ _ _ _ _ _ _ (@pt_cmpR _ _ _ _ _ _ _ _ op_eq (pv 2) (@pe_int _ _ _ _) (nomark _)) (@pss_one _ _ _ (@ps_ret _ _ _ _ (@pe_fn _ _ _ _ _ _ _ _ _ _ D__law_with (hr.mono (by decide)) rfl (@pa_cons _ _ _ _ _ (pv 3) (@pa_cons _ _ _ _ _ (pv 4) (@pa_cons _ _ _ _ _ (@pe_op _ _ _ _ _ _ _ _ op_catT3 (@pe_tup _ _ _ _ _ (@pa_cons _ _ _ _ _ (@pe_ix _ _ _ _ _ _ _ ix_tup (@pe_tup _ _ _ _ _ (@pa_cons _ _ _ _ _ (@pe_op _ _ _ _ _ _ _ _ op_add_str (@pe_ix _ _ _ _ _ _ _ ix_tup (pv 5) (@pe_int _ _ _ _) (fun _ _=>rfl)) (@pe_str _ _ _ _)) (@pa_cons _ _ _ _ _ (@pe_str _ _ _ _) (@pa_cons _ _ _ _ _ (@pe_op _ _ _ _ _ _ _ _ op_add_str (@pe_ix _ _ _ _ _ _ _ ix_tup (pv 5) (@pe_int _ _ _ _) (fun _ _=>rfl)) (@pe_str _ _ _ _)) (@pa_cons _ _ _ _ _ (@pe_int _ _ _ _) (@pa_nil _) (by rfl)) (by rfl)) (by rfl)) (by rfl))) (@pe_op _ _ _ _ _ _ _ _ op_mod (@pe_ix _ _ _ _ _ _ _ ix_list (pv 1) (@pe_int _ _ _ _) (fun _ _=>rfl)) (@pe_int _ _ _ _)) (fun _ _=>rfl)) (@pa_nil _) (by rfl))) (@pe_slice _ _ _ _ _ _ _ _ _ _ sl_tup (pv 5) (@po_some _ _ _ (@pe_int _ _ _ _)) (@po_none _))) (@pa_nil _) (by rfl)) (by rfl)) (by rfl)) (by decide) (by rfl) (by rfl)))) (@pss_nil _)) (@pss_cons _ _ _ _ _ (@ps_if _ _ _ _ _ _ _ _ (@pt_cmpR _ _ _ _ _ _ _ _ op_eq (pv 2) (@pe_int _ _ _ _) (nomark _)) (@pss_one _ _ _ (@ps_ret _ _ _ _ (@pe_op _ _ _ _ _ _ _ _ op_catT3 (@pe_op _ _ _ _ _ _ _ _ op_catT3 (@pe_slice _ _ _ _ _ _ _ _ _ _ sl_tup (pv 3) (@po_none _) (@po_some _ _ _ (pv 4))) (@pe_tup _ _ _ _ _ (@pa_cons _ _ _ _ _ (@pe_callTy _ _ _ _ _ _ _ _ _ call_list_of (by rfl) T.b_list bt_list (@pa_cons _ _ _ _ _ (pv 5) (@pa_nil _) (by rfl)) (by decide) (by decide) (by rfl) (by rfl)) (@pa_nil _) (by rfl)))) (@pe_slice _ _ _ _ _ _ _ _ _ _ sl_tup (pv 3) (@po_some _ _ _ (@pe_op _ _ _ _ _ _ _ _ op_add (pv 4) (@pe_int _ _ _ _))) (@po_none _))))) (@pss_nil _)) (@pss_one _ _ _ (@ps_ret _ _ _ _ (@pe_fn _ _ _ _ _ _ _ _ _ _ D__law_with (hr.mono (by decide)) rfl (@pa_cons _ _ _ _ _ (pv 3) (@pa_cons _ _ _ _ _ (pv 4) (@pa_cons _ _ _ _ _ (@pe_slice _ _ _ _ _ _ _ _ _ _ sl_tup (pv 5) (@po_none _) (@po_some _ _ _ (@pe_int _ _ _ _))) (@pa_nil _) (by rfl)) (by rfl)) (by rfl)) (by decide) (by rfl) (by rfl))))))))))))))))),?_⟩
  try dsimp only [cxOf,Cx.nox,Cx.wish]
  have pp:=List.length_pos_iff.mpr ne
  refine ⟨_,rfl,h,_,_,_,rfl,rfl,SqT.of hg.at_,atI_nat (j:=2) rfl,?_⟩
  have x0:∃ y0,atI (rs.map V.int) 0 = some (.int y0):=⟨_,at_int (by decide) (by omega)⟩
  have x1:∃ y1,atI (rs.map V.int) 1 = some (.int y1):=⟨_,at_int (by decide) (by omega)⟩
  obtain ⟨y0,X0⟩:=x0
  obtain ⟨y1,X1⟩:=x1
  refine ⟨_,rfl,r,_,_,_,rfl,rfl,hrs,X0,_,rfl,n,_,rfl,.inr (SqT.of hg.nm),_,_,rfl,rfl,(by show (0:Int) < ((ps.map fun p=>V.ref p.1).length:Int); rw [List.length_map]; omega),?_⟩
  dsimp only [gName]
  rw [List.length_map]
  have a0:=Int.emod_nonneg y0 (show (ps.length:Int)≠0 by omega)
  have a1:=Int.emod_lt_of_pos y0 (show (0:Int) < (ps.length:Int) by omega)
  obtain ⟨i,hi⟩:∃ i:Nat,y0 % (ps.length:Int) = (i:Int):=⟨_,(Int.toNat_of_nonneg a0).symm⟩
  rw [hi] at a1 ⊢
  have il:i < ps.length:=by omega
  obtain ⟨⟨ea,e⟩,gi⟩:∃ p,ps[i]? = some p:=⟨_,List.getElem?_eq_getElem il⟩
  have pm:=List.mem_of_getElem? gi
  have em:e∈ps.map (·.2):=List.mem_map.mpr ⟨_,pm,rfl⟩
  have eok:=hg.ok e em
  obtain ⟨ta,ht,ha⟩:=hg.en _ pm
  refine ⟨_,rfl,_,rfl,n,_,_,_,rfl,rfl,SqT.of hg.nm,atI_nat (j:=i) (by rw [List.getElem?_map,gi]; rfl),?_⟩
  have t4:(e.items ta)[4]? = some (.ref ta):=by cases e <;> rfl
  have t1:(e.items ta)[1]? = some (.int e.kd):=by cases e <;> rfl
  refine ⟨_,rfl,ea,_,_,_,rfl,rfl,SqT.of ha,atI_nat (j:=4) t4,?_⟩
  refine ⟨_,rfl,n,rfl,⟨_,SqT.of hg.nm⟩,?_⟩
  refine comp_selF (ps:=ps) (g:=fun p=>V.ref p.1) (fun p=>decide (p.2.kd = e.kd)) (fun p=>V.str p.2.nm) (itIs_tup hg.nm) (by have:=hg.few; omega) (fun p hp H' R s' hR=>?_) (fun p hp hs H' R s' hR=>?_) fun lg H1 n1 s1 h1=>?_
  · obtain ⟨a',e'⟩:=p
    obtain ⟨ta',_,ha'⟩:=hg.en _ hp
    refine ⟨_,rfl,a',_,_,_,rfl,rfl,SqT.of (s'.get ha'),atI_nat (j:=1) (v:=.int e'.kd) (by cases e' <;> rfl),_,rfl,ea,_,_,_,rfl,rfl,SqT.of (s'.get ha),atI_nat (j:=1) t1,rfl,_,rfl,?_⟩
    have ee:decide (V.int e'.kd = V.int e.kd) = decide (e'.kd = e.kd):=by
      by_cases z:e'.kd = e.kd
      · rw [decide_eq_true z,decide_eq_true (by rw [z])]
      · rw [decide_eq_false z,decide_eq_false fun y=>z (V.int.inj y)]
    rw [ee]
    exact hR
  · obtain ⟨rr,hrr⟩:=(hg.en p hp).fst
    exact ⟨_,rfl,p.1,_,_,_,rfl,rfl,SqT.of (s'.get hrr),atI_nat (j:=0) rfl,hR H' (Same.refl _)⟩
  have hg1:=hg.same s1
  have l24:=hg.few
  have fin:∀ (H3:Hp) (v:V) (t:Tr),Same H1 H3→Rep AllF H3 t v→sh 2 t = true→thirdOk t = true→BadN ks (.tup (((ps.map (·.2)).map enT).set i t))→sp__law_with K [.ref n,.int (i:Int),v] H3 Q E0:=fun H3 v t s3 r hs th bd=>
    ⟨n,_,i,v,rfl,s3.get hg1.nm,by rw [List.length_map]; exact il,by rw [List.length_map]; omega,fun b' H4 s4 hb=>q _ _ H4 ((s1.trans s3).trans s4) (Nms0.set ((hg1.same (s3.trans s4)).en) hg.ok hb (Rep.same s4 _ _ r) hs th bd)⟩
  have inset:∀ t:Tr,t∈((ps.map (·.2)).map enT).set i t:=fun t=>mem_set_of (by rw [List.length_map,List.length_map]; exact il)
  have ha1:=s1.get ha
  have ht1:=s1.get ht
  have hrs1:SqL K H1 r (rs.map V.int):=s1.seq hrs
  obtain ⟨b0,b2,b3,ei,et⟩:∃ (z:Str) (c:Str) (o:V),e.items ta = [.str z,.int e.kd,.str c,o,.ref ta]∧∃ ot,Rep AllF H1 ot o∧flatT ot = true∧sh 0 ot = true∧enT e = .tup [.str z,.int e.kd,.str c,ot,tgT e.tg]∧nmL z∧nmL c:=by
    cases e with
    | st nm kp og t=>
      refine ⟨nm,kp,.str og,rfl,.str og,rfl,rfl,?_,rfl,eok.1,eok.2.1⟩
      rcases eok.2.2.2.1 with rfl | h
      · decide +kernel
      · exact sh_str (by have:=h.len; omega)
    | sl nm sm tn t=>exact ⟨nm,sm,.int tn,rfl,.int tn,rfl,rfl,rfl,rfl,eok.1,eok.2.1⟩
  obtain ⟨ot,rot,fot,sot,eT,nz,nc⟩:=et
  have ha1:H1 ea = some (.tup [.str b0,.int e.kd,.str b2,b3,.ref ta]):=by rw [← ei]; exact ha1
  dsimp only [gName]
  refine ⟨_,rfl,_,_,rfl,rfl,_,rfl,ite2 (fun c6=>?_) (fun c6=>?_)⟩
  · have c6:=of_decide_eq_true c6
    refine ⟨small (by show 3≤1000000; decide),fun q1 nq1=>?_⟩
    have s2:=same_new nq1 (.tup [V.int 0,V.int 5,V.int 7])
    have g1:(upd H1 q1 (.tup [V.int 0,V.int 5,V.int 7])) q1 = some (.tup [V.int 0,V.int 5,V.int 7]):=upd_same
    generalize upd H1 q1 (.tup [V.int 0,V.int 5,V.int 7]) = H2 at s2 g1
    refine ⟨small (by show 3≤1000000; decide),fun q2 nq2=>?_⟩
    have s3:=same_new nq2 (.tup [V.int 5,V.int 5,V.int 997])
    have g2:(upd H2 q2 (.tup [V.int 5,V.int 5,V.int 997])) q2 = some (.tup [V.int 5,V.int 5,V.int 997]):=upd_same
    generalize upd H2 q2 (.tup [V.int 5,V.int 5,V.int 997]) = H3 at s3 g2
    have s13:=s2.trans s3
    refine ⟨_,rfl,ta,_,rfl,.inr (SqT.of (s13.get ht1)),fun q3 nq3=>?_⟩
    have s4:=same_new nq3 (.lst (tgV e.tg))
    have g3:(upd H3 q3 (.lst (tgV e.tg))) q3 = some (.lst (tgV e.tg)):=upd_same
    change tTup _ _ (upd H3 q3 (.lst (tgV e.tg))) _
    generalize upd H3 q3 (.lst (tgV e.tg)) = H4 at s4 g3
    refine ⟨small (by show 3≤1000000; decide),fun q4 nq4=>?_⟩
    have s5:=same_new nq4 (.tup [V.int 5,V.int 5,V.bl true])
    have g4:(upd H4 q4 (.tup [V.int 5,V.int 5,V.bl true])) q4 = some (.tup [V.int 5,V.int 5,V.bl true]):=upd_same
    generalize upd H4 q4 (.tup [V.int 5,V.int 5,V.bl true]) = H5 at s5 g4
    refine ⟨_,rfl,small (by show 3≤1000000; decide),fun q5 nq5=>?_⟩
    have s6:=same_new nq5 (.tup [V.int 5,V.int (-1),V.int 5])
    have g5:(upd H5 q5 (.tup [V.int 5,V.int (-1),V.int 5])) q5 = some (.tup [V.int 5,V.int (-1),V.int 5]):=upd_same
    have s15:=((s13.trans s4).trans s5).trans s6
    refine ⟨_,rfl,small (by show 1≤1000000; decide),fun q6 nq6=>?_⟩
    have s7:=same_new nq6 (.tup [V.int 1])
    have s16:=s15.trans s7
    refine ⟨ta,q6,_,_,rfl,rfl,SqT.of (s16.get ht1),SqT.of upd_same,small (by show 4≤1000000; decide),(fun z=>by cases z),(fun _ z=>by cases z),fun _ _ q7 nq7=>?_⟩
    have s8:=same_new nq7 (.tup (tgV e.tg ++ [V.int 1]))
    have s17:=s16.trans s8
    refine ⟨small (by show 6≤1000000; decide),fun L nL=>?_⟩
    have s9:=same_new nL (.lst [V.ref q1,V.ref q2,V.ref q3,V.ref q4,V.ref q5,V.ref q7])
    have s18:=s17.trans s9
    have k1:=(((((s3.trans s4).trans s5).trans s6).trans s7).trans s8).trans s9 |>.get g1
    have k2:=((((s4.trans s5).trans s6).trans s7).trans s8).trans s9 |>.get g2
    have k3:=(((s5.trans s6).trans s7).trans s8).trans s9 |>.get g3
    have k4:=((s6.trans s7).trans s8).trans s9 |>.get g4
    have k5:=(s7.trans s8).trans s9 |>.get g5
    have k7:=s9.get (show (upd _ q7 (.tup (tgV e.tg ++ [V.int 1]))) q7 = some (.tup (tgV e.tg ++ [V.int 1])) from upd_same)
    have hL:(upd _ L (.lst [V.ref q1,V.ref q2,V.ref q3,V.ref q4,V.ref q5,V.ref q7])) L = some (.lst [V.ref q1,V.ref q2,V.ref q3,V.ref q4,V.ref q5,V.ref q7]):=upd_same (H:=upd (upd (upd H5 q5 (.tup [V.int 5,V.int (-1),V.int 5])) q6 (.tup [V.int 1])) q7 (.tup (tgV e.tg ++ [V.int 1])))
    obtain ⟨bv,bt,AT,rb,tb,sb⟩:=six_tags (e:=e) w0 c6 k1 k2 k3 k4 k5 k7
    refine ⟨_,rfl,L,_,_,_,rfl,rfl,SqL.of hL,AT,?_⟩
    dsimp only [gName]
    refine ⟨_,rfl,_,rfl,_,rfl,_,rfl,ea,_,rfl,SqT.of (s18.get ha1),(fun z=>absurd z.2 (show ¬ (HT.sIx 5 5 (some 4) = 5) by decide)),fun p1 np1=>?_⟩
    rw [cut_hi (by decide)]
    have t1':=same_new np1 (.tup [V.str b0,V.int e.kd,V.str b2,b3])
    refine ⟨_,rfl,small (by show 1≤1000000; decide),fun p2 np2=>?_⟩
    have t2':=same_new np2 (.tup [bv])
    refine ⟨p1,p2,[V.str b0,V.int e.kd,V.str b2,b3],_,rfl,rfl,SqT.of (t2'.get upd_same),SqT.of upd_same,small (by show 5≤1000000; decide),(fun z=>by cases z),(fun _ z=>by cases z),fun _ _ p3 np3=>?_⟩
    have t3':=same_new np3 (.tup ([V.str b0,V.int e.kd,V.str b2,b3] ++ [bv]))
    have t13:=(t1'.trans t2').trans t3'
    refine fin _ _ (.tup [.str b0,.int e.kd,.str b2,ot,bt]) (s18.trans t13) ⟨p3,_,rfl,upd_same,_,_,rfl,rfl,_,_,rfl,rfl,_,_,rfl,rfl,_,_,rfl,Rep.same (s18.trans t13) _ _ rot,_,_,rfl,Rep.same t13 _ _ rb,rfl⟩ ?_ ?_ ?_
    · refine List.all_eq_true.mpr fun x hx=>?_
      simp only [List.mem_cons,List.not_mem_nil,or_false] at hx
      rcases hx with rfl | rfl | rfl | rfl | rfl
      · exact sh_str (by have:=nz.len; omega)
      · exact sh_int _ _
      · exact sh_str (by have:=nc.len; omega)
      · exact sh_flat fot sot
      · exact sb
    · cases e <;> first | exact fot | rfl
    · exact bad_one (inset _) (bad_tag tb).1 (bad_tag tb).2
  have c6:¬ way < 6:=fun z=>c6 (decide_eq_true z)
  have parts:∀ {H3:Hp},Same H1 H3→∀ {kt tt:Tr} {kv tv:V},Rep AllF H3 kt kv→Rep AllF H3 tt tv→∀ {p3:Addr},H3 p3 = some (.tup [V.str b0,kv,tv,b3,.ref ta])→Rep AllF H3 (.tup [.str b0,kt,tt,ot,tgT e.tg]) (.ref p3):=fun s3 _ _ _ _ rk rt p3 h3=>
    ⟨p3,_,rfl,h3,_,_,rfl,rfl,_,_,rfl,rk,_,_,rfl,rt,_,_,rfl,Rep.same s3 _ _ rot,_,_,rfl,tg_rep (s3.get ht1),rfl⟩
  have shp:∀ {kt tt:Tr},sh 1 kt = true→sh 1 tt = true→sh 2 (.tup [.str b0,kt,tt,ot,tgT e.tg]) = true:=fun {kt tt} k1 k2=>by
    refine List.all_eq_true.mpr fun x hx=>?_
    simp only [List.mem_cons,List.not_mem_nil,or_false] at hx
    rcases hx with rfl | rfl | rfl | rfl | rfl
    · exact sh_str (by have:=nz.len; omega)
    · exact k1
    · exact k2
    · exact sh_flat fot sot
    · exact sh_tg _ _
  refine ⟨_,rfl,_,_,rfl,rfl,_,rfl,ite2 (fun c9=>?_) (fun c9=>?_)⟩
  · have c9:=of_decide_eq_true c9
    refine ⟨_,rfl,_,rfl,_,rfl,ea,_,_,_,rfl,rfl,SqT.of ha1,atI_nat (j:=0) rfl,small (by show 3≤1000000; decide),fun L nL=>?_⟩
    have s2:=same_new nL (.lst [V.int 0,V.int 3,V.bl true])
    obtain ⟨kv,kt,AT,rk,kb1,kb2,ks1,kth⟩:∃ kv kt,atI [V.int 0,V.int 3,V.bl true] (way - 6) = some kv∧(∀ H3:Hp,Rep AllF H3 kt kv)∧sB 1 1 kt = false∧sB 2 2 kt = false∧sh 1 kt = true∧kt≠.int 1:=by
      have:way - 6 = 0∨way - 6 = 1∨way - 6 = 2:=by omega
      rcases this with e | e | e <;> rw [e]
      · exact ⟨_,.int 0,rfl,fun _=>rfl,by decide,by decide,rfl,by intro z; cases z⟩
      · exact ⟨_,.int 3,rfl,fun _=>rfl,by decide,by decide,rfl,by intro z; cases z⟩
      · exact ⟨_,.bl true,rfl,fun _=>rfl,rfl,rfl,rfl,by intro z; cases z⟩
    refine ⟨_,rfl,_,_,rfl,rfl,L,_,_,_,rfl,rfl,SqL.of upd_same,AT,small (by show 2≤1000000; decide),fun p1 np1=>?_⟩
    have s3:=same_new np1 (.tup [V.str b0,kv])
    have s13:=s2.trans s3
    refine ⟨_,rfl,_,rfl,ea,_,rfl,SqT.of (s13.get ha1),(fun z=>absurd z.1 (show ¬ (HT.sIx 5 0 (some 2) = 0) by decide)),fun p2 np2=>?_⟩
    rw [cut_lo (by decide)]
    have s4:=same_new np2 (.tup [V.str b2,b3,V.ref ta])
    refine ⟨p1,p2,_,[V.str b2,b3,V.ref ta],rfl,rfl,SqT.of (s4.get upd_same),SqT.of upd_same,small (by show 5≤1000000; decide),(fun z=>by cases z),(fun _ z=>by cases z),fun _ _ p3 np3=>?_⟩
    have s5:=same_new np3 (.tup ([V.str b0,kv] ++ [V.str b2,b3,V.ref ta]))
    have s15:=(s13.trans s4).trans s5
    refine fin _ _ (.tup [.str b0,kt,.str b2,ot,tgT e.tg]) s15 (parts (tt:=.str b2) (tv:=.str b2) s15 (rk _) rfl upd_same) (shp ks1 (sh_str (by have:=nc.len; omega))) ?_ (bad_one (inset _) (bad_kind kb1 kb2).1 (bad_kind kb1 kb2).2)
    unfold thirdOk
    split
    · rename_i heq
      injection heq with heq
      injection heq with _ heq
      injection heq with heq _
      exact absurd heq kth
    · rfl
  have c9:¬ way < 9:=fun z=>c9 (decide_eq_true z)
  have sete:∀ e':En,((ps.map (·.2)).map enT).set i (enT e') = ((ps.map (·.2)).set i e').map enT:=fun e'=>set_map enT _ i e'
  have deset:∀ e':En,((((ps.map (·.2)).map enT).set i (enT e')).map deT) = (ps.map (·.2)).set i e':=fun e'=>by
    rw [sete,List.map_map,show (deT∘enT) = id from funext de_en,List.map_id]
  have ine:∀ e':En,e'∈(ps.map (·.2)).set i e':=fun e'=>mem_set_of (by rw [List.length_map]; exact il)
  have insub:∀ {e' x:En},x∈(ps.map (·.2)).set i e'→x = e'∨x∈ps.map (·.2):=fun h=>(List.mem_or_eq_of_mem_set h).symm
  refine ⟨_,rfl,rfl,_,rfl,ite2 (fun d9=>?_) (fun d9=>?_)⟩
  ·
    refine ⟨_,rfl,_,rfl,_,rfl,_,rfl,ea,_,rfl,SqT.of ha1,(fun z=>absurd z.2 (show ¬ (HT.sIx 5 5 (some 2) = 5) by decide)),fun p1 np1=>?_⟩
    rw [cut_hi (by decide)]
    have s2:=same_new np1 (.tup [V.str b0,V.int e.kd])
    refine ⟨small (by show 1≤1000000; decide),fun p2 np2=>?_⟩
    have s3:=same_new np2 (.tup [V.str (PySem.Str.ofString "nothere")])
    refine ⟨p1,p2,[V.str b0,V.int e.kd],_,rfl,rfl,SqT.of (s3.get upd_same),SqT.of upd_same,small (by show 3≤1000000; decide),(fun z=>by cases z),(fun _ z=>by cases z),fun _ _ p3 np3=>?_⟩
    have s4:=same_new np3 (.tup ([V.str b0,V.int e.kd] ++ [V.str (PySem.Str.ofString "nothere")]))
    have s14:=(s2.trans s3).trans s4
    refine ⟨_,rfl,_,rfl,ea,_,rfl,SqT.of (s14.get ha1),(fun z=>absurd z.1 (show ¬ (HT.sIx 5 0 (some 3) = 0) by decide)),fun p4 np4=>?_⟩
    rw [cut_lo (by decide)]
    have s5:=same_new np4 (.tup [b3,V.ref ta])
    refine ⟨p3,p4,[V.str b0,V.int e.kd,V.str (PySem.Str.ofString "nothere")],[b3,V.ref ta],rfl,rfl,SqT.of (s5.get upd_same),SqT.of upd_same,small (by show 5≤1000000; decide),(fun z=>by cases z),(fun _ z=>by cases z),fun _ _ p5 np5=>?_⟩
    have s6:=same_new np5 (.tup ([V.str b0,V.int e.kd,V.str (PySem.Str.ofString "nothere")] ++ [b3,V.ref ta]))
    have s16:=(s14.trans s5).trans s6
    have rp:=parts (kt:=.int e.kd) (kv:=.int e.kd) (tt:=.str (PySem.Str.ofString "nothere")) (tv:=.str (PySem.Str.ofString "nothere")) s16 rfl rfl (p3:=p5) upd_same
    have sp:=shp (kt:=.int e.kd) (tt:=.str (PySem.Str.ofString "nothere")) (sh_int _ _) (sh_str (by decide +kernel))
    refine fin _ _ _ s16 rp sp ?_ ?_
    · cases e <;> first | exact fot | rfl
    · cases e with
      | st nm kp og t=>
        have eq:(Tr.tup [.str b0,.int (En.st nm kp og t).kd,.str (PySem.Str.ofString "nothere"),ot,tgT (En.st nm kp og t).tg]) = enT (.st nm (PySem.Str.ofString "nothere") og t):=by
          have e1:enT (.st nm kp og t) = .tup [.str nm,.int 1,.str kp,.str og,tgT t]:=rfl
          rw [e1] at eT
          cases eT
          rfl
        rw [eq]
        refine .inr ⟨_,rfl,fun z=>?_⟩
        rw [deset] at z
        exact nothere_no (nks _ (z.kp _ _ _ _ (ine _))) rfl
      | sl nm sm tn t=>
        have eq:(Tr.tup [.str b0,.int (En.sl nm sm tn t).kd,.str (PySem.Str.ofString "nothere"),ot,tgT (En.sl nm sm tn t).tg]) = enT (.sl nm (PySem.Str.ofString "nothere") tn t):=by
          have e1:enT (.sl nm sm tn t) = .tup [.str nm,.int 2,.str sm,.int tn,tgT t]:=rfl
          rw [e1] at eT
          cases eT
          rfl
        rw [eq]
        refine .inr ⟨_,rfl,fun z=>?_⟩
        rw [deset] at z
        obtain ⟨kp,og,t',g⟩:=z.stm _ _ _ _ (ine _)
        rcases insub g with g | g
        · cases g
        · exact nothere_no (hg.ok _ g).1 rfl
  have uniq:∀ {x y:En},x∈ps.map (·.2)→y∈ps.map (·.2)→x.nm = y.nm→x = y:=fun hx hy e=>by
    obtain ⟨a,ha⟩:=mem_en hx
    obtain ⟨b,hb⟩:=mem_en hy
    exact congrArg (·.2) (nd_inj (slt_nd hg.ri) ha hb e)
  refine ⟨_,rfl,rfl,_,rfl,ite2 (fun d10=>?_) (fun d10=>?_)⟩
  · refine ⟨_,rfl,ea,_,_,_,rfl,rfl,SqT.of ha1,atI_nat (j:=1) rfl,rfl,_,rfl,?_⟩
    cases e with
    | sl nm sm tn t=>
      refine iteFc rfl ?_
      refine ⟨_,rfl,rfl,_,rfl,iteTc d10 ?_⟩
      refine ⟨_,rfl,_,rfl,_,rfl,_,rfl,ea,_,rfl,SqT.of ha1,(fun z=>absurd z.2 (show ¬ (HT.sIx 5 5 (some 3) = 5) by decide)),fun p1 np1=>?_⟩
      rw [cut_hi (by decide)]
      have s2:=same_new np1 (.tup [V.str b0,V.int 2,V.str b2])
      refine ⟨_,rfl,_,_,rfl,rfl,⟨by decide,by decide,by decide⟩,small (by show 5≤1000000; decide),fun L nL=>?_⟩
      have s3:=same_new nL (.lst [V.int 0,V.int (-1),V.int (10 ^ (9:Int).toNat),V.bl true,V.str (PySem.Str.ofString "x")])
      have s13:=s2.trans s3
      obtain ⟨ov,o',AT,ro,bo,fo,so⟩:∃ ov o',atI [V.int 0,V.int (-1),V.int (10 ^ (9:Int).toNat),V.bl true,V.str (PySem.Str.ofString "x")] (y1 % 5) = some ov∧(∀ H3:Hp,Rep AllF H3 o' ov)∧sB 1 999999999 o' = false∧flatT o' = true∧sh 0 o' = true:=by
        have r0:=Int.emod_nonneg y1 (show (5:Int)≠0 by decide)
        have r1:=Int.emod_lt_of_pos y1 (show (0:Int) < 5 by decide)
        have:y1 % 5 = 0∨y1 % 5 = 1∨y1 % 5 = 2∨y1 % 5 = 3∨y1 % 5 = 4:=by omega
        rcases this with e | e | e | e | e <;> rw [e]
        · exact ⟨_,.int 0,rfl,fun _=>rfl,by decide,rfl,rfl⟩
        · exact ⟨_,.int (-1),rfl,fun _=>rfl,by decide,rfl,rfl⟩
        · exact ⟨_,.int (10 ^ (9:Int).toNat),rfl,fun _=>rfl,by decide,rfl,rfl⟩
        · exact ⟨_,.bl true,rfl,fun _=>rfl,rfl,rfl,rfl⟩
        · exact ⟨_,.str (PySem.Str.ofString "x"),rfl,fun _=>rfl,rfl,rfl,by decide +kernel⟩
      refine ⟨_,rfl,r,_,_,_,rfl,rfl,s13.seq hrs1,X1,_,_,rfl,rfl,(by show (0:Int) < 5; decide),L,_,_,_,rfl,rfl,SqL.of upd_same,AT,_,rfl,small (by show 2≤1000000; decide),fun p2 np2=>?_⟩
      have s5:=same_new np2 (.tup [ov,V.ref ta])
      refine ⟨p1,p2,[V.str b0,V.int 2,V.str b2],_,rfl,rfl,SqT.of (s5.get (s3.get upd_same)),SqT.of upd_same,small (by show 5≤1000000; decide),(fun z=>by cases z),(fun _ z=>by cases z),fun _ _ p3 np3=>?_⟩
      have s6:=same_new np3 (.tup ([V.str b0,V.int 2,V.str b2] ++ [ov,V.ref ta]))
      have s16:=(s13.trans s5).trans s6
      refine fin _ _ (.tup [.str b0,.int 2,.str b2,o',tgT t]) s16 ⟨p3,_,rfl,upd_same,_,_,rfl,rfl,_,_,rfl,rfl,_,_,rfl,rfl,_,_,rfl,ro _,_,_,rfl,tg_rep (s16.get ht1),rfl⟩ (List.all_eq_true.mpr fun x hx=>by
          simp only [List.mem_cons,List.not_mem_nil,or_false] at hx
          rcases hx with rfl | rfl | rfl | rfl | rfl
          · exact sh_str (by have:=nz.len; omega)
          · exact sh_int _ _
          · exact sh_str (by have:=nc.len; omega)
          · exact sh_flat fo so
          · exact sh_tg _ _) rfl (bad_one (inset _) rfl ?_)
      show (sB 2 2 (.int 2) && (sN (.str b0) && (sN (.str b2) && (sB 1 999999999 o' && tagT (tgT t))))) = false
      rw [bo,Bool.false_and,Bool.and_false,Bool.and_false,Bool.and_false]
    | st nm kp og t=>
      refine iteTc rfl ?_
      refine ⟨_,rfl,_,rfl,_,rfl,_,rfl,ea,_,rfl,SqT.of ha1,(fun z=>absurd z.2 (show ¬ (HT.sIx 5 5 (some 3) = 5) by decide)),fun p1 np1=>?_⟩
      rw [cut_hi (by decide)]
      have s2:=same_new np1 (.tup [V.str b0,V.int 1,V.str b2])
      refine ⟨small (by show 3≤1000000; decide),fun L1 nL1=>?_⟩
      have s3:=same_new nL1 (.lst [V.str (PySem.Str.ofString "nothere"),V.int 0,V.non])
      have s13:=s2.trans s3
      have lgl:=List.length_filter_le (fun p:Addr×En=>decide (p.2.kd = (En.st nm kp og t).kd)) ps
      refine ⟨_,rfl,L1,lg,_,_,rfl,rfl,SqL.of upd_same,SqL.of (s13.get h1),small (by rw [List.length_map]; show 3 + _≤1000000; omega),fun L2 nL2=>?_⟩
      have s4:=same_new nL2 (.lst ([V.str (PySem.Str.ofString "nothere"),V.int 0,V.non] ++ (ps.filter fun p=>decide (p.2.kd = (En.st nm kp og t).kd)).map fun p=>V.str p.2.nm))
      have s14:=s13.trans s4
      obtain ⟨ov,hov,AT⟩:=at_mod (fun v:V=>v) (xs:=[V.str (PySem.Str.ofString "nothere"),V.int 0,V.non] ++ (ps.filter fun p=>decide (p.2.kd = (En.st nm kp og t).kd)).map fun p=>V.str p.2.nm) (by simp) y1 (n:=3 + (((ps.filter fun p=>decide (p.2.kd = (En.st nm kp og t).kd)).map fun p=>V.str p.2.nm).length:Int)) (by rw [List.length_append]; show _ = ((3 + _:Nat):Int); omega)
      rw [List.map_id'] at AT
      refine ⟨_,rfl,r,_,_,_,rfl,rfl,s14.seq hrs1,X1,_,rfl,lg,_,rfl,.inl (SqL.of (s14.get h1)),_,_,rfl,rfl,_,_,rfl,rfl,(by show (0:Int) < 3 + (_:Int); omega),L2,_,_,_,rfl,rfl,SqL.of upd_same,AT,_,rfl,small (by show 2≤1000000; decide),fun p2 np2=>?_⟩
      have s5:=same_new np2 (.tup [ov,V.ref ta])
      refine ⟨p1,p2,[V.str b0,V.int 1,V.str b2],_,rfl,rfl,SqT.of (s5.get (s4.get (s3.get upd_same))),SqT.of upd_same,small (by show 5≤1000000; decide),(fun z=>by cases z),(fun _ z=>by cases z),fun _ _ p3 np3=>?_⟩
      have s6:=same_new np3 (.tup ([V.str b0,V.int 1,V.str b2] ++ [ov,V.ref ta]))
      have s16:=(s14.trans s5).trans s6
      have e1:enT (.st nm kp og t) = .tup [.str nm,.int 1,.str kp,.str og,tgT t]:=rfl
      rw [e1] at eT
      cases eT
      have close:∀ (o':Tr),(∀ H3:Hp,Rep AllF H3 o' ov)→flatT o' = true→sh 0 o' = true→BadN ks (.tup (((ps.map (·.2)).map enT).set i (.tup [.str b0,.int 1,.str b2,o',tgT t])))→sp__law_with K [.ref n,.int (i:Int),.ref p3] _ Q E0:=fun o' ro fo so bd=>
        fin _ _ (.tup [.str b0,.int 1,.str b2,o',tgT t]) s16 ⟨p3,_,rfl,upd_same,_,_,rfl,rfl,_,_,rfl,rfl,_,_,rfl,rfl,_,_,rfl,ro _,_,_,rfl,tg_rep (s16.get ht1),rfl⟩ (List.all_eq_true.mpr fun x hx=>by
          simp only [List.mem_cons,List.not_mem_nil,or_false] at hx
          rcases hx with rfl | rfl | rfl | rfl | rfl
          · exact sh_str (by have:=nz.len; omega)
          · exact sh_int _ _
          · exact sh_str (by have:=nc.len; omega)
          · exact sh_flat fo so
          · exact sh_tg _ _) fo bd
      have noorg:∀ z:Str,z≠EM→(∀ sm tn t',En.sl z sm tn t' ∉ ps.map (·.2))→BadN ks (.tup (((ps.map (·.2)).map enT).set i (.tup [.str b0,.int 1,.str b2,.str z,tgT t]))):=fun z zne zno=>by
        rw [show (Tr.tup [.str b0,.int 1,.str b2,.str z,tgT t]) = enT (.st b0 b2 z t) from rfl]
        refine .inr ⟨_,rfl,fun a=>?_⟩
        rw [deset] at a
        rcases a.org _ _ _ _ (ine _) with g | ⟨sm,tn,t',g⟩
        · exact zne g
        · rcases insub g with g | g
          · cases g
          · exact zno _ _ _ g
      have noflat:∀ o':Tr,orgT o' = false→BadN ks (.tup (((ps.map (·.2)).map enT).set i (.tup [.str b0,.int 1,.str b2,o',tgT t]))):=fun o' h=>by
        refine bad_one (inset _) ?_ ?_
        · show (sB 1 1 (.int 1) && (sN (.str b0) && (sN (.str b2) && (orgT o' && tagT (tgT t))))) = false
          rw [h,Bool.false_and,Bool.and_false,Bool.and_false,Bool.and_false]
        · rfl
      rcases List.mem_append.mp hov with g | g
      · simp only [List.mem_cons,List.not_mem_nil,or_false] at g
        rcases g with rfl | rfl | rfl
        · exact close (.str (PySem.Str.ofString "nothere")) (fun _=>rfl) rfl (by decide +kernel) (noorg _ (by decide +kernel) fun sm tn t' h=>nothere_no (hg.ok _ h).1 rfl)
        · exact close (.int 0) (fun _=>rfl) rfl rfl (noflat _ rfl)
        · exact close .non (fun _=>rfl) rfl rfl (noflat _ rfl)
      · obtain ⟨p',hp',rfl⟩:=List.mem_map.mp g
        obtain ⟨pm',pk⟩:=List.mem_filter.mp hp'
        have pe:p'.2∈ps.map (·.2):=List.mem_map.mpr ⟨p',pm',rfl⟩
        have pn:=hg.ok _ pe
        have nm':nmL p'.2.nm:=by cases h:p'.2 <;> rw [h] at pn <;> exact pn.1
        refine close (.str p'.2.nm) (fun _=>rfl) rfl (sh_str (by have:=nm'.len; omega)) (noorg _ nm'.ne fun sm tn t' h=>?_)
        have:=uniq pe h rfl
        rw [this] at pk
        exact absurd (of_decide_eq_true pk) (by show ¬ (2:Int) = 1; decide)
  refine iteFc rfl ?_
  refine ⟨_,rfl,rfl,_,rfl,iteFc (Bool.eq_false_iff.mpr d10) ?_⟩
  refine ⟨_,rfl,rfl,_,rfl,ite2 (fun d11=>?_) (fun d11=>?_)⟩
  ·
    have pl:(ps.map fun p=>V.ref p.1).length = ps.length:=List.length_map _
    have lt:((ps.map fun p=>V.ref p.1).take i).length = i:=by rw [List.length_take,pl]; omega
    have en':∀ p∈ps.take i ++ [(ea,e)] ++ ps.drop i,p∈ps:=fun p hp=>by
      rcases List.mem_append.mp hp with hp | hp
      · rcases List.mem_append.mp hp with hp | hp
        · exact List.mem_of_mem_take hp
        · rw [List.mem_singleton.mp hp]; exact pm
      · exact List.mem_of_mem_drop hp
    have done:∀ b' H',Same H1 H'→H' b' = some (.tup ((ps.take i ++ [(ea,e)] ++ ps.drop i).map fun p=>V.ref p.1))→Q (.ref b') H':=fun b' H' s' hb=>by
      refine q _ (.tup (((ps.take i ++ [(ea,e)] ++ ps.drop i).map (·.2)).map enT)) H' (s1.trans s') ⟨⟨b',_,rfl,hb,reps_en fun p hp=>(hg1.same s').en p (en' p hp)⟩,List.all_eq_true.mpr fun x hx=>?_,fun ns e' x hx=>?_,bad_rise fun z=>?_⟩
      · obtain ⟨y,hy,rfl⟩:=List.mem_map.mp hx
        obtain ⟨p,hp,rfl⟩:=List.mem_map.mp hy
        exact en_sh (hg.ok _ (List.mem_map.mpr ⟨p,en' p hp,rfl⟩)) 0
      · cases e'
        obtain ⟨y,hy,rfl⟩:=List.mem_map.mp hx
        exact en_third y
      · have nd:=slt_nd z
        rw [List.map_append,List.map_append,List.map_append,List.nodup_append] at nd
        have ie:(ea,e)∈ps.drop i:=by
          refine List.mem_iff_getElem?.mpr ⟨0,?_⟩
          rw [List.getElem?_drop,Nat.add_zero]
          exact gi
        exact nd.2.2 _ (List.mem_map.mpr ⟨enT e,by rw [List.map_append,List.map_append]; exact List.mem_append_right _ List.mem_cons_self,rfl⟩) _ (List.mem_map.mpr ⟨enT e,List.mem_map.mpr ⟨e,List.mem_map.mpr ⟨_,ie,rfl⟩,rfl⟩,rfl⟩) rfl
    have ed:(ps.take i ++ [(ea,e)] ++ ps.drop i).map (fun p=>V.ref p.1) = ((ps.map fun p=>V.ref p.1).take i ++ [V.ref ea]) ++ (ps.map fun p=>V.ref p.1).drop i:=by
      rw [List.map_append,List.map_append,List.map_take,List.map_drop]
      rfl
    have dne:(ps.map fun p=>V.ref p.1).drop i≠[]:=fun z=>by
      have:=congrArg List.length z
      rw [List.length_drop,pl] at this
      simp at this
      omega
    refine ⟨_,rfl,_,rfl,(i:Int),rfl,n,_,rfl,SqT.of hg1.nm,(fun z=>?_),fun p1 n1'=>?_⟩
    · have:=z.2
      rw [HT.sIx_nat,pl] at this
      omega
    rw [cut_hi (by omega),Int.toNat_natCast]
    have s2:=same_new n1' (.tup ((ps.map fun p=>V.ref p.1).take i))
    refine ⟨_,rfl,small (by show 1≤1000000; decide),fun p2 n2'=>?_⟩
    have s4:=same_new n2' (.tup [V.ref ea])
    have s14:=s2.trans s4
    have cat:∀ c y H4,Same H1 H4→H4 c = some (.tup ((ps.map fun p=>V.ref p.1).take i ++ [V.ref ea]))→H4 y = some (.tup ((ps.map fun p=>V.ref p.1).drop i))→rCatT3 K (.ref c) (.ref y) H4 Q:=fun c y H4 s4' hc hy=>by
      refine ⟨c,y,_,_,rfl,rfl,SqT.of hc,SqT.of hy,small (by rw [List.length_append,List.length_drop,lt,pl]; show i + 1 + _≤1000000; omega),(fun z=>absurd z (by simp)),(fun _ z=>absurd z dne),fun _ _ p5 n5'=>?_⟩
      exact done p5 _ (s4'.trans (same_new n5' _)) (by rw [upd_same,ed])
    have rest:∀ c H3,Same H1 H3→H3 c = some (.tup ((ps.map fun p=>V.ref p.1).take i ++ [V.ref ea]))→((HT.sIx (ps.map fun p=>V.ref p.1).length 0 (some (i:Int)) = 0∧HT.sIx (ps.map fun p=>V.ref p.1).length (ps.map fun p=>V.ref p.1).length none = (ps.map fun p=>V.ref p.1).length)→rCatT3 K (.ref c) (.ref n) H3 Q)∧(¬ (HT.sIx (ps.map fun p=>V.ref p.1).length 0 (some (i:Int)) = 0∧HT.sIx (ps.map fun p=>V.ref p.1).length (ps.map fun p=>V.ref p.1).length none = (ps.map fun p=>V.ref p.1).length)→∀ p4,H3 p4 = none→rCatT3 K (.ref c) (.ref p4) (upd H3 p4 (.tup (cutV (ps.map fun p=>V.ref p.1) (some (i:Int)) none))) Q):=fun c H3 s3' hc=>by
      refine ⟨fun z=>?_,fun _ p4 n4'=>?_⟩
      · have i0:i = 0:=by
          have:=z.1
          rw [HT.sIx_nat,pl] at this
          omega
        subst i0
        exact cat c n H3 s3' hc (s3'.get hg1.nm)
      · rw [cut_lo (by omega),Int.toNat_natCast]
        have s5:=same_new n4' (.tup ((ps.map fun p=>V.ref p.1).drop i))
        exact cat c p4 _ (s3'.trans s5) (s5.get hc) upd_same
    refine ⟨p1,p2,_,_,rfl,rfl,SqT.of (s4.get upd_same),SqT.of upd_same,small (by rw [lt]; show i + 1≤1000000; omega),fun z=>?_,(fun _ z=>by cases z),fun _ _ p3 n3'=>?_⟩
    · exact ⟨_,rfl,_,rfl,(i:Int),rfl,n,_,rfl,SqT.of (s14.get hg1.nm),rest p2 _ s14 (by rw [z]; exact upd_same)⟩
    · have s5:=same_new n3' (.tup ((ps.map fun p=>V.ref p.1).take i ++ [V.ref ea]))
      have s15:=s14.trans s5
      exact ⟨_,rfl,_,rfl,(i:Int),rfl,n,_,rfl,SqT.of (s15.get hg1.nm),rest p3 _ s15 upd_same⟩
  refine ⟨_,rfl,rfl,_,rfl,ite2 (fun d12=>?_) (fun d12=>?_)⟩
  ·
    have lA:(b0 ++ PySem.Str.ofString "A").length = b0.length + 1:=by rw [← cod_len,cod_app,List.length_append,cod_len]; rfl
    have lN:(b0 ++ PySem.Str.ofString "ninesigns").length = b0.length + 9:=by rw [← cod_len,cod_app,List.length_append,cod_len]; rfl
    have l0:=nz.len
    refine ⟨_,rfl,_,rfl,_,rfl,ea,_,_,_,rfl,rfl,SqT.of ha1,atI_nat (j:=0) rfl,_,_,rfl,rfl,small (by show b0.length + 1≤1000000; omega),_,rfl,ea,_,_,_,rfl,rfl,SqT.of ha1,atI_nat (j:=0) rfl,_,_,rfl,rfl,small (by show b0.length + 9≤1000000; omega),small (by show 4≤1000000; decide),fun q1 nq1=>?_⟩
    have s2:=same_new nq1 (.tup [V.str (b0 ++ PySem.Str.ofString "A"),V.str EM,V.str (b0 ++ PySem.Str.ofString "ninesigns"),V.int 5])
    obtain ⟨nv,nt,AT,rn,bn,sn⟩:∃ nv nt,atI [V.str (b0 ++ PySem.Str.ofString "A"),V.str EM,V.str (b0 ++ PySem.Str.ofString "ninesigns"),V.int 5] (y1 % 4) = some nv∧(∀ H3:Hp,Rep AllF H3 nt nv)∧sN nt = false∧sh 1 nt = true:=by
      have r0:=Int.emod_nonneg y1 (show (4:Int)≠0 by decide)
      have r1:=Int.emod_lt_of_pos y1 (show (0:Int) < 4 by decide)
      have:y1 % 4 = 0∨y1 % 4 = 1∨y1 % 4 = 2∨y1 % 4 = 3:=by omega
      rcases this with e | e | e | e <;> rw [e]
      · refine ⟨_,.str (b0 ++ PySem.Str.ofString "A"),rfl,fun _=>rfl,?_,sh_str (by omega)⟩
        show (decide ((1:Int)≤_) && decide (_≤(8:Int)) && allIn LN (b0 ++ PySem.Str.ofString "A")) = false
        have:allIn LN (b0 ++ PySem.Str.ofString "A") = false:=by
          cases c:allIn LN (b0 ++ PySem.Str.ofString "A") with
          | false=>rfl
          | true=>
            unfold allIn at c
            rw [List.all_eq_true] at c
            have:=c 65 (by rw [cod_app]; exact List.mem_append_right _ (by decide +kernel))
            exact absurd (of_decide_eq_true this) (by decide +kernel)
        rw [this,Bool.and_false]
      · exact ⟨_,.str EM,rfl,fun _=>rfl,by decide +kernel,sh_str (by decide +kernel)⟩
      · refine ⟨_,.str (b0 ++ PySem.Str.ofString "ninesigns"),rfl,fun _=>rfl,?_,sh_str (by omega)⟩
        show (decide ((1:Int)≤_) && decide (((b0 ++ PySem.Str.ofString "ninesigns").length:Int)≤8) && _) = false
        rw [decide_eq_false (show ¬ ((b0 ++ PySem.Str.ofString "ninesigns").length:Int)≤8 by omega),Bool.and_false,Bool.false_and]
      · exact ⟨_,.int 5,rfl,fun _=>rfl,rfl,rfl⟩
    refine ⟨_,rfl,r,_,_,_,rfl,rfl,s2.seq hrs1,X1,_,_,rfl,rfl,(by show (0:Int) < 4; decide),q1,_,_,_,rfl,rfl,SqT.of upd_same,AT,small (by show 1≤1000000; decide),fun p1 np1=>?_⟩
    have s3:=same_new np1 (.tup [nv])
    have s13:=s2.trans s3
    refine ⟨_,rfl,_,rfl,ea,_,rfl,SqT.of (s13.get ha1),(fun z=>absurd z.1 (show ¬ (HT.sIx 5 0 (some 1) = 0) by decide)),fun p2 np2=>?_⟩
    rw [cut_lo (by decide)]
    have s4:=same_new np2 (.tup [V.int e.kd,V.str b2,b3,V.ref ta])
    refine ⟨p1,p2,_,[V.int e.kd,V.str b2,b3,V.ref ta],rfl,rfl,SqT.of (s4.get upd_same),SqT.of upd_same,small (by show 5≤1000000; decide),(fun z=>by cases z),(fun _ z=>by cases z),fun _ _ p3 np3=>?_⟩
    have s5:=same_new np3 (.tup ([nv] ++ [V.int e.kd,V.str b2,b3,V.ref ta]))
    have s15:=(s13.trans s4).trans s5
    refine fin _ _ (.tup [nt,.int e.kd,.str b2,ot,tgT e.tg]) s15 ⟨p3,_,rfl,upd_same,_,_,rfl,rn _,_,_,rfl,rfl,_,_,rfl,rfl,_,_,rfl,Rep.same s15 _ _ rot,_,_,rfl,tg_rep (s15.get ht1),rfl⟩ (List.all_eq_true.mpr fun x hx=>by
        simp only [List.mem_cons,List.not_mem_nil,or_false] at hx
        rcases hx with rfl | rfl | rfl | rfl | rfl
        · exact sn
        · exact sh_int _ _
        · exact sh_str (by have:=nc.len; omega)
        · exact sh_flat fot sot
        · exact sh_tg _ _) (by cases e <;> first | exact fot | rfl) (bad_one (inset _) (bad_name bn).1 (bad_name bn).2)
  refine ⟨_,rfl,rfl,_,rfl,ite2 (fun d13=>?_) (fun d13=>?_)⟩
  ·
    have pl:(ps.map fun p=>V.ref p.1).length = ps.length:=List.length_map _
    refine ⟨_,rfl,_,rfl,(i:Int),rfl,n,_,rfl,SqT.of hg1.nm,(fun z=>?_),fun p1 n1'=>?_⟩
    · have:=z.2
      rw [HT.sIx_nat,pl] at this
      omega
    rw [cut_hi (by omega),Int.toNat_natCast]
    have s2:=same_new n1' (.tup ((ps.map fun p=>V.ref p.1).take i))
    have lt:((ps.map fun p=>V.ref p.1).take i).length = i:=by rw [List.length_take,pl]; omega
    refine ⟨_,rfl,ea,_,rfl,.inr (SqT.of (s2.get ha1)),fun q1 nq1=>?_⟩
    have s3:=same_new nq1 (.lst [V.str b0,V.int e.kd,V.str b2,b3,V.ref ta])
    refine ⟨small (by show 1≤1000000; decide),fun p2 n2'=>?_⟩
    have s4:=same_new n2' (.tup [V.ref q1])
    have s14:=(s2.trans s3).trans s4
    have hq1:=s4.get (show (upd _ q1 (.lst [V.str b0,V.int e.kd,V.str b2,b3,V.ref ta])) q1 = some (.lst [V.str b0,V.int e.kd,V.str b2,b3,V.ref ta]) from upd_same)
    have es:(ps.map fun p=>V.ref p.1).set i (.ref q1) = ((ps.map fun p=>V.ref p.1).take i ++ [V.ref q1]) ++ (ps.map fun p=>V.ref p.1).drop (i + 1):=by
      rw [List.set_eq_take_append_cons_drop,if_pos (by rw [pl]; exact il),List.append_assoc]
      rfl
    have done:∀ b' H',Same H1 H'→H' q1 = some (.lst [V.str b0,V.int e.kd,V.str b2,b3,V.ref ta])→H' b' = some (.tup ((ps.map fun p=>V.ref p.1).set i (.ref q1)))→Q (.ref b') H':=fun b' H' s' hq hb=>
      q _ _ H' (s1.trans s') (Nms0.set ((hg1.same s').en) hg.ok hb (t:=.lst [.str b0,.int e.kd,.str b2,ot,tgT e.tg]) ⟨q1,_,rfl,trivial,hq,_,_,rfl,rfl,_,_,rfl,rfl,_,_,rfl,rfl,_,_,rfl,Rep.same s' _ _ rot,_,_,rfl,tg_rep (s'.get ht1),rfl⟩ rfl rfl (bad_one (inset _) rfl rfl))
    have rest:∀ c H3,Same H1 H3→H3 q1 = some (.lst [V.str b0,V.int e.kd,V.str b2,b3,V.ref ta])→H3 c = some (.tup ((ps.map fun p=>V.ref p.1).take i ++ [V.ref q1]))→∀ p4,H3 p4 = none→rCatT3 K (.ref c) (.ref p4) (upd H3 p4 (.tup ((ps.map fun p=>V.ref p.1).drop (i + 1)))) Q:=fun c H3 s3' hq hc p4 n4'=>by
      have s5:=same_new n4' (.tup ((ps.map fun p=>V.ref p.1).drop (i + 1)))
      refine ⟨c,p4,_,_,rfl,rfl,SqT.of (s5.get hc),SqT.of upd_same,small (by rw [List.length_append,List.length_drop,lt,pl]; show i + 1 + _≤1000000; omega),(fun z=>absurd z (by simp)),fun _ z=>?_,fun _ _ p5 n5'=>?_⟩
      · rw [z,List.append_nil] at es
        exact done c _ (s3'.trans s5) (s5.get hq) (by rw [es]; exact s5.get hc)
      · have s6:=same_new n5' (.tup (((ps.map fun p=>V.ref p.1).take i ++ [V.ref q1]) ++ (ps.map fun p=>V.ref p.1).drop (i + 1)))
        exact done p5 _ ((s3'.trans s5).trans s6) (s6.get (s5.get hq)) (by rw [upd_same,es])
    refine ⟨p1,p2,_,_,rfl,rfl,SqT.of (s4.get (s3.get upd_same)),SqT.of upd_same,small (by rw [lt]; show i + 1≤1000000; omega),fun z=>?_,(fun _ z=>by cases z),fun _ _ p3 n3'=>?_⟩
    · refine ⟨_,rfl,_,rfl,_,_,rfl,rfl,(i:Int) + 1,rfl,n,_,rfl,SqT.of (s14.get hg1.nm),(fun z=>?_),fun p4 n4'=>?_⟩
      · have:=z.1
        rw [show (i:Int) + 1 = ((i + 1:Nat):Int) by omega,HT.sIx_nat,pl] at this
        omega
      rw [cut_lo (by omega),show ((i:Int) + 1).toNat = i + 1 by omega]
      exact rest p2 _ s14 hq1 (by rw [z]; exact upd_same) p4 n4'
    · have s5:=same_new n3' (.tup ((ps.map fun p=>V.ref p.1).take i ++ [V.ref q1]))
      have s15:=s14.trans s5
      refine ⟨_,rfl,_,rfl,_,_,rfl,rfl,(i:Int) + 1,rfl,n,_,rfl,SqT.of (s15.get hg1.nm),(fun z=>?_),fun p4 n4'=>?_⟩
      · have:=z.1
        rw [show (i:Int) + 1 = ((i + 1:Nat):Int) by omega,HT.sIx_nat,pl] at this
        omega
      rw [cut_lo (by omega),show ((i:Int) + 1).toNat = i + 1 by omega]
      exact rest p3 _ s15 (s5.get hq1) upd_same p4 n4'
  refine ⟨_,rfl,_,rfl,_,rfl,_,rfl,ea,_,rfl,SqT.of ha1,(fun z=>absurd z.2 (show ¬ (HT.sIx 5 5 (some 4) = 5) by decide)),fun p1 np1=>?_⟩
  rw [cut_hi (by decide)]
  have s2:=same_new np1 (.tup [V.str b0,V.int e.kd,V.str b2,b3])
  exact fin _ _ (.tup [.str b0,.int e.kd,.str b2,ot]) s2 ⟨p1,_,rfl,upd_same,_,_,rfl,rfl,_,_,rfl,rfl,_,_,rfl,rfl,_,_,rfl,Rep.same s2 _ _ rot,rfl⟩ (List.all_eq_true.mpr fun x hx=>by
      simp only [List.mem_cons,List.not_mem_nil,or_false] at hx
      rcases hx with rfl | rfl | rfl | rfl
      · exact sh_str (by have:=nz.len; omega)
      · exact sh_int _ _
      · exact sh_str (by have:=nc.len; omega)
      · exact sh_flat fot sot) (by cases e <;> rfl) (bad_one (inset _) rfl rfl)
end
theorem mem_set_ne {α:Type} {l:List α} {i:Nat} {x y z:α} (hi:l[i]? = some z) (hy:y∈l) (ne:y≠z):y∈l.set i x:=by
  obtain ⟨j,hj,e⟩:=List.getElem_of_mem hy
  refine List.mem_iff_getElem?.mpr ⟨j,?_⟩
  have n:i≠j:=fun q=>by
    subst q
    rw [List.getElem?_eq_getElem hj,e] at hi
    exact ne (Option.some.inj hi)
  rw [List.getElem?_set_ne n,List.getElem?_eq_getElem hj,e]
def Tw (ks:List Str) (es:List En) (nm sm:Str) (t:Int×Int×Int) (tn':Int):Prop:=(0 < tn'∧tn'≤999999999)∧∀ i tn,es[i]? = some (.sl nm sm tn t)→¬ AtOne ks (es.set i (.sl nm sm tn' t))
theorem tw_same {ks:List Str} {es:List En} {nm sm nm2 sm2:Str} {t t2:Int×Int×Int} {tn2:Int} (h:En.sl nm2 sm2 tn2 t2∈es) (ne:nm2≠nm) (ok:0 < tn2∧tn2≤999999999):Tw ks es nm sm t tn2:=by
  refine ⟨ok,fun i tn hi a=>?_⟩
  have il:=(List.getElem?_eq_some_iff.mp hi).1
  have m1:En.sl nm sm tn2 t∈es.set i (.sl nm sm tn2 t):=mem_set_of il
  have m2:En.sl nm2 sm2 tn2 t2∈es.set i (.sl nm sm tn2 t):=mem_set_ne hi h (fun z=>ne (En.sl.inj z).1)
  have:=nd_inj (f:=En.turn) a.tns (List.mem_filter.mpr ⟨m1,rfl⟩) (List.mem_filter.mpr ⟨m2,rfl⟩) rfl
  exact ne (En.sl.inj this).1.symm
theorem tw_old {ks:List Str} {es:List En} {nm sm kp og sm2:Str} {t t1 t2:Int×Int×Int} {tg tn:Int} (one:AtOne ks es) (he:En.sl nm sm tn t∈es) (h1:En.st sm kp og t1∈es) (h2:En.sl og sm2 tg t2∈es) (un:∀ {x y:En},x∈es→y∈es→x.nm = y.nm→x = y) (big:1 < tg) (ok:tg≤999999999):Tw ks es nm sm t (tg - 1):=by
  refine ⟨⟨by omega,by omega⟩,fun i tn' hi a=>?_⟩
  have il:=(List.getElem?_eq_some_iff.mp hi).1
  have ne:En.sl og sm2 tg t2≠En.sl nm sm tn' t:=fun z=>by
    have e:=(En.sl.inj z).2.2.1
    have b:=one.beg _ _ _ _ _ _ _ _ _ _ h1 h2 (List.mem_of_getElem? hi)
    omega
  have m0:En.sl nm sm (tg - 1) t∈es.set i (.sl nm sm (tg - 1) t):=mem_set_of il
  have m1:En.st sm kp og t1∈es.set i (.sl nm sm (tg - 1) t):=mem_set_ne hi h1 (fun z=>by cases z)
  have m2:En.sl og sm2 tg t2∈es.set i (.sl nm sm (tg - 1) t):=mem_set_ne hi h2 ne
  have:=a.beg _ _ _ _ _ _ _ _ _ _ m1 m2 m0
  omega
section
variable {P:Program} {w:World} {K:PySem.W.Frag} {mg:Str→Option Value} {base:Heap} {f:Addr} {fd:FuncData}
def Fo (ks:List Str) (ps:List (Addr×En)) (H:Hp) (v:V):Prop:=∃ (b ea:Addr) (nm sm:Str) (tn:Int) (t:Int×Int×Int) (tn':Int),v = .ref b∧H b = some (.tup [.ref ea,.int tn'])∧(ea,En.sl nm sm tn t)∈ps∧Tw ks (ps.map (·.2)) nm sm t tn'
theorem Fo.same {ks:List Str} {ps:List (Addr×En)} {H H':Hp} {v:V} (h:Fo ks ps H v) (s:Same H H'):Fo ks ps H' v:=by
  obtain ⟨b,ea,nm,sm,tn,t,tn',e,hb,r⟩:=h
  exact ⟨b,ea,nm,sm,tn,t,tn',e,s.get hb,r⟩
theorem Fo.upd {ks:List Str} {ps:List (Addr×En)} {H:Hp} {v:V} {l:Addr} {us us':List V} (h:Fo ks ps H v) (hl:H l = some (.lst us)):Fo ks ps (L2.upd H l (.lst us')) v:=by
  obtain ⟨b,ea,nm,sm,tn,t,tn',e,hb,r⟩:=h
  exact ⟨b,ea,nm,sm,tn,t,tn',e,by rw [upd_ne fun z=>by rw [z,hl] at hb; cases hb]; exact hb,r⟩
theorem en_dep (e:En):(enT e).dep≤100:=by
  cases e <;> simp only [enT,tgT,Tr.dep,Tr.deps] <;> decide
theorem enu_refs {α:Type} {g:α→Addr}:∀ ps:List α,enuV (ps.map fun p=>V.ref (g p)) = false
  | []=>rfl
  | [_]=>rfl
  | [_,_]=>rfl
  | _ :: _ :: _ :: _=>rfl
def sp__law_twice (K:PySem.W.Frag):Sp:=fun vs H Q _=>∃ (h r:Addr) (ag:Int) (k n:Addr) (ps:List (Addr×En)) (rs:List Int) (ks:List Str),vs = [.ref h,.ref r]∧HG ks H h ag k n ps∧SqL K H r (rs.map V.int)∧2≤rs.length∧
  ∀ v t H',Same H H'→Nms0 ks H' v t→Q v H'
theorem ok__law_twice (T:Txt K mg) (F:Fun K "_law_twice" "_law_twice" s__law_twice f fd) (D__law_with:Def P w K mg base 1 "_law_with" ["_law_things","_law_at","_law_thing"] (sp__law_with K)):FnOk P w K mg base CX0 2 f fd ["_law_head_here","_law_row_here"] (sp__law_twice K):=by
  refine F.ok sc__law_twice (fun vs H Q E h=>?_) (fun cdv A outer s H vs Q E hr h=>?_)
  · obtain ⟨h,r,ag,k,n,ps,rs,ks,rfl,_⟩:=h
    rfl
  obtain ⟨h,r,ag,k,n,ps,rs,ks,rfl,hg,hrs,lr,q⟩:=h
  have hu:=hu_of hr
  have hu9:=hu9_of hr
  refine ⟨_,(@pss_cons _ _ _ _ _ (@ps_setC0 _ ["_law_entry"] (2) _ _ _ _ _ _ _ _ _ _ _ _ _ sc__law_twice.nd rfl (by first | exact Or.inl rfl | exact Or.inr rfl) rfl (@pi_tup _ _ _ _ (@pe_ix _ _ _ _ _ _ _ ix_tup (pv 0) (@pe_int _ _ _ _) (fun _ _=>rfl))) (by decide +kernel) (fun C s H fp=>⟨(@pg_name _ _ (0) _ (show (["_law_entry"]:List Str).Nodup by decide +kernel) rfl (by first | exact Or.inl rfl | exact Or.inr rfl) (by first | exact .inl rfl | exact .inr rfl | assumption)),(@pifs_one _ _ _ (@pt_cmpR _ _ _ _ _ _ _ _ op_eq (@pe_ix _ _ _ _ _ _ _ (ix_tupK (K:=K) (by rfl)) (pv 0) (@pe_int _ _ _ _) (fun _ _=>rfl)) (@pe_int _ _ _ _) (nomark _))),(pv 0)⟩) (by intro _; rfl) (by rfl) (by first | exact .inl rfl | exact .inr rfl | assumption)) (@pss_cons _ _ _ _ _ (@ps_setC0 _ ["_law_entry"] (3) _ _ _ _ _ _ _ _ _ _ _ _ _ sc__law_twice.nd rfl (by first | exact Or.inl rfl | exact Or.inr rfl) rfl (@pi_list _ _ _ _ (pv 2)) (by decide +kernel) (fun C s H fp=>⟨(@pg_name _ _ (0) _ (show (["_law_entry"]:List Str).Nodup by decide +kernel) rfl (by first | exact Or.inl rfl | exact Or.inr rfl) (by first | exact .inl rfl | exact .inr rfl | assumption)),(@pifs_nil _),(@pe_ix _ _ _ _ _ _ _ (ix_tupK (K:=K) (by rfl)) (pv 0) (@pe_int _ _ _ _) (fun _ _=>rfl))⟩) (by intro _; rfl) (by rfl) (by first | exact .inl rfl | exact .inr rfl | assumption)) (@pss_cons _ _ _ _ _ (@ps_set _ _ (4) _ _ _ _ sc__law_twice.nd rfl (by first | exact Or.inl rfl | exact Or.inr rfl) (@pe_lst _ _ _ _ (@pa_nil _)) (by rfl) (by first | exact .inl rfl | exact .inr rfl | assumption)) (@pss_cons _ _ _ _ _ (@ps_for _ _ _ _ _ _ _ _ PassesOwn.never rfl (@pi_list _ _ _ _ (pv 2)) (@pg_name _ _ (5) _ sc__law_twice.nd rfl (by first | exact Or.inl rfl | exact Or.inr rfl) (by first | exact .inl rfl | exact .inr rfl | assumption)) (@pss_one _ _ _ (@ps_for _ _ _ _ _ _ _ _ PassesOwn.never rfl (@pi_list _ _ _ _ (pv 2)) (@pg_name _ _ (6) _ sc__law_twice.nd rfl (by first | exact Or.inl rfl | exact Or.inr rfl) (by first | exact .inl rfl | exact .inr rfl | assumption)) (@pss_cons _ _ _ _ _ (@ps_set _ _ (7) _ _ _ _ sc__law_twice.nd rfl (by first | exact Or.inl rfl | exact Or.inr rfl) (@pe_ix _ _ _ _ _ _ _ ix_list (@pe_comp _ ["_law_one","_law_entry"] [none,some 5] _ _ _ _ _ _ _ _ _ _ _ rfl (@pi_tup _ _ _ _ (@pe_ix _ _ _ _ _ _ _ ix_tup (pv 0) (@pe_int _ _ _ _) (fun _ _=>rfl))) (by rfl) rfl (by repeat (first | exact trivial | refine ⟨rfl,?_⟩)) (by repeat (first | exact trivial | refine ⟨fun h=>(by first | exact ⟨_,rfl⟩ | cases h),?_⟩)) (fun C s H fp=>⟨(@pg_name _ _ (0) _ (show (["_law_one","_law_entry"]:List Str).Nodup by decide +kernel) rfl (by first | exact Or.inl rfl | exact Or.inr rfl) (by first | exact .inl rfl | exact .inr rfl | assumption)),(@pifs_one _ _ _ (@pt_cmpR _ _ _ _ _ _ _ _ op_eq (@pe_ix _ _ _ _ _ _ _ (ix_tupK (K:=K) (by rfl)) (pv 0) (@pe_int _ _ _ _) (fun _ _=>rfl)) (@pe_ix _ _ _ _ _ _ _ (ix_tupK (K:=K) (by rfl)) (pv 1) (@pe_int _ _ _ _) (fun _ _=>rfl)) (nomark _))),(pv 0)⟩) (by intro _; rfl)) (@pe_int _ _ _ _) (fun _ _=>rfl)) (by rfl) (by first | exact .inl rfl | exact .inr rfl | assumption)) (@pss_cons _ _ _ _ _ (@ps_if _ _ _ _ _ _ _ _ (@PW.pt _ _ _ (@pw_and _ _ _ _ _ _ _ (@pt_cmpR _ _ _ _ _ _ _ _ (op_neEn hu9) (pv 6) (pv 5) (nomark _)) (@pw_and1 _ _ _ _ (@pt_cmpR _ _ _ _ _ _ _ _ op_eq (@pe_op _ _ _ _ _ _ _ _ op_mod (@pe_ix _ _ _ _ _ _ _ ix_list (pv 1) (@pe_int _ _ _ _) (fun _ _=>rfl)) (@pe_int _ _ _ _)) (@pe_int _ _ _ _) (nomark _))))) (@pss_one _ _ _ (@ps_expr _ _ _ _ (@pe_bm _ _ _ _ _ _ _ _ _ _ _ _ PySem.F.plainAttrs_list PySem.F.slot_list_append PySem.F.type_list_append mt_append (pv 4) (@pa_cons _ _ _ _ _ (@pe_tup _ _ _ _ _ (@pa_cons _ _ _ _ _ (pv 5) (@pa_cons _ _ _ _ _ (@pe_ix _ _ _ _ _ _ _ ix_tup (pv 6) (@pe_int _ _ _ _) (fun _ _=>rfl)) (@pa_nil _) (by rfl)) (by rfl))) (@pa_nil _) (by rfl)) (by rfl) (by rfl) (by rfl) (by rfl) (by rfl)) (by rfl))) (@pss_nil _)) (@pss_one _ _ _ (@ps_if _ _ _ _ _ _ _ _ (@PW.pt _ _ _ (@pw_and _ _ _ _ _ _ _ (@pt_cmpR _ _ _ _ _ _ _ _ op_eq (@pe_ix _ _ _ _ _ _ _ ix_tup (pv 7) (@pe_int _ _ _ _) (fun _ _=>rfl)) (@pe_ix _ _ _ _ _ _ _ ix_tup (pv 6) (@pe_int _ _ _ _) (fun _ _=>rfl)) (nomark _)) (@pw_and _ _ _ _ _ _ _ (@pt_cmpR _ _ _ _ _ _ _ _ op_gt (@pe_ix _ _ _ _ _ _ _ ix_tup (pv 6) (@pe_int _ _ _ _) (fun _ _=>rfl)) (@pe_int _ _ _ _) (nomark _)) (@pw_and1 _ _ _ _ (@pt_cmpR _ _ _ _ _ _ _ _ op_notIn_seq (@pe_op _ _ _ _ _ _ _ _ op_sub (@pe_ix _ _ _ _ _ _ _ ix_tup (pv 6) (@pe_int _ _ _ _) (fun _ _=>rfl)) (@pe_int _ _ _ _)) (pv 3) rfl))))) (@pss_one _ _ _ (@ps_expr _ _ _ _ (@pe_bm _ _ _ _ _ _ _ _ _ _ _ _ PySem.F.plainAttrs_list PySem.F.slot_list_append PySem.F.type_list_append mt_append (pv 4) (@pa_cons _ _ _ _ _ (@pe_tup _ _ _ _ _ (@pa_cons _ _ _ _ _ (pv 5) (@pa_cons _ _ _ _ _ (@pe_op _ _ _ _ _ _ _ _ op_sub (@pe_ix _ _ _ _ _ _ _ ix_tup (pv 6) (@pe_int _ _ _ _) (fun _ _=>rfl)) (@pe_int _ _ _ _)) (@pa_nil _) (by rfl)) (by rfl))) (@pa_nil _) (by rfl)) (by rfl) (by rfl) (by rfl) (by rfl) (by rfl)) (by rfl))) (@pss_nil _))))) (by intro _; rfl))) (by intro _; rfl)) (@pss_cons _ _ _ _ _ (@ps_if _ _ _ _ _ _ _ _ (@pt_cmpR _ _ _ _ _ _ _ _ (op_eqE hu) (pv 4) (@pe_lst _ _ _ _ (@pa_nil _)) (nomark _)) (@pss_one _ _ _ (@ps_ret _ _ _ _ (@pe_non _ _ _))) (@pss_nil _)) (@pss_cons _ _ _ _ _ (@ps_asg _ _ _ _ _ _ (@pe_ix _ _ _ _ _ _ _ ix_list (pv 4) (@pe_op _ _ _ _ _ _ _ _ op_mod (@pe_ix _ _ _ _ _ _ _ ix_list (pv 1) (@pe_int _ _ _ _) (fun _ _=>rfl)) (@pe_callB _ _ _ _ _ _ _ _ _ call_len_seq (by rfl) T.b_len bt_len (@pa_cons _ _ _ _ _ (pv 4) (@pa_nil _) (by rfl)) (by decide) (by decide) (by rfl) (by rfl))) (fun _ _=>rfl)) (@pg_tup _ _ _ _ _ _ rfl (@pgs_cons _ _ _ _ _ (@pg_name _ _ (5) _ sc__law_twice.nd rfl (by first | exact Or.inl rfl | exact Or.inr rfl) (by first | exact .inl rfl | exact .inr rfl | assumption)) (@pgs_cons _ _ _ _ _ (@pg_name _ _ (8) _ sc__law_twice.nd rfl (by first | exact Or.inl rfl | exact Or.inr rfl) (by first | exact .inl rfl | exact .inr rfl | assumption)) (@pgs_nil _) (by rfl)) (by rfl)) (by rfl) (by rfl)) (by rfl) (by rfl) (by rfl)) (@pss_cons _ _ _ _ _ (@ps_set _ _ (9) _ _ _ _ sc__law_twice.nd rfl (by first | exact Or.inl rfl | exact Or.inr rfl) (@pe_bmT _ _ _ _ _ _ _ _ _ _ _ PySem.F.plainAttrs_tuple PySem.F.slot_tuple_index PySem.F.type_tuple_index (mt_tindex hu9) (@pe_ix _ _ _ _ _ _ _ ix_tup (pv 0) (@pe_int _ _ _ _) (fun _ _=>rfl)) (@pa_cons _ _ _ _ _ (pv 5) (@pa_nil _) (by rfl)) (by rfl) (by rfl) (by rfl) (by rfl) (by rfl)) (by rfl) (by first | exact .inl rfl | exact .inr rfl | assumption)) (@pss_one _ _ _ (@ps_ret _ _ _ _ (@pe_fn _ _ _ _ _ _ _ _ _ _ D__law_with (hr.mono (by decide)) rfl (@pa_cons _ _ _ _ _ (@pe_ix _ _ _ _ _ _ _ ix_tup (pv 0) (@pe_int _ _ _ _) (fun _ _=>rfl)) (@pa_cons _ _ _ _ _ (pv 9) (@pa_cons _ _ _ _ _ (@pe_op _ _ _ _ _ _ _ _ op_catT3 (@pe_slice _ _ _ _ _ _ _ _ _ _ sl_tup (pv 5) (@po_none _) (@po_some _ _ _ (@pe_int _ _ _ _))) (@pe_tup _ _ _ _ _ (@pa_cons _ _ _ _ _ (pv 8) (@pa_cons _ _ _ _ _ (@pe_ix _ _ _ _ _ _ _ ix_tup (pv 5) (@pe_int _ _ _ _) (fun _ _=>rfl)) (@pa_nil _) (by rfl)) (by rfl)))) (@pa_nil _) (by rfl)) (by rfl)) (by rfl)) (by decide) (by rfl) (by rfl))))))))))),?_⟩
  try dsimp only [cxOf,Cx.nox,Cx.wish]
  have l24:=hg.few
  have x1:∃ y1,atI (rs.map V.int) 1 = some (.int y1):=⟨_,at_int (by decide) (by omega)⟩
  obtain ⟨y1,X1⟩:=x1
  have x0:∃ y0,atI (rs.map V.int) 0 = some (.int y0):=⟨_,at_int (by decide) (by omega)⟩
  obtain ⟨y0,X0⟩:=x0
  have uniq:∀ {x y:Addr×En},x∈ps→y∈ps→x.2.nm = y.2.nm→x = y:=fun hx hy e=>nd_inj (slt_nd hg.ri) hx hy e
  have uniqE:∀ {x y:En},x∈ps.map (·.2)→y∈ps.map (·.2)→x.nm = y.nm→x = y:=fun hx hy e=>by
    obtain ⟨a,ha⟩:=mem_en hx
    obtain ⟨b,hb⟩:=mem_en hy
    exact congrArg (·.2) (uniq ha hb e)
  refine ⟨_,rfl,h,_,_,_,rfl,rfl,SqT.of hg.at_,atI_nat (j:=2) rfl,n,rfl,⟨_,SqT.of hg.nm⟩,?_⟩
  refine comp_selF (ps:=ps) (g:=fun p=>V.ref p.1) (fun p=>decide (p.2.kd = 2)) (fun p=>V.ref p.1) (itIs_tup hg.nm) (by omega) (fun p hp H' R s' hR=>?_) (fun p hp hs H' R s' hR=>?_) fun ls H1 n1 s1 h1=>?_
  · obtain ⟨a',e'⟩:=p
    obtain ⟨ta',_,ha'⟩:=hg.en _ hp
    refine ⟨_,rfl,a',_,_,_,rfl,rfl,SqT.of (s'.get ha'),atI_nat (j:=1) (v:=.int e'.kd) (by cases e' <;> rfl),rfl,_,rfl,?_⟩
    have ee:decide (V.int e'.kd = V.int 2) = decide (e'.kd = 2):=by
      by_cases z:e'.kd = 2
      · rw [decide_eq_true z,decide_eq_true (by rw [z])]
      · rw [decide_eq_false z,decide_eq_false fun y=>z (V.int.inj y)]
    rw [ee]
    exact hR
  · exact ⟨_,rfl,hR H' (Same.refl _)⟩
  obtain ⟨qs,eqs⟩:∃ qs,qs = ps.filter fun p=>decide (p.2.kd = 2):=⟨_,rfl⟩
  rw [← eqs] at h1
  have ql:qs.length≤24:=by rw [eqs]; exact Nat.le_trans (List.length_filter_le _ _) l24
  have qin:∀ p∈qs,p∈ps∧∃ nm sm tn t,p.2 = En.sl nm sm tn t:=fun p hp=>by
    rw [eqs] at hp
    obtain ⟨z1,z2⟩:=List.mem_filter.mp hp
    refine ⟨z1,?_⟩
    cases e:p.2 with
    | st nm kp og t=>rw [e] at z2; exact absurd (of_decide_eq_true z2) (show ¬ (1:Int) = 2 by decide)
    | sl nm sm tn t=>exact ⟨nm,sm,tn,t,rfl⟩
  refine ⟨_,rfl,ls,rfl,⟨_,SqL.of h1⟩,?_⟩
  refine comp_selF (ps:=qs) (g:=fun p=>V.ref p.1) (fun _=>true) (fun p=>V.int p.2.turn) (itIs_list (SqL.of h1)) (by omega) (fun p hp H' R s' hR=>hR) (fun p hp hs H' R s' hR=>?_) fun lt H2 n2 s2 h2=>?_
  · obtain ⟨a',e'⟩:=p
    obtain ⟨z1,nm,sm,tn,t,rfl⟩:=qin _ hp
    obtain ⟨ta',_,ha'⟩:=hg.en _ z1
    exact ⟨_,rfl,a',_,_,_,rfl,rfl,SqT.of (s'.get (s1.get ha')),atI_nat (j:=3) rfl,hR H' (Same.refl _)⟩
  rw [List.filter_eq_self.mpr fun _ _=>rfl] at h2
  refine ⟨small (by show 0≤1000000; decide),fun gl ng=>?_⟩
  have s12:=s1.trans s2
  have h12:=s2.get h1
  have s3:=same_new ng (.lst [])
  have hg2:=hg.same s12
  refine ⟨_,rfl,ls,rfl,⟨_,SqL.of (s3.get h12)⟩,for_list (K:=K) (a:=ls) (xs:=qs.map fun q=>V.ref q.1) (fun i σ H5=>∃ fs v5 v6 v7,σ = [some (.ref h),some (.ref r),some (.ref ls),some (.ref lt),some (.ref gl),v5,v6,v7,none,none]∧Same H2 H5∧H5 gl = some (.lst fs)∧(∀ v∈fs,Fo ks ps H5 v)∧fs.length≤48 * i)
    ⟨[],none,none,none,rfl,s3,upd_same,(fun _ h=>nomatch h),Nat.le_refl _⟩ (fun i σ H5 _ ⟨_,_,_,_,_,s5,_⟩=>SqL.of (s5.get h12)) ?_ ?_⟩
  · rintro i x σ H5 hi ⟨fs,v5,v6,v7,rfl,s5,hf5,fo5,lf5⟩
    rw [List.getElem?_map] at hi
    obtain ⟨⟨ea,e⟩,he,rfl⟩:=Option.map_eq_some_iff.mp hi
    have il:=(List.getElem?_eq_some_iff.mp he).1
    obtain ⟨pm,nm,sm,tn,t,rfl⟩:=qin _ (List.mem_of_getElem? he)
    have em:En.sl nm sm tn t∈ps.map (·.2):=List.mem_map.mpr ⟨_,pm,rfl⟩
    refine ⟨_,rfl,ls,rfl,⟨_,SqL.of (s5.get h12)⟩,for_list (K:=K) (a:=ls) (xs:=qs.map fun q=>V.ref q.1) (fun j σ H6=>∃ fs v6 v7,σ = [some (.ref h),some (.ref r),some (.ref ls),some (.ref lt),some (.ref gl),some (.ref ea),v6,v7,none,none]∧Same H2 H6∧H6 gl = some (.lst fs)∧(∀ v∈fs,Fo ks ps H6 v)∧fs.length≤48 * i + 2 * j)
      ⟨fs,v6,v7,rfl,s5,hf5,fo5,lf5⟩ (fun i σ H5 _ ⟨_,_,_,_,s5,_⟩=>SqL.of (s5.get h12)) ?_ ?_⟩
    · rintro j x σ H6 hj ⟨fs,v6,v7,rfl,s6,hf6,fo6,lf6⟩
      rw [List.getElem?_map] at hj
      obtain ⟨⟨oa,o⟩,ho,rfl⟩:=Option.map_eq_some_iff.mp hj
      have jl:=(List.getElem?_eq_some_iff.mp ho).1
      obtain ⟨pm2,nm2,sm2,tn2,t2,rfl⟩:=qin _ (List.mem_of_getElem? ho)
      have s06:=s12.trans s6
      have hg6:=hg.same s06
      obtain ⟨ta,_,ya⟩:=hg6.en _ pm
      obtain ⟨tb,_,yb⟩:=hg6.en _ pm2
      have om:En.sl nm2 sm2 tn2 t2∈ps.map (·.2):=List.mem_map.mpr ⟨_,pm2,rfl⟩
      obtain ⟨kp,og,t1,sm_in⟩:=hg.one.stm _ _ _ _ em
      obtain ⟨sa,spm⟩:=mem_en sm_in
      refine ⟨_,rfl,h,_,_,_,rfl,rfl,SqT.of hg6.at_,atI_nat (j:=2) rfl,n,rfl,⟨_,SqT.of hg6.nm⟩,?_⟩
      refine comp_selF (ps:=ps) (g:=fun p=>V.ref p.1) (fun p=>decide (p.2.nm = sm)) (fun p=>V.ref p.1) (itIs_tup hg6.nm) (by omega) (fun p hp H' R s' hR=>?_) (fun p hp hs H' R s' hR=>?_) fun lc H7 n7 s7 h7=>?_
      · obtain ⟨rr,hrr⟩:=(hg6.en p hp).fst
        refine ⟨_,rfl,p.1,_,_,_,rfl,rfl,SqT.of (s'.get hrr),atI_nat (j:=0) rfl,_,rfl,ea,_,_,_,rfl,rfl,SqT.of (s'.get ya),atI_nat (j:=2) rfl,rfl,_,rfl,?_⟩
        have ee:decide (V.str p.2.nm = V.str sm) = decide (p.2.nm = sm):=by
          by_cases z:p.2.nm = sm
          · rw [decide_eq_true z,decide_eq_true (by rw [z])]
          · rw [decide_eq_false z,decide_eq_false fun y=>z (V.str.inj y)]
        rw [ee]
        exact hR
      · exact ⟨_,rfl,hR H' (Same.refl _)⟩
      obtain ⟨cs,ecs⟩:∃ cs,cs = ps.filter fun p=>decide (p.2.nm = sm):=⟨_,rfl⟩
      rw [← ecs] at h7
      have c0:cs[0]? = some (sa,En.st sm kp og t1):=by
        cases hc:cs with
        | nil=>
          have:(sa,En.st sm kp og t1)∈cs:=by rw [ecs]; exact List.mem_filter.mpr ⟨spm,decide_eq_true rfl⟩
          rw [hc] at this
          cases this
        | cons x xs=>
          have:x∈cs:=by rw [hc]; exact List.mem_cons_self
          rw [ecs] at this
          obtain ⟨z1,z2⟩:=List.mem_filter.mp this
          have:=uniq z1 spm (of_decide_eq_true z2)
          rw [this]
          rfl
      refine ⟨lc,_,_,_,rfl,rfl,SqL.of h7,atI_nat (j:=0) (by rw [List.getElem?_map,c0]; rfl),?_⟩
      have s07:=s06.trans s7
      have hg7:=hg.same s07
      obtain ⟨tc,_,yc⟩:=hg7.en _ spm
      have ya:=s7.get ya
      have yb:=s7.get yb
      have hf7:=s7.get hf6
      have fo7:∀ v∈fs,Fo ks ps H7 v:=fun v hv=>(fo6 v hv).same s7
      dsimp only
      refine seq_mid (t:=tIfS _ _ _) (fun σ' H'=>∃ fs',σ' = [some (.ref h),some (.ref r),some (.ref ls),some (.ref lt),some (.ref gl),some (.ref ea),some (.ref oa),some (.ref sa),none,none]∧Same H2 H'∧H' gl = some (.lst fs')∧(∀ v∈fs',Fo ks ps H' v)∧fs'.length≤48 * i + 2 * j + 1) (fun N hN=>?_) ?_
      · by_cases c:nm2 = nm
        · have:=uniq pm2 pm c
          cases this
          exact ⟨_,rfl,_,rfl,.inl ⟨enT (.sl nm sm tn t),AllF,AllF,en_dep _,(hg7.en _ pm).rep,(hg7.en _ pm).rep,_,rfl,iteFc rfl (iteFc rfl (hN _ _ ⟨fs,rfl,s6.trans s7,hf7,fo7,by omega⟩))⟩⟩
        · refine ⟨_,rfl,_,rfl,.inr ⟨oa,ea,_,_,_,_,rfl,rfl,yb,ya,c,_,rfl,iteTc rfl ?_⟩⟩
          refine ⟨_,rfl,r,_,_,_,rfl,rfl,s07.seq hrs,X1,_,_,rfl,rfl,(by show (0:Int) < 2; decide),rfl,_,rfl,ite2 (fun d=>?_) (fun d=>hN _ _ ⟨fs,rfl,s6.trans s7,hf7,fo7,by omega⟩)⟩
          refine ⟨_,rfl,.inl ⟨rfl,_,SqL.of hf7⟩,_,rfl,_,rfl,oa,_,_,_,rfl,rfl,SqT.of yb,atI_nat (j:=3) rfl,small (by show 2≤1000000; decide),fun pn np=>?_⟩
          have s8:=same_new np (.tup [V.ref ea,V.int tn2])
          have hf8:=s8.get hf7
          refine ⟨gl,_,_,rfl,rfl,hf8,smallLt (by omega),hN _ _ ⟨fs ++ [V.ref pn],rfl,same_upd ((s6.trans s7).trans s8) ng _,upd_same,fun v hv=>?_,by rw [List.length_append]; show _ + 1≤_; omega⟩⟩
          rcases List.mem_append.mp hv with hv | hv
          · exact ((fo7 v hv).same s8).upd hf8
          · rw [List.mem_singleton.mp hv]
            refine Fo.upd ⟨pn,ea,nm,sm,tn,t,tn2,rfl,upd_same,pm,tw_same om c ⟨(hg.ok _ om).2.2.1,(hg.ok _ om).2.2.2.1⟩⟩ hf8
      rintro σ H8 ⟨fs',rfl,s8,hf8,fo8,lf8⟩
      have hg8:=hg.same (s12.trans s8)
      obtain ⟨_,_,ya⟩:=hg8.en _ pm
      obtain ⟨_,_,yb⟩:=hg8.en _ pm2
      obtain ⟨_,_,yc⟩:=hg8.en _ spm
      refine ⟨_,rfl,sa,_,_,_,rfl,rfl,SqT.of yc,atI_nat (j:=3) rfl,_,rfl,oa,_,_,_,rfl,rfl,SqT.of yb,atI_nat (j:=0) rfl,rfl,_,rfl,ite2 (fun d1=>?_) (fun d1=>iteFc rfl ⟨fs',_,_,rfl,s8,hf8,fo8,by omega⟩)⟩
      have d1:=V.str.inj (dec_true d1)
      refine ⟨_,rfl,oa,_,_,_,rfl,rfl,SqT.of yb,atI_nat (j:=3) rfl,_,_,rfl,rfl,_,rfl,ite2 (fun d2=>?_) (fun d2=>iteFc rfl ⟨fs',_,_,rfl,s8,hf8,fo8,by omega⟩)⟩
      have d2:=of_decide_eq_true d2
      refine ⟨_,rfl,oa,_,_,_,rfl,rfl,SqT.of yb,atI_nat (j:=3) rfl,_,_,rfl,rfl,_,rfl,lt,_,rfl,.inl (SqL.of (s8.get h2)),rfl,?_,_,rfl,ite2 (fun d3=>?_) (fun d3=>⟨fs',_,_,rfl,s8,hf8,fo8,by omega⟩)⟩
      · rw [List.all_eq_true]
        intro x hx
        obtain ⟨p,_,rfl⟩:=List.mem_map.mp hx
        rfl
      refine ⟨_,rfl,.inl ⟨rfl,_,SqL.of hf8⟩,_,rfl,_,rfl,oa,_,_,_,rfl,rfl,SqT.of yb,atI_nat (j:=3) rfl,_,_,rfl,rfl,small (by show 2≤1000000; decide),fun pn np=>?_⟩
      have s9:=same_new np (.tup [V.ref ea,V.int (tn2 - 1)])
      have hf9:=s9.get hf8
      refine ⟨gl,_,_,rfl,rfl,hf9,smallLt (by omega),⟨fs' ++ [V.ref pn],_,_,rfl,same_upd (s8.trans s9) ng _,upd_same,fun v hv=>?_,by rw [List.length_append]; show _ + 1≤_; omega⟩⟩
      rcases List.mem_append.mp hv with hv | hv
      · exact ((fo8 v hv).same s9).upd hf9
      · rw [List.mem_singleton.mp hv]
        refine Fo.upd ⟨pn,ea,nm,sm,tn,t,tn2 - 1,rfl,upd_same,pm,?_⟩ hf9
        subst d1
        exact tw_old hg.one em sm_in om uniqE d2 (hg.ok _ om).2.2.2.1
    · rintro σ H6 ⟨fs,v6,v7,rfl,s6,hf6,fo6,lf6⟩
      rw [List.length_map] at lf6
      exact ⟨fs,_,_,_,rfl,s6,hf6,fo6,by omega⟩
  · rintro σ H6 ⟨fs,v5,v6,v7,rfl,s6,hf6,fo6,lf6⟩
    have s06:=s12.trans s6
    have hg6:=hg.same s06
    rw [List.length_map] at lf6
    have lf:fs.length≤1152:=by omega
    refine ⟨_,rfl,small (by show 0≤1000000; decide),fun pe npe=>?_⟩
    have s7:=same_new npe (.lst [])
    have s07:=s06.trans s7
    have hf7:=s7.get hf6
    refine ⟨gl,pe,_,rfl,rfl,SqL.of hf7,SqL.of upd_same,_,rfl,ite2 (fun d=>?_) (fun d=>?_)⟩
    · exact q _ .non _ s07 ⟨rfl,rfl,(fun _ z=>by cases z),.inl rfl⟩
    have fne:fs≠[]:=fun z=>d (decide_eq_true z)
    have hg7:=hg.same s07
    obtain ⟨fv,hfv,AT⟩:=at_mod (fun v:V=>v) fne y0 rfl
    rw [List.map_id'] at AT
    obtain ⟨b,ea,nm,sm,tn,t,tn',rfl,hb,pm,tw⟩:=(fo6 fv hfv).same s7
    have em:En.sl nm sm tn t∈ps.map (·.2):=List.mem_map.mpr ⟨_,pm,rfl⟩
    have fp:=List.length_pos_iff.mpr fne
    refine ⟨_,rfl,_,rfl,r,_,_,_,rfl,rfl,s07.seq hrs,X0,_,rfl,gl,_,rfl,.inl (SqL.of hf7),_,_,rfl,rfl,(by show (0:Int) < (fs.length:Int); omega),gl,_,_,_,rfl,rfl,SqL.of hf7,AT,b,_,rfl,SqT.of hb,rfl,?_⟩
    refine ⟨_,_,rfl,_,_,rfl,rfl,?_⟩
    obtain ⟨i,hi⟩:=List.getElem?_of_mem pm
    have il:=(List.getElem?_eq_some_iff.mp hi).1
    obtain ⟨ta,ht,ha⟩:=hg7.en _ pm
    have bsm:((ps.map fun p=>(p.1,p.2.nm)).map fun b=>V.ref b.1) = ps.map fun p=>V.ref p.1:=by rw [List.map_map]; rfl
    refine ⟨_,rfl,h,_,_,_,rfl,rfl,SqT.of hg7.at_,atI_nat (j:=2) rfl,⟨n,_,rfl,hg7.nm,enu_refs ps⟩,_,rfl,n,ps.map fun p=>(p.1,p.2.nm),i,(ea,nm),rfl,rfl,by rw [bsm]; exact hg7.nm,fun b hb=>?_,?_,by rw [List.getElem?_map,hi]; rfl,?_⟩
    · obtain ⟨p,hp,rfl⟩:=List.mem_map.mp hb
      exact (hg7.en p hp).fst
    · rw [List.map_map]
      exact slt_nd hg.ri
    refine ⟨_,rfl,h,_,_,_,rfl,rfl,SqT.of hg7.at_,atI_nat (j:=2) rfl,_,rfl,_,rfl,_,rfl,ea,_,rfl,SqT.of ha,(fun z=>absurd z.2 (show ¬ (HT.sIx 5 5 (some 3) = 5) by decide)),fun p1 np1=>?_⟩
    rw [cut_hi (by decide)]
    have s8:=same_new np1 (.tup [V.str nm,V.int 2,V.str sm])
    refine ⟨_,rfl,_,rfl,ea,_,_,_,rfl,rfl,SqT.of (s8.get ha),atI_nat (j:=4) rfl,small (by show 2≤1000000; decide),fun p2 np2=>?_⟩
    have s9:=same_new np2 (.tup [V.int tn',V.ref ta])
    refine ⟨p1,p2,[V.str nm,V.int 2,V.str sm],_,rfl,rfl,SqT.of (s9.get upd_same),SqT.of upd_same,small (by show 5≤1000000; decide),(fun z=>by cases z),(fun _ z=>by cases z),fun _ _ p3 np3=>?_⟩
    have s10:=same_new np3 (.tup ([V.str nm,V.int 2,V.str sm] ++ [V.int tn',V.ref ta]))
    have s710:=(s8.trans s9).trans s10
    have e2:(ps.map (·.2))[i]? = some (.sl nm sm tn t):=by rw [List.getElem?_map,hi]; rfl
    have ok':EnOk ks (.sl nm sm tn' t):=⟨(hg.ok _ em).1,(hg.ok _ em).2.1,tw.1.1,tw.1.2,(hg.ok _ em).2.2.2.2⟩
    refine ⟨n,_,i,.ref p3,rfl,s710.get hg7.nm,by rw [List.length_map]; exact il,by rw [List.length_map]; omega,fun b' H4 s4 hb'=>q _ (.tup (((ps.map (·.2)).map enT).set i (enT (.sl nm sm tn' t)))) H4 ((s07.trans s710).trans s4) (Nms0.set ((hg7.same (s710.trans s4)).en) hg.ok hb' ?_ (en_sh ok' 0) (en_third _) ?_)⟩
    · exact EnAt.rep (p:=(p3,En.sl nm sm tn' t)) ⟨ta,(s710.trans s4).get ht,s4.get upd_same⟩
    · refine .inr ⟨_,rfl,fun z=>tw.2 i tn e2 ?_⟩
      rw [set_map enT,List.map_map,show (deT∘enT) = id from funext de_en,List.map_id] at z
      exact z
end
structure GH (H:Hp) (h:Addr) (ag:Int) (k n:Addr) (kps:List (Addr×Str×Int)) (ps:List (Addr×En)):Prop where
  hg:HG (kps.map fun p=>p.2.1) H h ag k n ps
  kt:H k = some (.tup (kps.map fun p=>V.ref p.1))
  kp:∀ p∈kps,KpAt H p
  k1:1≤kps.length
  k8:kps.length≤8
  kri:(kps.map fun p=>p.2.1).Pairwise Slt
  kok:∀ p∈kps,nmL p.2.1∧0≤p.2.2∧p.2.2≤999999999
  ag0:0≤ag∧ag≤999999999
theorem GH.same {H H':Hp} {h:Addr} {ag:Int} {k n:Addr} {kps:List (Addr×Str×Int)} {ps:List (Addr×En)} (x:GH H h ag k n kps ps) (s:Same H H'):GH H' h ag k n kps ps:=
  ⟨x.hg.same s,s.get x.kt,fun p hp=>s.get (x.kp p hp),x.k1,x.k8,x.kri,x.kok,x.ag0⟩
structure NoH (H:Hp) (v:V) (t:Tr):Prop where
  rep:Rep AllF H t v
  sh4:sh 4 t = true
  thd:thirds t
  no:¬ HeadP t
theorem noh {H:Hp} {p:Addr} {a k n:Tr} {av kv nv:V} (h:H p = some (.tup [av,kv,nv])) (ra:Rep AllF H a av) (rk:Rep AllF H k kv) (rn:Rep AllF H n nv) (sa:sh 3 a = true) (sk:sh 3 k = true) (sn:sh 3 n = true) (th:∀ ns,n = .tup ns→∀ x∈ns,thirdOk x = true) (no:¬ HeadP (.tup [a,k,n])):NoH H (.ref p) (.tup [a,k,n]):=by
  refine ⟨⟨p,_,rfl,h,_,_,rfl,ra,_,_,rfl,rk,_,_,rfl,rn,rfl⟩,List.all_eq_true.mpr fun x hx=>?_,?_,no⟩
  · simp only [List.mem_cons,List.not_mem_nil,or_false] at hx
    rcases hx with rfl | rfl | rfl
    · exact sa
    · exact sk
    · exact sn
  · cases n with
    | tup ns=>exact th ns rfl
    | _=>trivial
theorem head_of {a k n:Tr} (z:HeadP (.tup [a,k,n])):sB 0 999999999 a = true∧keepersT k = true∧namesT n = true:=by
  cases k with
  | tup ks=>
    cases n with
    | tup ns=>exact ⟨z.1,z.2.1,z.2.2.1⟩
    | _=>exact False.elim z
  | _=>exact False.elim z
theorem no_age {a k n:Tr} (h:sB 0 999999999 a = false):¬ HeadP (.tup [a,k,n]):=fun z=>by
  have:=(head_of z).1
  rw [h] at this
  cases this
theorem no_kps {a k n:Tr} (h:keepersT k = false):¬ HeadP (.tup [a,k,n]):=fun z=>by
  have:=(head_of z).2.1
  rw [h] at this
  cases this
theorem kp_rep {H:Hp} {p:Addr×Str×Int} (h:KpAt H p):Rep AllF H (kpT p.2) (.ref p.1):=⟨p.1,_,rfl,h,_,_,rfl,rfl,_,_,rfl,rfl,rfl⟩
theorem reps_kp {H:Hp} {kps:List (Addr×Str×Int)} (h:∀ p∈kps,KpAt H p):Reps AllF H (kps.map fun p=>kpT p.2) (kps.map fun p=>V.ref p.1):=by
  refine reps_of (by rw [List.length_map,List.length_map]) fun i t v h1 h2=>?_
  rw [List.getElem?_map] at h1 h2
  cases hi:kps[i]? with
  | none=>rw [hi] at h1; cases h1
  | some p=>
    rw [hi] at h1 h2
    cases h1
    cases h2
    exact kp_rep (h p (List.mem_of_getElem? hi))
theorem reps_ex {H:Hp} {Pt:Tr→Prop}:∀ {ys:List V},(∀ y∈ys,∃ t,Rep AllF H t y∧Pt t)→∃ ts,Reps AllF H ts ys∧ts.length = ys.length∧∀ t∈ts,Pt t
  | [],_=>⟨[],rfl,rfl,fun _ h=>nomatch h⟩
  | y :: ys,h=>by
    obtain ⟨t,r,pt⟩:=h y List.mem_cons_self
    obtain ⟨ts,rs,l,pts⟩:=reps_ex (ys:=ys) fun z hz=>h z (List.mem_cons_of_mem _ hz)
    refine ⟨t :: ts,⟨y,ys,rfl,r,rs⟩,by rw [List.length_cons,List.length_cons,l],fun x hx=>?_⟩
    rcases List.mem_cons.mp hx with rfl | hx
    · exact pt
    · exact pts x hx
theorem kp_sh {p:Str×Int} (h:nmL p.1) (n:Nat):sh (n + 1) (kpT p) = true:=List.all_eq_true.mpr fun x hx=>by
  simp only [List.mem_cons,List.not_mem_nil,or_false] at hx
  rcases hx with rfl | rfl
  · exact sh_str (by have:=h.len; omega)
  · exact sh_int _ _
theorem GH.repK {H:Hp} {h:Addr} {ag:Int} {k n:Addr} {kps:List (Addr×Str×Int)} {ps:List (Addr×En)} (x:GH H h ag k n kps ps):Rep AllF H (.tup (kps.map fun p=>kpT p.2)) (.ref k):=⟨k,_,rfl,x.kt,reps_kp x.kp⟩
theorem GH.shK {H:Hp} {h:Addr} {ag:Int} {k n:Addr} {kps:List (Addr×Str×Int)} {ps:List (Addr×En)} (x:GH H h ag k n kps ps):sh 3 (.tup (kps.map fun p=>kpT p.2)) = true:=List.all_eq_true.mpr fun t ht=>by
  obtain ⟨p,hp,rfl⟩:=List.mem_map.mp ht
  exact kp_sh (x.kok p hp).1 1
theorem GH.repN {H:Hp} {h:Addr} {ag:Int} {k n:Addr} {kps:List (Addr×Str×Int)} {ps:List (Addr×En)} (x:GH H h ag k n kps ps):Rep AllF H (.tup ((ps.map (·.2)).map enT)) (.ref n):=⟨n,_,rfl,x.hg.nm,reps_en x.hg.en⟩
theorem GH.shN {H:Hp} {h:Addr} {ag:Int} {k n:Addr} {kps:List (Addr×Str×Int)} {ps:List (Addr×En)} (x:GH H h ag k n kps ps):sh 3 (.tup ((ps.map (·.2)).map enT)) = true:=List.all_eq_true.mpr fun t ht=>by
  obtain ⟨e,he,rfl⟩:=List.mem_map.mp ht
  exact en_sh (x.hg.ok e he) 0
theorem ths_en {es:List En}:∀ ns,Tr.tup (es.map enT) = .tup ns→∀ x∈ns,thirdOk x = true:=fun ns e x hx=>by
  cases e
  obtain ⟨y,_,rfl⟩:=List.mem_map.mp hx
  exact en_third y
theorem bad_kp {ks:List Tr} {t:Tr} (m:t∈ks) (h:keeperT t = false):keepersT (.tup ks) = false:=by
  show (decide (ks.length≤8) && (ks.all keeperT && riseB (ks.map nm0))) = false
  have:ks.all keeperT = false:=by
    cases c:ks.all keeperT with
    | false=>rfl
    | true=>
      have:=List.all_eq_true.mp c t m
      rw [h] at this
      cases this
  rw [this,Bool.false_and,Bool.and_false]
theorem bad_kri {ks:List Tr} (h:¬ (ks.map nm0).Pairwise Slt):keepersT (.tup ks) = false:=by
  show (decide (ks.length≤8) && (ks.all keeperT && riseB (ks.map nm0))) = false
  have:riseB (ks.map nm0) = false:=by
    cases c:riseB (ks.map nm0) with
    | false=>rfl
    | true=>exact absurd ((rise_iff _).mp c) h
  rw [this,Bool.and_false,Bool.and_false]
theorem bad_many {ks:List Tr} (h:8 < ks.length):keepersT (.tup ks) = false:=by
  show (decide (ks.length≤8) && (ks.all keeperT && riseB (ks.map nm0))) = false
  rw [decide_eq_false (by omega),Bool.false_and]
theorem bad_kset {H:Hp} {h:Addr} {ag:Int} {k n:Addr} {kps:List (Addr×Str×Int)} {ps:List (Addr×En)} (x:GH H h ag k n kps ps) {i:Nat} {t:Tr} (s:sh 2 t = true):sh 3 (.tup ((kps.map fun p=>kpT p.2).set i t)) = true:=List.all_eq_true.mpr fun y hy=>by
  rcases List.mem_or_eq_of_mem_set hy with z | rfl
  · exact List.all_eq_true.mp x.shK y z
  · exact s
theorem dup_rd {K:PySem.W.Frag} {H:Hp} {k:Addr} {xs:List V} {x:V} {i:Nat} {σ:St} {Q:VK} (hk:H k = some (.tup xs)) (hx:xs[i]? = some x) (few:xs.length≤1000) (v3:σ[3]? = some (some (.ref k))) (v6:σ[6]? = some (some (.int i))) (q:∀ b H',Same H H'→H' b = some (.tup (xs.take i ++ [x] ++ xs.drop i))→Q (.ref b) H') :
    tOp (rCatT3 K) (tOp (rCatT3 K) (tSl (rSlT K) (tVar 3) tNoPart (tPart (tVar 6))) (tTup (tCons (tOp (rIxT K) (tVar 3) (tVar 6)) tNil))) (tSl (rSlW K) (tVar 3) (tPart (tVar 6)) tNoPart) σ H Q:=by
  have il:=(List.getElem?_eq_some_iff.mp hx).1
  have lt:(xs.take i).length = i:=by rw [List.length_take]; omega
  have dne:xs.drop i≠[]:=fun z=>by
    have:=congrArg List.length z
    rw [List.length_drop] at this
    simp at this
    omega
  refine ⟨_,v3,_,v6,(i:Int),rfl,k,_,rfl,SqT.of hk,(fun z=>?_),fun p1 n1=>?_⟩
  · have:=z.2
    rw [HT.sIx_nat] at this
    omega
  rw [cut_hi (by omega),Int.toNat_natCast]
  have s1:=same_new n1 (.tup (xs.take i))
  refine ⟨_,v3,_,v6,k,_,_,_,rfl,rfl,SqT.of (s1.get hk),atI_nat (j:=i) hx,small (by show 1≤1000000; decide),fun p2 n2=>?_⟩
  have s2:=same_new n2 (.tup [x])
  have s12:=s1.trans s2
  have cat:∀ c y H4,Same H H4→H4 c = some (.tup (xs.take i ++ [x]))→H4 y = some (.tup (xs.drop i))→rCatT3 K (.ref c) (.ref y) H4 Q:=fun c y H4 s4 hc hy=>
    ⟨c,y,_,_,rfl,rfl,SqT.of hc,SqT.of hy,small (by rw [List.length_append,List.length_drop,lt]; show i + 1 + _≤1000000; omega),(fun z=>absurd z (by simp)),(fun _ z=>absurd z dne),fun _ _ p5 n5=>q p5 _ (s4.trans (same_new n5 _)) upd_same⟩
  have rest:∀ c H3,Same H H3→H3 c = some (.tup (xs.take i ++ [x]))→tSl (rSlW K) (tVar 3) (tPart (tVar 6)) tNoPart σ H3 fun y H4=>rCatT3 K (.ref c) y H4 Q:=fun c H3 s3 hc=>by
    refine ⟨_,v3,_,v6,(i:Int),rfl,k,_,rfl,SqT.of (s3.get hk),fun z=>?_,fun _ p4 n4=>?_⟩
    · have i0:i = 0:=by
        have:=z.1
        rw [HT.sIx_nat] at this
        omega
      subst i0
      exact cat c k H3 s3 hc (s3.get hk)
    · rw [cut_lo (by omega),Int.toNat_natCast]
      have s5:=same_new n4 (.tup (xs.drop i))
      exact cat c p4 _ (s3.trans s5) (s5.get hc) upd_same
  refine ⟨p1,p2,_,_,rfl,rfl,SqT.of (s2.get upd_same),SqT.of upd_same,small (by rw [lt]; show i + 1≤1000000; omega),fun z=>?_,(fun _ z=>by cases z),fun _ _ p3 n3=>?_⟩
  · exact rest p2 _ s12 (by rw [z]; exact upd_same)
  · exact rest p3 _ (s12.trans (same_new n3 _)) upd_same
theorem mul8_len (c:Nat):(PySem.Txt.mul ⟨#[c]⟩ 8).length≤8:=by
  have:=PyProof.Rows.len_mul_leN (x:=⟨#[c]⟩) (n:=8) (L:=1) (N:=8) (Nat.le_refl 1) (by omega)
  omega
theorem cat_one {K:PySem.W.Frag} {H:Hp} {a b:Addr} {xs ys:List V} {Q:VK} (ha:H a = some (.tup xs)) (hb:H b = some (.tup ys)) (ne:ys≠[]) (few:xs.length + ys.length≤sizeLine) (q:∀ c H',Same H H'→H' c = some (.tup (xs ++ ys))→Q (.ref c) H'):rCatT3 K (.ref a) (.ref b) H Q:=
  ⟨a,b,xs,ys,rfl,rfl,SqT.of ha,SqT.of hb,few,fun z=>q b H (Same.refl _) (by rw [z,List.nil_append]; exact hb),fun _ z=>absurd z ne,fun _ _ p np=>q p _ (same_new np _) upd_same⟩
theorem nm_kp (kps:List (Addr×Str×Int)):(kps.map fun p=>kpT p.2).map nm0 = kps.map fun p=>p.2.1:=by rw [List.map_map]; rfl
theorem slt_asym {a b:Str} (h:Slt a b) (h':Slt b a):False:=List.lt_irrefl _ (List.lt_trans h h')
section
variable {P:Program} {w:World} {K:PySem.W.Frag} {mg:Str→Option Value} {base:Heap} {f:Addr} {fd:FuncData}
def sp__law_bad (K:PySem.W.Frag):Sp:=fun vs H Q _=>∃ (h r:Addr) (ag:Int) (k n:Addr) (kps:List (Addr×Str×Int)) (ps:List (Addr×En)) (rs:List Int),vs = [.ref h,.ref r]∧GH H h ag k n kps ps∧SqL K H r (rs.map V.int)∧rs.length = 12∧
  ∀ v t H',Same H H'→NoH H' v t→Q v H'
theorem ok__law_bad (T:Txt K mg) (F:Fun K "_law_bad" "_law_bad" s__law_bad f fd) (D__law_bad_name:Def P w K mg base 2 "_law_bad_name" ["_law_head_here","_law_row_here","_law_way"] (sp__law_bad_name K)) (D__law_with:Def P w K mg base 1 "_law_with" ["_law_things","_law_at","_law_thing"] (sp__law_with K)) (D__law_twice:Def P w K mg base 2 "_law_twice" ["_law_head_here","_law_row_here"] (sp__law_twice K)):FnOk P w K mg base CX0 3 f fd ["_law_head_here","_law_row_here"] (sp__law_bad K):=by
  refine F.ok sc__law_bad (fun vs H Q E h=>?_) (fun cdv A outer s H vs Q E hr h=>?_)
  · obtain ⟨h,r,ag,k,n,kps,ps,rs,rfl,_⟩:=h
    rfl
  obtain ⟨h,r,ag,k,n,kps,ps,rs,rfl,gh,hrs,lr,q⟩:=h
  have hu:=hu_of hr
  have hu9:=hu9_of hr
  refine ⟨_,(@pss_cons _ _ _ _ _ (@ps_asg _ _ _ _ _ _ (pv 0) (@pg_tup _ _ _ _ _ _ rfl (@pgs_cons _ _ _ _ _ (@pg_name _ _ (2) _ sc__law_bad.nd rfl (by first | exact Or.inl rfl | exact Or.inr rfl) (by first | exact .inl rfl | exact .inr rfl | assumption)) (@pgs_cons _ _ _ _ _ (@pg_name _ _ (3) _ sc__law_bad.nd rfl (by first | exact Or.inl rfl | exact Or.inr rfl) (by first | exact .inl rfl | exact .inr rfl | assumption)) (@pgs_cons _ _ _ _ _ (@pg_name _ _ (4) _ sc__law_bad.nd rfl (by first | exact Or.inl rfl | exact Or.inr rfl) (by first | exact .inl rfl | exact .inr rfl | assumption)) (@pgs_nil _) (by rfl)) (by rfl)) (by rfl)) (by rfl) (by rfl)) (by rfl) (by rfl) (by rfl)) (@pss_cons _ _ _ _ _ (@ps_set _ _ (5) _ _ _ _ sc__law_bad.nd rfl (by first | exact Or.inl rfl | exact Or.inr rfl) (@pe_op _ _ _ _ _ _ _ _ op_mod (@pe_ix _ _ _ _ _ _ _ ix_list (pv 1) (@pe_int _ _ _ _) (fun _ _=>rfl)) (@pe_int _ _ _ _)) (by rfl) (by first | exact .inl rfl | exact .inr rfl | assumption)) (@pss_cons _ _ _ _ _ (@ps_set _ _ (6) _ _ _ _ sc__law_bad.nd rfl (by first | exact Or.inl rfl | exact Or.inr rfl) (@pe_op _ _ _ _ _ _ _ _ op_mod (@pe_ix _ _ _ _ _ _ _ ix_list (pv 1) (@pe_int _ _ _ _) (fun _ _=>rfl)) (@pe_callB _ _ _ _ _ _ _ _ _ call_len_seq (by rfl) T.b_len bt_len (@pa_cons _ _ _ _ _ (pv 3) (@pa_nil _) (by rfl)) (by decide) (by decide) (by rfl) (by rfl))) (by rfl) (by first | exact .inl rfl | exact .inr rfl | assumption)) (@pss_cons _ _ _ _ _ (@ps_if _ _ _ _ _ _ _ _ (@pt_cmpR _ _ _ _ _ _ _ _ op_eq (pv 5) (@pe_int _ _ _ _) (nomark _)) (@pss_one _ _ _ (@ps_ret _ _ _ _ (@pe_tup _ _ _ _ _ (@pa_cons _ _ _ _ _ (@pe_ix _ _ _ _ _ _ _ ix_list (@pe_lst _ _ _ _ (@pa_cons _ _ _ _ _ (@pe_un _ _ _ _ _ _ un_neg (@pe_int _ _ _ _)) (@pa_cons _ _ _ _ _ (@pe_op _ _ _ _ _ _ _ _ op_pow (@pe_int _ _ _ _) (@pe_int _ _ _ _)) (@pa_cons _ _ _ _ _ (@pe_bl _ _ _ _) (@pa_cons _ _ _ _ _ (@pe_non _ _ _) (@pa_cons _ _ _ _ _ (@pe_str _ _ _ _) (@pa_nil _) (by rfl)) (by rfl)) (by rfl)) (by rfl)) (by rfl))) (@pe_op _ _ _ _ _ _ _ _ op_mod (@pe_ix _ _ _ _ _ _ _ ix_list (pv 1) (@pe_int _ _ _ _) (fun _ _=>rfl)) (@pe_int _ _ _ _)) (fun _ _=>rfl)) (@pa_cons _ _ _ _ _ (pv 3) (@pa_cons _ _ _ _ _ (pv 4) (@pa_nil _) (by rfl)) (by rfl)) (by rfl))))) (@pss_nil _)) (@pss_cons _ _ _ _ _ (@ps_if _ _ _ _ _ _ _ _ (@pt_cmpR _ _ _ _ _ _ _ _ op_eq (pv 5) (@pe_int _ _ _ _) (nomark _)) (@pss_cons _ _ _ _ _ (@ps_set _ _ (7) _ _ _ _ sc__law_bad.nd rfl (by first | exact Or.inl rfl | exact Or.inr rfl) (@pe_ix _ _ _ _ _ _ _ ix_list (@pe_lst _ _ _ _ (@pa_cons _ _ _ _ _ (@pe_un _ _ _ _ _ _ un_neg (@pe_int _ _ _ _)) (@pa_cons _ _ _ _ _ (@pe_op _ _ _ _ _ _ _ _ op_pow (@pe_int _ _ _ _) (@pe_int _ _ _ _)) (@pa_cons _ _ _ _ _ (@pe_bl _ _ _ _) (@pa_cons _ _ _ _ _ (@pe_str _ _ _ _) (@pa_nil _) (by rfl)) (by rfl)) (by rfl)) (by rfl))) (@pe_op _ _ _ _ _ _ _ _ op_mod (@pe_ix _ _ _ _ _ _ _ ix_list (pv 1) (@pe_int _ _ _ _) (fun _ _=>rfl)) (@pe_int _ _ _ _)) (fun _ _=>rfl)) (by rfl) (by first | exact .inl rfl | exact .inr rfl | assumption)) (@pss_one _ _ _ (@ps_ret _ _ _ _ (@pe_tup _ _ _ _ _ (@pa_cons _ _ _ _ _ (pv 2) (@pa_cons _ _ _ _ _ (@pe_fn _ _ _ _ _ _ _ _ _ _ D__law_with (hr.mono (by decide)) rfl (@pa_cons _ _ _ _ _ (pv 3) (@pa_cons _ _ _ _ _ (pv 6) (@pa_cons _ _ _ _ _ (@pe_tup _ _ _ _ _ (@pa_cons _ _ _ _ _ (@pe_ix _ _ _ _ _ _ _ ix_tup (@pe_ix _ _ _ _ _ _ _ ix_tup (pv 3) (pv 6) (fun _ _=>rfl)) (@pe_int _ _ _ _) (fun _ _=>rfl)) (@pa_cons _ _ _ _ _ (pv 7) (@pa_nil _) (by rfl)) (by rfl))) (@pa_nil _) (by rfl)) (by rfl)) (by rfl)) (by decide) (by rfl) (by rfl)) (@pa_cons _ _ _ _ _ (pv 4) (@pa_nil _) (by rfl)) (by rfl)) (by rfl)))))) (@pss_nil _)) (@pss_cons _ _ _ _ _ (@ps_if _ _ _ _ _ _ _ _ (@pt_cmpR _ _ _ _ _ _ _ _ op_eq (pv 5) (@pe_int _ _ _ _) (nomark _)) (@pss_cons _ _ _ _ _ (@ps_set _ _ (8) _ _ _ _ sc__law_bad.nd rfl (by first | exact Or.inl rfl | exact Or.inr rfl) (@pe_callTy _ _ _ _ _ _ _ _ _ call_tuple_of (by rfl) T.b_tuple bt_tuple (@pa_cons _ _ _ _ _ (@pe_comp0 _ ["_law_letter"] _ _ _ _ _ _ _ _ _ _ rfl (@pi_str _ _ _ _ (@pe_slice _ _ _ _ _ _ _ _ _ _ sl_str (@pe_str _ _ _ _) (@po_none _) (@po_some _ _ _ (@pe_op _ _ _ _ _ _ _ _ op_sub (@pe_int _ _ _ _) (@pe_callB _ _ _ _ _ _ _ _ _ call_len_seq (by rfl) T.b_len bt_len (@pa_cons _ _ _ _ _ (pv 3) (@pa_nil _) (by rfl)) (by decide) (by decide) (by rfl) (by rfl)))))) (by decide +kernel) (fun C s H fp=>⟨(@pg_name _ _ (0) _ (show (["_law_letter"]:List Str).Nodup by decide +kernel) rfl (by first | exact Or.inl rfl | exact Or.inr rfl) (by first | exact .inl rfl | exact .inr rfl | assumption)),(@pifs_nil _),(@pe_tup _ _ _ _ _ (@pa_cons _ _ _ _ _ (@pe_op _ _ _ _ _ _ _ _ op_add_str (@pe_op _ _ _ _ _ _ _ _ op_mul_str (pv 0) (@pe_int _ _ _ _)) (@pe_str _ _ _ _)) (@pa_cons _ _ _ _ _ (@pe_int _ _ _ _) (@pa_nil _) (by rfl)) (by rfl)))⟩) (by intro _; rfl)) (@pa_nil _) (by rfl)) (by decide) (by decide) (by rfl) (by rfl)) (by rfl) (by first | exact .inl rfl | exact .inr rfl | assumption)) (@pss_cons _ _ _ _ _ (@ps_set _ _ (7) _ _ _ _ sc__law_bad.nd rfl (by first | exact Or.inl rfl | exact Or.inr rfl) (@pe_ix _ _ _ _ _ _ _ ix_list (@pe_lst _ _ _ _ (@pa_cons _ _ _ _ _ (@pe_op _ _ _ _ _ _ _ _ op_catT3 (@pe_op _ _ _ _ _ _ _ _ op_catT3 (@pe_slice _ _ _ _ _ _ _ _ _ _ sl_tup (pv 3) (@po_none _) (@po_some _ _ _ (pv 6))) (@pe_tup _ _ _ _ _ (@pa_cons _ _ _ _ _ (@pe_ix _ _ _ _ _ _ _ ix_tup (pv 3) (pv 6) (fun _ _=>rfl)) (@pa_nil _) (by rfl)))) (@pe_slice _ _ _ _ _ _ _ _ _ _ sl_tupW (pv 3) (@po_some _ _ _ (pv 6)) (@po_none _))) (@pa_cons _ _ _ _ _ (@pe_op _ _ _ _ _ _ _ _ op_catT3 (pv 8) (pv 3)) (@pa_cons _ _ _ _ _ (@pe_callTy _ _ _ _ _ _ _ _ _ call_list_of (by rfl) T.b_list bt_list (@pa_cons _ _ _ _ _ (pv 3) (@pa_nil _) (by rfl)) (by decide) (by decide) (by rfl) (by rfl)) (@pa_nil _) (by rfl)) (by rfl)) (by rfl))) (@pe_op _ _ _ _ _ _ _ _ op_mod (@pe_ix _ _ _ _ _ _ _ ix_list (pv 1) (@pe_int _ _ _ _) (fun _ _=>rfl)) (@pe_int _ _ _ _)) (fun _ _=>rfl)) (by rfl) (by first | exact .inl rfl | exact .inr rfl | assumption)) (@pss_one _ _ _ (@ps_ret _ _ _ _ (@pe_tup _ _ _ _ _ (@pa_cons _ _ _ _ _ (pv 2) (@pa_cons _ _ _ _ _ (pv 7) (@pa_cons _ _ _ _ _ (pv 4) (@pa_nil _) (by rfl)) (by rfl)) (by rfl))))))) (@pss_nil _)) (@pss_cons _ _ _ _ _ (@ps_if _ _ _ _ _ _ _ _ (@pt_cmpR _ _ _ _ _ _ _ _ op_eq (pv 5) (@pe_int _ _ _ _) (nomark _)) (@pss_cons _ _ _ _ _ (@ps_set _ _ (7) _ _ _ _ sc__law_bad.nd rfl (by first | exact Or.inl rfl | exact Or.inr rfl) (@pe_ix _ _ _ _ _ _ _ ix_list (@pe_lst _ _ _ _ (@pa_cons _ _ _ _ _ (@pe_tup _ _ _ _ _ (@pa_cons _ _ _ _ _ (@pe_op _ _ _ _ _ _ _ _ op_add_str (@pe_ix _ _ _ _ _ _ _ ix_tup (@pe_ix _ _ _ _ _ _ _ ix_tup (pv 3) (pv 6) (fun _ _=>rfl)) (@pe_int _ _ _ _) (fun _ _=>rfl)) (@pe_str _ _ _ _)) (@pa_cons _ _ _ _ _ (@pe_int _ _ _ _) (@pa_nil _) (by rfl)) (by rfl))) (@pa_cons _ _ _ _ _ (@pe_callTy _ _ _ _ _ _ _ _ _ call_list_of (by rfl) T.b_list bt_list (@pa_cons _ _ _ _ _ (@pe_ix _ _ _ _ _ _ _ ix_tup (pv 3) (pv 6) (fun _ _=>rfl)) (@pa_nil _) (by rfl)) (by decide) (by decide) (by rfl) (by rfl)) (@pa_cons _ _ _ _ _ (@pe_op _ _ _ _ _ _ _ _ op_catT3 (@pe_ix _ _ _ _ _ _ _ ix_tup (pv 3) (pv 6) (fun _ _=>rfl)) (@pe_tup _ _ _ _ _ (@pa_cons _ _ _ _ _ (@pe_int _ _ _ _) (@pa_nil _) (by rfl)))) (@pa_cons _ _ _ _ _ (@pe_tup _ _ _ _ _ (@pa_cons _ _ _ _ _ (@pe_str _ _ _ _) (@pa_cons _ _ _ _ _ (@pe_int _ _ _ _) (@pa_nil _) (by rfl)) (by rfl))) (@pa_nil _) (by rfl)) (by rfl)) (by rfl)) (by rfl))) (@pe_op _ _ _ _ _ _ _ _ op_mod (@pe_ix _ _ _ _ _ _ _ ix_list (pv 1) (@pe_int _ _ _ _) (fun _ _=>rfl)) (@pe_int _ _ _ _)) (fun _ _=>rfl)) (by rfl) (by first | exact .inl rfl | exact .inr rfl | assumption)) (@pss_one _ _ _ (@ps_ret _ _ _ _ (@pe_tup _ _ _ _ _ (@pa_cons _ _ _ _ _ (pv 2) (@pa_cons _ _ _ _ _ (@pe_fn _ _ _ _ _ _ _ _ _ _ D__law_with (hr.mono (by decide)) rfl (@pa_cons _ _ _ _ _ (pv 3) (@pa_cons _ _ _ _ _ (pv 6) (@pa_cons _ _ _ _ _ (pv 7) (@pa_nil _) (by rfl)) (by rfl)) (by rfl)) (by decide) (by rfl) (by rfl)) (@pa_cons _ _ _ _ _ (pv 4) (@pa_nil _) (by rfl)) (by rfl)) (by rfl)))))) (@pss_nil _)) (@pss_cons _ _ _ _ _ (@ps_if _ _ _ _ _ _ _ _ (@PW.pt _ _ _ (@pw_and _ _ _ _ _ _ _ (@pt_cmpR _ _ _ _ _ _ _ _ op_eq (pv 5) (@pe_int _ _ _ _) (nomark _)) (@pw_and1 _ _ _ _ (@pt_cmpR _ _ _ _ _ _ _ _ op_gt (@pe_callB _ _ _ _ _ _ _ _ _ call_len_seq (by rfl) T.b_len bt_len (@pa_cons _ _ _ _ _ (pv 3) (@pa_nil _) (by rfl)) (by decide) (by decide) (by rfl) (by rfl)) (@pe_int _ _ _ _) (nomark _))))) (@pss_one _ _ _ (@ps_ret _ _ _ _ (@pe_tup _ _ _ _ _ (@pa_cons _ _ _ _ _ (pv 2) (@pa_cons _ _ _ _ _ (@pe_callTy _ _ _ _ _ _ _ _ _ call_tuple_of (by rfl) T.b_tuple bt_tuple (@pa_cons _ _ _ _ _ (@pe_listRev _ _ _ _ _ _ _ rfl (by rfl) T.b_list (by rfl) T.b_reversed (pv 3) (by rfl)) (@pa_nil _) (by rfl)) (by decide) (by decide) (by rfl) (by rfl)) (@pa_cons _ _ _ _ _ (pv 4) (@pa_nil _) (by rfl)) (by rfl)) (by rfl))))) (@pss_nil _)) (@pss_cons _ _ _ _ _ (@ps_if _ _ _ _ _ _ _ _ (@pt_cmpR _ _ _ _ _ _ _ _ op_eq (pv 5) (@pe_int _ _ _ _) (nomark _)) (@pss_cons _ _ _ _ _ (@ps_set _ _ (9) _ _ _ _ sc__law_bad.nd rfl (by first | exact Or.inl rfl | exact Or.inr rfl) (@pe_callTy _ _ _ _ _ _ _ _ _ call_tuple_of (by rfl) T.b_tuple bt_tuple (@pa_cons _ _ _ _ _ (@pe_comp _ ["_law_letter","_law_keepers","_law_at"] [none,some 3,some 6] _ _ _ _ _ _ _ _ _ _ _ rfl (@pi_str _ _ _ _ (@pe_str _ _ _ _)) (by rfl) rfl (by repeat (first | exact trivial | refine ⟨rfl,?_⟩)) (by repeat (first | exact trivial | refine ⟨fun h=>(by first | exact ⟨_,rfl⟩ | cases h),?_⟩)) (fun C s H fp=>⟨(@pg_name _ _ (0) _ (show (["_law_letter","_law_keepers","_law_at"]:List Str).Nodup by decide +kernel) rfl (by first | exact Or.inl rfl | exact Or.inr rfl) (by first | exact .inl rfl | exact .inr rfl | assumption)),(@pifs_nil _),(@pe_tup _ _ _ _ _ (@pa_cons _ _ _ _ _ (@pe_op _ _ _ _ _ _ _ _ op_add_str (@pe_str _ _ _ _) (pv 0)) (@pa_cons _ _ _ _ _ (@pe_int _ _ _ _) (@pa_cons _ _ _ _ _ (@pe_ix _ _ _ _ _ _ _ (ix_tupK (K:=K) (by rfl)) (@pe_ix _ _ _ _ _ _ _ (ix_tupK (K:=K) (by rfl)) (pv 1) (pv 2) (fun _ _=>rfl)) (@pe_int _ _ _ _) (fun _ _=>rfl)) (@pa_cons _ _ _ _ _ (@pe_str _ _ _ _) (@pa_cons _ _ _ _ _ (@pe_tup _ _ _ _ _ (@pa_cons _ _ _ _ _ (@pe_int _ _ _ _) (@pa_cons _ _ _ _ _ (@pe_int _ _ _ _) (@pa_cons _ _ _ _ _ (@pe_int _ _ _ _) (@pa_nil _) (by rfl)) (by rfl)) (by rfl))) (@pa_nil _) (by rfl)) (by rfl)) (by rfl)) (by rfl)) (by rfl)))⟩) (by intro _; rfl)) (@pa_nil _) (by rfl)) (by decide) (by decide) (by rfl) (by rfl)) (by rfl) (by first | exact .inl rfl | exact .inr rfl | assumption)) (@pss_one _ _ _ (@ps_ret _ _ _ _ (@pe_tup _ _ _ _ _ (@pa_cons _ _ _ _ _ (pv 2) (@pa_cons _ _ _ _ _ (pv 3) (@pa_cons _ _ _ _ _ (@pe_ix _ _ _ _ _ _ _ ix_list (@pe_lst _ _ _ _ (@pa_cons _ _ _ _ _ (pv 9) (@pa_cons _ _ _ _ _ (@pe_callTy _ _ _ _ _ _ _ _ _ call_list_of (by rfl) T.b_list bt_list (@pa_cons _ _ _ _ _ (pv 4) (@pa_nil _) (by rfl)) (by decide) (by decide) (by rfl) (by rfl)) (@pa_cons _ _ _ _ _ (@pe_op _ _ _ _ _ _ _ _ op_catT3 (pv 4) (@pe_tup _ _ _ _ _ (@pa_cons _ _ _ _ _ (@pe_non _ _ _) (@pa_nil _) (by rfl)))) (@pa_nil _) (by rfl)) (by rfl)) (by rfl))) (@pe_op _ _ _ _ _ _ _ _ op_mod (@pe_ix _ _ _ _ _ _ _ ix_list (pv 1) (@pe_int _ _ _ _) (fun _ _=>rfl)) (@pe_int _ _ _ _)) (fun _ _=>rfl)) (@pa_nil _) (by rfl)) (by rfl)) (by rfl)))))) (@pss_nil _)) (@pss_cons _ _ _ _ _ (@ps_if _ _ _ _ _ _ _ _ (@PW.pt _ _ _ (@pw_and _ _ _ _ _ _ _ (@pt_cmpR _ _ _ _ _ _ _ _ op_eq (pv 5) (@pe_int _ _ _ _) (nomark _)) (@pw_and1 _ _ _ _ (@pt_cmp _ _ _ _ _ _ (@pc_notN _ _ _ _ _ (@pe_fn _ _ _ _ _ _ _ _ _ _ D__law_twice (hr.mono (by decide)) rfl (@pa_cons _ _ _ _ _ (pv 0) (@pa_cons _ _ _ _ _ (@pe_slice _ _ _ _ _ _ _ _ _ _ sl_list (pv 1) (@po_some _ _ _ (@pe_int _ _ _ _)) (@po_none _)) (@pa_nil _) (by rfl)) (by rfl)) (by decide) (by rfl) (by rfl))) (by first | exact nobehind _ (by decide) (by decide) | rfl))))) (@pss_one _ _ _ (@ps_ret _ _ _ _ (@pe_tup _ _ _ _ _ (@pa_cons _ _ _ _ _ (pv 2) (@pa_cons _ _ _ _ _ (pv 3) (@pa_cons _ _ _ _ _ (@pe_fn _ _ _ _ _ _ _ _ _ _ D__law_twice (hr.mono (by decide)) rfl (@pa_cons _ _ _ _ _ (pv 0) (@pa_cons _ _ _ _ _ (@pe_slice _ _ _ _ _ _ _ _ _ _ sl_list (pv 1) (@po_some _ _ _ (@pe_int _ _ _ _)) (@po_none _)) (@pa_nil _) (by rfl)) (by rfl)) (by decide) (by rfl) (by rfl)) (@pa_nil _) (by rfl)) (by rfl)) (by rfl))))) (@pss_nil _)) (@pss_cons _ _ _ _ _ (@ps_if _ _ _ _ _ _ _ _ (@pt_cmpR _ _ _ _ _ _ _ _ (op_eqT0 hu) (pv 4) (@pe_tup _ _ _ _ _ (@pa_nil _)) (nomark _)) (@pss_one _ _ _ (@ps_ret _ _ _ _ (@pe_tup _ _ _ _ _ (@pa_cons _ _ _ _ _ (pv 2) (@pa_cons _ _ _ _ _ (pv 3) (@pa_nil _) (by rfl)) (by rfl))))) (@pss_nil _)) (@pss_one _ _ _ (@ps_ret _ _ _ _ (@pe_tup _ _ _ _ _ (@pa_cons _ _ _ _ _ (pv 2) (@pa_cons _ _ _ _ _ (pv 3) (@pa_cons _ _ _ _ _ (@pe_fn _ _ _ _ _ _ _ _ _ _ D__law_bad_name (hr.mono (by decide)) rfl (@pa_cons _ _ _ _ _ (pv 0) (@pa_cons _ _ _ _ _ (@pe_slice _ _ _ _ _ _ _ _ _ _ sl_list (pv 1) (@po_some _ _ _ (@pe_int _ _ _ _)) (@po_none _)) (@pa_cons _ _ _ _ _ (@pe_op _ _ _ _ _ _ _ _ op_mod (@pe_ix _ _ _ _ _ _ _ ix_list (pv 1) (@pe_int _ _ _ _) (fun _ _=>rfl)) (@pe_int _ _ _ _)) (@pa_nil _) (by rfl)) (by rfl)) (by rfl)) (by decide) (by rfl) (by rfl)) (@pa_nil _) (by rfl)) (by rfl)) (by rfl)))))))))))))))),?_⟩
  try dsimp only [cxOf,Cx.nox,Cx.wish]
  have hg:=gh.hg
  have l24:=hg.few
  have k1:=gh.k1
  have k8:=gh.k8
  have xx:∀ j:Nat,j < 12→∃ y,atI (rs.map V.int) (j:Int) = some (.int y):=fun j hj=>⟨_,at_int (by omega) (by omega)⟩
  obtain ⟨y0,X0⟩:=xx 0 (by decide)
  obtain ⟨y1,X1⟩:=xx 1 (by decide)
  obtain ⟨y2,X2⟩:=xx 2 (by decide)
  obtain ⟨y4,X4⟩:=xx 4 (by decide)
  refine ⟨_,rfl,h,_,rfl,SqT.of hg.at_,rfl,_,_,rfl,_,_,rfl,_,_,rfl,rfl,?_⟩
  refine ⟨_,rfl,r,_,_,_,rfl,rfl,hrs,X2,_,_,rfl,rfl,(by show (0:Int) < 8; decide),?_⟩
  have kl:(kps.map fun p=>V.ref p.1).length = kps.length:=List.length_map _
  refine ⟨_,rfl,r,_,_,_,rfl,rfl,hrs,X0,_,rfl,k,_,rfl,.inr (SqT.of gh.kt),_,_,rfl,rfl,(by show (0:Int) < ((kps.map fun p=>V.ref p.1).length:Int); rw [kl]; omega),?_⟩
  dsimp only [gName]
  rw [kl]
  have a0:=Int.emod_nonneg y0 (show (kps.length:Int)≠0 by omega)
  have a1:=Int.emod_lt_of_pos y0 (show (0:Int) < (kps.length:Int) by omega)
  obtain ⟨i,hi⟩:∃ i:Nat,y0 % (kps.length:Int) = (i:Int):=⟨_,(Int.toNat_of_nonneg a0).symm⟩
  rw [hi] at a1 ⊢
  have il:i < kps.length:=by omega
  obtain ⟨⟨ka,kn,kb⟩,gi⟩:∃ p,kps[i]? = some p:=⟨_,List.getElem?_eq_getElem il⟩
  have pm:=List.mem_of_getElem? gi
  have hka:H ka = some (.tup [.str kn,.int kb]):=gh.kp _ pm
  have knl:nmL kn:=(gh.kok _ pm).1
  have ati:atI (kps.map fun p=>V.ref p.1) (i:Int) = some (.ref ka):=atI_nat (j:=i) (by rw [List.getElem?_map,gi]; rfl)
  have inset:∀ t:Tr,t∈(kps.map fun p=>kpT p.2).set i t:=fun t=>mem_set_of (by rw [List.length_map]; exact il)
  generalize y2 % 8 = wy
  have fk:∀ (H3:Hp) (kv:V) (kt:Tr),Same H H3→Rep AllF H3 kt kv→sh 3 kt = true→keepersT kt = false→∀ p,H3 p = none→Q (.ref p) (upd H3 p (.tup [.int ag,kv,.ref n])):=fun H3 kv kt s3 rk sk bk p np=>by
    have s4:=same_new np (.tup [.int ag,kv,.ref n])
    have g4:=gh.same (s3.trans s4)
    exact q _ _ _ (s3.trans s4) (noh upd_same (a:=.int ag) rfl (Rep.same s4 _ _ rk) g4.repN (sh_int _ _) sk g4.shN ths_en (no_kps bk))
  have fn:∀ (H3:Hp) (nv:V) (nt:Tr),Same H H3→Rep AllF H3 nt nv→sh 3 nt = true→(∀ ns,nt = .tup ns→∀ x∈ns,thirdOk x = true)→(∀ a:Tr,¬ HeadP (.tup [a,.tup (kps.map fun p=>kpT p.2),nt]))→∀ p,H3 p = none→Q (.ref p) (upd H3 p (.tup [.int ag,.ref k,nv])):=fun H3 nv nt s3 rn sn th no p np=>by
    have s4:=same_new np (.tup [.int ag,.ref k,nv])
    have g4:=gh.same (s3.trans s4)
    exact q _ _ _ (s3.trans s4) (noh upd_same (a:=.int ag) rfl g4.repK (Rep.same s4 _ _ rn) (sh_int _ _) g4.shK sn th (no _))
  have shk:∀ {o:Tr},sh 1 o = true→sh 2 (.tup [.str kn,o]) = true:=fun {o} so=>List.all_eq_true.mpr fun x hx=>by
    simp only [List.mem_cons,List.not_mem_nil,or_false] at hx
    rcases hx with rfl | rfl
    · exact sh_str (by have:=knl.len; omega)
    · exact so
  refine ⟨_,rfl,rfl,_,rfl,ite2 (fun d=>?_) (fun d0=>?_)⟩
  ·
    refine ⟨_,rfl,_,_,rfl,rfl,⟨by decide,by decide,by decide⟩,small (by show 5≤1000000; decide),fun L nL=>?_⟩
    have s1:=same_new nL (.lst [V.int (-1),V.int (10 ^ (9:Int).toNat),V.bl true,V.non,V.str (PySem.Str.ofString "5")])
    obtain ⟨ov,o',AT,ro,bo,so⟩:∃ ov o',atI [V.int (-1),V.int (10 ^ (9:Int).toNat),V.bl true,V.non,V.str (PySem.Str.ofString "5")] (y1 % 5) = some ov∧(∀ H3:Hp,Rep AllF H3 o' ov)∧sB 0 999999999 o' = false∧sh 3 o' = true:=by
      have r0:=Int.emod_nonneg y1 (show (5:Int)≠0 by decide)
      have r1:=Int.emod_lt_of_pos y1 (show (0:Int) < 5 by decide)
      have:y1 % 5 = 0∨y1 % 5 = 1∨y1 % 5 = 2∨y1 % 5 = 3∨y1 % 5 = 4:=by omega
      rcases this with e | e | e | e | e <;> rw [e]
      · exact ⟨_,.int (-1),rfl,fun _=>rfl,by decide,rfl⟩
      · exact ⟨_,.int (10 ^ (9:Int).toNat),rfl,fun _=>rfl,by decide,rfl⟩
      · exact ⟨_,.bl true,rfl,fun _=>rfl,rfl,rfl⟩
      · exact ⟨_,.non,rfl,fun _=>rfl,rfl,rfl⟩
      · exact ⟨_,.str (PySem.Str.ofString "5"),rfl,fun _=>rfl,rfl,by decide +kernel⟩
    refine ⟨_,rfl,r,_,_,_,rfl,rfl,s1.seq hrs,X1,_,_,rfl,rfl,(by show (0:Int) < 5; decide),L,_,_,_,rfl,rfl,SqL.of upd_same,AT,_,rfl,_,rfl,small (by show 3≤1000000; decide),fun p np=>?_⟩
    have s2:=same_new np (.tup [ov,.ref k,.ref n])
    have g2:=gh.same (s1.trans s2)
    exact q _ _ _ (s1.trans s2) (noh upd_same (ro _) g2.repK g2.repN so g2.shK g2.shN ths_en (no_age bo))
  refine ⟨_,rfl,rfl,_,rfl,ite2 (fun d=>?_) (fun d1=>?_)⟩
  ·
    refine ⟨_,rfl,_,_,rfl,rfl,⟨by decide,by decide,by decide⟩,small (by show 4≤1000000; decide),fun L nL=>?_⟩
    have s1:=same_new nL (.lst [V.int (-1),V.int (10 ^ (9:Int).toNat),V.bl false,V.str (PySem.Str.ofString "7")])
    obtain ⟨ov,o',AT,ro,bo,so⟩:∃ ov o',atI [V.int (-1),V.int (10 ^ (9:Int).toNat),V.bl false,V.str (PySem.Str.ofString "7")] (y1 % 4) = some ov∧(∀ H3:Hp,Rep AllF H3 o' ov)∧sB 0 999999999 o' = false∧sh 1 o' = true:=by
      have r0:=Int.emod_nonneg y1 (show (4:Int)≠0 by decide)
      have r1:=Int.emod_lt_of_pos y1 (show (0:Int) < 4 by decide)
      have:y1 % 4 = 0∨y1 % 4 = 1∨y1 % 4 = 2∨y1 % 4 = 3:=by omega
      rcases this with e | e | e | e <;> rw [e]
      · exact ⟨_,.int (-1),rfl,fun _=>rfl,by decide,rfl⟩
      · exact ⟨_,.int (10 ^ (9:Int).toNat),rfl,fun _=>rfl,by decide,rfl⟩
      · exact ⟨_,.bl false,rfl,fun _=>rfl,rfl,rfl⟩
      · exact ⟨_,.str (PySem.Str.ofString "7"),rfl,fun _=>rfl,rfl,by decide +kernel⟩
    refine ⟨_,rfl,r,_,_,_,rfl,rfl,s1.seq hrs,X1,_,_,rfl,rfl,(by show (0:Int) < 4; decide),L,_,_,_,rfl,rfl,SqL.of upd_same,AT,?_⟩
    refine ⟨_,rfl,_,rfl,_,rfl,_,rfl,_,rfl,k,_,_,_,rfl,rfl,SqT.of (s1.get gh.kt),ati,ka,_,_,_,rfl,rfl,SqT.of (s1.get hka),atI_nat (j:=0) rfl,_,rfl,small (by show 2≤1000000; decide),fun p np=>?_⟩
    have s2:=same_new np (.tup [V.str kn,ov])
    have s12:=s1.trans s2
    refine ⟨k,_,i,.ref p,rfl,s12.get gh.kt,by rw [kl]; exact il,by rw [kl]; omega,fun b' H4 s4 hb'=>⟨_,rfl,small (by show 3≤1000000; decide),fun p3 np3=>?_⟩⟩
    have rk:Rep AllF H4 (.tup [.str kn,o']) (.ref p):=⟨p,_,rfl,s4.get upd_same,_,_,rfl,rfl,_,_,rfl,ro _,rfl⟩
    exact fk H4 _ (.tup ((kps.map fun p=>kpT p.2).set i (.tup [.str kn,o']))) (s12.trans s4) ⟨b',_,rfl,hb',reps_set (reps_kp (gh.same (s12.trans s4)).kp) rk i⟩ (bad_kset gh (shk so)) (bad_kp (inset _) (by show (sN (.str kn) && sB 0 999999999 o') = false; rw [bo,Bool.and_false])) p3 np3
  refine ⟨_,rfl,rfl,_,rfl,ite2 (fun d=>?_) (fun d2=>?_)⟩
  ·
    refine ⟨_,rfl,k,_,rfl,.inr (SqT.of gh.kt),_,_,rfl,rfl,_,rfl,_,rfl,small (by decide +kernel),_,rfl,?_⟩
    rw [kl]
    have lz:(PySem.Txt.slice (PySem.Str.ofString "0123456789") none (some (9 - (kps.length:Int)))).cps.toList.length = 9 - kps.length:=by
      have:kps.length = 1∨kps.length = 2∨kps.length = 3∨kps.length = 4∨kps.length = 5∨kps.length = 6∨kps.length = 7∨kps.length = 8:=by omega
      rcases this with e | e | e | e | e | e | e | e <;> rw [e] <;> decide +kernel
    refine comp_rel (fun _ y H'=>∃ b z,y = .ref b∧H' b = some (.tup [.str z,.int 5])∧z.length≤1000) (fun _ y _ _ h s=>let ⟨b,z,e1,e2,e3⟩:=h; ⟨b,z,e1,s.get e2,e3⟩) (fun _ _ H1 l us us' h hl _=>?_) itIs_str (by rw [List.length_map,lz]; omega) (fun x H' R hx s' hR=>?_) fun l H1 ys n1 s1 h1 l1 hy=>?_
    · obtain ⟨b,z,e1,e2,e3⟩:=h
      exact ⟨b,z,e1,by rw [upd_ne fun q=>by rw [q,hl] at e2; cases e2]; exact e2,e3⟩
    · obtain ⟨c,_,rfl⟩:=List.mem_map.mp hx
      refine ⟨_,rfl,_,8,rfl,rfl,by decide,by decide,(by show 1≤1000; decide),_,_,rfl,rfl,?_,small (by show 2≤1000000; decide),fun b nb=>hR _ _ (same_new nb _) (fun a z=>by cases z; exact nb) ⟨b,_,rfl,upd_same,?_⟩⟩
      · exact small (by show _ + 0≤1000000; have:=mul8_len c; omega)
      · rw [← cod_len,cod_app,List.length_append,cod_len]
        show _ + 0≤1000
        have:=mul8_len c
        omega
    rw [List.length_map,lz] at l1
    refine ⟨l,_,rfl,.inl ⟨SqL.of h1,fun ex nex=>?_⟩⟩
    have s2:=same_new nex (.tup ys)
    have s12:=s1.trans s2
    have he:(upd H1 ex (.tup ys)) ex = some (.tup ys):=upd_same
    have hy2:∀ y∈ys,∃ t,Rep AllF (upd H1 ex (.tup ys)) t y∧sh 2 t = true:=fun y hm=>by
      obtain ⟨j,hj,ej⟩:=List.getElem_of_mem hm
      have jx:j < ((PySem.Txt.slice (PySem.Str.ofString "0123456789") none (some (9 - (kps.length:Int)))).cps.toList.map fun c=>V.str ⟨#[c]⟩).length:=by rw [List.length_map,lz]; omega
      obtain ⟨⟨b,z,e1,e2,e3⟩,_⟩:=hy j _ y (List.getElem?_eq_getElem jx) (by rw [List.getElem?_eq_getElem hj,ej])
      refine ⟨.tup [.str z,.int 5],e1 ▸ ⟨b,_,rfl,s2.get e2,_,_,rfl,rfl,_,_,rfl,rfl,rfl⟩,List.all_eq_true.mpr fun x hx=>?_⟩
      simp only [List.mem_cons,List.not_mem_nil,or_false] at hx
      rcases hx with rfl | rfl
      · exact sh_str e3
      · exact sh_int _ _
    generalize upd H1 ex (.tup ys) = H2 at s2 s12 he hy2
    have g2:=gh.same s12
    refine dup_rd (x:=.ref ka) g2.kt (by rw [List.getElem?_map,gi]; rfl) (by rw [kl]; omega) rfl rfl fun b1 H3 s3 hb1=>?_
    refine ⟨_,rfl,_,rfl,ex,k,_,_,rfl,rfl,SqT.of (s3.get he),SqT.of (s3.get g2.kt),small (by rw [kl,l1]; show 9 - kps.length + kps.length≤1000000; omega),(fun z=>absurd (congrArg List.length z) (by rw [l1]; show ¬ (9 - kps.length = 0); omega)),(fun _ z=>absurd (congrArg List.length z) (by rw [kl]; show ¬ (kps.length = 0); omega)),fun _ _ b2 nb2=>?_⟩
    have s4:=same_new nb2 (.tup (ys ++ kps.map fun p=>V.ref p.1))
    refine ⟨_,rfl,k,_,rfl,.inr (SqT.of (s4.get (s3.get g2.kt))),fun b3 nb3=>?_⟩
    have s5:=same_new nb3 (.lst (kps.map fun p=>V.ref p.1))
    refine ⟨small (by show 3≤1000000; decide),fun L nL=>?_⟩
    have s6:=same_new nL (.lst [V.ref b1,V.ref b2,V.ref b3])
    have s36:=(s4.trans s5).trans s6
    have s26:=s3.trans s36
    have s06:=s12.trans s26
    have g6:=gh.same s06
    have e1:=s36.get hb1
    have e2:=(s5.trans s6).get (show (upd H3 b2 (.tup (ys ++ kps.map fun p=>V.ref p.1))) b2 = some (.tup (ys ++ kps.map fun p=>V.ref p.1)) from upd_same)
    have e3:=s6.get (show (upd (upd H3 b2 (.tup (ys ++ kps.map fun p=>V.ref p.1))) b3 (.lst (kps.map fun p=>V.ref p.1))) b3 = some (.lst (kps.map fun p=>V.ref p.1)) from upd_same)
    have hL:(upd (upd (upd H3 b2 (.tup (ys ++ kps.map fun p=>V.ref p.1))) b3 (.lst (kps.map fun p=>V.ref p.1))) L (.lst [V.ref b1,V.ref b2,V.ref b3])) L = some (.lst [V.ref b1,V.ref b2,V.ref b3]):=upd_same
    have hy6:∀ y∈ys,∃ t,Rep AllF (upd (upd (upd H3 b2 (.tup (ys ++ kps.map fun p=>V.ref p.1))) b3 (.lst (kps.map fun p=>V.ref p.1))) L (.lst [V.ref b1,V.ref b2,V.ref b3])) t y∧sh 2 t = true:=fun y hm=>by
      obtain ⟨t,z1,z2⟩:=hy2 y hm
      exact ⟨t,Rep.same s26 _ _ z1,z2⟩
    generalize (upd (upd (upd H3 b2 (.tup (ys ++ kps.map fun p=>V.ref p.1))) b3 (.lst (kps.map fun p=>V.ref p.1))) L (.lst [V.ref b1,V.ref b2,V.ref b3])) = H6 at s6 s36 s26 s06 g6 e1 e2 e3 hL hy6
    obtain ⟨kv,kt,AT,rk,sk,bk⟩:∃ kv kt,atI [V.ref b1,V.ref b2,V.ref b3] (y1 % 3) = some kv∧Rep AllF H6 kt kv∧sh 3 kt = true∧keepersT kt = false:=by
      have r0:=Int.emod_nonneg y1 (show (3:Int)≠0 by decide)
      have r1:=Int.emod_lt_of_pos y1 (show (0:Int) < 3 by decide)
      have:y1 % 3 = 0∨y1 % 3 = 1∨y1 % 3 = 2:=by omega
      rcases this with e | e | e <;> rw [e]
      · have en':∀ p∈kps.take i ++ [(ka,kn,kb)] ++ kps.drop i,p∈kps:=fun p hp=>by
          rcases List.mem_append.mp hp with hp | hp
          · rcases List.mem_append.mp hp with hp | hp
            · exact List.mem_of_mem_take hp
            · rw [List.mem_singleton.mp hp]; exact pm
          · exact List.mem_of_mem_drop hp
        have ed:(kps.take i ++ [(ka,kn,kb)] ++ kps.drop i).map (fun p=>V.ref p.1) = ((kps.map fun p=>V.ref p.1).take i ++ [V.ref ka]) ++ (kps.map fun p=>V.ref p.1).drop i:=by
          rw [List.map_append,List.map_append,List.map_take,List.map_drop]
          rfl
        refine ⟨_,.tup ((kps.take i ++ [(ka,kn,kb)] ++ kps.drop i).map fun p=>kpT p.2),rfl,⟨b1,_,rfl,by rw [e1,← ed],reps_kp fun p hp=>g6.kp p (en' p hp)⟩,List.all_eq_true.mpr fun x hx=>?_,bad_kri fun z=>?_⟩
        · obtain ⟨p,hp,rfl⟩:=List.mem_map.mp hx
          exact kp_sh (gh.kok p (en' p hp)).1 1
        · have nd:=slt_nd z
          rw [List.map_append,List.map_append,List.map_append,List.nodup_append] at nd
          have ie:(ka,kn,kb)∈kps.drop i:=by
            refine List.mem_iff_getElem?.mpr ⟨0,?_⟩
            rw [List.getElem?_drop,Nat.add_zero]
            exact gi
          exact nd.2.2 _ (List.mem_map.mpr ⟨kpT (kn,kb),List.mem_append_right _ List.mem_cons_self,rfl⟩) _ (List.mem_map.mpr ⟨kpT (kn,kb),List.mem_map.mpr ⟨_,ie,rfl⟩,rfl⟩) rfl
      · obtain ⟨ts,rts,lts,sts⟩:=reps_ex hy6
        refine ⟨_,.tup (ts ++ kps.map fun p=>kpT p.2),rfl,⟨b2,_,rfl,e2,rts.append (reps_kp g6.kp)⟩,List.all_eq_true.mpr fun x hx=>?_,bad_many (by rw [List.length_append,List.length_map,lts,l1]; omega)⟩
        rcases List.mem_append.mp hx with hx | hx
        · exact sts x hx
        · exact List.all_eq_true.mp gh.shK x hx
      · exact ⟨_,.lst (kps.map fun p=>kpT p.2),rfl,⟨b3,_,rfl,trivial,e3,reps_kp g6.kp⟩,rfl,rfl⟩
    refine ⟨_,rfl,r,_,_,_,rfl,rfl,s06.seq hrs,X1,_,_,rfl,rfl,(by show (0:Int) < 3; decide),L,_,_,_,rfl,rfl,SqL.of hL,AT,?_⟩
    exact ⟨_,rfl,_,rfl,_,rfl,small (by show 3≤1000000; decide),fun p np=>fk H6 kv kt s06 rk sk bk p np⟩
  refine ⟨_,rfl,rfl,_,rfl,ite2 (fun d=>?_) (fun d3=>?_)⟩
  ·
    refine ⟨_,rfl,_,rfl,k,_,_,_,rfl,rfl,SqT.of gh.kt,ati,ka,_,_,_,rfl,rfl,SqT.of hka,atI_nat (j:=0) rfl,_,_,rfl,rfl,small (by have:=knl.len; show kn.length + 1≤1000000; omega),small (by show 2≤1000000; decide),fun b1 nb1=>?_⟩
    have s1:=same_new nb1 (.tup [V.str (kn ++ PySem.Str.ofString "-"),V.int 5])
    refine ⟨_,rfl,_,rfl,k,_,_,_,rfl,rfl,SqT.of (s1.get gh.kt),ati,ka,_,rfl,.inr (SqT.of (s1.get hka)),fun b2 nb2=>?_⟩
    have s2:=same_new nb2 (.lst [V.str kn,V.int kb])
    have s12:=s1.trans s2
    refine ⟨_,rfl,_,rfl,k,_,_,_,rfl,rfl,SqT.of (s12.get gh.kt),ati,small (by show 1≤1000000; decide),fun b0 nb0=>?_⟩
    have s3:=same_new nb0 (.tup [V.int 5])
    have s13:=s12.trans s3
    refine ⟨ka,b0,_,_,rfl,rfl,SqT.of (s13.get hka),SqT.of upd_same,small (by show 3≤1000000; decide),(fun z=>by cases z),(fun _ z=>by cases z),fun _ _ b3 nb3=>?_⟩
    have s4:=same_new nb3 (.tup ([V.str kn,V.int kb] ++ [V.int 5]))
    have s14:=s13.trans s4
    refine ⟨small (by show 2≤1000000; decide),fun b4 nb4=>?_⟩
    have s5:=same_new nb4 (.tup [V.str EM,V.int 5])
    have s15:=s14.trans s5
    refine ⟨small (by show 4≤1000000; decide),fun L nL=>?_⟩
    have s6:=same_new nL (.lst [V.ref b1,V.ref b2,V.ref b3,V.ref b4])
    have s16:=s15.trans s6
    have e1:=((((s2.trans s3).trans s4).trans s5).trans s6).get (show (upd H b1 (.tup [V.str (kn ++ PySem.Str.ofString "-"),V.int 5])) b1 = _ from upd_same)
    have e2:=(((s3.trans s4).trans s5).trans s6).get (show (upd (upd H b1 (.tup [V.str (kn ++ PySem.Str.ofString "-"),V.int 5])) b2 (.lst [V.str kn,V.int kb])) b2 = _ from upd_same)
    have e3:=(s5.trans s6).get (show (upd (upd (upd (upd H b1 (.tup [V.str (kn ++ PySem.Str.ofString "-"),V.int 5])) b2 (.lst [V.str kn,V.int kb])) b0 (.tup [V.int 5])) b3 (.tup ([V.str kn,V.int kb] ++ [V.int 5]))) b3 = _ from upd_same)
    have e4:=s6.get (show (upd (upd (upd (upd (upd H b1 (.tup [V.str (kn ++ PySem.Str.ofString "-"),V.int 5])) b2 (.lst [V.str kn,V.int kb])) b0 (.tup [V.int 5])) b3 (.tup ([V.str kn,V.int kb] ++ [V.int 5]))) b4 (.tup [V.str EM,V.int 5])) b4 = _ from upd_same)
    have hL:(upd (upd (upd (upd (upd (upd H b1 (.tup [V.str (kn ++ PySem.Str.ofString "-"),V.int 5])) b2 (.lst [V.str kn,V.int kb])) b0 (.tup [V.int 5])) b3 (.tup ([V.str kn,V.int kb] ++ [V.int 5]))) b4 (.tup [V.str EM,V.int 5])) L (.lst [V.ref b1,V.ref b2,V.ref b3,V.ref b4])) L = _:=upd_same
    have l8:=knl.len
    have lm:(kn ++ PySem.Str.ofString "-").length = kn.length + 1:=by rw [← cod_len,cod_app,List.length_append,cod_len]; rfl
    obtain ⟨ov,o',AT,ro,bo,so⟩:∃ ov o',atI [V.ref b1,V.ref b2,V.ref b3,V.ref b4] (y1 % 4) = some ov∧Rep AllF _ o' ov∧keeperT o' = false∧sh 2 o' = true:=by
      have r0:=Int.emod_nonneg y1 (show (4:Int)≠0 by decide)
      have r1:=Int.emod_lt_of_pos y1 (show (0:Int) < 4 by decide)
      have:y1 % 4 = 0∨y1 % 4 = 1∨y1 % 4 = 2∨y1 % 4 = 3:=by omega
      rcases this with e | e | e | e <;> rw [e]
      · refine ⟨_,.tup [.str (kn ++ PySem.Str.ofString "-"),.int 5],rfl,⟨b1,_,rfl,e1,_,_,rfl,rfl,_,_,rfl,rfl,rfl⟩,?_,List.all_eq_true.mpr fun x hx=>?_⟩
        · show (sN (.str (kn ++ PySem.Str.ofString "-")) && _) = false
          have:sN (.str (kn ++ PySem.Str.ofString "-")) = false:=by
            show (decide ((1:Int)≤_) && decide (_≤(8:Int)) && allIn LN (kn ++ PySem.Str.ofString "-")) = false
            have:allIn LN (kn ++ PySem.Str.ofString "-") = false:=by
              cases c:allIn LN (kn ++ PySem.Str.ofString "-") with
              | false=>rfl
              | true=>
                unfold allIn at c
                rw [List.all_eq_true] at c
                have:=c 45 (by rw [cod_app]; exact List.mem_append_right _ (by decide +kernel))
                exact absurd (of_decide_eq_true this) (by decide +kernel)
            rw [this,Bool.and_false]
          rw [this,Bool.false_and]
        · simp only [List.mem_cons,List.not_mem_nil,or_false] at hx
          rcases hx with rfl | rfl
          · exact sh_str (by omega)
          · exact sh_int _ _
      · exact ⟨_,.lst [.str kn,.int kb],rfl,⟨b2,_,rfl,trivial,e2,_,_,rfl,rfl,_,_,rfl,rfl,rfl⟩,rfl,rfl⟩
      · refine ⟨_,.tup [.str kn,.int kb,.int 5],rfl,⟨b3,_,rfl,e3,_,_,rfl,rfl,_,_,rfl,rfl,_,_,rfl,rfl,rfl⟩,rfl,List.all_eq_true.mpr fun x hx=>?_⟩
        simp only [List.mem_cons,List.not_mem_nil,or_false] at hx
        rcases hx with rfl | rfl | rfl
        · exact sh_str (by omega)
        · exact sh_int _ _
        · exact sh_int _ _
      · exact ⟨_,.tup [.str EM,.int 5],rfl,⟨b4,_,rfl,e4,_,_,rfl,rfl,_,_,rfl,rfl,rfl⟩,by decide +kernel,by decide +kernel⟩
    refine ⟨_,rfl,r,_,_,_,rfl,rfl,s16.seq hrs,X1,_,_,rfl,rfl,(by show (0:Int) < 4; decide),L,_,_,_,rfl,rfl,SqL.of hL,AT,?_⟩
    refine ⟨_,rfl,_,rfl,_,rfl,_,rfl,k,_,i,ov,rfl,s16.get gh.kt,by rw [kl]; exact il,by rw [kl]; omega,fun b' H4 s4' hb'=>⟨_,rfl,small (by show 3≤1000000; decide),fun p3 np3=>?_⟩⟩
    exact fk H4 _ (.tup ((kps.map fun p=>kpT p.2).set i o')) (s16.trans s4') ⟨b',_,rfl,hb',reps_set (reps_kp (gh.same (s16.trans s4')).kp) (Rep.same s4' _ _ ro) i⟩ (bad_kset gh so) (bad_kp (inset _) bo) p3 np3
  dsimp only [tNext]
  refine seq_mid (t:=tIfS _ _ _) (fun σ' H'=>σ' = [some (.ref h),some (.ref r),some (.int ag),some (.ref k),some (.ref n),some (.int wy),some (.int i),none,none,none]∧H' = H) (fun N hN=>?_) ?_
  · refine ⟨_,rfl,rfl,_,rfl,ite2 (fun d=>?_) (fun d=>iteFc rfl (hN _ _ ⟨rfl,rfl⟩))⟩
    refine ⟨_,rfl,k,_,rfl,.inr (SqT.of gh.kt),_,_,rfl,rfl,_,rfl,ite2 (fun d'=>?_) (fun d'=>hN _ _ ⟨rfl,rfl⟩)⟩
    have l2:1 < kps.length:=by
      have:=of_decide_eq_true d'
      rw [kl] at this
      omega
    refine ⟨_,rfl,_,rfl,k,_,rfl,SqT.of gh.kt,fun L nL=>⟨L,_,rfl,.inl ⟨SqL.of upd_same,fun b nb=>?_⟩⟩⟩
    have s1:=same_new nL (.lst (kps.map fun p=>V.ref p.1).reverse)
    have s2:=same_new nb (.tup (kps.map fun p=>V.ref p.1).reverse)
    have s12:=s1.trans s2
    have g2:=gh.same s12
    refine ⟨_,rfl,small (by show 3≤1000000; decide),fun p np=>fk _ _ (.tup (kps.reverse.map fun p=>kpT p.2)) s12 ⟨b,_,rfl,by rw [upd_same,← List.map_reverse],reps_kp fun p hp=>g2.kp p (List.mem_reverse.mp hp)⟩ (List.all_eq_true.mpr fun x hx=>?_) (bad_kri fun z=>?_) p np⟩
    · obtain ⟨p,hp,rfl⟩:=List.mem_map.mp hx
      exact kp_sh (gh.kok p (List.mem_reverse.mp hp)).1 1
    · rw [List.map_map,List.map_reverse,List.pairwise_reverse] at z
      have z2:=gh.kri
      match kps,l2,z,z2 with
      | a :: b :: _,_,z,z2=>
        exact slt_asym ((List.pairwise_cons.mp z2).1 _ List.mem_cons_self) ((List.pairwise_cons.mp z).1 _ List.mem_cons_self)
      | [_],l2,_,_=>exact absurd l2 (by simp)
      | [],l2,_,_=>exact absurd l2 (by simp)
  rintro σ' H' ⟨rfl,hH⟩
  subst H'
  refine ⟨_,rfl,rfl,_,rfl,ite2 (fun d=>?_) (fun d5=>?_)⟩
  ·
    refine ⟨_,rfl,?_⟩
    refine comp_rel (fun _ y H'=>∃ b g z,y = .ref b∧H' b = some (.tup [.str z,.int 1,.str kn,.str EM,.ref g])∧H' g = some (.tup [.int 5,.int 5,.int 5])∧z.length≤1000) (fun _ y _ _ h s=>let ⟨b,g,z,e1,e2,e3,e4⟩:=h; ⟨b,g,z,e1,s.get e2,s.get e3,e4⟩) (fun _ _ H1 l us us' h hl _=>?_) itIs_str (by decide +kernel) (fun x H' R hx s' hR=>?_) fun l H1 ys n1 s1 h1 l1 hy=>?_
    · obtain ⟨b,g,z,e1,e2,e3,e4⟩:=h
      exact ⟨b,g,z,e1,by rw [upd_ne fun q=>by rw [q,hl] at e2; cases e2]; exact e2,by rw [upd_ne fun q=>by rw [q,hl] at e3; cases e3]; exact e3,e4⟩
    · obtain ⟨c,_,rfl⟩:=List.mem_map.mp hx
      refine ⟨_,rfl,_,_,rfl,rfl,small (by show 1 + 1≤1000000; decide),_,rfl,_,rfl,k,_,_,_,rfl,rfl,SqT.of (s'.get gh.kt),ati,ka,_,_,_,rfl,rfl,SqT.of (s'.get hka),atI_nat (j:=0) rfl,small (by show 3≤1000000; decide),fun g ng=>?_⟩
      have s2:=same_new ng (.tup [V.int 5,V.int 5,V.int 5])
      refine ⟨small (by show 5≤1000000; decide),fun b nb=>hR _ _ (s2.trans (same_new nb _)) (fun a z=>by cases z; exact s2.free nb) ⟨b,g,_,rfl,upd_same,(same_new nb _).get upd_same,?_⟩⟩
      rw [← cod_len,cod_app,List.length_append]
      show 1 + 1≤1000
      decide
    have ly:ys.length = 25:=by rw [l1,List.length_map]; decide +kernel
    refine ⟨l,_,rfl,.inl ⟨SqL.of h1,fun rw' nrw=>?_⟩⟩
    have s2:=same_new nrw (.tup ys)
    have he:(upd H1 rw' (.tup ys)) rw' = some (.tup ys):=upd_same
    have hy2:∀ y∈ys,∃ t,Rep AllF (upd H1 rw' (.tup ys)) t y∧(sh 2 t = true∧thirdOk t = true):=fun y hm=>by
      obtain ⟨j,hj,ej⟩:=List.getElem_of_mem hm
      have jx:j < ((PySem.Str.ofString "abcdefghijklmnopqrstuvwxy").cps.toList.map fun c=>V.str ⟨#[c]⟩).length:=by rw [← l1]; exact hj
      obtain ⟨⟨b,g,z,e1,e2,e3,e4⟩,_⟩:=hy j _ y (List.getElem?_eq_getElem jx) (by rw [List.getElem?_eq_getElem hj,ej])
      have rg:Rep AllF (upd H1 rw' (.tup ys)) (.tup [.int 5,.int 5,.int 5]) (.ref g):=⟨g,_,rfl,s2.get e3,_,_,rfl,rfl,_,_,rfl,rfl,_,_,rfl,rfl,rfl⟩
      refine ⟨.tup [.str z,.int 1,.str kn,.str EM,.tup [.int 5,.int 5,.int 5]],e1 ▸ ⟨b,_,rfl,s2.get e2,_,_,rfl,rfl,_,_,rfl,rfl,_,_,rfl,rfl,_,_,rfl,rfl,_,_,rfl,rg,rfl⟩,List.all_eq_true.mpr fun x hx=>?_,rfl⟩
      simp only [List.mem_cons,List.not_mem_nil,or_false] at hx
      rcases hx with rfl | rfl | rfl | rfl | rfl
      · exact sh_str e4
      · exact sh_int _ _
      · exact sh_str (by have:=knl.len; omega)
      · decide +kernel
      · rfl
    have s02:=s1.trans s2
    generalize upd H1 rw' (.tup ys) = H2 at s2 s02 he hy2
    have g2:=gh.same s02
    refine ⟨_,rfl,_,rfl,_,rfl,_,rfl,n,_,rfl,.inr (SqT.of g2.hg.nm),fun b2 nb2=>?_⟩
    have s3:=same_new nb2 (.lst (ps.map fun p=>V.ref p.1))
    have e2:(upd H2 b2 (.lst (ps.map fun p=>V.ref p.1))) b2 = some (.lst (ps.map fun p=>V.ref p.1)):=upd_same
    dsimp only
    generalize upd H2 b2 (.lst (ps.map fun p=>V.ref p.1)) = H3 at s3 e2
    refine ⟨_,rfl,small (by show 1≤1000000; decide),fun b0 nb0=>?_⟩
    have s4:=same_new nb0 (.tup [V.non])
    refine cat_one (s4.get (s3.get g2.hg.nm)) upd_same (by simp) (small (by rw [List.length_map]; show _ + 1≤1000000; omega)) fun b3 H5 s5 hb3=>?_
    refine ⟨small (by show 3≤1000000; decide),fun L nL=>?_⟩
    have s6:=same_new nL (.lst [V.ref rw',V.ref b2,V.ref b3])
    have s36:=(s4.trans s5).trans s6
    have s26:=s3.trans s36
    have s06:=s02.trans s26
    have hL:(upd H5 L (.lst [V.ref rw',V.ref b2,V.ref b3])) L = some (.lst [V.ref rw',V.ref b2,V.ref b3]):=upd_same
    have hb3':=s6.get hb3
    generalize upd H5 L (.lst [V.ref rw',V.ref b2,V.ref b3]) = H6 at s6 s36 s26 s06 hL hb3'
    have g6:=gh.same s06
    obtain ⟨nv,nt,AT,rn,sn,tn,bn⟩:∃ nv nt,atI [V.ref rw',V.ref b2,V.ref b3] (y1 % 3) = some nv∧Rep AllF H6 nt nv∧sh 3 nt = true∧(∀ ns,nt = .tup ns→∀ x∈ns,thirdOk x = true)∧BadN (kps.map fun p=>p.2.1) nt:=by
      have r0:=Int.emod_nonneg y1 (show (3:Int)≠0 by decide)
      have r1:=Int.emod_lt_of_pos y1 (show (0:Int) < 3 by decide)
      have:y1 % 3 = 0∨y1 % 3 = 1∨y1 % 3 = 2:=by omega
      rcases this with e | e | e <;> rw [e]
      · obtain ⟨ts,rts,lts,sts⟩:=reps_ex hy2
        refine ⟨_,.tup ts,rfl,⟨rw',_,rfl,s26.get he,Reps.same s26 _ _ rts⟩,List.all_eq_true.mpr fun x hx=>(sts x hx).1,fun ns e x hx=>?_,.inl ?_⟩
        · cases e
          exact (sts x hx).2
        · show (decide (ts.length≤24) && _) = false
          rw [decide_eq_false (by rw [lts,ly]; decide),Bool.false_and]
      · exact ⟨_,.lst ((ps.map (·.2)).map enT),rfl,⟨b2,_,rfl,trivial,s36.get e2,reps_en g6.hg.en⟩,rfl,(fun _ z=>by cases z),.inl rfl⟩
      · refine ⟨_,.tup ((ps.map (·.2)).map enT ++ [.non]),rfl,⟨b3,_,rfl,hb3',(reps_en g6.hg.en).append (show Reps AllF H6 [.non] [V.non] from ⟨_,_,rfl,rfl,rfl⟩)⟩,List.all_eq_true.mpr fun x hx=>?_,fun ns e x hx=>?_,bad_one (List.mem_append_right _ List.mem_cons_self) rfl rfl⟩
        · rcases List.mem_append.mp hx with hx | hx
          · exact List.all_eq_true.mp gh.shN x hx
          · rw [List.mem_singleton.mp hx]; rfl
        · cases e
          rcases List.mem_append.mp hx with hx | hx
          · exact ths_en _ rfl x hx
          · rw [List.mem_singleton.mp hx]; rfl
    refine ⟨_,rfl,r,_,_,_,rfl,rfl,s06.seq hrs,X1,_,_,rfl,rfl,(by show (0:Int) < 3; decide),L,_,_,_,rfl,rfl,SqL.of hL,AT,small (by show 3≤1000000; decide),fun p np=>fn H6 nv nt s06 rn sn tn (fun a=>BadN.no (by rw [nm_kp]; exact bn)) p np⟩
  dsimp only [tNext]
  have rsl:∀ j:Nat,cutV (rs.map V.int) (some (j:Int)) none = (rs.drop j).map V.int:=fun j=>by rw [cut_lo (by omega),Int.toNat_natCast,List.map_drop]
  have rsl1:cutV (rs.map V.int) (some 1) none = (rs.drop 1).map V.int:=rsl 1
  have rsl3:cutV (rs.map V.int) (some 3) none = (rs.drop 3).map V.int:=rsl 3
  refine seq_mid (t:=tIfS _ _ _) (fun σ' H'=>σ' = [some (.ref h),some (.ref r),some (.int ag),some (.ref k),some (.ref n),some (.int wy),some (.int i),none,none,none]∧Same H H') (fun N hN=>?_) ?_
  · refine ⟨_,rfl,rfl,_,rfl,ite2 (fun d=>?_) (fun d=>iteFc rfl (hN _ _ ⟨rfl,.refl _⟩))⟩
    refine ⟨_,rfl,_,rfl,_,rfl,r,_,rfl,hrs,fun r2 nr2=>?_⟩
    have s1:=same_new nr2 (.lst (cutV (rs.map V.int) (some 1) none))
    have h1:(upd H r2 (.lst (cutV (rs.map V.int) (some 1) none))) r2 = some (.lst ((rs.drop 1).map V.int)):=by rw [upd_same,rsl1]
    refine ⟨h,r2,ag,k,n,ps,rs.drop 1,_,rfl,hg.same s1,SqL.of h1,by rw [List.length_drop,lr]; decide,fun v t H2 s2 nm=>⟨_,rfl,ite2 (fun d'=>?_) (fun d'=>hN _ _ ⟨rfl,s1.trans s2⟩)⟩⟩
    have s12:=s1.trans s2
    refine ⟨_,rfl,_,rfl,_,rfl,_,rfl,_,rfl,r,_,rfl,s12.seq hrs,fun r3 nr3=>?_⟩
    have s3:=same_new nr3 (.lst (cutV (rs.map V.int) (some 1) none))
    have h3:(upd H2 r3 (.lst (cutV (rs.map V.int) (some 1) none))) r3 = some (.lst ((rs.drop 1).map V.int)):=by rw [upd_same,rsl1]
    refine ⟨h,r3,ag,k,n,ps,rs.drop 1,_,rfl,hg.same (s12.trans s3),SqL.of h3,by rw [List.length_drop,lr]; decide,fun v' t' H4 s4 nm'=>⟨small (by show 3≤1000000; decide),fun p np=>fn H4 v' t' ((s12.trans s3).trans s4) nm'.rep nm'.sh3 nm'.thd (fun a=>BadN.no (by rw [nm_kp]; exact nm'.bad)) p np⟩⟩
  rintro σ' H2 ⟨rfl,s2⟩
  have g2:=gh.same s2
  refine ⟨_,rfl,small (by show 0≤1000000; decide),fun p0 np0=>?_⟩
  have s3:=same_new np0 (.tup [])
  have s23:=s2.trans s3
  refine ⟨n,p0,_,rfl,rfl,SqT.of (s3.get g2.hg.nm),SqT.of upd_same,_,rfl,ite2 (fun d=>?_) (fun d=>?_)⟩
  · refine ⟨_,rfl,_,rfl,small (by show 2≤1000000; decide),fun p np=>?_⟩
    have s4:=same_new np (.tup [.int ag,.ref k])
    have g4:=g2.same (s3.trans s4)
    refine q _ (.tup [.int ag,.tup (kps.map fun p=>kpT p.2)]) _ (s23.trans s4) ⟨⟨p,_,rfl,upd_same,_,_,rfl,rfl,_,_,rfl,g4.repK,rfl⟩,List.all_eq_true.mpr fun x hx=>?_,trivial,fun z=>z⟩
    simp only [List.mem_cons,List.not_mem_nil,or_false] at hx
    rcases hx with rfl | rfl
    · exact sh_int _ _
    · exact gh.shK
  have pne:ps≠[]:=fun z=>d (by rw [z]; rfl)
  refine ⟨_,rfl,_,rfl,_,rfl,_,rfl,_,rfl,r,_,rfl,s23.seq hrs,fun r3 nr3=>?_⟩
  have s4:=same_new nr3 (.lst (cutV (rs.map V.int) (some 3) none))
  have h4:(upd (upd H2 p0 (.tup [])) r3 (.lst (cutV (rs.map V.int) (some 3) none))) r3 = some (.lst ((rs.drop 3).map V.int)):=by rw [upd_same,rsl3]
  have s24:=s23.trans s4
  refine ⟨_,rfl,r,_,_,_,rfl,rfl,s24.seq hrs,X4,_,_,rfl,rfl,(by show (0:Int) < 15; decide),?_⟩
  refine ⟨h,r3,y4 % 15,ag,k,n,ps,rs.drop 3,_,rfl,hg.same s24,pne,fun z hz=>?_,SqL.of h4,by rw [List.length_drop,lr]; decide,Int.emod_nonneg _ (by decide),Int.emod_lt_of_pos _ (by decide),fun v t H5 s5 nm=>⟨small (by show 3≤1000000; decide),fun p np=>fn H5 v t (s24.trans s5) nm.rep nm.sh3 nm.thd (fun a=>BadN.no (by rw [nm_kp]; exact nm.bad)) p np⟩⟩
  obtain ⟨p,hp,rfl⟩:=List.mem_map.mp hz
  exact (gh.kok p hp).1
end
section
variable {P:Program} {w:World} {K:PySem.W.Frag} {mg:Str→Option Value} {base:Heap} {f:Addr} {fd:FuncData}
theorem kp_ok {kps:List (Addr×Str×Int)} (k8:kps.length≤8) (kri:(kps.map fun p=>p.2.1).Pairwise Slt) (kok:∀ p∈kps,nmL p.2.1∧0≤p.2.2∧p.2.2≤999999999):keepersT (.tup (kps.map fun p=>kpT p.2)) = true:=by
  have:=keepers_ok (kz:=kps.map (·.2)) (fun p hp=>by obtain ⟨x,hx,rfl⟩:=List.mem_map.mp hp; exact kok x hx) (by rw [List.length_map]; exact k8) (by rw [List.map_map]; exact kri)
  rw [List.map_map] at this
  exact this
theorem GH.head {H:Hp} {h:Addr} {ag:Int} {k n:Addr} {kps:List (Addr×Str×Int)} {ps:List (Addr×En)} (x:GH H h ag k n kps ps):HeadP (.tup [.int ag,.tup (kps.map fun p=>kpT p.2),.tup ((ps.map (·.2)).map enT)]):=by
  refine ⟨?_,kp_ok x.k8 x.kri x.kok,names_ok x.hg.ok (by rw [List.length_map]; exact x.hg.few) (by rw [List.map_map]; exact x.hg.ri),?_⟩
  · show (decide (0≤ag) && decide (ag≤999999999)) = true
    rw [decide_eq_true x.ag0.1,decide_eq_true x.ag0.2]
    rfl
  · rw [nm_kp,List.map_map,show (deT∘enT) = id from funext de_en,List.map_id]
    exact x.hg.one
theorem GH.rep {H:Hp} {h:Addr} {ag:Int} {k n:Addr} {kps:List (Addr×Str×Int)} {ps:List (Addr×En)} (x:GH H h ag k n kps ps):Rep AllF H (.tup [.int ag,.tup (kps.map fun p=>kpT p.2),.tup ((ps.map (·.2)).map enT)]) (.ref h):=⟨h,_,rfl,x.hg.at_,_,_,rfl,rfl,_,_,rfl,x.repK,_,_,rfl,x.repN,rfl⟩
theorem GH.sh {H:Hp} {h:Addr} {ag:Int} {k n:Addr} {kps:List (Addr×Str×Int)} {ps:List (Addr×En)} (x:GH H h ag k n kps ps):sh 4 (.tup [.int ag,.tup (kps.map fun p=>kpT p.2),.tup ((ps.map (·.2)).map enT)]) = true:=List.all_eq_true.mpr fun y hy=>by
  simp only [List.mem_cons,List.not_mem_nil,or_false] at hy
  rcases hy with rfl | rfl | rfl
  · exact sh_int _ _
  · exact x.shK
  · exact x.shN
theorem empty_head {ag:Int} (h:0≤ag∧ag≤999999999):HeadP (.tup [.int ag,.tup [],.tup []]):=by
  refine ⟨?_,?_,?_,⟨(fun _ _ _ _ h=>nomatch h),List.nodup_nil,(fun _ _ _ _ h=>nomatch h),(fun _ _ _ _ h=>nomatch h),(fun _ _ _ _ _ _ _ _ _ _ h=>nomatch h)⟩⟩
  · show (decide (0≤ag) && decide (ag≤999999999)) = true
    rw [decide_eq_true h.1,decide_eq_true h.2]
    rfl
  · exact kp_ok (kps:=[]) (by decide) List.Pairwise.nil (fun _ h=>nomatch h)
  · exact names_ok (ks:=[]) (es:=[]) (fun _ h=>nomatch h) (by decide) List.Pairwise.nil
def sp_law (K:PySem.W.Frag):Sp:=fun vs H Q _=>∃ (a:Addr) (ns:List Int),vs = [.ref a]∧SqL K H a (ns.map V.int)∧ns.length≤63∧∀ H',Q (.bl true) H'
theorem ok_law (T:Txt K mg) (F:Fun K "law" "law" s_law f fd) (D__law_head:Def P w K mg base 2 "_law_head" ["_law_script"] (sp__law_head K)) (D__law_bad:Def P w K mg base 3 "_law_bad" ["_law_head_here","_law_row_here"] (sp__law_bad K)) (D_is_head:Def P w K mg base 6 "is_head" ["thing"] (sp_is_head K)) (D__law_row:Def P w K mg base 1 "_law_row" ["_law_cell","_law_many"] (sp__law_row K)):FnOk P w K mg base CX0 7 f fd ["_law_script"] (sp_law K):=by
  refine F.ok sc_law (fun vs H Q E h=>?_) (fun cdv A outer s H vs Q E hr h=>?_)
  · obtain ⟨a,ns,rfl,_⟩:=h
    rfl
  obtain ⟨a,ns,rfl,hS,ln,q⟩:=h
  have hu:=hu_of hr
  refine ⟨_,(@pss_cons _ _ _ _ _ (@ps_set _ _ (1) _ _ _ _ sc_law.nd rfl (by first | exact Or.inl rfl | exact Or.inr rfl) (@pe_fn _ _ _ _ _ _ _ _ _ _ D__law_head (hr.mono (by decide)) rfl (@pa_cons _ _ _ _ _ (pv 0) (@pa_nil _) (by rfl)) (by decide) (by rfl) (by rfl)) (by rfl) (by first | exact .inl rfl | exact .inr rfl | assumption)) (@pss_cons _ _ _ _ _ (@ps_if _ _ _ _ _ _ _ _ (@PW.pt _ _ _ (@pw_or _ _ _ _ _ _ _ (@pt_cmpR _ _ _ _ _ _ _ _ op_isNot_bl (@pe_fn _ _ _ _ _ _ _ _ _ _ D_is_head (hr.mono (by decide)) rfl (@pa_cons _ _ _ _ _ (pv 1) (@pa_nil _) (by rfl)) (by decide) (by rfl) (by rfl)) (@pe_bl _ _ _ _) (nomark _)) (@pw_or1 _ _ _ _ (@pt_cmpR _ _ _ _ _ _ _ _ op_isNot_bl (@pe_fn _ _ _ _ _ _ _ _ _ _ D_is_head (hr.mono (by decide)) rfl (@pa_cons _ _ _ _ _ (@pe_tup _ _ _ _ _ (@pa_cons _ _ _ _ _ (@pe_ix _ _ _ _ _ _ _ ix_tup (pv 1) (@pe_int _ _ _ _) (fun _ _=>rfl)) (@pa_cons _ _ _ _ _ (@pe_tup _ _ _ _ _ (@pa_nil _)) (@pa_cons _ _ _ _ _ (@pe_tup _ _ _ _ _ (@pa_nil _)) (@pa_nil _) (by rfl)) (by rfl)) (by rfl))) (@pa_nil _) (by rfl)) (by decide) (by rfl) (by rfl)) (@pe_bl _ _ _ _) (nomark _))))) (@pss_one _ _ _ (@ps_ret _ _ _ _ (@pe_bl _ _ _ _))) (@pss_nil _)) (@pss_cons _ _ _ _ _ (@ps_for _ _ _ _ _ _ _ _ PassesOwn.never rfl (@pi_list _ _ _ _ (@pe_op _ _ _ _ _ _ _ _ op_catS (@pe_slice _ _ _ _ _ _ _ _ _ _ sl_list (pv 0) (@po_some _ _ _ (@pe_int _ _ _ _)) (@po_some _ _ _ (@pe_int _ _ _ _))) (@pe_lst _ _ _ _ (@pa_cons _ _ _ _ _ (@pe_int _ _ _ _) (@pa_cons _ _ _ _ _ (@pe_int _ _ _ _) (@pa_nil _) (by rfl)) (by rfl))))) (@pg_name _ _ (2) _ sc_law.nd rfl (by first | exact Or.inl rfl | exact Or.inr rfl) (by first | exact .inl rfl | exact .inr rfl | assumption)) (@pss_cons _ _ _ _ _ (@ps_set _ _ (3) _ _ _ _ sc_law.nd rfl (by first | exact Or.inl rfl | exact Or.inr rfl) (@pe_fn _ _ _ _ _ _ _ _ _ _ D__law_bad (hr.mono (by decide)) rfl (@pa_cons _ _ _ _ _ (pv 1) (@pa_cons _ _ _ _ _ (@pe_fn _ _ _ _ _ _ _ _ _ _ D__law_row (hr.mono (by decide)) rfl (@pa_cons _ _ _ _ _ (pv 2) (@pa_cons _ _ _ _ _ (@pe_int _ _ _ _) (@pa_nil _) (by rfl)) (by rfl)) (by decide) (by rfl) (by rfl)) (@pa_nil _) (by rfl)) (by rfl)) (by decide) (by rfl) (by rfl)) (by rfl) (by first | exact .inl rfl | exact .inr rfl | assumption)) (@pss_one _ _ _ (@ps_if _ _ _ _ _ _ _ _ (@pt_cmpR _ _ _ _ _ _ _ _ op_isNot_bl (@pe_fn _ _ _ _ _ _ _ _ _ _ D_is_head (hr.mono (by decide)) rfl (@pa_cons _ _ _ _ _ (pv 3) (@pa_nil _) (by rfl)) (by decide) (by rfl) (by rfl)) (@pe_bl _ _ _ _) (nomark _)) (@pss_one _ _ _ (@ps_ret _ _ _ _ (@pe_bl _ _ _ _))) (@pss_nil _)))) (by intro _; rfl)) (@pss_cons _ _ _ _ _ (@ps_for _ _ _ _ _ _ _ _ PassesOwn.never rfl (@pi_list _ _ _ _ (@pe_lst _ _ _ _ (@pa_cons _ _ _ _ _ (@pe_non _ _ _) (@pa_cons _ _ _ _ _ (@pe_int _ _ _ _) (@pa_cons _ _ _ _ _ (@pe_str _ _ _ _) (@pa_cons _ _ _ _ _ (@pe_lst _ _ _ _ (@pa_nil _)) (@pa_cons _ _ _ _ _ (@pe_tup _ _ _ _ _ (@pa_nil _)) (@pa_cons _ _ _ _ _ (@pe_callTy _ _ _ _ _ _ _ _ _ call_list_of (by rfl) T.b_list bt_list (@pa_cons _ _ _ _ _ (pv 1) (@pa_nil _) (by rfl)) (by decide) (by decide) (by rfl) (by rfl)) (@pa_cons _ _ _ _ _ (@pe_slice _ _ _ _ _ _ _ _ _ _ sl_tup (pv 1) (@po_none _) (@po_some _ _ _ (@pe_int _ _ _ _))) (@pa_cons _ _ _ _ _ (@pe_op _ _ _ _ _ _ _ _ op_catT3 (pv 1) (@pe_tup _ _ _ _ _ (@pa_cons _ _ _ _ _ (@pe_int _ _ _ _) (@pa_nil _) (by rfl)))) (@pa_cons _ _ _ _ _ (@pe_tup _ _ _ _ _ (@pa_cons _ _ _ _ _ (pv 1) (@pa_nil _) (by rfl))) (@pa_cons _ _ _ _ _ (@pe_tup _ _ _ _ _ (@pa_cons _ _ _ _ _ (@pe_tup _ _ _ _ _ (@pa_nil _)) (@pa_cons _ _ _ _ _ (@pe_tup _ _ _ _ _ (@pa_nil _)) (@pa_cons _ _ _ _ _ (@pe_tup _ _ _ _ _ (@pa_nil _)) (@pa_nil _) (by rfl)) (by rfl)) (by rfl))) (@pa_nil _) (by rfl)) (by rfl)) (by rfl)) (by rfl)) (by rfl)) (by rfl)) (by rfl)) (by rfl)) (by rfl)) (by rfl)))) (@pg_name _ _ (4) _ sc_law.nd rfl (by first | exact Or.inl rfl | exact Or.inr rfl) (by first | exact .inl rfl | exact .inr rfl | assumption)) (@pss_one _ _ _ (@ps_if _ _ _ _ _ _ _ _ (@pt_cmpR _ _ _ _ _ _ _ _ op_isNot_bl (@pe_fn _ _ _ _ _ _ _ _ _ _ D_is_head (hr.mono (by decide)) rfl (@pa_cons _ _ _ _ _ (pv 4) (@pa_nil _) (by rfl)) (by decide) (by rfl) (by rfl)) (@pe_bl _ _ _ _) (nomark _)) (@pss_one _ _ _ (@ps_ret _ _ _ _ (@pe_bl _ _ _ _))) (@pss_nil _))) (by intro _; rfl)) (@pss_one _ _ _ (@ps_ret _ _ _ _ (@pe_cmpR _ _ _ _ _ _ _ _ op_is_bl (@pe_fn _ _ _ _ _ _ _ _ _ _ D_is_head (hr.mono (by decide)) rfl (@pa_cons _ _ _ _ _ (pv 1) (@pa_nil _) (by rfl)) (by decide) (by rfl) (by rfl)) (@pe_bl _ _ _ _) (nomark _)))))))),?_⟩
  try dsimp only [cxOf,Cx.nox,Cx.wish]
  refine ⟨_,rfl,a,ns,rfl,hS,fun h H1 ag k n kps ps ss sl Tt s1 nh e1 ag0 ag1 e2 kpa k1 k8 kri kok e3 ena p24 pri pnm tt bd=>?_⟩
  have gh:GH H1 h ag k n kps ps:=by
    obtain ⟨es,pe,b⟩:=bd
    refine ⟨⟨e1,e3,ena,fun e he=>?_,p24,pri,b.at_one.perm pe⟩,e2,kpa,k1,k8,kri,kok,ag0,ag1⟩
    refine b.ok tt (fun k hk=>?_) (fun z hz=>?_) e (pe.mem_iff.mp he)
    · obtain ⟨p,hp,rfl⟩:=List.mem_map.mp hk
      exact (kok p hp).1
    · have:∃ e∈es,e.nm = z:=by
        rcases List.mem_append.mp hz with hz | hz
        · obtain ⟨kp,og,t,g⟩:=b.sA z hz
          exact ⟨_,g,rfl⟩
        · obtain ⟨sm,tn,t,g⟩:=b.lA z hz
          exact ⟨_,g,rfl⟩
      obtain ⟨e',he',rfl⟩:=this
      obtain ⟨p,hp,rfl⟩:=List.mem_map.mp (pe.mem_iff.mpr he')
      exact pnm p hp
  refine ⟨_,rfl,.ref h,_,rfl,gh.rep,gh.sh,ths_en _ rfl,fun b H2 hb s2=>?_⟩
  obtain rfl:b = true:=hb.mpr gh.head
  refine ⟨_,_,rfl,rfl,_,rfl,iteFc rfl ?_⟩
  have g2:=gh.same s2
  refine ⟨_,rfl,h,_,_,_,rfl,rfl,SqT.of g2.hg.at_,atI_nat (j:=0) rfl,small (by show 0≤1000000; decide),fun p1 np1=>?_⟩
  have t1:=same_new np1 (.tup [])
  refine ⟨small (by show 0≤1000000; decide),fun p2 np2=>?_⟩
  have t2:=same_new np2 (.tup [])
  refine ⟨small (by show 3≤1000000; decide),fun p3 np3=>?_⟩
  have t3:=same_new np3 (.tup [.int ag,.ref p1,.ref p2])
  have w1:=(t2.trans t3).get (show (upd H2 p1 (.tup [])) p1 = some (.tup []) from upd_same)
  have w2:=t3.get (show (upd (upd H2 p1 (.tup [])) p2 (.tup [])) p2 = some (.tup []) from upd_same)
  refine ⟨.ref p3,.tup [.int ag,.tup [],.tup []],rfl,⟨p3,_,rfl,upd_same,_,_,rfl,rfl,_,_,rfl,⟨p1,[],rfl,w1,rfl⟩,_,_,rfl,⟨p2,[],rfl,w2,rfl⟩,rfl⟩,rfl,(fun _ z=>nomatch z),fun b H3 hb s3=>?_⟩
  obtain rfl:b = true:=hb.mpr (empty_head ⟨ag0,ag1⟩)
  refine ⟨_,_,rfl,rfl,_,rfl,iteFc rfl ?_⟩
  have u3:=s2.trans (((t1.trans t2).trans t3).trans s3)
  have g3:=gh.same u3
  have S3:SqL K H3 a (ns.map V.int):=(s1.trans u3).seq hS
  refine ⟨_,rfl,_,rfl,_,rfl,a,_,rfl,S3,fun p4 np4=>?_⟩
  have t4:=same_new np4 (.lst (cutV (ns.map V.int) (some 2) (some 20)))
  refine ⟨small (by show 2≤1000000; decide),fun p5 np5=>?_⟩
  have t5:=same_new np5 (.lst [V.int 0,V.int 1])
  have ec:cutV (ns.map V.int) (some 2) (some 20) = ((ns.drop 2).take 18).map V.int:=by
    rw [cut_lohi (by decide) (by decide),← List.map_drop,← List.map_take]
    rfl
  have lc:((ns.drop 2).take 18).length≤18:=by rw [List.length_take]; omega
  have w4:(upd (upd H3 p4 (.lst (cutV (ns.map V.int) (some 2) (some 20)))) p5 (.lst [V.int 0,V.int 1])) p4 = some (.lst (((ns.drop 2).take 18).map V.int)):=by rw [← ec]; exact t5.get upd_same
  refine ⟨p4,p5,_,_,rfl,rfl,SqL.of w4,SqL.of upd_same,small (by rw [List.length_map]; show _ + 2≤1000000; omega),fun p6 np6=>?_⟩
  have t6:=same_new np6 (.lst (((ns.drop 2).take 18).map V.int ++ [V.int 0,V.int 1]))
  have u6:=u3.trans ((t4.trans t5).trans t6)
  have w6:(upd (upd (upd H3 p4 (.lst (cutV (ns.map V.int) (some 2) (some 20)))) p5 (.lst [V.int 0,V.int 1])) p6 (.lst (((ns.drop 2).take 18).map V.int ++ [V.int 0,V.int 1]))) p6 = some (.lst (((ns.drop 2).take 18 ++ [0,1]).map V.int)):=by rw [upd_same,List.map_append]; rfl
  generalize (upd (upd (upd H3 p4 (.lst (cutV (ns.map V.int) (some 2) (some 20)))) p5 (.lst [V.int 0,V.int 1])) p6 (.lst (((ns.drop 2).take 18).map V.int ++ [V.int 0,V.int 1]))) = H6 at t6 u6 w6
  refine ⟨p6,rfl,⟨_,SqL.of w6⟩,for_list (K:=K) (a:=p6) (xs:=((ns.drop 2).take 18 ++ [0,1]).map V.int) (fun i σ H7=>∃ v2 v3,σ = [some (.ref a),some (.ref h),v2,v3,none]∧Same H6 H7)
    ⟨none,none,rfl,.refl _⟩ (fun i σ H7 _ ⟨_,_,_,s7⟩=>SqL.of (s7.get w6)) ?_ ?_⟩
  · rintro i x σ H7 hi ⟨v2,v3,rfl,s7⟩
    rw [List.getElem?_map] at hi
    obtain ⟨c,_,rfl⟩:=Option.map_eq_some_iff.mp hi
    have g7:=gh.same (u6.trans s7)
    refine ⟨_,rfl,_,rfl,c,12,rfl,by decide,by decide,fun r H8 rs s8 nr hr8 lr8 _=>?_⟩
    refine ⟨h,r,ag,k,n,kps,ps,rs,rfl,g7.same s8,SqL.of hr8,lr8,fun v t H9 s9 no=>?_⟩
    refine ⟨_,rfl,v,t,rfl,no.rep,no.sh4,no.thd,fun b H10 hb s10=>?_⟩
    obtain rfl:b = false:=by
      cases b with
      | false=>rfl
      | true=>exact absurd (hb.mp rfl) no.no
    exact ⟨_,_,rfl,rfl,_,rfl,iteFc rfl ⟨_,_,rfl,((s7.trans s8).trans s9).trans s10⟩⟩
  rintro σ H7 ⟨v2,v3,rfl,s7⟩
  have u7:=u6.trans s7
  have g7:=gh.same u7
  refine ⟨small (by show 0≤1000000; decide),fun q1 nq1=>?_⟩
  have r1:=same_new nq1 (.lst [])
  refine ⟨small (by show 0≤1000000; decide),fun q2 nq2=>?_⟩
  have r2:=same_new nq2 (.tup [])
  have r12:=r1.trans r2
  refine ⟨_,rfl,h,_,rfl,.inr (SqT.of (r12.get g7.hg.at_)),fun q3 nq3=>?_⟩
  have r3:=same_new nq3 (.lst [.int ag,.ref k,.ref n])
  have r13:=r12.trans r3
  refine ⟨_,rfl,_,rfl,h,_,rfl,SqT.of (r13.get g7.hg.at_),(fun z=>absurd z.2 (show ¬ (HT.sIx 3 3 (some 2) = 3) by decide)),fun q4 nq4=>?_⟩
  rw [cut_hi (by decide)]
  have r4:=same_new nq4 (.tup [.int ag,.ref k])
  have r14:=r13.trans r4
  refine ⟨_,rfl,small (by show 1≤1000000; decide),fun q0 nq0=>?_⟩
  have r5:=same_new nq0 (.tup [V.int 1])
  have r15:=r14.trans r5
  refine ⟨h,q0,_,_,rfl,rfl,SqT.of (r15.get g7.hg.at_),SqT.of upd_same,small (by show 4≤1000000; decide),(fun z=>by cases z),(fun _ z=>by cases z),fun _ _ q5 nq5=>?_⟩
  have r6:=same_new nq5 (.tup ([.int ag,.ref k,.ref n] ++ [V.int 1]))
  have r16:=r15.trans r6
  refine ⟨_,rfl,small (by show 1≤1000000; decide),fun q6 nq6=>?_⟩
  have r7:=same_new nq6 (.tup [.ref h])
  refine ⟨small (by show 0≤1000000; decide),fun q7 nq7=>?_⟩
  have r8:=same_new nq7 (.tup [])
  refine ⟨small (by show 0≤1000000; decide),fun q8 nq8=>?_⟩
  have r9:=same_new nq8 (.tup [])
  refine ⟨small (by show 0≤1000000; decide),fun q9 nq9=>?_⟩
  have r10:=same_new nq9 (.tup [])
  refine ⟨small (by show 3≤1000000; decide),fun qa nqa=>?_⟩
  have r11:=same_new nqa (.tup [.ref q7,.ref q8,.ref q9])
  refine ⟨small (by show 10≤1000000; decide),fun L nL=>?_⟩
  have rL:=same_new nL (.lst [V.non,V.int 5,V.str (PySem.Str.ofString "head"),V.ref q1,V.ref q2,V.ref q3,V.ref q4,V.ref q5,V.ref q6,V.ref qa])
  have f11:=r11.trans rL
  have f10:=r10.trans f11
  have f9:=r9.trans f10
  have f8:=r8.trans f9
  have f7:=r7.trans f8
  have f6:=r6.trans f7
  have f5:=r5.trans f6
  have f4:=r4.trans f5
  have f3:=r3.trans f4
  have f2:=r2.trans f3
  have f1:=r1.trans f2
  have x1:=f2.get upd_same
  have x2:=f3.get upd_same
  have x3:=f4.get upd_same
  have x4:=f5.get upd_same
  have x5:=f7.get upd_same
  have x6:=f8.get upd_same
  have x7:=f9.get upd_same
  have x8:=f10.get upd_same
  have x9:=f11.get upd_same
  have xa:=rL.get upd_same
  have hL:=show (upd _ L (.lst [V.non,V.int 5,V.str (PySem.Str.ofString "head"),V.ref q1,V.ref q2,V.ref q3,V.ref q4,V.ref q5,V.ref q6,V.ref qa])) L = some (.lst [V.non,V.int 5,V.str (PySem.Str.ofString "head"),V.ref q1,V.ref q2,V.ref q3,V.ref q4,V.ref q5,V.ref q6,V.ref qa]) from upd_same (H:=upd (upd (upd (upd (upd (upd (upd (upd (upd (upd (upd H7 q1 (.lst [])) q2 (.tup [])) q3 (.lst [V.int ag,V.ref k,V.ref n])) q4 (.tup (List.take (Int.toNat 2) [V.int ag,V.ref k,V.ref n]))) q0 (.tup [V.int 1])) q5 (.tup ([V.int ag,V.ref k,V.ref n] ++ [V.int 1]))) q6 (.tup [V.ref h])) q7 (.tup [])) q8 (.tup [])) q9 (.tup [])) qa (.tup [V.ref q7,V.ref q8,V.ref q9]))
  change _ = some (HO.tup [V.int ag,V.ref k]) at x4
  change _ = some (HO.tup [V.int ag,V.ref k,V.ref n,V.int 1]) at x5
  generalize (upd (upd (upd (upd (upd (upd (upd (upd (upd (upd (upd (upd H7 q1 (.lst [])) q2 (.tup [])) q3 (.lst [V.int ag,V.ref k,V.ref n])) q4 (.tup (List.take (Int.toNat 2) [V.int ag,V.ref k,V.ref n]))) q0 (.tup [V.int 1])) q5 (.tup ([V.int ag,V.ref k,V.ref n] ++ [V.int 1]))) q6 (.tup [V.ref h])) q7 (.tup [])) q8 (.tup [])) q9 (.tup [])) qa (.tup [V.ref q7,V.ref q8,V.ref q9])) L (.lst [V.non,V.int 5,V.str (PySem.Str.ofString "head"),V.ref q1,V.ref q2,V.ref q3,V.ref q4,V.ref q5,V.ref q6,V.ref qa])) = HL at f1 x1 x2 x3 x4 x5 x6 x7 x8 x9 xa hL
  have gL:=g7.same f1
  have no:∀ x∈[V.non,V.int 5,V.str (PySem.Str.ofString "head"),V.ref q1,V.ref q2,V.ref q3,V.ref q4,V.ref q5,V.ref q6,V.ref qa],∃ t,NoH HL x t:=fun x hx=>by
    simp only [List.mem_cons,List.not_mem_nil,or_false] at hx
    rcases hx with rfl | rfl | rfl | rfl | rfl | rfl | rfl | rfl | rfl | rfl
    · exact ⟨.non,rfl,rfl,trivial,fun z=>z⟩
    · exact ⟨.int 5,rfl,rfl,trivial,fun z=>z⟩
    · exact ⟨.str (PySem.Str.ofString "head"),rfl,sh_str (by decide +kernel),trivial,fun z=>z⟩
    · exact ⟨.lst [],⟨q1,[],rfl,trivial,x1,rfl⟩,rfl,trivial,fun z=>z⟩
    · exact ⟨.tup [],⟨q2,[],rfl,x2,rfl⟩,rfl,trivial,fun z=>z⟩
    · exact ⟨.lst [.int ag,.tup (kps.map fun p=>kpT p.2),.tup ((ps.map (·.2)).map enT)],⟨q3,_,rfl,trivial,x3,_,_,rfl,rfl,_,_,rfl,gL.repK,_,_,rfl,gL.repN,rfl⟩,rfl,trivial,fun z=>z⟩
    · refine ⟨.tup [.int ag,.tup (kps.map fun p=>kpT p.2)],⟨q4,_,rfl,x4,_,_,rfl,rfl,_,_,rfl,gL.repK,rfl⟩,List.all_eq_true.mpr fun y hy=>?_,trivial,fun z=>z⟩
      simp only [List.mem_cons,List.not_mem_nil,or_false] at hy
      rcases hy with rfl | rfl
      · exact sh_int _ _
      · exact gL.shK
    · refine ⟨.tup [.int ag,.tup (kps.map fun p=>kpT p.2),.tup ((ps.map (·.2)).map enT),.int 1],⟨q5,_,rfl,x5,_,_,rfl,rfl,_,_,rfl,gL.repK,_,_,rfl,gL.repN,_,_,rfl,rfl,rfl⟩,List.all_eq_true.mpr fun y hy=>?_,trivial,fun z=>z⟩
      simp only [List.mem_cons,List.not_mem_nil,or_false] at hy
      rcases hy with rfl | rfl | rfl | rfl
      · exact sh_int _ _
      · exact gL.shK
      · exact gL.shN
      · exact sh_int _ _
    · refine ⟨.tup [.tup [.int ag,.tup (kps.map fun p=>kpT p.2),.tup ((ps.map (·.2)).map enT)]],⟨q6,_,rfl,x6,_,_,rfl,gL.rep,rfl⟩,List.all_eq_true.mpr fun y hy=>?_,trivial,fun z=>z⟩
      rw [List.mem_singleton.mp hy]
      exact sh_le (by decide) gL.sh
    · exact ⟨.tup [.tup [],.tup [],.tup []],⟨qa,_,rfl,xa,_,_,rfl,⟨q7,[],rfl,x7,rfl⟩,_,_,rfl,⟨q8,[],rfl,x8,rfl⟩,_,_,rfl,⟨q9,[],rfl,x9,rfl⟩,rfl⟩,rfl,(fun _ z=>nomatch z),no_age rfl⟩
  refine ⟨L,rfl,⟨_,SqL.of hL⟩,for_list (K:=K) (a:=L) (xs:=[V.non,V.int 5,V.str (PySem.Str.ofString "head"),V.ref q1,V.ref q2,V.ref q3,V.ref q4,V.ref q5,V.ref q6,V.ref qa]) (fun i σ H8=>∃ v4,σ = [some (.ref a),some (.ref h),v2,v3,v4]∧Same HL H8)
    ⟨none,rfl,.refl _⟩ (fun i σ H8 _ ⟨_,_,s8⟩=>SqL.of (s8.get hL)) ?_ ?_⟩
  · rintro i x σ H8 hi ⟨v4,rfl,s8⟩
    obtain ⟨t,no⟩:=no x (List.mem_of_getElem? hi)
    refine ⟨_,rfl,x,t,rfl,Rep.same s8 _ _ no.rep,no.sh4,no.thd,fun b H9 hb s9=>?_⟩
    obtain rfl:b = false:=by
      cases b with
      | false=>rfl
      | true=>exact absurd (hb.mp rfl) no.no
    exact ⟨_,_,rfl,rfl,_,rfl,iteFc rfl ⟨_,rfl,s8.trans s9⟩⟩
  rintro σ H8 ⟨v4,rfl,s8⟩
  have g8:=gL.same s8
  refine ⟨_,rfl,.ref h,_,rfl,g8.rep,g8.sh,ths_en _ rfl,fun b H9 hb s9=>?_⟩
  obtain rfl:b = true:=hb.mpr g8.head
  exact ⟨_,_,rfl,rfl,q _⟩
end
theorem all_mk {l:PySem.W.OpenLaw} {w:World} {K:PySem.W.Frag} {h:Heap} {mg:Str→Option Value} {fa:Addr} (X:K.In h) (G:h.Ns mainGlobals mg) (hfa:mg "law" = some (.ref fa))
    {f0:Addr} {od0 an0:Option Addr} {sl0:Array (Option Value)} {oc0 kV0 dc0 pm0 cd0 ct0:Value}
    {f1:Addr} {od1 an1:Option Addr} {sl1:Array (Option Value)} {oc1 kV1 dc1 pm1 cd1 ct1:Value}
    {f2:Addr} {od2 an2:Option Addr} {sl2:Array (Option Value)} {oc2 kV2 dc2 pm2 cd2 ct2:Value}
    {f3:Addr} {od3 an3:Option Addr} {sl3:Array (Option Value)} {oc3 kV3 dc3 pm3 cd3 ct3:Value}
    {f4:Addr} {od4 an4:Option Addr} {sl4:Array (Option Value)} {oc4 kV4 dc4 pm4 cd4 ct4:Value}
    {f5:Addr} {od5 an5:Option Addr} {sl5:Array (Option Value)} {oc5 kV5 dc5 pm5 cd5 ct5:Value}
    {f6:Addr} {od6 an6:Option Addr} {sl6:Array (Option Value)} {oc6 kV6 dc6 pm6 cd6 ct6:Value}
    {f7:Addr} {od7 an7:Option Addr} {sl7:Array (Option Value)} {oc7 kV7 dc7 pm7 cd7 ct7:Value}
    {f8:Addr} {od8 an8:Option Addr} {sl8:Array (Option Value)} {oc8 kV8 dc8 pm8 cd8 ct8:Value}
    {f9:Addr} {od9 an9:Option Addr} {sl9:Array (Option Value)} {oc9 kV9 dc9 pm9 cd9 ct9:Value}
    {f10:Addr} {od10 an10:Option Addr} {sl10:Array (Option Value)} {oc10 kV10 dc10 pm10 cd10 ct10:Value}
    {f11:Addr} {od11 an11:Option Addr} {sl11:Array (Option Value)} {oc11 kV11 dc11 pm11 cd11 ct11:Value}
    {f12:Addr} {od12 an12:Option Addr} {sl12:Array (Option Value)} {oc12 kV12 dc12 pm12 cd12 ct12:Value}
    {f13:Addr} {od13 an13:Option Addr} {sl13:Array (Option Value)} {oc13 kV13 dc13 pm13 cd13 ct13:Value}
    {f14:Addr} {od14 an14:Option Addr} {sl14:Array (Option Value)} {oc14 kV14 dc14 pm14 cd14 ct14:Value}
    {f15:Addr} {od15 an15:Option Addr} {sl15:Array (Option Value)} {oc15 kV15 dc15 pm15 cd15 ct15:Value}
    {f16:Addr} {od16 an16:Option Addr} {sl16:Array (Option Value)} {oc16 kV16 dc16 pm16 cd16 ct16:Value}
    {f17:Addr} {od17 an17:Option Addr} {sl17:Array (Option Value)} {oc17 kV17 dc17 pm17 cd17 ct17:Value}
    {f18:Addr} {od18 an18:Option Addr} {sl18:Array (Option Value)} {oc18 kV18 dc18 pm18 cd18 ct18:Value}
    {f19:Addr} {od19 an19:Option Addr} {sl19:Array (Option Value)} {oc19 kV19 dc19 pm19 cd19 ct19:Value}
    {f20:Addr} {od20 an20:Option Addr} {sl20:Array (Option Value)} {oc20 kV20 dc20 pm20 cd20 ct20:Value}
    {f21:Addr} {od21 an21:Option Addr} {sl21:Array (Option Value)} {oc21 kV21 dc21 pm21 cd21 ct21:Value}
    {f22:Addr} {od22 an22:Option Addr} {sl22:Array (Option Value)} {oc22 kV22 dc22 pm22 cd22 ct22:Value}
    {f23:Addr} {od23 an23:Option Addr} {sl23:Array (Option Value)} {oc23 kV23 dc23 pm23 cd23 ct23:Value}
    {t_SIGNS:Tok}
    {t_MOST_NUMBER:Tok}
    {t_NAME_SIGNS:Tok}
    {t_MOST_NAME_SIGNS:Tok}
    {t_MOST_CELL:Tok}
    {t_MOST_BIRTH:Tok}
    {t_SUM_RESTS:Tok}
    {t_STEM:Tok}
    {t_SEAL:Tok}
    {t_MOST_KEEPERS:Tok}
    {t_MOST_NAMES:Tok}
    (a0:PySem.W.nsIn K mainGlobals "is_whole" = some (some (.ref f0))) (l0:K.lookup f0 = some ⟨oc0,od0,.func (PySem.W.fnOf "is_whole" "is_whole" (defArgs s_is_whole) (defBody s_is_whole) (defScope s_is_whole) .none kV0 dc0 pm0 an0 cd0 ct0),sl0⟩) (c0:PySem.W.codeIn K cd0 "is_whole" = true) (k0:PySem.W.keepIn K (.ref f0) = true)
    (a1:PySem.W.nsIn K mainGlobals "is_between" = some (some (.ref f1))) (l1:K.lookup f1 = some ⟨oc1,od1,.func (PySem.W.fnOf "is_between" "is_between" (defArgs s_is_between) (defBody s_is_between) (defScope s_is_between) .none kV1 dc1 pm1 an1 cd1 ct1),sl1⟩) (c1:PySem.W.codeIn K cd1 "is_between" = true) (k1:PySem.W.keepIn K (.ref f1) = true)
    (a2:PySem.W.nsIn K mainGlobals "is_tuple_of" = some (some (.ref f2))) (l2:K.lookup f2 = some ⟨oc2,od2,.func (PySem.W.fnOf "is_tuple_of" "is_tuple_of" (defArgs s_is_tuple_of) (defBody s_is_tuple_of) (defScope s_is_tuple_of) .none kV2 dc2 pm2 an2 cd2 ct2),sl2⟩) (c2:PySem.W.codeIn K cd2 "is_tuple_of" = true) (k2:PySem.W.keepIn K (.ref f2) = true)
    (a3:PySem.W.nsIn K mainGlobals "is_text" = some (some (.ref f3))) (l3:K.lookup f3 = some ⟨oc3,od3,.func (PySem.W.fnOf "is_text" "is_text" (defArgs s_is_text) (defBody s_is_text) (defScope s_is_text) .none kV3 dc3 pm3 an3 cd3 ct3),sl3⟩) (c3:PySem.W.codeIn K cd3 "is_text" = true) (k3:PySem.W.keepIn K (.ref f3) = true)
    (a4:PySem.W.nsIn K mainGlobals "is_name" = some (some (.ref f4))) (l4:K.lookup f4 = some ⟨oc4,od4,.func (PySem.W.fnOf "is_name" "is_name" (defArgs s_is_name) (defBody s_is_name) (defScope s_is_name) .none kV4 dc4 pm4 an4 cd4 ct4),sl4⟩) (c4:PySem.W.codeIn K cd4 "is_name" = true) (k4:PySem.W.keepIn K (.ref f4) = true)
    (a5:PySem.W.nsIn K mainGlobals "is_tag" = some (some (.ref f5))) (l5:K.lookup f5 = some ⟨oc5,od5,.func (PySem.W.fnOf "is_tag" "is_tag" (defArgs s_is_tag) (defBody s_is_tag) (defScope s_is_tag) .none kV5 dc5 pm5 an5 cd5 ct5),sl5⟩) (c5:PySem.W.codeIn K cd5 "is_tag" = true) (k5:PySem.W.keepIn K (.ref f5) = true)
    (a6:PySem.W.nsIn K mainGlobals "is_head" = some (some (.ref f6))) (l6:K.lookup f6 = some ⟨oc6,od6,.func (PySem.W.fnOf "is_head" "is_head" (defArgs s_is_head) (defBody s_is_head) (defScope s_is_head) .none kV6 dc6 pm6 an6 cd6 ct6),sl6⟩) (c6:PySem.W.codeIn K cd6 "is_head" = true) (k6:PySem.W.keepIn K (.ref f6) = true)
    (a7:PySem.W.nsIn K mainGlobals "are_keepers" = some (some (.ref f7))) (l7:K.lookup f7 = some ⟨oc7,od7,.func (PySem.W.fnOf "are_keepers" "are_keepers" (defArgs s_are_keepers) (defBody s_are_keepers) (defScope s_are_keepers) .none kV7 dc7 pm7 an7 cd7 ct7),sl7⟩) (c7:PySem.W.codeIn K cd7 "are_keepers" = true) (k7:PySem.W.keepIn K (.ref f7) = true)
    (a8:PySem.W.nsIn K mainGlobals "is_keeper" = some (some (.ref f8))) (l8:K.lookup f8 = some ⟨oc8,od8,.func (PySem.W.fnOf "is_keeper" "is_keeper" (defArgs s_is_keeper) (defBody s_is_keeper) (defScope s_is_keeper) .none kV8 dc8 pm8 an8 cd8 ct8),sl8⟩) (c8:PySem.W.codeIn K cd8 "is_keeper" = true) (k8:PySem.W.keepIn K (.ref f8) = true)
    (a9:PySem.W.nsIn K mainGlobals "are_rising" = some (some (.ref f9))) (l9:K.lookup f9 = some ⟨oc9,od9,.func (PySem.W.fnOf "are_rising" "are_rising" (defArgs s_are_rising) (defBody s_are_rising) (defScope s_are_rising) .none kV9 dc9 pm9 an9 cd9 ct9),sl9⟩) (c9:PySem.W.codeIn K cd9 "are_rising" = true) (k9:PySem.W.keepIn K (.ref f9) = true)
    (a10:PySem.W.nsIn K mainGlobals "are_names" = some (some (.ref f10))) (l10:K.lookup f10 = some ⟨oc10,od10,.func (PySem.W.fnOf "are_names" "are_names" (defArgs s_are_names) (defBody s_are_names) (defScope s_are_names) .none kV10 dc10 pm10 an10 cd10 ct10),sl10⟩) (c10:PySem.W.codeIn K cd10 "are_names" = true) (k10:PySem.W.keepIn K (.ref f10) = true)
    (a11:PySem.W.nsIn K mainGlobals "is_stem" = some (some (.ref f11))) (l11:K.lookup f11 = some ⟨oc11,od11,.func (PySem.W.fnOf "is_stem" "is_stem" (defArgs s_is_stem) (defBody s_is_stem) (defScope s_is_stem) .none kV11 dc11 pm11 an11 cd11 ct11),sl11⟩) (c11:PySem.W.codeIn K cd11 "is_stem" = true) (k11:PySem.W.keepIn K (.ref f11) = true)
    (a12:PySem.W.nsIn K mainGlobals "is_seal" = some (some (.ref f12))) (l12:K.lookup f12 = some ⟨oc12,od12,.func (PySem.W.fnOf "is_seal" "is_seal" (defArgs s_is_seal) (defBody s_is_seal) (defScope s_is_seal) .none kV12 dc12 pm12 an12 cd12 ct12),sl12⟩) (c12:PySem.W.codeIn K cd12 "is_seal" = true) (k12:PySem.W.keepIn K (.ref f12) = true)
    (a13:PySem.W.nsIn K mainGlobals "are_at_one" = some (some (.ref f13))) (l13:K.lookup f13 = some ⟨oc13,od13,.func (PySem.W.fnOf "are_at_one" "are_at_one" (defArgs s_are_at_one) (defBody s_are_at_one) (defScope s_are_at_one) .none kV13 dc13 pm13 an13 cd13 ct13),sl13⟩) (c13:PySem.W.codeIn K cd13 "are_at_one" = true) (k13:PySem.W.keepIn K (.ref f13) = true)
    (a14:PySem.W.nsIn K mainGlobals "_law_cell_at" = some (some (.ref f14))) (l14:K.lookup f14 = some ⟨oc14,od14,.func (PySem.W.fnOf "_law_cell_at" "_law_cell_at" (defArgs s__law_cell_at) (defBody s__law_cell_at) (defScope s__law_cell_at) .none kV14 dc14 pm14 an14 cd14 ct14),sl14⟩) (c14:PySem.W.codeIn K cd14 "_law_cell_at" = true) (k14:PySem.W.keepIn K (.ref f14) = true)
    (a15:PySem.W.nsIn K mainGlobals "_law_row" = some (some (.ref f15))) (l15:K.lookup f15 = some ⟨oc15,od15,.func (PySem.W.fnOf "_law_row" "_law_row" (defArgs s__law_row) (defBody s__law_row) (defScope s__law_row) .none kV15 dc15 pm15 an15 cd15 ct15),sl15⟩) (c15:PySem.W.codeIn K cd15 "_law_row" = true) (k15:PySem.W.keepIn K (.ref f15) = true)
    (a16:PySem.W.nsIn K mainGlobals "_law_names" = some (some (.ref f16))) (l16:K.lookup f16 = some ⟨oc16,od16,.func (PySem.W.fnOf "_law_names" "_law_names" (defArgs s__law_names) (defBody s__law_names) (defScope s__law_names) .none kV16 dc16 pm16 an16 cd16 ct16),sl16⟩) (c16:PySem.W.codeIn K cd16 "_law_names" = true) (k16:PySem.W.keepIn K (.ref f16) = true)
    (a17:PySem.W.nsIn K mainGlobals "_law_tag" = some (some (.ref f17))) (l17:K.lookup f17 = some ⟨oc17,od17,.func (PySem.W.fnOf "_law_tag" "_law_tag" (defArgs s__law_tag) (defBody s__law_tag) (defScope s__law_tag) .none kV17 dc17 pm17 an17 cd17 ct17),sl17⟩) (c17:PySem.W.codeIn K cd17 "_law_tag" = true) (k17:PySem.W.keepIn K (.ref f17) = true)
    (a18:PySem.W.nsIn K mainGlobals "_law_head" = some (some (.ref f18))) (l18:K.lookup f18 = some ⟨oc18,od18,.func (PySem.W.fnOf "_law_head" "_law_head" (defArgs s__law_head) (defBody s__law_head) (defScope s__law_head) .none kV18 dc18 pm18 an18 cd18 ct18),sl18⟩) (c18:PySem.W.codeIn K cd18 "_law_head" = true) (k18:PySem.W.keepIn K (.ref f18) = true)
    (a19:PySem.W.nsIn K mainGlobals "_law_with" = some (some (.ref f19))) (l19:K.lookup f19 = some ⟨oc19,od19,.func (PySem.W.fnOf "_law_with" "_law_with" (defArgs s__law_with) (defBody s__law_with) (defScope s__law_with) .none kV19 dc19 pm19 an19 cd19 ct19),sl19⟩) (c19:PySem.W.codeIn K cd19 "_law_with" = true) (k19:PySem.W.keepIn K (.ref f19) = true)
    (a20:PySem.W.nsIn K mainGlobals "_law_bad_name" = some (some (.ref f20))) (l20:K.lookup f20 = some ⟨oc20,od20,.func (PySem.W.fnOf "_law_bad_name" "_law_bad_name" (defArgs s__law_bad_name) (defBody s__law_bad_name) (defScope s__law_bad_name) .none kV20 dc20 pm20 an20 cd20 ct20),sl20⟩) (c20:PySem.W.codeIn K cd20 "_law_bad_name" = true) (k20:PySem.W.keepIn K (.ref f20) = true)
    (a21:PySem.W.nsIn K mainGlobals "_law_twice" = some (some (.ref f21))) (l21:K.lookup f21 = some ⟨oc21,od21,.func (PySem.W.fnOf "_law_twice" "_law_twice" (defArgs s__law_twice) (defBody s__law_twice) (defScope s__law_twice) .none kV21 dc21 pm21 an21 cd21 ct21),sl21⟩) (c21:PySem.W.codeIn K cd21 "_law_twice" = true) (k21:PySem.W.keepIn K (.ref f21) = true)
    (a22:PySem.W.nsIn K mainGlobals "_law_bad" = some (some (.ref f22))) (l22:K.lookup f22 = some ⟨oc22,od22,.func (PySem.W.fnOf "_law_bad" "_law_bad" (defArgs s__law_bad) (defBody s__law_bad) (defScope s__law_bad) .none kV22 dc22 pm22 an22 cd22 ct22),sl22⟩) (c22:PySem.W.codeIn K cd22 "_law_bad" = true) (k22:PySem.W.keepIn K (.ref f22) = true)
    (a23:PySem.W.nsIn K mainGlobals "law" = some (some (.ref f23))) (l23:K.lookup f23 = some ⟨oc23,od23,.func (PySem.W.fnOf "law" "law" (defArgs s_law) (defBody s_law) (defScope s_law) .none kV23 dc23 pm23 an23 cd23 ct23),sl23⟩) (c23:PySem.W.codeIn K cd23 "law" = true) (k23:PySem.W.keepIn K (.ref f23) = true)
    (z_abs:PySem.W.nsIn K mainGlobals "abs" = some none)
    (z_all:PySem.W.nsIn K mainGlobals "all" = some none)
    (z_bool:PySem.W.nsIn K mainGlobals "bool" = some none)
    (z_dict:PySem.W.nsIn K mainGlobals "dict" = some none)
    (z_enumerate:PySem.W.nsIn K mainGlobals "enumerate" = some none)
    (z_int:PySem.W.nsIn K mainGlobals "int" = some none)
    (z_isinstance:PySem.W.nsIn K mainGlobals "isinstance" = some none)
    (z_len:PySem.W.nsIn K mainGlobals "len" = some none)
    (z_list:PySem.W.nsIn K mainGlobals "list" = some none)
    (z_range:PySem.W.nsIn K mainGlobals "range" = some none)
    (z_reversed:PySem.W.nsIn K mainGlobals "reversed" = some none)
    (z_set:PySem.W.nsIn K mainGlobals "set" = some none)
    (z_sorted:PySem.W.nsIn K mainGlobals "sorted" = some none)
    (z_str:PySem.W.nsIn K mainGlobals "str" = some none)
    (z_tuple:PySem.W.nsIn K mainGlobals "tuple" = some none)
    (w_SIGNS:PySem.W.nsIn K mainGlobals "SIGNS" = some (some (.str (PySem.Str.ofString " !\"#$&'()*+,-./0123456789:;<=>?@ABCDEFGHIJKLMNOPQRSTUVWXYZ[\\]^_`abcdefghijklmnopqrstuvwxyz{|}~") t_SIGNS)))
    (w_MOST_NUMBER:PySem.W.nsIn K mainGlobals "MOST_NUMBER" = some (some (.int 999999999 t_MOST_NUMBER)))
    (w_NAME_SIGNS:PySem.W.nsIn K mainGlobals "NAME_SIGNS" = some (some (.str (PySem.Str.ofString "0123456789abcdefghijklmnopqrstuvwxyz") t_NAME_SIGNS)))
    (w_MOST_NAME_SIGNS:PySem.W.nsIn K mainGlobals "MOST_NAME_SIGNS" = some (some (.int 8 t_MOST_NAME_SIGNS)))
    (w_MOST_CELL:PySem.W.nsIn K mainGlobals "MOST_CELL" = some (some (.int 999999 t_MOST_CELL)))
    (w_MOST_BIRTH:PySem.W.nsIn K mainGlobals "MOST_BIRTH" = some (some (.int 999999999 t_MOST_BIRTH)))
    (w_SUM_RESTS:PySem.W.nsIn K mainGlobals "SUM_RESTS" = some (some (.int 997 t_SUM_RESTS)))
    (w_STEM:PySem.W.nsIn K mainGlobals "STEM" = some (some (.int 1 t_STEM)))
    (w_SEAL:PySem.W.nsIn K mainGlobals "SEAL" = some (some (.int 2 t_SEAL)))
    (w_MOST_KEEPERS:PySem.W.nsIn K mainGlobals "MOST_KEEPERS" = some (some (.int 8 t_MOST_KEEPERS)))
    (w_MOST_NAMES:PySem.W.nsIn K mainGlobals "MOST_NAMES" = some (some (.int 24 t_MOST_NAMES))) :
    ∃ fd:FuncData,(∀ (s:Shared) (v:Value),BindsTo s fd ⟨[v],[]⟩ [("_law_script",v)])∧∀ base:Heap,K.In base→base.Ns mainGlobals mg→FnOk l.prog w K mg base CX0 7 fa fd ["_law_script"] (sp_law K):=by
  have e:=hfa.symm.trans (PySem.W.mg_of X G a23)
  cases e
  have T:Txt K mg:=⟨PySem.W.mg_none_of X G z_abs,PySem.W.mg_none_of X G z_all,PySem.W.mg_none_of X G z_bool,PySem.W.mg_none_of X G z_dict,PySem.W.mg_none_of X G z_enumerate,PySem.W.mg_none_of X G z_int,PySem.W.mg_none_of X G z_isinstance,PySem.W.mg_none_of X G z_len,PySem.W.mg_none_of X G z_list,PySem.W.mg_none_of X G z_range,PySem.W.mg_none_of X G z_reversed,PySem.W.mg_none_of X G z_set,PySem.W.mg_none_of X G z_sorted,PySem.W.mg_none_of X G z_str,PySem.W.mg_none_of X G z_tuple,⟨_,PySem.W.mg_of X G w_SIGNS⟩,⟨_,PySem.W.mg_of X G w_MOST_NUMBER⟩,⟨_,PySem.W.mg_of X G w_NAME_SIGNS⟩,⟨_,PySem.W.mg_of X G w_MOST_NAME_SIGNS⟩,⟨_,PySem.W.mg_of X G w_MOST_CELL⟩,⟨_,PySem.W.mg_of X G w_MOST_BIRTH⟩,⟨_,PySem.W.mg_of X G w_SUM_RESTS⟩,⟨_,PySem.W.mg_of X G w_STEM⟩,⟨_,PySem.W.mg_of X G w_SEAL⟩,⟨_,PySem.W.mg_of X G w_MOST_KEEPERS⟩,⟨_,PySem.W.mg_of X G w_MOST_NAMES⟩⟩
  have F0:=fun_mk (st:=s_is_whole) l0 c0 k0
  have b0:=F0.binds (ps:=["thing"]) fun _ _ _ _ _ _ us hl=>match us,hl with | [_],_=>rfl
  have F1:=fun_mk (st:=s_is_between) l1 c1 k1
  have b1:=F1.binds (ps:=["thing","least","most"]) fun _ _ _ _ _ _ us hl=>match us,hl with | [_,_,_],_=>rfl
  have F2:=fun_mk (st:=s_is_tuple_of) l2 c2 k2
  have b2:=F2.binds (ps:=["thing","many"]) fun _ _ _ _ _ _ us hl=>match us,hl with | [_,_],_=>rfl
  have F3:=fun_mk (st:=s_is_text) l3 c3 k3
  have b3:=F3.binds (ps:=["thing","least","most"]) fun _ _ _ _ _ _ us hl=>match us,hl with | [_,_,_],_=>rfl
  have F4:=fun_mk (st:=s_is_name) l4 c4 k4
  have b4:=F4.binds (ps:=["thing"]) fun _ _ _ _ _ _ us hl=>match us,hl with | [_],_=>rfl
  have F5:=fun_mk (st:=s_is_tag) l5 c5 k5
  have b5:=F5.binds (ps:=["thing"]) fun _ _ _ _ _ _ us hl=>match us,hl with | [_],_=>rfl
  have F6:=fun_mk (st:=s_is_head) l6 c6 k6
  have b6:=F6.binds (ps:=["thing"]) fun _ _ _ _ _ _ us hl=>match us,hl with | [_],_=>rfl
  have F7:=fun_mk (st:=s_are_keepers) l7 c7 k7
  have b7:=F7.binds (ps:=["thing"]) fun _ _ _ _ _ _ us hl=>match us,hl with | [_],_=>rfl
  have F8:=fun_mk (st:=s_is_keeper) l8 c8 k8
  have b8:=F8.binds (ps:=["thing"]) fun _ _ _ _ _ _ us hl=>match us,hl with | [_],_=>rfl
  have F9:=fun_mk (st:=s_are_rising) l9 c9 k9
  have b9:=F9.binds (ps:=["named"]) fun _ _ _ _ _ _ us hl=>match us,hl with | [_],_=>rfl
  have F10:=fun_mk (st:=s_are_names) l10 c10 k10
  have b10:=F10.binds (ps:=["thing"]) fun _ _ _ _ _ _ us hl=>match us,hl with | [_],_=>rfl
  have F11:=fun_mk (st:=s_is_stem) l11 c11 k11
  have b11:=F11.binds (ps:=["thing"]) fun _ _ _ _ _ _ us hl=>match us,hl with | [_],_=>rfl
  have F12:=fun_mk (st:=s_is_seal) l12 c12 k12
  have b12:=F12.binds (ps:=["thing"]) fun _ _ _ _ _ _ us hl=>match us,hl with | [_],_=>rfl
  have F13:=fun_mk (st:=s_are_at_one) l13 c13 k13
  have b13:=F13.binds (ps:=["keepers","names"]) fun _ _ _ _ _ _ us hl=>match us,hl with | [_,_],_=>rfl
  have F14:=fun_mk (st:=s__law_cell_at) l14 c14 k14
  have b14:=F14.binds (ps:=["_law_script","_law_k"]) fun _ _ _ _ _ _ us hl=>match us,hl with | [_,_],_=>rfl
  have F15:=fun_mk (st:=s__law_row) l15 c15 k15
  have b15:=F15.binds (ps:=["_law_cell","_law_many"]) fun _ _ _ _ _ _ us hl=>match us,hl with | [_,_],_=>rfl
  have F16:=fun_mk (st:=s__law_names) l16 c16 k16
  have b16:=F16.binds (ps:=["_law_cell","_law_many"]) fun _ _ _ _ _ _ us hl=>match us,hl with | [_,_],_=>rfl
  have F17:=fun_mk (st:=s__law_tag) l17 c17 k17
  have b17:=F17.binds (ps:=["_law_number"]) fun _ _ _ _ _ _ us hl=>match us,hl with | [_],_=>rfl
  have F18:=fun_mk (st:=s__law_head) l18 c18 k18
  have b18:=F18.binds (ps:=["_law_script"]) fun _ _ _ _ _ _ us hl=>match us,hl with | [_],_=>rfl
  have F19:=fun_mk (st:=s__law_with) l19 c19 k19
  have b19:=F19.binds (ps:=["_law_things","_law_at","_law_thing"]) fun _ _ _ _ _ _ us hl=>match us,hl with | [_,_,_],_=>rfl
  have F20:=fun_mk (st:=s__law_bad_name) l20 c20 k20
  have b20:=F20.binds (ps:=["_law_head_here","_law_row_here","_law_way"]) fun _ _ _ _ _ _ us hl=>match us,hl with | [_,_,_],_=>rfl
  have F21:=fun_mk (st:=s__law_twice) l21 c21 k21
  have b21:=F21.binds (ps:=["_law_head_here","_law_row_here"]) fun _ _ _ _ _ _ us hl=>match us,hl with | [_,_],_=>rfl
  have F22:=fun_mk (st:=s__law_bad) l22 c22 k22
  have b22:=F22.binds (ps:=["_law_head_here","_law_row_here"]) fun _ _ _ _ _ _ us hl=>match us,hl with | [_,_],_=>rfl
  have F23:=fun_mk (st:=s_law) l23 c23 k23
  refine ⟨PySem.W.fnOf "law" "law" (defArgs s_law) (defBody s_law) (defScope s_law) .none kV23 dc23 pm23 an23 cd23 ct23,fun s v=>.of_eq rfl,fun base _ _=>?_⟩
  have D_is_whole:Def l.prog w K mg base 1 "is_whole" ["thing"] (sp_is_whole K):=⟨_,_,ok_is_whole T F0 ,PySem.W.mg_of X G a0,k0,b0⟩
  have D_is_tuple_of:Def l.prog w K mg base 1 "is_tuple_of" ["thing","many"] (sp_is_tuple_of K):=⟨_,_,ok_is_tuple_of T F2 ,PySem.W.mg_of X G a2,k2,b2⟩
  have D_is_text:Def l.prog w K mg base 1 "is_text" ["thing","least","most"] (sp_is_text K):=⟨_,_,ok_is_text T F3 ,PySem.W.mg_of X G a3,k3,b3⟩
  have D_are_rising:Def l.prog w K mg base 1 "are_rising" ["named"] (sp_are_rising K):=⟨_,_,ok_are_rising T F9 ,PySem.W.mg_of X G a9,k9,b9⟩
  have D_are_at_one:Def l.prog w K mg base 1 "are_at_one" ["keepers","names"] (sp_are_at_one K):=⟨_,_,ok_are_at_one T F13 ,PySem.W.mg_of X G a13,k13,b13⟩
  have D__law_cell_at:Def l.prog w K mg base 1 "_law_cell_at" ["_law_script","_law_k"] (sp__law_cell_at K):=⟨_,_,ok__law_cell_at T F14 ,PySem.W.mg_of X G a14,k14,b14⟩
  have D__law_row:Def l.prog w K mg base 1 "_law_row" ["_law_cell","_law_many"] (sp__law_row K):=⟨_,_,ok__law_row T F15 ,PySem.W.mg_of X G a15,k15,b15⟩
  have D__law_names:Def l.prog w K mg base 1 "_law_names" ["_law_cell","_law_many"] (sp__law_names K):=⟨_,_,ok__law_names T F16 ,PySem.W.mg_of X G a16,k16,b16⟩
  have D__law_tag:Def l.prog w K mg base 1 "_law_tag" ["_law_number"] (sp__law_tag K):=⟨_,_,ok__law_tag T F17 ,PySem.W.mg_of X G a17,k17,b17⟩
  have D__law_with:Def l.prog w K mg base 1 "_law_with" ["_law_things","_law_at","_law_thing"] (sp__law_with K):=⟨_,_,ok__law_with T F19 ,PySem.W.mg_of X G a19,k19,b19⟩
  have D_is_between:Def l.prog w K mg base 2 "is_between" ["thing","least","most"] (sp_is_between K):=⟨_,_,ok_is_between T F1 D_is_whole,PySem.W.mg_of X G a1,k1,b1⟩
  have D_is_name:Def l.prog w K mg base 2 "is_name" ["thing"] (sp_is_name K):=⟨_,_,ok_is_name T F4 D_is_text,PySem.W.mg_of X G a4,k4,b4⟩
  have D__law_head:Def l.prog w K mg base 2 "_law_head" ["_law_script"] (sp__law_head K):=⟨_,_,ok__law_head T F18 D__law_cell_at D__law_row D__law_names D__law_tag,PySem.W.mg_of X G a18,k18,b18⟩
  have D__law_bad_name:Def l.prog w K mg base 2 "_law_bad_name" ["_law_head_here","_law_row_here","_law_way"] (sp__law_bad_name K):=⟨_,_,ok__law_bad_name T F20 D__law_with,PySem.W.mg_of X G a20,k20,b20⟩
  have D__law_twice:Def l.prog w K mg base 2 "_law_twice" ["_law_head_here","_law_row_here"] (sp__law_twice K):=⟨_,_,ok__law_twice T F21 D__law_with,PySem.W.mg_of X G a21,k21,b21⟩
  have D_is_tag:Def l.prog w K mg base 3 "is_tag" ["thing"] (sp_is_tag K):=⟨_,_,ok_is_tag T F5 D_is_between D_is_tuple_of,PySem.W.mg_of X G a5,k5,b5⟩
  have D_is_keeper:Def l.prog w K mg base 3 "is_keeper" ["thing"] (sp_is_keeper K):=⟨_,_,ok_is_keeper T F8 D_is_tuple_of D_is_name D_is_between,PySem.W.mg_of X G a8,k8,b8⟩
  have D__law_bad:Def l.prog w K mg base 3 "_law_bad" ["_law_head_here","_law_row_here"] (sp__law_bad K):=⟨_,_,ok__law_bad T F22 D__law_bad_name D__law_with D__law_twice,PySem.W.mg_of X G a22,k22,b22⟩
  have D_are_keepers:Def l.prog w K mg base 4 "are_keepers" ["thing"] (sp_are_keepers K):=⟨_,_,ok_are_keepers T F7 D_are_rising D_is_keeper,PySem.W.mg_of X G a7,k7,b7⟩
  have D_is_stem:Def l.prog w K mg base 4 "is_stem" ["thing"] (sp_is_stem K):=⟨_,_,ok_is_stem T F11 D_is_name D_is_tag D_is_tuple_of D_is_between,PySem.W.mg_of X G a11,k11,b11⟩
  have D_is_seal:Def l.prog w K mg base 4 "is_seal" ["thing"] (sp_is_seal K):=⟨_,_,ok_is_seal T F12 D_is_name D_is_between D_is_tag D_is_tuple_of,PySem.W.mg_of X G a12,k12,b12⟩
  have D_are_names:Def l.prog w K mg base 5 "are_names" ["thing"] (sp_are_names K):=⟨_,_,ok_are_names T F10 D_are_rising D_is_stem D_is_seal,PySem.W.mg_of X G a10,k10,b10⟩
  have D_is_head:Def l.prog w K mg base 6 "is_head" ["thing"] (sp_is_head K):=⟨_,_,ok_is_head T F6 D_are_keepers D_are_names D_are_at_one D_is_tuple_of D_is_between,PySem.W.mg_of X G a6,k6,b6⟩
  exact ok_law T F23 D__law_head D__law_bad D_is_head D__law_row
theorem walk {l:PySem.W.OpenLaw} {q:Program} {loose:List Str} {XP:(Str→Option Value)→Heap→Prop} {YP:World→Heap→Prop} {d:DefRec} {K:Params→PySem.W.Frag} (hn:l.most = some 63) (hdf:d.params.defaults = [])
    (hY:∀ (w:World) (h:Heap),YP w h→(K w.params).In h)
    (F:∀ (w:World) (mg:Str→Option Value) (fa:Addr) (h:Heap),(K w.params).In h→h.Ns mainGlobals mg→mg d.name = some (.ref fa)→
      ∃ fd:FuncData,(∀ (s:Shared) (u:Value),BindsTo s fd ⟨[u],[]⟩ [("_law_script",u)])∧∀ base:Heap,(K w.params).In base→base.Ns mainGlobals mg→FnOk l.prog w (K w.params) mg base CX0 7 fa fd ["_law_script"] (sp_law (K w.params))) :
    PySem.W.WalkO q loose XP YP l.row.toRowW d [] (fun f vs=>PySem.call f vs):=
  L2.walk_of (n:=63) (k:=7) (x:="_law_script") (CX:=fun _=>CX0) (sp:=fun w=>sp_law (K w.params)) hn (by decide) hdf ⟨rfl,by decide,by decide⟩ hY F (fun _ _ a ns hl _ hS=>⟨a,ns,rfl,hS,hl,fun _=>rfl⟩) fun _ _ _ _ _ z=>z
end K37
def PySem.W.Fast.tw15641715125113993005:Type:=PySem.Expr
theorem PySem.W.Fast.te15641715125113993005:PySem.Expr = PySem.W.Fast.tw15641715125113993005:=rfl
def PySem.W.Fast.tw90343872475197607:Type:=PySem.Params
theorem PySem.W.Fast.te90343872475197607:PySem.Params = PySem.W.Fast.tw90343872475197607:=rfl
open PySem PySem.W PyProof.Rows
set_option maxRecDepth 100000 in
set_option maxHeartbeats 0 in
theorem PySem.Challenge.cw_stemshelf_k37_heads_by_form_holds : PySem.Challenge.rw_stemshelf_k37_heads_by_form.Holds := by
  w_on; o_law; k_head; (case hw=>w_witness2)
  k_fill
  refine K37.walk (l:=PySem.Challenge.rw_stemshelf_k37_heads_by_form) rfl rfl (fun w h Y=>PySem.W.kIn_of Y) ?F
  case F=>
    intro w mg fa h KX G hmg
    refine' K37.all_mk KX G hmg ?a0 ?l0 ?c0 ?k0 ?a1 ?l1 ?c1 ?k1 ?a2 ?l2 ?c2 ?k2 ?a3 ?l3 ?c3 ?k3 ?a4 ?l4 ?c4 ?k4 ?a5 ?l5 ?c5 ?k5 ?a6 ?l6 ?c6 ?k6 ?a7 ?l7 ?c7 ?k7 ?a8 ?l8 ?c8 ?k8 ?a9 ?l9 ?c9 ?k9 ?a10 ?l10 ?c10 ?k10 ?a11 ?l11 ?c11 ?k11 ?a12 ?l12 ?c12 ?k12 ?a13 ?l13 ?c13 ?k13 ?a14 ?l14 ?c14 ?k14 ?a15 ?l15 ?c15 ?k15 ?a16 ?l16 ?c16 ?k16 ?a17 ?l17 ?c17 ?k17 ?a18 ?l18 ?c18 ?k18 ?a19 ?l19 ?c19 ?k19 ?a20 ?l20 ?c20 ?k20 ?a21 ?l21 ?c21 ?k21 ?a22 ?l22 ?c22 ?k22 ?a23 ?l23 ?c23 ?k23 ?z_abs ?z_all ?z_bool ?z_dict ?z_enumerate ?z_int ?z_isinstance ?z_len ?z_list ?z_range ?z_reversed ?z_set ?z_sorted ?z_str ?z_tuple ?w_SIGNS ?w_MOST_NUMBER ?w_NAME_SIGNS ?w_MOST_NAME_SIGNS ?w_MOST_CELL ?w_MOST_BIRTH ?w_SUM_RESTS ?w_STEM ?w_SEAL ?w_MOST_KEEPERS ?w_MOST_NAMES
    (case a0=>k_is)
    (case l0=>k_is)
    (case c0=>k_is)
    (case k0=>k_is)
    (case a1=>k_is)
    (case l1=>k_is)
    (case c1=>k_is)
    (case k1=>k_is)
    (case a2=>k_is)
    (case l2=>k_is)
    (case c2=>k_is)
    (case k2=>k_is)
    (case a3=>k_is)
    (case l3=>k_is)
    (case c3=>k_is)
    (case k3=>k_is)
    (case a4=>k_is)
    (case l4=>k_is)
    (case c4=>k_is)
    (case k4=>k_is)
    (case a5=>k_is)
    (case l5=>k_is)
    (case c5=>k_is)
    (case k5=>k_is)
    (case a6=>k_is)
    (case l6=>k_is)
    (case c6=>k_is)
    (case k6=>k_is)
    (case a7=>k_is)
    (case l7=>k_is)
    (case c7=>k_is)
    (case k7=>k_is)
    (case a8=>k_is)
    (case l8=>k_is)
    (case c8=>k_is)
    (case k8=>k_is)
    (case a9=>k_is)
    (case l9=>k_is)
    (case c9=>k_is)
    (case k9=>k_is)
    (case a10=>k_is)
    (case l10=>k_is)
    (case c10=>k_is)
    (case k10=>k_is)
    (case a11=>k_is)
    (case l11=>k_is)
    (case c11=>k_is)
    (case k11=>k_is)
    (case a12=>k_is)
    (case l12=>k_is)
    (case c12=>k_is)
    (case k12=>k_is)
    (case a13=>k_is)
    (case l13=>k_is)
    (case c13=>k_is)
    (case k13=>k_is)
    (case a14=>k_is)
    (case l14=>k_is)
    (case c14=>k_is)
    (case k14=>k_is)
    (case a15=>k_is)
    (case l15=>k_is)
    (case c15=>k_is)
    (case k15=>k_is)
    (case a16=>k_is)
    (case l16=>k_is)
    (case c16=>k_is)
    (case k16=>k_is)
    (case a17=>k_is)
    (case l17=>k_is)
    (case c17=>k_is)
    (case k17=>k_is)
    (case a18=>k_is)
    (case l18=>k_is)
    (case c18=>k_is)
    (case k18=>k_is)
    (case a19=>k_is)
    (case l19=>k_is)
    (case c19=>k_is)
    (case k19=>k_is)
    (case a20=>k_is)
    (case l20=>k_is)
    (case c20=>k_is)
    (case k20=>k_is)
    (case a21=>k_is)
    (case l21=>k_is)
    (case c21=>k_is)
    (case k21=>k_is)
    (case a22=>k_is)
    (case l22=>k_is)
    (case c22=>k_is)
    (case k22=>k_is)
    (case a23=>k_is)
    (case l23=>k_is)
    (case c23=>k_is)
    (case k23=>k_is)
    (case z_abs=>k_is)
    (case z_all=>k_is)
    (case z_bool=>k_is)
    (case z_dict=>k_is)
    (case z_enumerate=>k_is)
    (case z_int=>k_is)
    (case z_isinstance=>k_is)
    (case z_len=>k_is)
    (case z_list=>k_is)
    (case z_range=>k_is)
    (case z_reversed=>k_is)
    (case z_set=>k_is)
    (case z_sorted=>k_is)
    (case z_str=>k_is)
    (case z_tuple=>k_is)
    (case w_SIGNS=>k_is)
    (case w_MOST_NUMBER=>k_is)
    (case w_NAME_SIGNS=>k_is)
    (case w_MOST_NAME_SIGNS=>k_is)
    (case w_MOST_CELL=>k_is)
    (case w_MOST_BIRTH=>k_is)
    (case w_SUM_RESTS=>k_is)
    (case w_STEM=>k_is)
    (case w_SEAL=>k_is)
    (case w_MOST_KEEPERS=>k_is)
    (case w_MOST_NAMES=>k_is)
