import PyProof.Rows.All
import Wide.All
import OpenK.AllK
import Wide.FinOn
import Lean
import PyProof.EqAt
import PyProof.EqKinds
import PyProof.TupleCall
import PySem.Challenge.RW_stemshelf_k59_grafts
set_option Elab.async false
set_option linter.all false
set_option maxRecDepth 100000
namespace L2
open PySem PySem.Spec PyProof.Rows
abbrev Key:=Sum Int Str
def keyIs:Key→Value→Bool
  | .inl k,v=>Value.isInt k v
  | .inr x,v=>Value.isStrOf x v
def keyH (w:World):Key→Int
  | .inl k=>hashInt k
  | .inr x=>hashStr w x
theorem keyIs_shape:∀ {k:Key} {v:Value},keyIs k v = true→(∃ i t,k = Sum.inl i∧v = Value.int i t)∨(∃ x t,k = Sum.inr x∧v = Value.str x t)
  | .inl i,v,h=>by
    obtain ⟨t,e⟩:=Value.isInt_shape (k:=i) (v:=v) h
    exact .inl ⟨i,t,rfl,e⟩
  | .inr x,v,h=>by
    obtain ⟨t,e⟩:=Value.isStrOf_shape (x:=x) (v:=v) h
    exact .inr ⟨x,t,rfl,e⟩
theorem keyIs_int (i:Int) (t:Tok):keyIs (.inl i) (.int i t) = true:=by simp [keyIs,Value.isInt]
theorem keyIs_str (x:Str) (t:Tok):keyIs (.inr x) (.str x t) = true:=by simp [keyIs,Value.isStrOf]
theorem key_ll (a b:Int):decide ((Sum.inl a:Key) = Sum.inl b) = (a == b):=by
  by_cases e:a = b
  · subst e; simp
  · have h:¬ (Sum.inl a:Key) = Sum.inl b:=fun q=>e (Sum.inl.inj q)
    rw [decide_eq_false h]
    exact (beq_eq_false_iff_ne.mpr e).symm
theorem key_rr (a b:Str):decide ((Sum.inr a:Key) = Sum.inr b) = decide (a = b):=by
  by_cases e:a = b
  · subst e; simp
  · have h:¬ (Sum.inr a:Key) = Sum.inr b:=fun q=>e (Sum.inr.inj q)
    rw [decide_eq_false h,decide_eq_false e]
theorem key_lr (a:Int) (b:Str):decide ((Sum.inl a:Key) = Sum.inr b) = false:=decide_eq_false (fun q=>nomatch q)
theorem key_rl (a:Str) (b:Int):decide ((Sum.inr a:Key) = Sum.inl b) = false:=decide_eq_false (fun q=>nomatch q)
def mixKind (prog:Program) (w:World):PySem.KeyKind prog w Key where
  is:=keyIs
  hash:=keyH w
  inj:=fun v a b ha hb=>by
    rcases keyIs_shape ha with ⟨i,t,rfl,rfl⟩ | ⟨x,t,rfl,rfl⟩
    · rcases keyIs_shape hb with ⟨j,u,rfl,e⟩ | ⟨y,u,rfl,e⟩
      · injection e with e1 _; rw [e1]
      · exact nomatch e
    · rcases keyIs_shape hb with ⟨j,u,rfl,e⟩ | ⟨y,u,rfl,e⟩
      · exact nomatch e
      · injection e with e1 _; rw [e1]
  byValue:=fun k v h=>by
    rcases keyIs_shape h with ⟨i,t,rfl,rfl⟩ | ⟨x,t,rfl,rfl⟩ <;> rfl
  pyHash:=fun hv h=>by
    rcases keyIs_shape hv with ⟨i,t,rfl,rfl⟩ | ⟨x,t,rfl,rfl⟩
    · exact wpAny_pyHash_int h
    · exact wpAny_pyHash_str h
  eqBool:=fun hu hv h=>by
    rcases keyIs_shape hu with ⟨i,t,rfl,rfl⟩ | ⟨x,t,rfl,rfl⟩
    · rcases keyIs_shape hv with ⟨j,u,rfl,rfl⟩ | ⟨y,u,rfl,rfl⟩
      · rw [key_ll] at h; exact wpAny_eqBool_int h
      · rw [key_lr] at h; exact SeqAt.EqAt.int_str i t y u _ _ _ _ h
    · rcases keyIs_shape hv with ⟨j,u,rfl,rfl⟩ | ⟨y,u,rfl,rfl⟩
      · rw [key_rl] at h; exact SeqAt.EqAt.str_int x t j u _ _ _ _ h
      · rw [key_rr] at h; exact wpAny_eqBool_str h
  «strs»:=fun k x t v h=>by
    rcases keyIs_shape h with ⟨i,u,rfl,e⟩ | ⟨y,u,rfl,e⟩
    · exact nomatch e
    · injection e with e1 _
      subst e1
      cases v <;> rfl
theorem mixKind_int (prog:Program) (w:World) (i:Int) (t:Tok):(mixKind prog w).is (.inl i) (.int i t) = true:=keyIs_int i t
theorem mixKind_str (prog:Program) (w:World) (x:Str) (t:Tok):(mixKind prog w).is (.inr x) (.str x t) = true:=keyIs_str x t
end L2
namespace L2
open PySem PySem.Spec PyProof.Rows
inductive V where
  | non | bl (b:Bool) | int (i:Int) | str (x:Str) | byt (b:Array UInt8) | flt (b:UInt64) | ref (a:Addr) | ty (n:String)
  deriving DecidableEq
def RelV:V→Value→Prop
  | .non,u=>u = Value.none
  | .bl b,u=>u = Value.bool b
  | .int i,u=>∃ t,u = Value.int i t
  | .str x,u=>∃ t,u = Value.str x t
  | .byt b,u=>∃ t,u = Value.bytes b t
  | .flt b,u=>∃ t,u = Value.float b t
  | .ref a,u=>u = Value.ref a
  | .ty n,u=>u = Value.type n
abbrev Vals:List V→List Value→Prop:=Paired RelV
theorem Vals.length {xs:List V} {us:List Value} (r:Vals xs us):xs.length = us.length:=Paired.length r
theorem Vals.get:∀ {xs:List V} {us:List Value} {i:Nat} {x:V},Vals xs us→xs[i]? = some x→∃ u,us[i]? = some u∧RelV x u
  | _,_,_,_,.nil,e=>by simp at e
  | _,_,0,_,.cons r _,e=>by simp at e; subst e; exact ⟨_,rfl,r⟩
  | _,_,i + 1,x,.cons _ t,e=>by
    obtain ⟨u,h1,h2⟩:=Vals.get (i:=i) (x:=x) t (by simpa using e)
    exact ⟨u,by simpa using h1,h2⟩
theorem Vals.set {x:V} {u:Value} (r:RelV x u):∀ {xs:List V} {us:List Value} (i:Nat),Vals xs us→Vals (xs.set i x) (us.set i u)
  | _,_,_,.nil=>.nil
  | _,_,0,.cons _ t=>.cons r t
  | _,_,i + 1,.cons q t=>.cons q (Vals.set r i t)
theorem Vals.append:∀ {xs ys:List V} {us ws:List Value},Vals xs us→Vals ys ws→Vals (xs ++ ys) (us ++ ws)
  | _,_,_,_,.nil,s=>s
  | _,_,_,_,.cons r t,s=>.cons r (Vals.append t s)
theorem Vals.take:∀ {xs:List V} {us:List Value} (n:Nat),Vals xs us→Vals (xs.take n) (us.take n)
  | _,_,0,_=>.nil
  | _,_,_ + 1,.nil=>.nil
  | _,_,n + 1,.cons r t=>.cons r (Vals.take n t)
theorem Vals.drop:∀ {xs:List V} {us:List Value} (n:Nat),Vals xs us→Vals (xs.drop n) (us.drop n)
  | _,_,0,r=>r
  | _,_,_ + 1,.nil=>.nil
  | _,_,n + 1,.cons _ t=>Vals.drop n t
def RelO:Option V→Option Value→Prop
  | some v,some u=>RelV v u
  | none,none=>True
  | _,_=>False
def KV {κ:Type}:List (κ×V)→List (κ×Value)→Prop:=Paired fun (p:κ×V) (q:κ×Value)=>p.1 = q.1∧RelV p.2 q.2
def kV:Key→V
  | .inl i=>.int i
  | .inr x=>.str x
inductive HO where
  | lst (xs:List V)
  | tup (xs:List V)
  | dK (kvs:List (Key×V)) | dT (kvs:List (List Key×V))
  | set (S:Int→Bool) (n:Nat)
  | ins (C dx:Addr) (fs:List (Str×V))
  | own (x:Addr)
  | xd (fs:List (Str×V))
  | met (f x:Addr)
  | rng (lo hi:Int)
  | frz (o:Obj) (u:HO)
  | tbl (ps:Array Value)
  | ext (φ:Heap→Prop)
abbrev Hp:=Addr→Option HO
def upd (H:Hp) (a:Addr) (o:HO):Hp:=fun b=>if b = a then some o else H b
theorem upd_same {H:Hp} {a:Addr} {o:HO}:upd H a o a = some o:=by unfold upd; rw [if_pos rfl]
theorem upd_ne {H:Hp} {a b:Addr} {o:HO} (h:b≠a):upd H a o b = H b:=by unfold upd; rw [if_neg h]
theorem ne_of {H:Hp} {a b:Addr} {o u:HO} (h:H a = some o) (h':H b = some u) (d:o≠u):a≠b:=by
  intro e; subst e; rw [h] at h'; exact d (Option.some.inj h')
theorem ne_of_none {H:Hp} {a b:Addr} {o:HO} (h:H a = some o) (h':H b = none):a≠b:=by
  intro e; subst e; rw [h] at h'; cases h'
section
variable (P:Program) (w:World)
def ObjOk (H:Hp) (h:Heap) (a:Addr):HO→Prop
  | .lst xs=>xs.length≤sizeLine∧∃ (its:List Value) (n:Nat),Vals xs its∧h.get? a = some { cls:=.type "list",data:=.seq its.toArray n }
  | .tup xs=>xs.length≤sizeLine∧∃ its:List Value,Vals xs its∧IsTup h a its.toArray
  | .dK kvs=>kvs.length≤sizeLine∧(a == sysModules) = false∧∃ vs,KV kvs vs∧h.DictOf (mixKind P w) a vs
  | .dT kvs=>kvs.length≤sizeLine∧(a == sysModules) = false∧∃ xs:List (List Key×Addr×Value),
      Paired (fun (p:List Key×V) (q:List Key×Addr×Value)=>p.1 = q.1∧H q.2.1 = some (.tup (p.1.map kV))∧RelV p.2 q.2.2) kvs xs∧
      ∃ o es ep,h.get? a = some o∧o.ExactDict∧o.data = .dict es ep∧es.toList = xs.map (entryOfKey (tupleKind (mixKind P w)))∧(xs.map (·.1)).Nodup
  | .set S n=>h.SetOf (intKind P w) a S n
  | .ins C dx fs=>H dx = some (.own a)∧fs.length≤1000∧dx≠a∧h.get? a = some (PySem.W.instObj C dx)∧
      ∃ mA,h.Ns1 dx mA∧(∀ f,RelO (fs.lookup f) (mA f))∧PySem.Within mA (fs.map (·.1))
  | .own _=>∃ o,h.get? a = some o
  | .xd fs=>∃ mA,h.Ns1 a mA∧∀ f,RelO (fs.lookup f) (mA f)
  | .rng lo hi=>∃ t u v,h.get? a = some { cls:=.type "range",data:=.fields #[.int lo t,.int hi u,.int 1 v] }
  | .frz o u=>h.get? a = some o∧ObjOk H h a u
  | .tbl ps=>h.get? a = some { cls:=.none,data:=.fields ps }
  | .met f x=>h.get? a = some (PySem.W.methodObj (.ref f) (.ref x))
  | .ext φ=>φ h∧(∃ o,h.get? a = some o)∧∀ h1 h2:Heap,φ h1→(∀ o,h1.get? a = some o→h2.get? a = some o)→φ h2
def HOk (H:Hp) (h:Heap):Prop:=∀ a o,H a = some o→ObjOk P w H h a o
end
section
variable {P:Program} {w:World} {H H':Hp} {h h':Heap} {a:Addr} {o:HO}
theorem ObjOk.lt (x:ObjOk P w H h a o):a < h.objs.size:=by
  cases o with
  | lst xs=>obtain ⟨_,_,_,_,e⟩:=x; exact Heap.lt_size e
  | tup xs=>obtain ⟨_,_,_,p⟩:=x; exact p.lt
  | dK kvs=>obtain ⟨_,_,_,_,o,_,_,e,_⟩:=x; exact Heap.lt_size e
  | dT kvs=>obtain ⟨_,_,_,_,o,_,_,e,_⟩:=x; exact Heap.lt_size e
  | set S n=>obtain ⟨o,_,_,_,e,_⟩:=x; exact Heap.lt_size e
  | ins C dx fs=>obtain ⟨_,_,_,e,_⟩:=x; exact Heap.lt_size e
  | own y=>obtain ⟨_,e⟩:=x; exact Heap.lt_size e
  | xd fs=>obtain ⟨_,⟨_,_,_,e,_⟩,_⟩:=x; exact Heap.lt_size e
  | rng lo hi=>obtain ⟨_,_,_,e⟩:=x; exact Heap.lt_size e
  | frz ob u=>obtain ⟨e,_⟩:=x; exact Heap.lt_size e
  | tbl ps=>exact Heap.lt_size (show h.get? a = some _ from x)
  | met f y=>exact Heap.lt_size (show h.get? a = some _ from x)
  | ext φ=>obtain ⟨_,⟨_,e⟩,_⟩:=x; exact Heap.lt_size e
theorem Paired.mapP {α β:Type} {F G:α→β→Prop}:∀ {l₁:List α} {l₂:List β},Paired F l₁ l₂→(∀ a b,F a b→G a b)→Paired G l₁ l₂
  | _,_,.nil,_=>.nil
  | _,_,.cons r t,f=>.cons (f _ _ r) (Paired.mapP t f)
theorem ObjOk.stay (x:ObjOk P w H h a o) (k:∀ b u,(b = a∨H b = some (.own a))→h.get? b = some u→h'.get? b = some u)
    (ho:∀ b,H b = some (.own a)→H' b = some (.own a)) (ht:∀ b xs,H b = some (.tup xs)→H' b = some (.tup xs)):ObjOk P w H' h' a o:=by
  induction o with
  | lst xs=>obtain ⟨z,its,n,r,e⟩:=x; exact ⟨z,its,n,r,k _ _ (.inl rfl) e⟩
  | tup xs=>obtain ⟨z,its,r,ob,e,c⟩:=x; exact ⟨z,its,r,ob,k _ _ (.inl rfl) e,c⟩
  | dK kvs=>obtain ⟨z,y,vs,r,ob,es,ep,e,c⟩:=x; exact ⟨z,y,vs,r,ob,es,ep,k _ _ (.inl rfl) e,c⟩
  | dT kvs=>
    obtain ⟨z,y,xs,r,ob,es,ep,e,c⟩:=x
    exact ⟨z,y,xs,Paired.mapP r fun p q z=>⟨z.1,ht _ _ z.2.1,z.2.2⟩,ob,es,ep,k _ _ (.inl rfl) e,c⟩
  | set S n=>obtain ⟨ob,es,ep,t,e,c⟩:=x; exact ⟨ob,es,ep,t,k _ _ (.inl rfl) e,c⟩
  | ins C dx fs=>
    obtain ⟨d,z,ne,e,mA,⟨od,es,ep,e2,c⟩,r⟩:=x
    exact ⟨ho _ d,z,ne,k _ _ (.inl rfl) e,mA,⟨od,es,ep,k _ _ (.inr d) e2,c⟩,r⟩
  | own y=>obtain ⟨ob,e⟩:=x; exact ⟨ob,k _ _ (.inl rfl) e⟩
  | xd fs=>obtain ⟨mA,⟨od,es,ep,e,c⟩,r⟩:=x; exact ⟨mA,⟨od,es,ep,k _ _ (.inl rfl) e,c⟩,r⟩
  | rng lo hi=>obtain ⟨t,u,v,e⟩:=x; exact ⟨t,u,v,k _ _ (.inl rfl) e⟩
  | frz ob u ih=>obtain ⟨e,q⟩:=x; exact ⟨k _ _ (.inl rfl) e,ih q⟩
  | tbl ps=>
    have e:h.get? a = some { cls:=.none,data:=.fields ps }:=x
    show h'.get? a = some { cls:=.none,data:=.fields ps }
    exact k a _ (.inl rfl) e
  | met f y=>
    have e:h.get? a = some (PySem.W.methodObj (.ref f) (.ref y)):=x
    show h'.get? a = some (PySem.W.methodObj (.ref f) (.ref y))
    exact k a _ (.inl rfl) e
  | ext φ=>obtain ⟨p,⟨o,e⟩,st⟩:=x; exact ⟨st _ _ p fun o q=>k _ _ (.inl rfl) q,⟨o,k _ _ (.inl rfl) e⟩,st⟩
theorem HOk.lt (x:HOk P w H h) (e:H a = some o):a < h.objs.size:=(x a o e).lt
theorem HOk.fresh (x:HOk P w H h) (e:h.objs.size≤a):H a = none:=by
  cases q:H a with
  | none=>rfl
  | some u=>exact absurd (Nat.lt_of_lt_of_le (x.lt q) e) (Nat.lt_irrefl _)
theorem HOk.kept (x:HOk P w H h) (k:∀ b u,h.get? b = some u→h'.get? b = some u):HOk P w H h':=fun a o e=>
  (x a o e).stay (fun b u _ q=>k b u q) (fun _ q=>q) fun _ _ q=>q
theorem HOk.laid (x:HOk P w H h) (k:∀ b u,h.get? b = some u→h'.get? b = some u) (hp:h.objs.size≤a) (new:ObjOk P w (upd H a o) h' a o):HOk P w (upd H a o) h':=fun b u e=>by
  have hn:=x.fresh hp
  by_cases hb:b = a
  · subst hb; rw [upd_same] at e; cases e; exact new
  · rw [upd_ne hb] at e
    exact (x b u e).stay (fun c v _ q=>k c v q) (fun c q=>by rw [upd_ne (ne_of_none q hn)]; exact q) fun c xs q=>by rw [upd_ne (ne_of_none q hn)]; exact q
end
def Rd (H:Hp) (a:Addr) (u:HO):Prop:=H a = some u∨∃ o,H a = some (.frz o u)
theorem Rd.of {H:Hp} {a:Addr} {u:HO} (h:H a = some u):Rd H a u:=.inl h
theorem Rd.ok {P:Program} {w:World} {H:Hp} {h:Heap} {a:Addr} {u:HO} (r:Rd H a u) (x:HOk P w H h):ObjOk P w H h a u:=by
  rcases r with r | ⟨o,r⟩
  · exact x a u r
  · obtain ⟨_,q⟩:=x a _ r
    exact q
def Mut:Option HO→Prop
  | some (.lst _)=>True
  | some (.dK _)=>True
  | some (.dT _)=>True
  | some (.set _ _)=>True
  | some (.ins _ _ _)=>True
  | some (.ext _)=>True
  | _=>False
section
variable {P:Program} {w:World} {H:Hp} {h h':Heap} {x e:Addr} {o':HO}
theorem HOk.write (ok:HOk P w H h) (mu:Mut (H x)) (he:e = x∨H e = some (.own x)) (k:∀ b u,b≠e→h.get? b = some u→h'.get? b = some u) (heo:∃ u,h'.get? e = some u)
    (new:ObjOk P w (upd H x o') h' x o'):HOk P w (upd H x o') h':=fun b u q=>by
  have nown:∀ c y,H c = some (.own y)→c≠x:=fun c y r z=>by subst z; rw [r] at mu; exact mu
  have ntup:∀ c xs,H c = some (.tup xs)→c≠x:=fun c xs r z=>by subst z; rw [r] at mu; exact mu
  by_cases hb:b = x
  · subst hb; rw [upd_same] at q; cases q; exact new
  · rw [upd_ne hb] at q
    by_cases hbe:b = e
    · have q':H b = some (.own x):=by
        rcases he with z | z
        · exact absurd (hbe.trans z) hb
        · rw [hbe]; exact z
      rw [q] at q'; cases q'
      obtain ⟨v,hv⟩:=heo
      exact ⟨v,by rw [hbe]; exact hv⟩
    · refine (ok b u q).stay (fun c v hc r=>k c v ?_ r) (fun c r=>by rw [upd_ne (nown c b r)]; exact r) fun c xs r=>by rw [upd_ne (ntup c xs r)]; exact r
      rcases hc with rfl | hc
      · exact hbe
      · rintro rfl
        rcases he with z | z
        · exact nown c b hc z
        · rw [hc] at z; cases z; exact hb rfl
end
structure Un (fs ex:List Addr) (H H':Hp) (h h':Heap):Prop where
  keep:∀ b o,h.get? b = some o→H b = none→b ∉ fs→b ∉ ex→h'.get? b = some o
  slot:∀ b o,h.get? b = some o→H b = none→b∈fs→b ∉ ex→∃ sl,h'.get? b = some { o with slots:=sl }
  free:∀ b o,h.get? b = some o→H b = none→b ∉ ex→H' b = none
  there:∀ b o,h.get? b = some o→b ∉ ex→∃ o',h'.get? b = some o'
  tups:∀ b xs,H b = some (.tup xs)→H' b = some (.tup xs)
  frzs:∀ b o u,H b = some (.frz o u)→H' b = some (.frz o u)
  tbls:∀ b ps,H b = some (.tbl ps)→∃ more,H' b = some (.tbl (ps ++ more))
section
variable {fs fs' ex ex':List Addr} {H H1 H2:Hp} {h h1 h2 h':Heap} {a x e:Addr} {o:HO}
theorem Un.any (u:Un fs ex H H1 h h1) {b:Addr} {ob:Obj} (q:h.get? b = some ob) (n:H b = none) (hx:b ∉ ex):∃ sl,h1.get? b = some { ob with slots:=sl }:=by
  by_cases hb:b∈fs
  · exact u.slot b ob q n hb hx
  · exact ⟨ob.slots,u.keep b ob q n hb hx⟩
theorem Un.trans (a:Un fs ex H H1 h h1) (b:Un fs ex H1 H2 h1 h2):Un fs ex H H2 h h2 where
  keep:=fun c ob q n hc hx=>b.keep c ob (a.keep c ob q n hc hx) (a.free c ob q n hx) hc hx
  slot:=fun c ob q n hc hx=>by
    obtain ⟨sl,e1⟩:=a.slot c ob q n hc hx
    obtain ⟨sl',e2⟩:=b.slot c _ e1 (a.free c ob q n hx) hc hx
    exact ⟨sl',e2⟩
  free:=fun c ob q n hx=>by
    obtain ⟨o',e1⟩:=a.there c ob q hx
    exact b.free c o' e1 (a.free c ob q n hx) hx
  there:=fun c ob q hx=>by
    obtain ⟨o',e1⟩:=a.there c ob q hx
    exact b.there c o' e1 hx
  tups:=fun c xs q=>b.tups c xs (a.tups c xs q)
  frzs:=fun c ob xs q=>b.frzs c ob xs (a.frzs c ob xs q)
  tbls:=fun c ps q=>by
    obtain ⟨m1,e1⟩:=a.tbls c ps q
    obtain ⟨m2,e2⟩:=b.tbls c _ e1
    exact ⟨m1 ++ m2,by rw [e2,Array.append_assoc]⟩
theorem Un.kept (k:∀ b u,h.get? b = some u→h'.get? b = some u):Un fs ex H H h h':=
  ⟨fun b ob q _ _ _=>k b ob q,fun b ob q _ _ _=>⟨ob.slots,k b ob q⟩,fun _ _ _ n _=>n,fun b ob q _=>⟨ob,k b ob q⟩,fun _ _ q=>q,fun _ _ _ q=>q,fun _ ps q=>⟨#[],by rw [q]; simp⟩⟩
theorem Un.refl:Un fs ex H H h h:=Un.kept fun _ _ q=>q
theorem Un.laid (k:∀ b u,h.get? b = some u→h'.get? b = some u) (hp:h.objs.size≤a) (hn:H a = none):Un fs ex H (upd H a o) h h' where
  keep:=fun b u q _ _ _=>k b u q
  slot:=fun b u q _ _ _=>⟨u.slots,k b u q⟩
  free:=fun b u q n _=>by rw [upd_ne (Nat.ne_of_lt (Nat.lt_of_lt_of_le (Heap.lt_size q) hp))]; exact n
  there:=fun b u q _=>⟨u,k b u q⟩
  tups:=fun b xs q=>by rw [upd_ne (ne_of_none q hn)]; exact q
  frzs:=fun b u xs q=>by rw [upd_ne (ne_of_none q hn)]; exact q
  tbls:=fun b ps q=>⟨#[],by rw [upd_ne (ne_of_none q hn),q]; simp⟩
theorem Un.write (mu:Mut (H x)) (he:e = x∨H e = some (.own x)) (k:∀ b u,b≠e→h.get? b = some u→h'.get? b = some u) (heo:∃ u,h'.get? e = some u):Un fs ex H (upd H x o) h h':=by
  have hx:∀ b,H b = none→b≠x:=fun b n z=>by subst z; rw [n] at mu; exact mu
  have hb:∀ b,H b = none→b≠e:=fun b n z=>by
    subst z
    rcases he with r | r
    · exact hx b n r
    · rw [n] at r; cases r
  have hm:∀ b u,H b = some u→¬ Mut (some u)→b≠x:=fun b u q nm z=>by subst z; rw [q] at mu; exact nm mu
  refine ⟨fun b u q n _ _=>k b u (hb b n) q,fun b u q n _ _=>⟨u.slots,k b u (hb b n) q⟩,fun b u q n _=>by rw [upd_ne (hx b n)]; exact n,fun b u q _=>?_,
    fun b xs q=>by rw [upd_ne (hm b _ q fun z=>z)]; exact q,fun b u xs q=>by rw [upd_ne (hm b _ q fun z=>z)]; exact q,fun b ps q=>⟨#[],by rw [upd_ne (hm b _ q fun z=>z),q]; simp⟩⟩
  by_cases hbe:b = e
  · subst hbe; exact heo
  · exact ⟨u,k b u hbe q⟩
theorem Un.mono (u:Un fs ex H H1 h h1) (hs:∀ b∈fs,b∈fs') (hx:∀ b∈ex,b∈ex'):Un fs' ex' H H1 h h1:=
  ⟨fun b ob q n hb he=>u.keep b ob q n (fun z=>hb (hs b z)) fun z=>he (hx b z),fun _ _ q n _ he=>u.any q n fun z=>he (hx _ z),fun b ob q n he=>u.free b ob q n fun z=>he (hx b z),fun b ob q he=>u.there b ob q fun z=>he (hx b z),u.tups,u.frzs,u.tbls⟩
end
def trk (h:Heap) (H:Hp):List Addr:=(List.range h.objs.size).filter fun a=>(H a).isSome
def hidT (h:Heap) (H:Hp):Heap:=PySem.W.hideAll h (trk h H)
theorem hidT_size (h:Heap) (H:Hp):(hidT h H).objs.size = h.objs.size:=PySem.W.hideAll_size _ _
theorem hidT_get {h:Heap} {H:Hp} {b:Addr} {o:Obj} (e:h.get? b = some o) (n:H b = none):(hidT h H).get? b = some o:=
  PySem.W.hideAll_get _ e fun hm=>by
    have q:(H b).isSome = true:=(List.mem_filter.mp hm).2
    rw [n] at q; simp at q
theorem of_hidT {h:Heap} {H:Hp} {b:Addr} {o:Obj} (e:(hidT h H).get? b = some o):h.get? b = some o∧H b = none:=by
  have e':h.get? b = some o:=PySem.W.of_hideAll (trk h H) e
  refine ⟨e',?_⟩
  cases q:H b with
  | none=>rfl
  | some x=>
    have hm:b∈trk h H:=List.mem_filter.mpr ⟨List.mem_range.mpr (Heap.lt_size e'),by simp [q]⟩
    have z:(hidT h H).get? b = none:=PySem.W.hideAll_none (trk h H) hm
    rw [z] at e; cases e
def allNews (g h:Heap) (L:Addr):List (Addr×Obj):=(List.range h.objs.size).filterMap fun a=>if a = L∨(g.get? a).isSome = true then none else (h.get? a).map fun o=>(a,o)
def rest (g h:Heap) (L d:Addr):List (Addr×Obj):=(allNews g h L).filter fun p=>decide (p.1≠d)
end L2
namespace L2
open PySem PySem.Spec PyProof.Rows
structure Mod (K:PySem.W.Frag) (mg:Str→Option Value) (base:Heap):Prop where
  kin:K.In base
  glob:base.Ns mainGlobals mg
  blt:∃ mb,base.Ns builtinsNs mb∧∀ x:Str,x≠"__name__"→mb x = bootBuiltins x
  nolimit:base.NoLimit
structure Cx where
  prog:Program
  w:World
  K:PySem.W.Frag
  mg:Str→Option Value
  base:Heap
  A:Around
  N:List Str
  s₀:Shared
  H₀:Hp
  env:Env
  outer:List Env
  stack:List Env
  ex:List Addr
  fn:Str→Bool
  calm:Bool
  pn:List (Addr×Obj)
  xe:Value→Shared→Prop
def frs (l:List Env):List Addr:=l.filterMap (·.frame)
abbrev Cx.fs (X:Cx):List Addr:=frs X.outer
def Vis (sc:Scope) (x:Str):Prop:=sc.names.lookup x = some .local∨sc.names.lookup x = some .cell∨sc.names.lookup x = some .free
def Loc (sc:Scope) (x:Str):Prop:=sc.names.lookup x = some .local∨sc.names.lookup x = some .cell
def Look (env:Env) (h:Heap) (m:Str→Option Value) (x:Str) (u:Value):Prop:=
  (env.kindOf x = some .local∧m x = some u)∨((env.kindOf x = some .cell∨env.kindOf x = some .free)∧∃ c,env.cells.lookup x = some c∧h.IsCell c (some u))
structure Cx.Ok (X:Cx):Prop where
  mod:Mod X.K X.mg X.base
  kind:X.env.scope.kind = .function
  glob:X.env.globals = mainGlobals
  blt:X.env.builtins = builtinsNs
  above:X.s₀.heap.objs.size≤X.env.locals
  inj:∀ x y c,X.env.cells.lookup x = some c→X.env.cells.lookup y = some c→x = y
  has:∀ x,(X.env.kindOf x = some .cell∨X.env.kindOf x = some .free)→∃ c,X.env.cells.lookup x = some c
  cab:∀ x c,X.fn x = true→X.env.cells.lookup x = some c→X.s₀.heap.objs.size≤c
  hd:X.calm = true→X.A.handled = none
  frames:X.A.frames = some X.stack
  stk:X.stack = X.outer∨(X.stack = X.env :: X.outer∧X.env.frame = some X.env.locals)
  exf:∀ b∈X.ex,b≠X.env.locals∧∀ x c,X.env.cells.lookup x = some c→c≠b
  bs:∀ b o,X.base.get? b = some o→X.s₀.heap.get? b = some o∧X.H₀ b = none
  bsz:X.base.objs.size≤X.s₀.heap.objs.size
  noex:∀ b o,X.base.get? b = some o→b ∉ X.ex
  exfs:∀ b∈X.ex,b ∉ X.fs
  funs:X.s₀.heap.FunFrames X.base X.outer
  frf:∀ b∈X.fs,X.H₀ b = none
structure Inv (X:Cx) (pins:List (Addr×Obj)) (σ:List (Option V)) (H:Hp) (s:Shared):Prop where
  ok:X.Ok
  os:s.os = X.s₀.os
  bare:AllBare s.gens
  base:Un X.fs X.ex X.H₀ H X.s₀.heap s.heap
  loc:∃ m,s.heap.Ns X.env.locals m∧∀ (i:Nat) (x:Str) (v:V),X.N[i]? = some x→σ[i]? = some (some v)→Vis X.env.scope x→∃ u,RelV v u∧Look X.env s.heap m x u
  cell:∀ x c,X.env.cells.lookup x = some c→∃ v,s.heap.IsCell c v
  free:H X.env.locals = none
  freeC:∀ x c,X.env.cells.lookup x = some c→H c = none
  pin:∀ p∈X.pn ++ pins,s.heap.get? p.1 = some p.2∧H p.1 = none∧p.1≠X.env.locals∧p.1 ∉ X.fs∧∀ v,p.2.data≠.cell v
  hok:HOk X.prog X.w H s.heap
  len:σ.length = X.N.length
section
variable {X:Cx} {pins:List (Addr×Obj)} {σ:List (Option V)} {H H':Hp} {s:Shared} {h':Heap}
theorem Cx.Ok.nofr (ok:X.Ok) {b:Addr} {o:Obj} (e:X.base.get? b = some o):b ∉ X.fs:=fun hb=>by
  have:=(ok.funs.mem hb).1
  rw [e] at this; cases this
theorem Inv.bs (I:Inv X pins σ H s):∀ b o,X.base.get? b = some o→s.heap.get? b = some o∧H b = none:=fun b o e=>
  ⟨I.base.keep b o (I.ok.bs b o e).1 (I.ok.bs b o e).2 (I.ok.nofr e) (I.ok.noex b o e),I.base.free b o (I.ok.bs b o e).1 (I.ok.bs b o e).2 (I.ok.noex b o e)⟩
theorem Inv.bk (I:Inv X pins σ H s):∀ b o,X.base.get? b = some o→s.heap.get? b = some o:=fun b o e=>(I.bs b o e).1
theorem Inv.mod (I:Inv X pins σ H s):Mod X.K X.mg X.base:=I.ok.mod
theorem Inv.kIn (I:Inv X pins σ H s):X.K.In s.heap:=I.ok.mod.kin.keeps I.bk
theorem Inv.nolimit (I:Inv X pins σ H s):s.heap.NoLimit:=I.ok.mod.nolimit.keeps I.bk
theorem Inv.fr (I:Inv X pins σ H s):∃ m,Fr X.base X.env.locals s.heap m:=
  let ⟨m,hn,_⟩:=I.loc
  ⟨m,hn,I.bk,Nat.le_trans I.ok.bsz I.ok.above⟩
theorem Inv.lt (I:Inv X pins σ H s):X.env.locals < s.heap.objs.size:=let ⟨_,hn,_⟩:=I.loc; hn.lt
theorem Inv.sz (I:Inv X pins σ H s):X.s₀.heap.objs.size≤s.heap.objs.size:=Nat.le_trans I.ok.above (Nat.le_of_lt I.lt)
theorem Inv.nofs (I:Inv X pins σ H s) {a:Addr} (h:s.heap.objs.size≤a):a ∉ X.fs:=fun hb=>by
  obtain ⟨_,o,ho,_⟩:=I.ok.funs.mem hb
  exact absurd (Nat.lt_of_lt_of_le (Heap.lt_size ho) (Nat.le_trans I.sz h)) (Nat.lt_irrefl _)
theorem Inv.cne (I:Inv X pins σ H s):∀ x c,X.env.cells.lookup x = some c→c≠X.env.locals:=fun x c e z=>by
  obtain ⟨v,o,ho,hd⟩:=I.cell x c e
  obtain ⟨m,⟨o',es,ep,ho',hd',_⟩,_⟩:=I.loc
  rw [z,ho'] at ho; cases ho; rw [hd'] at hd; cases hd
theorem Inv.funs (I:Inv X pins σ H s):s.heap.FunFrames X.base X.outer:=by
  have all:∀ (l:List Env),(∀ b∈frs l,b∈X.fs)→X.s₀.heap.FunFrames X.base l→s.heap.FunFrames X.base l:=by
    intro l
    induction l with
    | nil=>intro _ _; trivial
    | cons env r ih=>
      intro hs hl
      obtain ⟨hk,⟨L,o,hf,hn,ho,hd⟩,hr⟩:=hl
      have hL:L∈X.fs:=hs L (by unfold frs; rw [List.filterMap_cons,hf]; exact List.mem_cons_self)
      obtain ⟨sl,e⟩:=I.base.slot L o ho (I.ok.frf L hL) hL fun z=>I.ok.exfs L z hL
      exact ⟨hk,⟨L,_,hf,hn,e,hd⟩,ih (fun b hb=>hs b (by unfold frs; rw [List.filterMap_cons,hf]; exact List.mem_cons_of_mem _ hb)) hr⟩
  exact all X.outer (fun _ hb=>hb) I.ok.funs
theorem Inv.stack (I:Inv X pins σ H s):s.heap.FunFrames X.base X.stack:=by
  rcases I.ok.stk with e | ⟨e,hf⟩
  · rw [e]; exact I.funs
  · rw [e]
    obtain ⟨m,hn,_⟩:=I.loc
    refine .cons (by rw [I.ok.kind]; decide) hf hn ?_ I.funs
    exact Heap.get?_none_of_le (Nat.le_trans I.ok.bsz I.ok.above)
theorem Inv.stkSub (I:Inv X pins σ H s):∀ b∈frs X.stack,b∈X.env.locals :: X.fs:=fun b hb=>by
  rcases I.ok.stk with e | ⟨e,hf⟩
  · rw [e] at hb; exact List.mem_cons_of_mem _ hb
  · rw [e] at hb
    unfold frs at hb
    rw [List.filterMap_cons,hf] at hb
    exact hb
theorem Inv.stkFree (I:Inv X pins σ H s):∀ b∈frs X.stack,H b = none:=fun b hb=>by
  rcases List.mem_cons.mp (I.stkSub b hb) with e | hb
  · rw [e]; exact I.free
  · obtain ⟨_,o,ho,_⟩:=I.ok.funs.mem hb
    exact I.base.free b o ho (I.ok.frf b hb) fun z=>I.ok.exfs b z hb
theorem Inv.step {g':Array GenState} {t':Nat} {d':Drawn} {ch:List Addr} (I:Inv X pins σ H s)
    (hch:∀ b∈ch,(b∈X.ex∨X.s₀.heap.objs.size≤b)∧b≠X.env.locals∧(∀ x c,X.env.cells.lookup x = some c→c≠b)∧∀ p∈X.pn ++ pins,p.1≠b)
    (keep:∀ b o,b≠X.env.locals→b ∉ X.fs→b ∉ ch→s.heap.get? b = some o→H b = none→h'.get? b = some o)
    (slot:∀ b o,b≠X.env.locals→b∈X.fs→b ∉ ch→s.heap.get? b = some o→H b = none→∃ sl,h'.get? b = some { o with slots:=sl }) (free:∀ b o,b ∉ ch→s.heap.get? b = some o→H b = none→H' b = none)
    (there:∀ b o,b ∉ ch→s.heap.get? b = some o→∃ o',h'.get? b = some o')
    (tups:∀ b xs,H b = some (.tup xs)→H' b = some (.tup xs)) (frzs:∀ b o u,H b = some (.frz o u)→H' b = some (.frz o u)) (tbls:∀ b ps,H b = some (.tbl ps)→∃ more,H' b = some (.tbl (ps ++ more)))
    (ns:∀ m,s.heap.Ns X.env.locals m→h'.Ns X.env.locals m) (hok:HOk X.prog X.w H' h') (hg:AllBare g') :
    Inv X pins σ H' { s with heap:=h',gens:=g',drawn:=d',toks:=t' }:=by
  have neL:∀ b o,X.s₀.heap.get? b = some o→b≠X.env.locals:=fun b o e=>Nat.ne_of_lt (Nat.lt_of_lt_of_le (Heap.lt_size e) I.ok.above)
  have neC:∀ b o,X.s₀.heap.get? b = some o→b ∉ X.ex→b ∉ ch:=fun b o e hx hb=>by
    rcases (hch b hb).1 with z | z
    · exact hx z
    · exact absurd (Nat.lt_of_lt_of_le (Heap.lt_size e) z) (Nat.lt_irrefl _)
  have cellK:∀ x c,X.env.cells.lookup x = some c→∀ v,s.heap.IsCell c v→h'.IsCell c v:=fun x c e v ⟨o,ho,hd⟩=>by
    have nch:c ∉ ch:=fun z=>(hch c z).2.2.1 x c e rfl
    by_cases hc:c∈X.fs
    · obtain ⟨sl,q⟩:=slot c o (I.cne x c e) hc nch ho (I.freeC x c e)
      exact ⟨_,q,hd⟩
    · exact ⟨o,keep c o (I.cne x c e) hc nch ho (I.freeC x c e),hd⟩
  refine ⟨I.ok,I.os,hg,⟨fun b o e n hb hx=>?_,fun b o e n hb hx=>?_,fun b o e n hx=>?_,fun b o e hx=>?_,fun b xs e=>tups b xs (I.base.tups b xs e),fun b o xs e=>frzs b o xs (I.base.frzs b o xs e),fun b ps e=>?_⟩,?_,fun x c e=>?_,?_,fun x c e=>?_,fun p hp=>?_,hok,I.len⟩
  · exact keep b o (neL b o e) hb (neC b o e hx) (I.base.keep b o e n hb hx) (I.base.free b o e n hx)
  · obtain ⟨sl,e1⟩:=I.base.slot b o e n hb hx
    obtain ⟨sl',e2⟩:=slot b _ (neL b o e) hb (neC b o e hx) e1 (I.base.free b o e n hx)
    exact ⟨sl',e2⟩
  · obtain ⟨o',e1⟩:=I.base.there b o e hx
    exact free b o' (neC b o e hx) e1 (I.base.free b o e n hx)
  · obtain ⟨o',e1⟩:=I.base.there b o e hx
    exact there b o' (neC b o e hx) e1
  · obtain ⟨m1,e1⟩:=I.base.tbls b ps e
    obtain ⟨m2,e2⟩:=tbls b _ e1
    exact ⟨m1 ++ m2,by rw [e2,Array.append_assoc]⟩
  · obtain ⟨m,hn,hl⟩:=I.loc
    refine ⟨m,ns m hn,fun i x v e1 e2 e3=>?_⟩
    obtain ⟨u,r,l⟩:=hl i x v e1 e2 e3
    refine ⟨u,r,?_⟩
    rcases l with l | ⟨k,c,e,z⟩
    · exact .inl l
    · exact .inr ⟨k,c,e,cellK x c e _ z⟩
  · obtain ⟨v,z⟩:=I.cell x c e
    exact ⟨v,cellK x c e v z⟩
  · obtain ⟨m,⟨o,_,_,ho,_⟩,_⟩:=I.loc
    exact free _ o (fun z=>(hch _ z).2.1 rfl) ho I.free
  · obtain ⟨v,o,ho,hd⟩:=I.cell x c e
    exact free c o (fun z=>(hch c z).2.2.1 x c e rfl) ho (I.freeC x c e)
  · obtain ⟨e,n,ne,nf,d⟩:=I.pin p hp
    have nch:p.1 ∉ ch:=fun z=>(hch p.1 z).2.2.2 p hp rfl
    exact ⟨keep p.1 p.2 ne nf nch e n,free p.1 p.2 nch e n,ne,nf,d⟩
theorem Inv.un {t':Nat} (I:Inv X pins σ H s) (u:Un X.fs [] H H' s.heap h') (hok:HOk X.prog X.w H' h'):Inv X pins σ H' { s with heap:=h',toks:=t' }:=by
  obtain ⟨m,⟨o,es,ep,ho,r⟩,_⟩:=id I.loc
  obtain ⟨sl,hL⟩:=u.any ho I.free (by simp)
  exact I.step (g':=s.gens) (d':=s.drawn) (ch:=[]) (fun _ z=>nomatch z) (fun b o _ hb _ e n=>u.keep b o e n hb (by simp)) (fun b o _ hb _ e n=>u.slot b o e n hb (by simp)) (fun b o _ e n=>u.free b o e n (by simp)) (fun b o _ e=>u.there b o e (by simp)) u.tups u.frzs u.tbls (fun m' hm=>by
    obtain ⟨o',es',ep',ho',r'⟩:=hm
    rw [ho] at ho'; cases ho'
    exact ⟨_,es',ep',hL,r'⟩) hok I.bare
theorem Inv.call {g':Array GenState} {t':Nat} {d':Drawn} {ch:List Addr} (I:Inv X pins σ H s) (u:Un (frs X.stack) ch H H' s.heap h') (hok:HOk X.prog X.w H' h') (hg:AllBare g')
    (hch:∀ b∈ch,(b∈X.ex∨X.s₀.heap.objs.size≤b)∧b≠X.env.locals∧(∀ x c,X.env.cells.lookup x = some c→c≠b)∧∀ p∈X.pn ++ pins,p.1≠b) :
    Inv X pins σ H' { s with heap:=h',gens:=g',drawn:=d',toks:=t' }:=by
  obtain ⟨m,⟨o,es,ep,ho,r⟩,_⟩:=id I.loc
  obtain ⟨sl,hL⟩:=u.any ho I.free fun z=>(hch _ z).2.1 rfl
  exact I.step (ch:=ch) hch (fun b o hL hb hc e n=>u.keep b o e n (fun z=>(List.mem_cons.mp (I.stkSub b z)).elim hL hb) hc) (fun b o _ _ hc e n=>u.any e n hc) (fun b o hc e n=>u.free b o e n hc) (fun b o hc e=>u.there b o e hc) u.tups u.frzs u.tbls (fun m' hm=>by
    obtain ⟨o',es',ep',ho',r'⟩:=hm
    rw [ho] at ho'; cases ho'
    exact ⟨_,es',ep',hL,r'⟩) hok hg
theorem Inv.turned {t':Nat} {it:Addr} (I:Inv X pins σ H s) (k:∀ b o,b≠it→s.heap.get? b = some o→h'.get? b = some o) (hn:H it = none) (hL:it≠X.env.locals)
    (h1:it∈X.ex∨X.s₀.heap.objs.size≤it) (h2:∀ x c,X.env.cells.lookup x = some c→c≠it) (h3:∀ p∈X.pn ++ pins,p.1≠it):Inv X pins σ H { s with heap:=h',toks:=t' }:=by
  have nit:∀ b u,H b = some u→b≠it:=fun b u e z=>by rw [z,hn] at e; cases e
  refine I.step (g':=s.gens) (d':=s.drawn) (ch:=[it]) (fun b hb=>?_) (fun b o _ _ hc e _=>k b o (fun z=>hc (by simp [z])) e) (fun b o _ _ hc e _=>⟨o.slots,k b o (fun z=>hc (by simp [z])) e⟩) (fun _ _ _ _ n=>n)
    (fun b o hc e=>⟨o,k b o (fun z=>hc (by simp [z])) e⟩) (fun _ _ e=>e) (fun _ _ _ e=>e) (fun b ps e=>⟨#[],by rw [e]; simp⟩) (fun m hm=>?_) (fun b u e=>?_) I.bare
  · have e:b = it:=by simpa using hb
    subst e
    exact ⟨h1,hL,h2,h3⟩
  · obtain ⟨o,es,ep,ho,r⟩:=hm
    exact ⟨o,es,ep,k _ o (Ne.symm hL) ho,r⟩
  · refine (I.hok b u e).stay (fun c v hc q=>k c v ?_ q) (fun _ q=>q) fun _ _ q=>q
    rcases hc with z | z
    · rw [z]; exact nit b u e
    · exact nit c _ z
theorem Inv.tok (I:Inv X pins σ H s) (t:Nat):Inv X pins σ H { s with toks:=t }:=I.un (h':=s.heap) (t':=t) Un.refl I.hok
theorem Inv.kept {t':Nat} (I:Inv X pins σ H s) (k:∀ b u,s.heap.get? b = some u→h'.get? b = some u):Inv X pins σ H { s with heap:=h',toks:=t' }:=I.un (Un.kept k) (I.hok.kept k)
theorem Inv.laid {a:Addr} {o:HO} {t':Nat} (I:Inv X pins σ H s) (k:∀ b u,s.heap.get? b = some u→h'.get? b = some u) (hp:s.heap.objs.size≤a) (new:ObjOk X.prog X.w (upd H a o) h' a o) :
    Inv X pins σ (upd H a o) { s with heap:=h',toks:=t' }:=I.un (Un.laid k hp (I.hok.fresh hp)) (I.hok.laid k hp new)
theorem Inv.write {x e:Addr} {o:HO} {t':Nat} (I:Inv X pins σ H s) (mu:Mut (H x)) (he:e = x∨H e = some (.own x)) (k:∀ b u,b≠e→s.heap.get? b = some u→h'.get? b = some u) (heo:∃ u,h'.get? e = some u)
    (new:ObjOk X.prog X.w (upd H x o) h' x o):Inv X pins σ (upd H x o) { s with heap:=h',toks:=t' }:=I.un (Un.write mu he k heo) (I.hok.write mu he k heo new)
theorem Inv.pins_of {pins':List (Addr×Obj)} (I:Inv X pins σ H s) (h:∀ p∈pins',s.heap.get? p.1 = some p.2∧H p.1 = none∧p.1≠X.env.locals∧p.1 ∉ X.fs∧∀ v,p.2.data≠.cell v):Inv X pins' σ H s:=
  ⟨I.ok,I.os,I.bare,I.base,I.loc,I.cell,I.free,I.freeC,fun p hp=>(List.mem_append.mp hp).elim (fun z=>I.pin p (List.mem_append_left _ z)) (h p),I.hok,I.len⟩
theorem nodup_ix {N:List Str} (hN:N.Nodup) {i j:Nat} {x:Str} (a:N[i]? = some x) (b:N[j]? = some x):i = j:=by
  obtain ⟨h1,e1⟩:=List.getElem?_eq_some_iff.mp a
  obtain ⟨h2,e2⟩:=List.getElem?_eq_some_iff.mp b
  exact (List.getElem_inj hN).mp (e1.trans e2.symm)
theorem store_ok2 {M:Model} {A:Around} {E:Value→Shared→Prop} {i:Nat} {x:Str} {v:V} {u:Value} {Q:Unit→Shared→Prop} (I:Inv X pins σ H s) (hN:X.N.Nodup) (hi:X.N[i]? = some x) (hx:Loc X.env.scope x) (r:RelV v u)
    (h:∀ s',Inv X pins (σ.set i (some v)) H s'→(∃ a,Heap.SameBut a s.heap s'.heap∧(a = X.env.locals∨X.env.cells.lookup x = some a))→Q () s') (hf:X.fn x = true∨X.env.scope.names.lookup x = some .local:=by first | exact .inl rfl | exact .inr rfl | assumption):wpAny M A (storeName X.env x u) Q E s:=by
  obtain ⟨m,hn,hl⟩:=id I.loc
  have hcls:(X.env.scope.kind == .class || (X.env.scope.kind == .module && X.env.locals != X.env.globals)) = false:=by rw [I.ok.kind]; rfl
  have hiσ:i < σ.length:=by rw [I.len]; exact (List.getElem?_eq_some_iff.mp hi).1
  have cne:=I.cne
  have tracked:∀ {a:Addr} {h':Heap},(∃ o,s.heap.get? a = some o∧H a = none)→Heap.SameBut a s.heap h'→HOk X.prog X.w H h':=fun {a h'} ha hs b ob e=>by
    obtain ⟨_,_,hfree⟩:=ha
    refine (I.hok b ob e).stay (fun c w' hc q=>(hs.2 c ?_).trans q) (fun _ q=>q) fun _ _ q=>q
    rintro rfl
    rcases hc with rfl | hc
    · rw [hfree] at e; cases e
    · rw [hfree] at hc; cases hc
  rcases hx with hk | hk
  · refine wpAny_storeName_local hk hn (fun h' hn' hs=>?_) hcls
    obtain ⟨oL,_,_,hoL,_⟩:=id hn
    refine h _ ⟨I.ok,I.os,I.bare,⟨fun b o e n hb hx=>?_,fun b o e n hb hx=>?_,I.base.free,fun b o e hx=>?_,I.base.tups,I.base.frzs,I.base.tbls⟩,⟨_,hn',fun j y v' e1 e2 e3=>?_⟩,fun y c e=>?_,I.free,I.freeC,fun p hp=>?_,tracked ⟨oL,hoL,I.free⟩ hs,by simpa using I.len⟩ ⟨_,hs,.inl rfl⟩
    · exact (hs.2 b (Nat.ne_of_lt (Nat.lt_of_lt_of_le (Heap.lt_size e) I.ok.above))).trans (I.base.keep b o e n hb hx)
    · obtain ⟨sl,e1⟩:=I.base.slot b o e n hb hx
      exact ⟨sl,(hs.2 b (Nat.ne_of_lt (Nat.lt_of_lt_of_le (Heap.lt_size e) I.ok.above))).trans e1⟩
    · obtain ⟨o',e1⟩:=I.base.there b o e hx
      exact ⟨o',(hs.2 b (Nat.ne_of_lt (Nat.lt_of_lt_of_le (Heap.lt_size e) I.ok.above))).trans e1⟩
    · by_cases hj:j = i
      · subst hj
        rw [hi] at e1; cases e1
        rw [List.getElem?_set_self hiσ] at e2
        cases e2
        exact ⟨u,r,.inl ⟨hk,by simp⟩⟩
      · rw [List.getElem?_set_ne (Ne.symm hj)] at e2
        obtain ⟨u',r',q⟩:=hl j y v' e1 e2 e3
        refine ⟨u',r',?_⟩
        rcases q with ⟨k,e⟩ | ⟨k,c,e,z⟩
        · refine .inl ⟨k,?_⟩
          have:y≠x:=fun e=>hj (nodup_ix hN e1 (e ▸ hi))
          simp [this,e]
        · exact .inr ⟨k,c,e,z.sameBut hs (cne y c e)⟩
    · obtain ⟨w',z⟩:=I.cell y c e
      exact ⟨w',z.sameBut hs (cne y c e)⟩
    · obtain ⟨e,n,ne,nf,d⟩:=I.pin p hp
      exact ⟨(hs.2 p.1 ne).trans e,n,ne,nf,d⟩
  · have hfn:X.fn x = true:=by
      rcases hf with z | z
      · exact z
      · rw [z] at hk; cases hk
    obtain ⟨c,hc⟩:=I.ok.has x (.inl hk)
    obtain ⟨w',z⟩:=I.cell x c hc
    refine wpAny_storeName_cell I.ok.kind hk hc z (fun h' hc' hs=>?_)
    obtain ⟨oc,hoc,hocd⟩:=id z
    refine h { s with heap:=h' } ⟨I.ok,I.os,I.bare,⟨fun b o e n hb hx=>?_,fun b o e n hb hx=>?_,I.base.free,fun b o e hx=>?_,I.base.tups,I.base.frzs,I.base.tbls⟩,⟨m,hn.sameBut hs (Ne.symm (cne x c hc)),fun j y v' e1 e2 e3=>?_⟩,fun y c' e=>?_,I.free,I.freeC,fun p hp=>?_,tracked ⟨oc,hoc,I.freeC x c hc⟩ hs,by simpa using I.len⟩ ⟨c,hs,.inr hc⟩
    · exact (hs.2 b (Nat.ne_of_lt (Nat.lt_of_lt_of_le (Heap.lt_size e) (I.ok.cab x c hfn hc)))).trans (I.base.keep b o e n hb hx)
    · obtain ⟨sl,e1⟩:=I.base.slot b o e n hb hx
      exact ⟨sl,(hs.2 b (Nat.ne_of_lt (Nat.lt_of_lt_of_le (Heap.lt_size e) (I.ok.cab x c hfn hc)))).trans e1⟩
    · obtain ⟨o',e1⟩:=I.base.there b o e hx
      exact ⟨o',(hs.2 b (Nat.ne_of_lt (Nat.lt_of_lt_of_le (Heap.lt_size e) (I.ok.cab x c hfn hc)))).trans e1⟩
    · by_cases hj:j = i
      · subst hj
        rw [hi] at e1; cases e1
        rw [List.getElem?_set_self hiσ] at e2
        cases e2
        exact ⟨u,r,.inr ⟨.inl hk,c,hc,hc'⟩⟩
      · rw [List.getElem?_set_ne (Ne.symm hj)] at e2
        obtain ⟨u',r',q⟩:=hl j y v' e1 e2 e3
        refine ⟨u',r',?_⟩
        rcases q with q | ⟨k,c',e,z'⟩
        · exact .inl q
        · refine .inr ⟨k,c',e,z'.sameBut hs ?_⟩
          rintro rfl
          exact hj (nodup_ix hN e1 (I.ok.inj _ _ _ e hc ▸ hi))
    · by_cases hcc:c' = c
      · subst hcc; exact ⟨_,hc'⟩
      · obtain ⟨w2,z2⟩:=I.cell y c' e
        exact ⟨w2,z2.sameBut hs hcc⟩
    · obtain ⟨e,n,ne,nf,d⟩:=I.pin p hp
      refine ⟨(hs.2 p.1 ?_).trans e,n,ne,nf,d⟩
      intro q
      rw [q,hoc] at e
      have q':oc = p.2:=Option.some.inj e
      exact d w' (by rw [← q']; exact hocd)
theorem store_ok {M:Model} {A:Around} {E:Value→Shared→Prop} {i:Nat} {x:Str} {v:V} {u:Value} {Q:Unit→Shared→Prop} (I:Inv X pins σ H s) (hN:X.N.Nodup) (hi:X.N[i]? = some x) (hx:Loc X.env.scope x) (r:RelV v u)
    (h:∀ s',Inv X pins (σ.set i (some v)) H s'→Q () s') (hf:X.fn x = true∨X.env.scope.names.lookup x = some .local:=by first | exact .inl rfl | exact .inr rfl | assumption):wpAny M A (storeName X.env x u) Q E s:=
  store_ok2 I hN hi hx r (fun s' I' _=>h s' I') hf
theorem Inv.call' {s':Shared} {ch:List Addr} (I:Inv X pins σ H s) (ho:s'.os = s.os) (u:Un (frs X.stack) ch H H' s.heap s'.heap) (hok:HOk X.prog X.w H' s'.heap) (hg:AllBare s'.gens)
    (hch:∀ b∈ch,(b∈X.ex∨X.s₀.heap.objs.size≤b)∧b≠X.env.locals∧(∀ x c,X.env.cells.lookup x = some c→c≠b)∧∀ p∈X.pn ++ pins,p.1≠b):Inv X pins σ H' s':=by
  obtain ⟨h',g',d',t',o'⟩:=s'
  have e:o' = s.os:=ho
  subst e
  exact I.call (g':=g') (t':=t') (d':=d') u hok hg hch
end
abbrev XK:=Value→Option Addr→Hp→Prop
abbrev St:=List (Option V)
abbrev VK:=V→Hp→Prop
abbrev TE:=St→Hp→VK→Prop
abbrev TT:=St→Hp→(Bool→Hp→Prop)→Prop
abbrev TA:=St→Hp→(List V→Hp→Prop)→Prop
structure Ends where
  nx:St→Hp→Prop
  rt:VK
  bk:St→Hp→Prop:=fun _ _=>False
  ct:St→Hp→Prop:=fun _ _=>False
abbrev TS:=Ends→St→Hp→Prop
def EP (X:Cx) (pins:List (Addr×Obj)) (σ:St) (Q:VK) (u:Value) (s':Shared):Prop:=∃ v H',Inv X pins σ H' s'∧RelV v u∧Q v H'
def TP (X:Cx) (pins:List (Addr×Obj)) (σ:St) (Q:Bool→Hp→Prop) (b:Bool) (s':Shared):Prop:=∃ H',Inv X pins σ H' s'∧Q b H'
def AP (X:Cx) (pins:List (Addr×Obj)) (σ:St) (Q:List V→Hp→Prop) (us:List Value) (s':Shared):Prop:=∃ vs H',Inv X pins σ H' s'∧Vals vs us∧Q vs H'
def SP (X:Cx) (pins:List (Addr×Obj)) (D:Ends) (f:Flow) (s':Shared):Prop:=
  match f with
  | .next=>∃ σ' H',Inv X pins σ' H' s'∧D.nx σ' H'
  | .brk=>∃ σ' H',Inv X pins σ' H' s'∧D.bk σ' H'
  | .cont=>∃ σ' H',Inv X pins σ' H' s'∧D.ct σ' H'
  | .ret u=>∃ v σ' H',Inv X pins σ' H' s'∧RelV v u∧D.rt v H'
def PE (X:Cx) (e:Expr) (t:TE):Prop:=
  ∀ (pins:List (Addr×Obj)) (s:Shared) (σ:St) (H:Hp) (Q:VK),Inv X pins σ H s→t σ H Q→wpAny (model X.prog X.w) X.A (eval e X.env) (EP X pins σ Q) X.xe s
def PT (X:Cx) (e:Expr) (t:TT):Prop:=
  ∀ (pins:List (Addr×Obj)) (s:Shared) (σ:St) (H:Hp) (Q:Bool→Hp→Prop),Inv X pins σ H s→t σ H Q→wpAny (model X.prog X.w) X.A (isTrue e X.env (eval e X.env)) (TP X pins σ Q) X.xe s
def PW (X:Cx) (e:Expr) (t:TT):Prop:=
  ∀ (whole:Sem Value) (pins:List (Addr×Obj)) (s:Shared) (σ:St) (H:Hp) (Q:Bool→Hp→Prop),Inv X pins σ H s→t σ H Q→wpAny (model X.prog X.w) X.A (isTrue e X.env whole) (TP X pins σ Q) X.xe s
theorem PW.pt {X:Cx} {e:Expr} {t:TT} (h:PW X e t):PT X e t:=h _
def PA (X:Cx) (es:List Expr) (t:TA):Prop:=
  ∀ (pos:Pos) (pins:List (Addr×Obj)) (s:Shared) (σ:St) (H:Hp) (Q:List V→Hp→Prop),Inv X pins σ H s→t σ H Q→wpAny (model X.prog X.w) X.A (spliced (backTo pos (starEach es X.env))) (AP X pins σ Q) X.xe s
def PS (X:Cx) (st:Stmt) (t:TS):Prop:=
  ∀ (pins:List (Addr×Obj)) (s:Shared) (σ:St) (H:Hp) (D:Ends),Inv X pins σ H s→t D σ H→wpAny (model X.prog X.w) X.A (exec st X.env) (SP X pins D) X.xe s
def PSs (X:Cx) (st:List Stmt) (t:TS):Prop:=
  ∀ (pins:List (Addr×Obj)) (s:Shared) (σ:St) (H:Hp) (D:Ends),Inv X pins σ H s→t D σ H→wpAny (model X.prog X.w) X.A (execs st X.env) (SP X pins D) X.xe s
theorem thn {α:Type} {t:Sem α} {Q Q':α→Shared→Prop} {M:Model} {A:Around} {E:Value→Shared→Prop} {s:Shared} (h:wpAny M A t Q E s) (hQ:∀ a s,Q a s→Q' a s):wpAny M A t Q' E s:=wpAny_mono h hQ fun _ _ x=>x
end L2
namespace L2
open PySem PySem.Spec PyProof.Rows
section
variable {X:Cx}
def tVar (i:Nat):TE:=fun σ H Q=>∃ v,σ[i]? = some (some v)∧Q v H
def tC (v:V):TE:=fun _ H Q=>Q v H
theorem pe_var {i:Nat} {x:Str} {pos:Pos} (hN:X.N[i]? = some x) (hv:Vis X.env.scope x) (hd:(x == ("__debug__":Str)) = false:=by decide) (hcd:(x == ("__classdict__":Str)) = false:=by decide):PE X (.Name x pos) (tVar i):=by
  intro pins s σ H Q I h
  obtain ⟨v,e,h⟩:=h
  obtain ⟨m,hn,hl⟩:=I.loc
  obtain ⟨u,r,l⟩:=hl i x v hN e hv
  have fin:EP X pins σ Q u s:=⟨v,H,I,r,h⟩
  rcases l with ⟨hk,hm⟩ | ⟨hk,c,hc,hcell⟩
  · exact wpAny_Name (wpAny_loadName_local I.ok.kind hk hn hm fin) hd
  · rcases hk with hk | hk
    · exact wpAny_Name (wpAny_loadName_cell I.ok.kind hk hc hcell fin) hd
    · exact wpAny_Name (wpAny_loadName_free I.ok.kind hk hc hcell fin hcd) hd
theorem pe_int {i j pos}:PE X (.Constant (.int i) j pos) (tC (.int i)):=fun _ _ _ H _ I h=>wpAny_Constant_int ⟨.int i,H,I.tok _,⟨_,rfl⟩,h⟩
theorem pe_bl {b j pos}:PE X (.Constant (.bool b) j pos) (tC (.bl b)):=fun _ _ _ H _ I h=>Constant_bool ⟨.bl b,H,I,rfl,h⟩
theorem pe_non {j pos}:PE X (.Constant .none j pos) (tC .non):=fun _ _ _ H _ I h=>Constant_none ⟨.non,H,I,rfl,h⟩
theorem pe_str {x j pos}:PE X (.Constant (.str x) j pos) (tC (.str x)):=fun _ _ _ H _ I h=>Calls.Constant_str ⟨.str x,H,I.tok _,⟨_,rfl⟩,h⟩
def Gl (X:Cx) (x:Str):Prop:=X.env.kindOf x = some .globalImplicit
theorem ld_glob {E:Value→Shared→Prop} {pins:List (Addr×Obj)} {s:Shared} {σ:St} {H:Hp} {x:Str} {u:Value} {pos:Pos} {Q:Value→Shared→Prop} (I:Inv X pins σ H s) (hg:Gl X x) (hm:X.mg x = some u) (h:Q u s)
    (hd:(x == ("__debug__":Str)) = false:=by decide):wpAny (model X.prog X.w) X.A (eval (.Name x pos) X.env) Q E s:=
  Calls.Name_function_global I.ok.kind hg (Calls.loadGlobal_global (by rw [I.ok.glob]; exact I.mod.glob.keeps I.bk) hm h) hd
theorem ld_blt {E:Value→Shared→Prop} {pins:List (Addr×Obj)} {s:Shared} {σ:St} {H:Hp} {x:Str} {u:Value} {pos:Pos} {Q:Value→Shared→Prop} (I:Inv X pins σ H s) (hg:Gl X x) (hm:X.mg x = none) (hv:bootBuiltins x = some u) (h:Q u s)
    (hn:x≠"__name__":=by decide) (hd:(x == ("__debug__":Str)) = false:=by decide):wpAny (model X.prog X.w) X.A (eval (.Name x pos) X.env) Q E s:=by
  obtain ⟨mb,h1,h2⟩:=I.mod.blt
  exact Calls.Name_function_global I.ok.kind hg (Calls.loadGlobal_builtin (by rw [I.ok.glob]; exact I.mod.glob.keeps I.bk) hm (by rw [I.ok.blt]; exact h1.keeps I.bk) ((h2 x hn).trans hv) h) hd
theorem pe_glob {x:Str} {v:V} {u:Value} {pos:Pos} (hg:Gl X x) (hm:X.mg x = some u) (r:RelV v u) (hd:(x == ("__debug__":Str)) = false:=by decide):PE X (.Name x pos) (tC v):=
  fun _ _ _ H _ I h=>ld_glob I hg hm ⟨v,H,I,r,h⟩ hd
theorem pe_bltn {x:Str} {v:V} {u:Value} {pos:Pos} (hg:Gl X x) (hm:X.mg x = none) (hv:bootBuiltins x = some u) (r:RelV v u) (hn:x≠"__name__":=by decide) (hd:(x == ("__debug__":Str)) = false:=by decide):PE X (.Name x pos) (tC v):=
  fun _ _ _ H _ I h=>ld_blt I hg hm hv ⟨v,H,I,r,h⟩ hn hd
variable {a b:Expr} {ta tb:TE} {pos:Pos}
def PC (X:Cx) (op:CmpOp) (a b:Expr) (t:TE):Prop:=
  ∀ (pins:List (Addr×Obj)) (s:Shared) (σ:St) (H:Hp) (Q:VK),Inv X pins σ H s→t σ H Q→
    wpAny (model X.prog X.w) X.A (eval a X.env) (fun v s₁=>wpAny (model X.prog X.w) X.A (eval b X.env) (fun u s₂=>wpAny (model X.prog X.w) X.A (compareOp op v u) (EP X pins σ Q) X.xe s₂) X.xe s₁) X.xe s
theorem nobehind (b:Expr) {op:CmpOp} (h:op≠.In) (h2:op≠.NotIn):behindInMarks op b = false:=by
  have e1:(op == CmpOp.In) = false:=by cases op <;> first | rfl | exact absurd rfl h
  have e2:(op == CmpOp.NotIn) = false:=by cases op <;> first | rfl | exact absurd rfl h2
  cases b <;> simp [behindInMarks,e1,e2]
def tIsN (ta:TE):TE:=fun σ H Q=>ta σ H fun x H1=>Q (.bl (decide (x = .non))) H1
theorem RelV.none_iff {x:V} {v:Value} (r:RelV x v):(v == Value.none) = decide (x = .non):=by
  cases x with
  | non=>cases r; rfl
  | bl _=>cases r; rfl
  | int _=>obtain ⟨t,rfl⟩:=r; rfl
  | str _=>obtain ⟨t,rfl⟩:=r; rfl
  | byt _=>obtain ⟨t,rfl⟩:=r; rfl
  | flt _=>obtain ⟨t,rfl⟩:=r; rfl
  | ref _=>cases r; rfl
  | ty _=>cases r; rfl
theorem pc_isN {j pos'} (ha:PE X a ta):PC X .Is a (.Constant .none j pos') (tIsN ta):=by
  intro pins s σ H Q I h
  refine thn (ha pins s σ H _ I h) fun v s1 ⟨x,H1,I1,r1,q1⟩=>?_
  exact Constant_none (is_none_gen ⟨.bl _,H1,I1,by rw [r1.none_iff]; rfl,q1⟩)
def tB (t:TE):TT:=fun σ H Q=>t σ H fun x H1=>∃ c,x = .bl c∧Q c H1
theorem pe_cmp {op:CmpOp} {t:TE} (h:PC X op a b t) (h1:behindInMarks op b = false:=by first | exact nobehind _ (by decide) (by decide) | rfl):PE X (.Compare a [op] [b] pos) t:=fun pins s σ H Q I hw=>wpAny_Compare1 (h pins s σ H Q I hw) h1
theorem pt_cmp {op:CmpOp} {t:TE} (h:PC X op a b t) (h1:behindInMarks op b = false:=by first | exact nobehind _ (by decide) (by decide) | rfl):PT X (.Compare a [op] [b] pos) (tB t):=by
  intro pins s σ H Q I hw
  refine wpAny_isTrue_Compare1 (thn (h pins s σ H _ I hw) fun v s1 h1=>thn h1 fun u s2 h2=>thn h2 fun c s3 ⟨x,H1,I1,r1,q1⟩=>?_) h1
  obtain ⟨d,rfl,q⟩:=q1
  cases r1
  exact wpAny_truthy_bool ⟨H1,I1,q⟩
theorem pt_val {e:Expr} {t:TE} (h:PE X e t) (he:∀ whole,isTrue e X.env whole = (do let v ← whole; standAt e.pos; holding [v] (truthy v)):=by intro _; rfl):PT X e (tB t):=by
  intro pins s σ H Q I hw
  refine isTrue_plain (thn (h pins s σ H _ I hw) fun v s1 ⟨x,H1,I1,r1,q1⟩=>?_) (he _)
  obtain ⟨d,rfl,q⟩:=q1
  cases r1
  exact wpAny_truthy_bool ⟨H1,I1,q⟩
variable {tA tB':TT} {rest:List Expr}
def tAnd (t u:TT):TT:=fun σ H Q=>t σ H fun c H1=>if c = true then u σ H1 Q else Q false H1
def tOr (t u:TT):TT:=fun σ H Q=>t σ H fun c H1=>if c = true then Q true H1 else u σ H1 Q
def tNot (t:TT):TT:=fun σ H Q=>t σ H fun c H1=>Q (!c) H1
theorem pw_and1 (ha:PT X a tA):PW X (.BoolOp .And [a] pos) tA:=by
  intro wh pins s σ H Q I h
  refine isTrue_and (thn (ha pins s σ H Q I h) fun c s1 e=>?_)
  cases c with
  | true=>exact isTrue_and_nil e
  | false=>exact e
theorem pw_or1 (ha:PT X a tA):PW X (.BoolOp .Or [a] pos) tA:=by
  intro wh pins s σ H Q I h
  refine isTrue_or (thn (ha pins s σ H Q I h) fun c s1 e=>?_)
  cases c with
  | false=>exact isTrue_or_nil e
  | true=>exact e
theorem pw_and (ha:PT X a tA) (hb:PW X (.BoolOp .And (b :: rest) pos) tB'):PW X (.BoolOp .And (a :: b :: rest) pos) (tAnd tA tB'):=by
  intro wh pins s σ H Q I h
  refine isTrue_and (thn (ha pins s σ H _ I h) fun c s1 ⟨H1,I1,q1⟩=>?_)
  cases c with
  | true=>exact hb wh pins s1 σ H1 Q I1 q1
  | false=>exact ⟨H1,I1,q1⟩
theorem pw_or (ha:PT X a tA) (hb:PW X (.BoolOp .Or (b :: rest) pos) tB'):PW X (.BoolOp .Or (a :: b :: rest) pos) (tOr tA tB'):=by
  intro wh pins s σ H Q I h
  refine isTrue_or (thn (ha pins s σ H _ I h) fun c s1 ⟨H1,I1,q1⟩=>?_)
  cases c with
  | true=>exact ⟨H1,I1,q1⟩
  | false=>exact hb wh pins s1 σ H1 Q I1 q1
theorem pt_not (ha:PT X a tA):PT X (.UnaryOp .Not a pos) (tNot tA):=by
  intro pins s σ H Q I h
  exact isTrue_not (ha pins s σ H (fun c H1=>Q (!c) H1) I h)
def tAndV (ta tb:TE):TE:=fun σ H Q=>ta σ H fun x H1=>∃ c,x = .bl c∧if c = true then tb σ H1 Q else Q (.bl false) H1
def tOrV (ta tb:TE):TE:=fun σ H Q=>ta σ H fun x H1=>∃ c,x = .bl c∧if c = true then Q (.bl true) H1 else tb σ H1 Q
def tNotV (ta:TE):TE:=fun σ H Q=>ta σ H fun x H1=>∃ c,x = .bl c∧Q (.bl (!c)) H1
theorem pe_one {op} {t:TE} (h:PE X a t):PE X (.BoolOp op [a] pos) t:=fun pins s σ H Q I hw=>BoolOp_one (h pins s σ H Q I hw)
theorem pe_and (ha:PE X a ta) (hb:PE X (.BoolOp .And (b :: rest) pos) tb):PE X (.BoolOp .And (a :: b :: rest) pos) (tAndV ta tb):=by
  intro pins s σ H Q I h
  refine BoolOp_and (thn (ha pins s σ H _ I h) fun v s1 ⟨x,H1,I1,r1,q1⟩=>?_)
  obtain ⟨c,rfl,q1⟩:=q1
  cases r1
  refine wpAny_truthy_bool ?_
  cases c with
  | true=>exact hb pins s1 σ H1 Q I1 q1
  | false=>exact ⟨.bl false,H1,I1,rfl,q1⟩
theorem pe_or (ha:PE X a ta) (hb:PE X (.BoolOp .Or (b :: rest) pos) tb):PE X (.BoolOp .Or (a :: b :: rest) pos) (tOrV ta tb):=by
  intro pins s σ H Q I h
  refine BoolOp_or (thn (ha pins s σ H _ I h) fun v s1 ⟨x,H1,I1,r1,q1⟩=>?_)
  obtain ⟨c,rfl,q1⟩:=q1
  cases r1
  refine wpAny_truthy_bool ?_
  cases c with
  | false=>exact hb pins s1 σ H1 Q I1 q1
  | true=>exact ⟨.bl true,H1,I1,rfl,q1⟩
theorem pe_not (ha:PE X a ta):PE X (.UnaryOp .Not a pos) (tNotV ta):=by
  intro pins s σ H Q I h
  refine UnaryOp_ (thn (ha pins s σ H _ I h) fun v s1 ⟨x,H1,I1,r1,q1⟩=>?_)
  obtain ⟨c,rfl,q1⟩:=q1
  cases r1
  exact not_of (wpAny_truthy_bool ⟨.bl (!c),H1,I1,rfl,q1⟩)
end
end L2
namespace L2
open PySem PySem.Spec PyProof.Rows
def SqL (K:PySem.W.Frag) (H:Hp) (a:Addr) (xs:List V):Prop:=
  Rd H a (.lst xs)∨
    ∃ (o:Obj) (its:Array Value) (n:Nat),K.lookup a = some o∧o.cls = .type "list"∧o.dict = none∧o.data = .seq its n∧its.size≤sizeLine∧Vals xs its.toList
def SqT (K:PySem.W.Frag) (H:Hp) (a:Addr) (xs:List V):Prop:=
  Rd H a (.tup xs)∨
    ∃ (o:Obj) (its:Array Value) (n:Nat),K.lookup a = some o∧o.cls = .type "tuple"∧o.data = .seq its n∧its.size≤sizeLine∧Vals xs its.toList
def absV:Value→Option V
  | .none=>some .non
  | .bool b=>some (.bl b)
  | .int i _=>some (.int i)
  | .str x _=>some (.str x)
  | .bytes b _=>some (.byt b)
  | .float b _=>some (.flt b)
  | .ref a=>some (.ref a)
  | .type n=>some (.ty n)
  | _=>none
theorem RelV.abs {x:V} {u:Value} (r:RelV x u):absV u = some x:=by
  cases x with
  | non=>cases r; rfl
  | bl _=>cases r; rfl
  | int _=>obtain ⟨t,rfl⟩:=r; rfl
  | str _=>obtain ⟨t,rfl⟩:=r; rfl
  | byt _=>obtain ⟨t,rfl⟩:=r; rfl
  | flt _=>obtain ⟨t,rfl⟩:=r; rfl
  | ref _=>cases r; rfl
  | ty _=>cases r; rfl
theorem RelV.inj {x y:V} {u:Value} (r:RelV x u) (q:RelV y u):x = y:=Option.some.inj (r.abs.symm.trans q.abs)
theorem Vals.inj:∀ {xs ys:List V} {us:List Value},Vals xs us→Vals ys us→xs = ys
  | _,_,_,.nil,.nil=>rfl
  | _,_,_,.cons r t,.cons r' t'=>by rw [r.inj r',Vals.inj t t']
section
variable {X:Cx} {pins:List (Addr×Obj)} {σ:St} {H:Hp} {s:Shared} {a:Addr} {xs ys:List V}
theorem SqL.of {K:PySem.W.Frag} (h:H a = some (.lst xs)):SqL K H a xs:=.inl (.inl h)
theorem SqT.of {K:PySem.W.Frag} (h:H a = some (.tup xs)):SqT K H a xs:=.inl (.inl h)
theorem Inv.list (I:Inv X pins σ H s) (h:SqL X.K H a xs):∃ its:List Value,Vals xs its∧PlainL s.heap a its.toArray∧xs.length≤sizeLine:=by
  rcases h with h | ⟨o,its,n,hk,hc,hd,hs,hz,r⟩
  · obtain ⟨z,its,n,r,e⟩:=h.ok I.hok
    exact ⟨its,r,⟨_,n,e,rfl,rfl,rfl⟩,z⟩
  · refine ⟨its.toList,r,⟨o,n,I.kIn a o hk,hc,hd,by simpa using hs⟩,?_⟩
    have e:=r.length
    simp only [Array.length_toList] at e
    omega
theorem Inv.tuple (I:Inv X pins σ H s) (h:SqT X.K H a xs):∃ its:List Value,Vals xs its∧IsTup s.heap a its.toArray∧xs.length≤sizeLine:=by
  rcases h with h | ⟨o,its,n,hk,hc,hs,hz,r⟩
  · obtain ⟨z,its,r,p⟩:=h.ok I.hok
    exact ⟨its,r,p,z⟩
  · refine ⟨its.toList,r,⟨o,I.kIn a o hk,hc,n,by simpa using hs⟩,?_⟩
    have e:=r.length
    simp only [Array.length_toList] at e
    omega
theorem Inv.list_inj (I:Inv X pins σ H s) (h:SqL X.K H a xs) (h':SqL X.K H a ys):xs = ys:=by
  obtain ⟨its,r,⟨o,n,e,_,_,d⟩,_⟩:=I.list h
  obtain ⟨its',r',⟨o',n',e',_,_,d'⟩,_⟩:=I.list h'
  rw [e] at e'; cases e'
  rw [d] at d'
  injection d' with d1 _
  have:its = its':=by simpa using congrArg Array.toList d1
  subst this
  exact r.inj r'
theorem Inv.tuple_inj (I:Inv X pins σ H s) (h:SqT X.K H a xs) (h':SqT X.K H a ys):xs = ys:=by
  obtain ⟨its,r,⟨o,e,_,n,d⟩,_⟩:=I.tuple h
  obtain ⟨its',r',⟨o',e',_,n',d'⟩,_⟩:=I.tuple h'
  rw [e] at e'; cases e'
  rw [d] at d'
  injection d' with d1 _
  have:its = its':=by simpa using congrArg Array.toList d1
  subst this
  exact r.inj r'
end
abbrev Cx.wish (X:Cx) (E:Value→Shared→Prop):Cx:={ X with xe:=E }
abbrev Cx.nox (X:Cx):Cx:=X.wish fun _ _=>False
theorem Cx.Ok.wish {X:Cx} (ok:X.Ok) (E:Value→Shared→Prop):(X.wish E).Ok:=
  ⟨ok.mod,ok.kind,ok.glob,ok.blt,ok.above,ok.inj,ok.has,ok.cab,ok.hd,ok.frames,ok.stk,ok.exf,ok.bs,ok.bsz,ok.noex,ok.exfs,ok.funs,ok.frf⟩
theorem Cx.Ok.unwish {X:Cx} {E:Value→Shared→Prop} (ok:(X.wish E).Ok):X.Ok:=
  ⟨ok.mod,ok.kind,ok.glob,ok.blt,ok.above,ok.inj,ok.has,ok.cab,ok.hd,ok.frames,ok.stk,ok.exf,ok.bs,ok.bsz,ok.noex,ok.exfs,ok.funs,ok.frf⟩
section
variable {X:Cx} {pins:List (Addr×Obj)} {σ:St} {H:Hp} {s:Shared} {E:Value→Shared→Prop}
theorem Inv.wish (I:Inv X pins σ H s) (E:Value→Shared→Prop):Inv (X.wish E) pins σ H s:=⟨I.ok.wish E,I.os,I.bare,I.base,I.loc,I.cell,I.free,I.freeC,I.pin,I.hok,I.len⟩
theorem Inv.unwish (I:Inv (X.wish E) pins σ H s):Inv X pins σ H s:=⟨I.ok.unwish,I.os,I.bare,I.base,I.loc,I.cell,I.free,I.freeC,I.pin,I.hok,I.len⟩
theorem SP.unwish {D:Ends} {f:Flow} {s':Shared} (h:SP (X.wish E) pins D f s'):SP X pins D f s':=by
  cases f with
  | next=>obtain ⟨σ',H',I,q⟩:=h; exact ⟨σ',H',I.unwish,q⟩
  | brk=>obtain ⟨σ',H',I,q⟩:=h; exact ⟨σ',H',I.unwish,q⟩
  | cont=>obtain ⟨σ',H',I,q⟩:=h; exact ⟨σ',H',I.unwish,q⟩
  | ret u=>obtain ⟨v,σ',H',I,r,q⟩:=h; exact ⟨v,σ',H',I.unwish,r,q⟩
theorem PE.nox {e:Expr} {t:TE} (h:PE X.nox e t):PE X e t:=fun pins s σ H Q I hw=>
  wpAny_mono (h pins s σ H Q (I.wish _) hw) (fun _ _ ⟨v,H',I',r,q⟩=>⟨v,H',I'.unwish,r,q⟩) fun _ _ z=>False.elim z
theorem PT.nox {e:Expr} {t:TT} (h:PT X.nox e t):PT X e t:=fun pins s σ H Q I hw=>
  wpAny_mono (h pins s σ H Q (I.wish _) hw) (fun _ _ ⟨H',I',q⟩=>⟨H',I'.unwish,q⟩) fun _ _ z=>False.elim z
theorem PSs.nox {st:List Stmt} {t:TS} (h:PSs X.nox st t):PSs X st t:=fun pins s σ H D I hw=>
  wpAny_mono (h pins s σ H D (I.wish _) hw) (fun _ _ q=>q.unwish) fun _ _ z=>False.elim z
end
section
variable {X:Cx} {st:Stmt} {rest:List Stmt} {t u:TS} {e:Expr} {te:TE} {pos:Pos}
def tNext:TS:=fun D σ H=>D.nx σ H
def tSeq (t u:TS):TS:=fun D σ H=>t { D with nx:=u D } σ H
theorem pss_nil:PSs X [] tNext:=fun _ _ σ H _ I h=>wpAny_execs_nil ⟨σ,H,I,h⟩
theorem pss_cons (h1:PS X st t) (h2:PSs X rest u):PSs X (st :: rest) (tSeq t u):=by
  intro pins s σ H D I h
  refine wpAny_execs_cons (thn (h1 pins s σ H { D with nx:=u D } I h) fun f s1 q=>?_)
  cases f with
  | next=>
    obtain ⟨σ',H',I',q⟩:=q
    exact h2 pins s1 σ' H' D I' q
  | ret v=>exact q
  | brk=>exact q
  | cont=>exact q
theorem pss_one (h1:PS X st t):PSs X [st] t:=by
  intro pins s σ H D I h
  refine wpAny_execs_cons (thn (h1 pins s σ H D I h) fun f s1 q=>?_)
  cases f with
  | next=>exact wpAny_execs_nil q
  | ret v=>exact q
  | brk=>exact q
  | cont=>exact q
theorem Inv.quiet {pins:List (Addr×Obj)} {σ:St} {H:Hp} {s:Shared} (I:Inv X pins σ H s):interactive X.env = false:=by simp [interactive,I.ok.kind]
def tDrop (te:TE):TS:=fun D σ H=>te σ H fun _ H1=>D.nx σ H1
theorem ps_expr (he:PE X e te) (hs:swapsWith e none pos.line X.env = pure false:=by rfl):PS X (.Expr e pos) (tDrop te):=by
  intro pins s σ H D I h
  exact wpAny_Expr_any (thn (he pins s σ H _ I h) fun v s1 ⟨x,H1,I1,r1,q1⟩=>⟨σ,H1,I1,q1⟩) I.quiet hs
def tRet (te:TE):TS:=fun D σ H=>te σ H D.rt
theorem ps_ret (he:PE X e te):PS X (.Return (some e) pos) (tRet te):=by
  intro pins s σ H D I h
  exact wpAny_Return_some (thn (he pins s σ H _ I h) fun v s1 ⟨x,H1,I1,r1,q1⟩=>⟨x,σ,H1,I1,r1,q1⟩)
def tIfS (c:TT) (t u:TS):TS:=fun D σ H=>c σ H fun b H1=>if b = true then t D σ H1 else u D σ H1
theorem ps_if {c:Expr} {a b:List Stmt} {tc:TT} (hc:PT X c tc) (ha:PSs X a t) (hb:PSs X b u):PS X (.If c a b pos) (tIfS tc t u):=by
  intro pins s σ H D I h
  refine wpAny_If (thn (hc pins s σ H _ I h) fun d s1 ⟨H1,I1,q1⟩=>?_)
  cases d with
  | true=>exact ha pins s1 σ H1 D I1 q1
  | false=>exact hb pins s1 σ H1 D I1 q1
def tNever:TS:=fun _ _ _=>False
theorem ps_never:PS X st tNever:=fun _ _ _ _ _ _ h=>h.elim
end
abbrev TG:=V→St→Hp→(St→Hp→Prop)→Prop
abbrev TGs:=List V→St→Hp→(St→Hp→Prop)→Prop
def PG (X:Cx) (target:Expr) (t:TG):Prop:=
  ∀ (pins:List (Addr×Obj)) (s:Shared) (σ:St) (H:Hp) (v:V) (u:Value) (Q:St→Hp→Prop),Inv X pins σ H s→RelV v u→t v σ H Q→
    wpAny (model X.prog X.w) X.A (assign target X.env u) (fun _ s'=>∃ σ' H',Inv X pins σ' H' s'∧Q σ' H') X.xe s
def PGs (X:Cx) (ts:List Expr) (t:TGs):Prop:=
  ∀ (pins:List (Addr×Obj)) (s:Shared) (σ:St) (H:Hp) (vs:List V) (us:List Value) (Q:St→Hp→Prop),Inv X pins σ H s→Vals vs us→t vs σ H Q→
    wpAny (model X.prog X.w) X.A (assignInOrder ((assignEach ts X.env).map (·.2)) us) (fun _ s'=>∃ σ' H',Inv X pins σ' H' s'∧Q σ' H') X.xe s
section
variable {X:Cx} {pos:Pos}
def gName (i:Nat):TG:=fun v σ H Q=>Q (σ.set i (some v)) H
theorem pg_name {i:Nat} {x:Str} (hN:X.N.Nodup) (hi:X.N[i]? = some x) (hx:Loc X.env.scope x) (hf:X.fn x = true∨X.env.scope.names.lookup x = some .local:=by first | exact .inl rfl | exact .inr rfl | assumption):PG X (.Name x pos) (gName i):=by
  intro pins s σ H v u Q I r h
  exact wpAny_assign_Name (store_ok I hN hi hx r (fun s' I'=>⟨_,H,I',h⟩) hf)
def gNil:TGs:=fun vs σ H Q=>vs = []∧Q σ H
def gCons (t:TG) (u:TGs):TGs:=fun vs σ H Q=>∃ v r,vs = v :: r∧t v σ H fun σ' H'=>u r σ' H' Q
theorem pgs_nil:PGs X [] gNil:=by
  intro pins s σ H vs us Q I r h
  obtain ⟨e,h⟩:=h
  subst e
  cases r
  exact assignInOrder_nil ⟨σ,H,I,h⟩
theorem pgs_cons {e:Expr} {es:List Expr} {t:TG} {u:TGs} (h1:PG X e t) (h2:PGs X es u)
    (hs:(assignEach (e :: es) X.env).map (·.2) = assign e X.env :: (assignEach es X.env).map (·.2):=by rfl):PGs X (e :: es) (gCons t u):=by
  intro pins s σ H vs us Q I r h
  obtain ⟨v,vr,e1,h⟩:=h
  subst e1
  cases r with
  | cons r rr=>
    rw [hs]
    refine assignInOrder_cons (thn (h1 pins s σ H _ _ _ I r h) fun _ s1 ⟨σ1,H1,I1,q1⟩=>?_)
    exact h2 pins s1 σ1 H1 _ _ Q I1 rr q1
def gTup (K:PySem.W.Frag) (n:Nat) (t:TGs):TG:=fun v σ H Q=>∃ a xs,v = .ref a∧SqT K H a xs∧xs.length = n∧t xs σ H Q
theorem pg_tup {es:List Expr} {k:Nat} {t:TGs} {n:Nat} (hc:X.calm = true) (h:PGs X es t)
    (hn:(assignEach es X.env).length = n:=by rfl) (hst:(assignEach es X.env).findIdx? (·.1) = none:=by rfl):PG X (.Tuple es k pos) (gTup X.K n t):=by
  intro pins s σ H v u Q I r hw
  obtain ⟨a,xs,e1,hq,hl,hw⟩:=hw
  subst e1
  cases r
  obtain ⟨its,rv,ht,hz⟩:=I.tuple hq
  refine assign_Tuple_tuple (I.ok.hd hc) ht (by simp [hn,← hl,rv.length]) hst fun h' hx=>?_
  have I1:Inv X pins σ H { s with heap:=h' }:=I.kept (t':=s.toks) fun b o e=>hx b o (Nat.ne_of_lt (Heap.lt_size e)) e
  exact h pins _ σ H xs _ Q I1 (by simpa using rv) hw
def tAsg (te:TE) (g:TG):TS:=fun D σ H=>te σ H fun x H1=>g x σ H1 D.nx
theorem ps_set {i:Nat} {x:Str} {e:Expr} {te:TE} {pos':Pos} (hN:X.N.Nodup) (hi:X.N[i]? = some x) (hx:Loc X.env.scope x) (he:PE X e te) (hs:swapsWith e (some (.Name x pos')) pos.line X.env = pure false:=by rfl) (hf:X.fn x = true∨X.env.scope.names.lookup x = some .local:=by first | exact .inl rfl | exact .inr rfl | assumption) :
    PS X (.Assign [.Name x pos'] e pos) (tAsg te (gName i)):=by
  intro pins s σ H D I h
  refine wpAny_Assign_Name (thn (he pins s σ H _ I h) fun v s1 ⟨y,H1,I1,r1,q1⟩=>?_) hs
  exact store_ok I1 hN hi hx r1 (fun s2 I2=>⟨_,H1,I2,q1⟩) hf
end
section
variable {X:Cx} {pos:Pos}
end
structure It where
  go:Nat→Hp→Prop
  yld:Nat→Hp→V→Hp→Prop
  stop:Nat→Hp→Prop
def FpOk (X:Cx) (pins:List (Addr×Obj)) (H:Hp) (b:Addr):Prop:=
  H b = none∧b≠X.env.locals∧b ∉ X.fs∧(b∈X.ex∨X.s₀.heap.objs.size≤b)∧(∀ x c,X.env.cells.lookup x = some c→c≠b)∧∀ p∈X.pn ++ pins,p.1≠b
theorem Inv.fpOk {X:Cx} {pins:List (Addr×Obj)} {σ:St} {H H':Hp} {s:Shared} {b:Addr} (I:Inv X pins σ H s) (hb:s.heap.objs.size≤b) (hn:H' b = none):FpOk X pins H' b:=by
  refine ⟨hn,Nat.ne_of_gt (Nat.lt_of_lt_of_le I.lt hb),I.nofs hb,.inr (Nat.le_trans I.sz hb),fun x c e z=>?_,fun p hp z=>?_⟩
  · obtain ⟨v,q⟩:=I.cell x c e
    exact absurd (Nat.lt_of_lt_of_le q.lt (by rw [z]; exact hb)) (Nat.lt_irrefl _)
  · exact absurd (Nat.lt_of_lt_of_le (Heap.lt_size (I.pin p hp).1) (by rw [z]; exact hb)) (Nat.lt_irrefl _)
structure Turn (P:Program) (w:World) (K:PySem.W.Frag) (tg:Expr) (J:It) (fp:List Addr) (it:Addr) (tn:Nat→Heap→Prop):Prop where
  mem:it∈fp
  obj:∀ i h,tn i h→∀ b∈fp,∃ o,h.get? b = some o∧∀ v,o.data≠.cell v
  keep:∀ i h h',tn i h→(∀ b∈fp,∀ o,h.get? b = some o→h'.get? b = some o)→tn i h'
  item:∀ (X:Cx),X.prog = P→X.w = w→X.K = K→X.calm = true→∀ (i:Nat) (pins:List (Addr×Obj)) (s:Shared) (σ:St) (H:Hp) (E:Value→Shared→Prop),Inv X pins σ H s→(∀ b∈fp,FpOk X pins H b)→tn i s.heap→J.go i H→
    wpAny (model P w) X.A (pyNext (.ref it)) (fun r s1=>∃ u,r = some u∧
      wpAny (model P w) X.A (letOwnedTupleGo tg (.ref it) u) (fun _ s2=>∃ x H',Inv X pins σ H' s2∧RelV x u∧J.yld i H x H'∧tn (i + 1) s2.heap∧∀ b∈fp,H' b = none) E s1) E s
  done:∀ (X:Cx),X.prog = P→X.w = w→X.K = K→X.calm = true→∀ (i:Nat) (pins:List (Addr×Obj)) (s:Shared) (σ:St) (H:Hp) (E:Value→Shared→Prop),Inv X pins σ H s→(∀ b∈fp,FpOk X pins H b)→tn i s.heap→J.stop i H→
    wpAny (model P w) X.A (pyNext (.ref it)) (fun r s1=>r = none∧Inv X pins σ H s1) E s
  self:∀ (A:Around) (i:Nat) (s:Shared) (Q:Value→Shared→Prop) (E:Value→Shared→Prop),tn i s.heap→Q (.ref it) s→wpAny (model P w) A (pyIter (.ref it)) Q E s
abbrev TI:=St→Hp→(It→Hp→Prop)→Prop
def PIE (X:Cx) (pins:List (Addr×Obj)) (σ:St) (tg:Expr) (R:It→Hp→Prop) (itv:Value) (s2:Shared):Prop:=
  ∃ (it:Addr) (fp:List Addr) (tn:Nat→Heap→Prop) (J:It) (H':Hp),itv = .ref it∧Inv X pins σ H' s2∧Turn X.prog X.w X.K tg J fp it tn∧tn 0 s2.heap∧(∀ b∈fp,FpOk X pins H' b)∧R J H'
def PI (X:Cx) (tg iter:Expr) (wi:TI):Prop:=
  ∀ (pins:List (Addr×Obj)) (s:Shared) (σ:St) (H:Hp) (R:It→Hp→Prop),Inv X pins σ H s→wi σ H R→
    wpAny (model X.prog X.w) X.A (eval iter X.env) (fun v s1=>wpAny (model X.prog X.w) X.A (pyIter v) (PIE X pins σ tg R) X.xe s1) X.xe s
theorem go_of {M:Model} {A:Around} {E:Value→Shared→Prop} {s:Shared} {tg:Expr} {it:Addr} {u:Value} {o:Obj} {n:String} {vs:Array Value} {Q:Unit→Shared→Prop} (ho:s.heap.get? it = some o) (hc:o.cls = .type n) (hd:o.data = .fields vs)
    (hn:["enumerate","zip","dict_itemiterator","dict_reverseitemiterator","odict_iterator","itertools.zip_longest","itertools.pairwise"].contains n = false) (hQ:Q () s):wpAny M A (letOwnedTupleGo tg (.ref it) u) Q E s:=by
  unfold letOwnedTupleGo
  cases tg <;> first
    | exact wpAny_pure hQ
    | (cases u <;> first
        | exact wpAny_pure hQ
        | (refine wpAny_bind (wpAny_load ho ?_)
           rw [hc,hd]
           show wpAny M A (if (["enumerate","zip","dict_itemiterator","dict_reverseitemiterator","odict_iterator","itertools.zip_longest","itertools.pairwise"].contains n && vs[0]? == some (rawInt _)) = true then _ else _) Q E s
           rw [if_neg (by intro h; rw [hn,Bool.false_and] at h; cases h)]
           exact wpAny_pure hQ))
def Itl (K:PySem.W.Frag) (a:Addr):It:=
  ⟨fun i H=>∃ xs x,SqL K H a xs∧xs[i]? = some x,fun i H x H'=>H' = H∧∀ xs,SqL K H a xs→xs[i]? = some x,fun i H=>∃ xs,SqL K H a xs∧xs.length≤i⟩
def Itt (K:PySem.W.Frag) (a:Addr):It:=
  ⟨fun i H=>∃ xs x,SqT K H a xs∧xs[i]? = some x,fun i H x H'=>H' = H∧∀ xs,SqT K H a xs→xs[i]? = some x,fun i H=>∃ xs,SqT K H a xs∧xs.length≤i⟩
def Itr (lo:Int) (n:Nat):It:=⟨fun i _=>i < n,fun i H x H'=>H' = H∧x = .int (lo + i),fun i _=>n≤i⟩
theorem turn_list {P:Program} {w:World} {K:PySem.W.Frag} {tg:Expr} (a it:Addr):Turn P w K tg (Itl K a) [it] it (fun i h=>h.IsListIter it a i) where
  mem:=by simp
  obj:=fun i h st b hb=>by
    have e:b = it:=by simpa using hb
    subst e
    obtain ⟨o,e,c,d⟩:=st
    exact ⟨o,e,fun v z=>by rw [d] at z; cases z⟩
  keep:=fun i h h' st k=>st.at fun o e=>k it (by simp) o e
  item:=by
    intro X hP hw hK hc i pins s σ H E I hf st hg
    subst hP hw hK
    obtain ⟨xs,x,hq,hx⟩:=hg
    obtain ⟨its,rv,p,hz⟩:=I.list hq
    obtain ⟨u,hu,ru⟩:=rv.get hx
    obtain ⟨f0,f1,f2,f3,f4,f5⟩:=hf it (by simp)
    refine wpAny_pyNext_list_item st p.isList (x:=u) (by simpa using hu) fun h' st' sb=>?_
    have I1:Inv X pins σ H { s with heap:=h' }:=I.turned (t':=s.toks) (fun b o hb e=>(sb.2 b hb).trans e) f0 f1 f3 f4 f5
    obtain ⟨o,e,c,d⟩:=id st'
    exact ⟨u,rfl,go_of (s:={ s with heap:=h' }) e c d (by decide) ⟨x,H,I1,ru,⟨rfl,fun ys hy=>by rw [I.list_inj hy hq]; exact hx⟩,st',fun b hb=>(hf b hb).1⟩⟩
  done:=by
    intro X hP hw hK hc i pins s σ H E I hf st hg
    subst hP hw hK
    obtain ⟨xs,hq,hx⟩:=hg
    obtain ⟨its,rv,p,hz⟩:=I.list hq
    obtain ⟨f0,f1,f2,f3,f4,f5⟩:=hf it (by simp)
    have hl:=rv.length
    exact wpAny_pyNext_list_end (I.ok.hd hc) st p.isList (by simp; omega) fun h' eb=>⟨rfl,I.turned (t':=s.toks) (fun b o hb e=>eb b o hb e) f0 f1 f3 f4 f5⟩
  self:=fun _ _ _ _ _ st h=>wpAny_pyIter_listiter st h
theorem turn_tuple {P:Program} {w:World} {K:PySem.W.Frag} {tg:Expr} (a it:Addr):Turn P w K tg (Itt K a) [it] it (fun i h=>h.IsTupleIter it a i) where
  mem:=by simp
  obj:=fun i h st b hb=>by
    have e:b = it:=by simpa using hb
    subst e
    obtain ⟨o,e,c,d⟩:=st
    exact ⟨o,e,fun v z=>by rw [d] at z; cases z⟩
  keep:=fun i h h' st k=>st.at fun o e=>k it (by simp) o e
  item:=by
    intro X hP hw hK hc i pins s σ H E I hf st hg
    subst hP hw hK
    obtain ⟨xs,x,hq,hx⟩:=hg
    obtain ⟨its,rv,p,hz⟩:=I.tuple hq
    obtain ⟨u,hu,ru⟩:=rv.get hx
    obtain ⟨f0,f1,f2,f3,f4,f5⟩:=hf it (by simp)
    refine wpAny_pyNext_tuple_item st (show s.heap.IsTuple a its.toArray from p) (x:=u) (by simpa using hu) fun h' st' sb=>?_
    have I1:Inv X pins σ H { s with heap:=h' }:=I.turned (t':=s.toks) (fun b o hb e=>(sb.2 b hb).trans e) f0 f1 f3 f4 f5
    obtain ⟨o,e,c,d⟩:=id st'
    exact ⟨u,rfl,go_of (s:={ s with heap:=h' }) e c d (by decide) ⟨x,H,I1,ru,⟨rfl,fun ys hy=>by rw [I.tuple_inj hy hq]; exact hx⟩,st',fun b hb=>(hf b hb).1⟩⟩
  done:=by
    intro X hP hw hK hc i pins s σ H E I hf st hg
    subst hP hw hK
    obtain ⟨xs,hq,hx⟩:=hg
    obtain ⟨its,rv,p,hz⟩:=I.tuple hq
    obtain ⟨f0,f1,f2,f3,f4,f5⟩:=hf it (by simp)
    have hl:=rv.length
    exact wpAny_pyNext_tuple_end (I.ok.hd hc) st (show s.heap.IsTuple a its.toArray from p) (by simp; omega) fun h' eb=>⟨rfl,I.turned (t':=s.toks) (fun b o hb e=>eb b o hb e) f0 f1 f3 f4 f5⟩
  self:=fun _ _ _ _ _ st h=>wpAny_pyIter_tupleiter st h
theorem turn_range {P:Program} {w:World} {K:PySem.W.Frag} {tg:Expr} (it:Addr) (lo:Int) (n:Nat):Turn P w K tg (Itr lo n) [it] it (fun i h=>IsRangeIter h it (lo + (i:Nat) * 1) ((n:Int) - (i:Nat)) 1) where
  mem:=by simp
  obj:=fun i h st b hb=>by
    have e:b = it:=by simpa using hb
    subst e
    exact ⟨_,st,fun v z=>by
      have z':Data.fields _ = Data.cell v:=z
      cases z'⟩
  keep:=fun i h h' st k=>k it (by simp) _ st
  item:=by
    intro X hP hw hK hc i pins s σ H E I hf st hg
    subst hP hw hK
    obtain ⟨f0,f1,f2,f3,f4,f5⟩:=hf it (by simp)
    have W:=Walks.range (prog:=X.prog) (w:=X.w) (I.ok.hd hc) it lo 1 n
    refine W.item i s _ _ hg st fun v h' tk hv st' kk=>?_
    obtain ⟨t,rfl⟩:=hv
    have I1:Inv X pins σ H { s with heap:=h',toks:=tk }:=I.turned (fun b o hb e=>kk b o (by simpa using hb) e) f0 f1 f3 f4 f5
    refine ⟨_,rfl,go_of (s:={ s with heap:=h',toks:=tk }) (n:="range_iterator") st' rfl rfl (by decide) ⟨.int (lo + i),H,I1,⟨t,?_⟩,⟨rfl,rfl⟩,st',fun b hb=>(hf b hb).1⟩⟩
    rw [Int.mul_one]
  done:=by
    intro X hP hw hK hc i pins s σ H E I hf st hg
    subst hP hw hK
    obtain ⟨f0,f1,f2,f3,f4,f5⟩:=hf it (by simp)
    exact wpAny_pyNext_range_end (I.ok.hd hc) st (by have:n≤i:=hg; omega) fun h' eb=>⟨rfl,I.turned (t':=s.toks) (fun b o hb e=>eb b o hb e) f0 f1 f3 f4 f5⟩
  self:=fun _ _ _ _ _ st h=>wpAny_pyIter_rangeiter st h
end L2
namespace L2
open PySem PySem.Spec PyProof.Rows
section
variable {X:Cx} {tg:Expr}
def iList (K:PySem.W.Frag) (tl:TE):TI:=fun σ H R=>tl σ H fun x H1=>∃ a,x = .ref a∧(∃ xs,SqL K H1 a xs)∧R (Itl K a) H1
def iTup (K:PySem.W.Frag) (tl:TE):TI:=fun σ H R=>tl σ H fun x H1=>∃ a,x = .ref a∧(∃ xs,SqT K H1 a xs)∧R (Itt K a) H1
theorem pi_list {l:Expr} {tl:TE} (hl:PE X l tl):PI X tg l (iList X.K tl):=by
  intro pins s σ H R I h
  refine thn (hl pins s σ H _ I h) fun v s1 ⟨x,H1,I1,r1,q1⟩=>?_
  obtain ⟨a,e,⟨xs,hq⟩,q⟩:=q1
  subst e
  cases r1
  obtain ⟨its,rv,p,hz⟩:=I1.list hq
  refine wpAny_pyIter_list p.isList ?_
  refine ⟨s1.heap.objs.size,[s1.heap.objs.size],_,_,H1,rfl,I1.kept (t':=s1.toks) fun b o e=>Heap.get?_push_of_some _ e,turn_list a _,⟨_,Heap.get?_push_size _ rfl,rfl,rfl⟩,fun b hb=>?_,q⟩
  have e:b = s1.heap.objs.size:=by simpa using hb
  subst e
  exact I1.fpOk (Nat.le_refl _) (I1.hok.fresh (Nat.le_refl _))
theorem pi_tup {l:Expr} {tl:TE} (hl:PE X l tl):PI X tg l (iTup X.K tl):=by
  intro pins s σ H R I h
  refine thn (hl pins s σ H _ I h) fun v s1 ⟨x,H1,I1,r1,q1⟩=>?_
  obtain ⟨a,e,⟨xs,hq⟩,q⟩:=q1
  subst e
  cases r1
  obtain ⟨its,rv,p,hz⟩:=I1.tuple hq
  refine wpAny_pyIter_tuple (show s1.heap.IsTuple a its.toArray from p) ?_
  refine ⟨s1.heap.objs.size,[s1.heap.objs.size],_,_,H1,rfl,I1.kept (t':=s1.toks) fun b o e=>Heap.get?_push_of_some _ e,turn_tuple a _,⟨_,Heap.get?_push_size _ rfl,rfl,rfl⟩,fun b hb=>?_,q⟩
  have e:b = s1.heap.objs.size:=by simpa using hb
  subst e
  exact I1.fpOk (Nat.le_refl _) (I1.hok.fresh (Nat.le_refl _))
theorem range_it {pins:List (Addr×Obj)} {σ:St} {H:Hp} {s:Shared} {R:It→Hp→Prop} {E:Value→Shared→Prop} {lo hi:Int} {t u v:Tok} {tk:Nat} (I:Inv X pins σ H s) (h1:-(2 ^ 62)≤lo) (h2:lo < 2 ^ 62) (h3:-(2 ^ 62)≤hi) (h4:hi < 2 ^ 62)
    (q:R (Itr lo (hi - lo).toNat) H):wpAny (model X.prog X.w) X.A (pyIter (.ref s.heap.objs.size)) (PIE X pins σ tg R) E { s with heap:=s.heap.push { cls:=.type "range",data:=.fields #[.int lo t,.int hi u,.int 1 v] },toks:=tk }:=by
  refine wpAny_pyIter_range (IsRange.new ..) (small_one h1 h2 h3 h4) ?_
  have I1:Inv X pins σ H { s with heap:=s.heap.push { cls:=.type "range",data:=.fields #[.int lo t,.int hi u,.int 1 v] },toks:=tk }:=I.kept fun b o e=>Heap.get?_push_of_some _ e
  refine ⟨(s.heap.push { cls:=.type "range",data:=.fields #[.int lo t,.int hi u,.int 1 v] }).objs.size,[(s.heap.push { cls:=.type "range",data:=.fields #[.int lo t,.int hi u,.int 1 v] }).objs.size],_,_,H,rfl,
    I1.kept (t':=tk) fun b o e=>Heap.get?_push_of_some _ e,turn_range _ lo (hi - lo).toNat,?_,fun b hb=>?_,q⟩
  · have e1:lo + ((0:Nat):Int) * 1 = lo:=by simp
    have e2:(((hi - lo).toNat:Nat):Int) - ((0:Nat):Int) = Builtin.Range.rangeSize lo hi 1:=by rw [rangeSize_one]; split <;> omega
    show IsRangeIter _ _ (lo + ((0:Nat):Int) * 1) ((((hi - lo).toNat:Nat):Int) - ((0:Nat):Int)) 1
    rw [e1,e2]
    exact Heap.get?_push_size _ rfl
  · have e:b = (s.heap.push { cls:=.type "range",data:=.fields #[.int lo t,.int hi u,.int 1 v] }).objs.size:=by simpa using hb
    subst e
    exact I1.fpOk (Nat.le_refl _) (I1.hok.fresh (Nat.le_refl _))
def iRng1 (ta:TA):TI:=fun σ H R=>ta σ H fun vs H1=>∃ j:Int,vs = [.int j]∧-(2 ^ 62)≤j∧j < 2 ^ 62∧R (Itr 0 j.toNat) H1
theorem pi_range1 {a:Expr} {ta:TA} {p pos:Pos} (hg:Gl X "range") (hm:X.mg "range" = none) (ha:PA X [a] ta) (hs:starEach [a] X.env = [(false,eval a X.env)]:=by rfl):PI X tg (.Call (.Name "range" p) [a] [] pos) (iRng1 ta):=by
  intro pins s σ H R I h
  refine Call_ (ld_blt I hg hm boot_range (PyProof.Rows.callWith_type1 (thn (ha pos pins s σ H _ I h) fun us s1 ⟨vs,H1,I1,r1,q1⟩=>?_) hs rfl))
  obtain ⟨j,e,q1,q2,q⟩:=q1
  subst e
  cases r1 with
  | cons r rr=>
    cases rr
    obtain ⟨t,rfl⟩:=r
    exact call_range_1 (range_it I1 (by omega) (by omega) q1 q2 (by simpa using q))
def tFor (wi:TI) (g:TG) (tb:TS):TS:=fun D σ H=>wi σ H fun J H1=>∃ W:Nat→Nat→St→Hp→Prop,(∃ m,W 0 m σ H1)∧∀ i m σ H,W i m σ H→
  (J.stop i H∧D.nx σ H)∨(J.go i H∧∃ N:St→Hp→Prop,(∀ σ' H',N σ' H'→∃ m',m' < m∧W (i + 1) m' σ' H')∧∀ x H',J.yld i H x H'→g x σ H' fun σ2 H2=>tb { D with nx:=N,ct:=N,bk:=D.nx } σ2 H2)
def pinsAt (fp:List Addr) (h:Heap):List (Addr×Obj):=fp.filterMap fun b=>(h.get? b).map fun o=>(b,o)
theorem mem_pinsAt {fp:List Addr} {h:Heap} {b:Addr} {o:Obj} (hb:b∈fp) (e:h.get? b = some o):(b,o)∈pinsAt fp h:=List.mem_filterMap.mpr ⟨b,hb,by rw [e]; rfl⟩
theorem of_pinsAt {fp:List Addr} {h:Heap} {p:Addr×Obj} (hp:p∈pinsAt fp h):p.1∈fp∧h.get? p.1 = some p.2:=by
  obtain ⟨b,hb,e⟩:=List.mem_filterMap.mp hp
  cases q:h.get? b with
  | none=>rw [q] at e; cases e
  | some o=>
    rw [q] at e
    have e':(b,o) = p:=Option.some.inj e
    subst e'
    exact ⟨hb,q⟩
theorem Inv.pinned {pins:List (Addr×Obj)} {σ:St} {H:Hp} {s:Shared} {fp:List Addr} (I:Inv X pins σ H s) (hf:∀ b∈fp,FpOk X pins H b) (ho:∀ b∈fp,∃ o,s.heap.get? b = some o∧∀ v,o.data≠.cell v):Inv X (pins ++ pinsAt fp s.heap) σ H s:=
  I.pins_of fun p hp=>(List.mem_append.mp hp).elim (fun z=>I.pin p (List.mem_append_right _ z)) fun z=>by
    obtain ⟨hb,e⟩:=of_pinsAt z
    obtain ⟨f0,f1,f2,_⟩:=hf p.1 hb
    obtain ⟨o,e',d⟩:=ho p.1 hb
    rw [e] at e'; cases e'
    exact ⟨e,f0,f1,f2,d⟩
theorem Inv.unpinned {pins pl:List (Addr×Obj)} {σ:St} {H:Hp} {s:Shared} (I:Inv X (pins ++ pl) σ H s):Inv X pins σ H s:=I.pins_of fun p hp=>I.pin p (List.mem_append_right _ (List.mem_append_left _ hp))
theorem ps_for {iter:Expr} {body:List Stmt} {wi:TI} {g:TG} {tb:TS} {pos:Pos} (hp:PassesOwn (model X.prog X.w) X.A X.env X.xe) (hc:X.calm = true) (hi:PI X tg iter wi) (hg:PG X tg g) (hb:PSs X body tb)
    (hs:∀ x,foldedSetIterable iter X.env x = pure x:=by intro _; rfl):PS X (.For tg iter body [] pos) (tFor wi g tb):=by
  intro pins s σ H D I h
  refine wpAny_For (thn (hi pins s σ H _ I h) fun v s1 h1=>thn h1 fun itv s2 h2=>?_) hs
  obtain ⟨it,fp,tn,J,H2,e,I2,T,st2,f2,W,⟨m0,w0⟩,turn⟩:=h2
  subst e
  have stat:∀ {H':Hp},(∀ b∈fp,H' b = none)→∀ b∈fp,FpOk X pins H' b:=fun hn b hb=>⟨hn b hb,(f2 b hb).2⟩
  refine codeAny_forLoop_any (fun n s'=>∃ i σ' H',Inv X pins σ' H' s'∧tn i s'.heap∧(∀ b∈fp,H' b = none)∧W i n σ' H') ?_ m0 ⟨0,σ,H2,I2,st2,fun b hb=>(f2 b hb).1,w0⟩
  rintro n s3 ⟨i,σ3,H3,I3,st3,fr3,w3⟩
  rcases turn i n σ3 H3 w3 with ⟨stop,qn⟩ | ⟨go,N,hN,step⟩
  · refine wpAny_passesOwn hp (thn (T.done X rfl rfl rfl hc i pins s3 σ3 H3 X.xe I3 (stat fr3) st3 stop) fun r s4 ⟨hr,I4⟩=>?_)
    subst hr
    exact wpAny_execs_nil ⟨σ3,H3,I4,qn⟩
  · refine wpAny_passesOwn hp (thn (T.item X rfl rfl rfl hc i pins s3 σ3 H3 X.xe I3 (stat fr3) st3 go) fun r s4 ⟨u,hr,h4⟩=>?_)
    subst hr
    refine wpAny_passesOwn hp (thn h4 fun _ s5 ⟨x,H5,I5,r5,y5,st5,fr5⟩=>?_)
    have I5':=I5.pinned (stat fr5) (T.obj _ _ st5)
    refine wpAny_passesOwn hp (thn (hg _ s5 σ3 H5 x u _ I5' r5 (step x H5 y5)) fun _ s6 ⟨σ6,H6,I6,q6⟩=>?_)
    refine wpAny_passesOwn hp (thn (hb _ s6 σ6 H6 _ I6 q6) fun f s7 q7=>?_)
    have again:∀ {σ7:St} {H7:Hp},Inv X (pins ++ pinsAt fp s5.heap) σ7 H7 s7→N σ7 H7→∃ m,m < n∧∃ i σ' H',Inv X pins σ' H' s7∧tn i s7.heap∧(∀ b∈fp,H' b = none)∧W i m σ' H':=fun {σ7 H7} I7 n7=>by
      obtain ⟨m',hm,w7⟩:=hN σ7 H7 n7
      refine ⟨m',hm,i + 1,σ7,H7,I7.unpinned,T.keep _ _ _ st5 fun b hb o e=>(I7.pin (b,o) (List.mem_append_right _ (List.mem_append_right _ (mem_pinsAt hb e)))).1,fun b hb=>?_,w7⟩
      obtain ⟨o,e,d⟩:=T.obj _ _ st5 b hb
      exact (I7.pin (b,o) (List.mem_append_right _ (List.mem_append_right _ (mem_pinsAt hb e)))).2.1
    cases f with
    | next=>obtain ⟨σ7,H7,I7,n7⟩:=q7; exact again I7 n7
    | cont=>obtain ⟨σ7,H7,I7,n7⟩:=q7; exact again I7 n7
    | brk=>obtain ⟨σ7,H7,I7,q7⟩:=q7; exact ⟨σ7,H7,I7.unpinned,q7⟩
    | ret v=>obtain ⟨x7,σ7,H7,I7,r7,q7⟩:=q7; exact ⟨x7,σ7,H7,I7.unpinned,r7,q7⟩
end
theorem for_list {K:PySem.W.Frag} {a:Addr} {xs:List V} {g:TG} {tb:TS} {D:Ends} {σ:St} {H:Hp} (Pv:Nat→St→Hp→Prop) (h0:Pv 0 σ H) (hl:∀ i σ H,i≤xs.length→Pv i σ H→SqL K H a xs)
    (hs:∀ i x σ H,xs[i]? = some x→Pv i σ H→g x σ H fun σ2 H2=>tb { D with nx:=Pv (i + 1),ct:=Pv (i + 1),bk:=D.nx } σ2 H2) (hd:∀ σ H,Pv xs.length σ H→D.nx σ H) :
    ∃ W:Nat→Nat→St→Hp→Prop,(∃ m,W 0 m σ H)∧∀ i m σ H,W i m σ H→
      ((Itl K a).stop i H∧D.nx σ H)∨((Itl K a).go i H∧∃ N:St→Hp→Prop,(∀ σ' H',N σ' H'→∃ m',m' < m∧W (i + 1) m' σ' H')∧∀ x H',(Itl K a).yld i H x H'→g x σ H' fun σ2 H2=>tb { D with nx:=N,ct:=N,bk:=D.nx } σ2 H2):=by
  refine ⟨fun i m σ H=>m = xs.length - i∧i≤xs.length∧Pv i σ H,⟨xs.length,by simp,Nat.zero_le _,h0⟩,?_⟩
  rintro i m σ H ⟨rfl,hi,p⟩
  have q:=hl i σ H hi p
  by_cases hlt:i < xs.length
  · refine .inr ⟨⟨xs,xs[i],q,by simp [hlt]⟩,Pv (i + 1),fun σ' H' p'=>⟨xs.length - (i + 1),by omega,rfl,hlt,p'⟩,fun x H' y=>?_⟩
    obtain ⟨e,y⟩:=y
    subst e
    exact hs i x σ _ (y xs q) p
  · have e:i = xs.length:=by omega
    subst e
    exact .inl ⟨⟨xs,q,Nat.le_refl _⟩,hd σ H p⟩
theorem for_tup {K:PySem.W.Frag} {a:Addr} {xs:List V} {g:TG} {tb:TS} {D:Ends} {σ:St} {H:Hp} (Pv:Nat→St→Hp→Prop) (h0:Pv 0 σ H) (hl:∀ i σ H,i≤xs.length→Pv i σ H→SqT K H a xs)
    (hs:∀ i x σ H,xs[i]? = some x→Pv i σ H→g x σ H fun σ2 H2=>tb { D with nx:=Pv (i + 1),ct:=Pv (i + 1),bk:=D.nx } σ2 H2) (hd:∀ σ H,Pv xs.length σ H→D.nx σ H) :
    ∃ W:Nat→Nat→St→Hp→Prop,(∃ m,W 0 m σ H)∧∀ i m σ H,W i m σ H→
      ((Itt K a).stop i H∧D.nx σ H)∨((Itt K a).go i H∧∃ N:St→Hp→Prop,(∀ σ' H',N σ' H'→∃ m',m' < m∧W (i + 1) m' σ' H')∧∀ x H',(Itt K a).yld i H x H'→g x σ H' fun σ2 H2=>tb { D with nx:=N,ct:=N,bk:=D.nx } σ2 H2):=by
  refine ⟨fun i m σ H=>m = xs.length - i∧i≤xs.length∧Pv i σ H,⟨xs.length,by simp,Nat.zero_le _,h0⟩,?_⟩
  rintro i m σ H ⟨rfl,hi,p⟩
  have q:=hl i σ H hi p
  by_cases hlt:i < xs.length
  · refine .inr ⟨⟨xs,xs[i],q,by simp [hlt]⟩,Pv (i + 1),fun σ' H' p'=>⟨xs.length - (i + 1),by omega,rfl,hlt,p'⟩,fun x H' y=>?_⟩
    obtain ⟨e,y⟩:=y
    subst e
    exact hs i x σ _ (y xs q) p
  · have e:i = xs.length:=by omega
    subst e
    exact .inl ⟨⟨xs,q,Nat.le_refl _⟩,hd σ H p⟩
theorem for_range {lo:Int} {n:Nat} {g:TG} {tb:TS} {D:Ends} {σ:St} {H:Hp} (Pv:Nat→St→Hp→Prop) (h0:Pv 0 σ H)
    (hs:∀ i σ H,i < n→Pv i σ H→g (.int (lo + i)) σ H fun σ2 H2=>tb { D with nx:=Pv (i + 1),ct:=Pv (i + 1),bk:=D.nx } σ2 H2) (hd:∀ σ H,Pv n σ H→D.nx σ H) :
    ∃ W:Nat→Nat→St→Hp→Prop,(∃ m,W 0 m σ H)∧∀ i m σ H,W i m σ H→
      ((Itr lo n).stop i H∧D.nx σ H)∨((Itr lo n).go i H∧∃ N:St→Hp→Prop,(∀ σ' H',N σ' H'→∃ m',m' < m∧W (i + 1) m' σ' H')∧∀ x H',(Itr lo n).yld i H x H'→g x σ H' fun σ2 H2=>tb { D with nx:=N,ct:=N,bk:=D.nx } σ2 H2):=by
  refine ⟨fun i m σ H=>m = n - i∧i≤n∧Pv i σ H,⟨n,by simp,Nat.zero_le _,h0⟩,?_⟩
  rintro i m σ H ⟨rfl,hi,p⟩
  by_cases hlt:i < n
  · refine .inr ⟨hlt,Pv (i + 1),fun σ' H' p'=>⟨n - (i + 1),by omega,rfl,hlt,p'⟩,fun x H' y=>?_⟩
    obtain ⟨e,y⟩:=y
    subst e y
    exact hs i σ _ hlt p
  · have e:i = n:=by omega
    subst e
    exact .inl ⟨Nat.le_refl _,hd σ H p⟩
end L2
namespace L2
open PySem PySem.Spec PyProof.Rows
abbrev R2:=V→V→Hp→VK→Prop
def OpR (X:Cx) (f:Value→Value→Sem Value) (r:R2):Prop:=
  ∀ (pins:List (Addr×Obj)) (s:Shared) (σ:St) (H:Hp) (x y:V) (v u:Value) (Q:VK),Inv X pins σ H s→RelV x v→RelV y u→r x y H Q→
    wpAny (model X.prog X.w) X.A (f v u) (EP X pins σ Q) X.xe s
def CallR (X:Cx) (f:Value) (r:List V→Hp→VK→Prop):Prop:=
  ∀ (pins:List (Addr×Obj)) (s:Shared) (σ:St) (H:Hp) (xs:List V) (us:List Value) (Q:VK),Inv X pins σ H s→Vals xs us→r xs H Q→
    wpAny (model X.prog X.w) X.A (call f us) (EP X pins σ Q) X.xe s
def tOp (r:R2) (ta tb:TE):TE:=fun σ H Q=>ta σ H fun x H1=>tb σ H1 fun y H2=>r x y H2 Q
def rI (C:Int→Int→Prop) (g:Int→Int→V):R2:=fun x y H Q=>∃ i j,x = .int i∧y = .int j∧C i j∧Q (g i j) H
def rI0 (g:Int→Int→V):R2:=fun x y H Q=>∃ i j,x = .int i∧y = .int j∧Q (g i j) H
section
variable {X:Cx} {a b c:Expr} {ta tb tc:TE} {pos:Pos}
theorem binT (ha:PE X a ta) (hb:PE X b tb) {pins:List (Addr×Obj)} {s:Shared} {σ:St} {H:Hp} {R:V→V→Hp→Prop} (I:Inv X pins σ H s)
    (h:ta σ H fun x H1=>tb σ H1 fun y H2=>R x y H2) {Q:Value→Shared→Prop} {f:Value→Value→Sem Value}
    (hf:∀ v u s2 x y H2,Inv X pins σ H2 s2→RelV x v→RelV y u→R x y H2→wpAny (model X.prog X.w) X.A (f v u) Q X.xe s2) :
    wpAny (model X.prog X.w) X.A (eval a X.env) (fun v s₁=>wpAny (model X.prog X.w) X.A (eval b X.env) (fun u s₂=>wpAny (model X.prog X.w) X.A (f v u) Q X.xe s₂) X.xe s₁) X.xe s:=by
  refine thn (ha pins s σ H _ I h) fun v s1 ⟨x,H1,I1,r1,q1⟩=>?_
  refine thn (hb pins s1 σ H1 _ I1 q1) fun u s2 ⟨y,H2,I2,r2,q2⟩=>?_
  exact hf v u s2 x y H2 I2 r1 r2 q2
theorem pe_op {op:Operator} {r:R2} (ho:OpR X (binaryOp op) r) (ha:PE X a ta) (hb:PE X b tb):PE X (.BinOp a op b pos) (tOp r ta tb):=by
  intro pins s σ H Q I h
  exact wpAny_BinOp (binT ha hb I h fun v u s2 x y H2 I2 rx ry q=>ho pins s2 σ H2 x y v u Q I2 rx ry q)
theorem opI {f:Value→Value→Sem Value} {C:Int→Int→Prop} {g:Int→Int→Int}
    (rule:∀ (i j:Int) (t u:Tok) (s:Shared) (Q:Value→Shared→Prop) (E:Value→Shared→Prop),C i j→Q (.int (g i j) s.toks) { s with toks:=s.toks + 1 }→wpAny (model X.prog X.w) X.A (f (.int i t) (.int j u)) Q E s) :
    OpR X f (rI C fun i j=>.int (g i j)):=by
  intro pins s σ H x y v u Q I rx ry h
  obtain ⟨i,j,rfl,rfl,hc,q⟩:=h
  obtain ⟨t,rfl⟩:=rx
  obtain ⟨t',rfl⟩:=ry
  exact rule i j t t' s _ _ hc ⟨.int (g i j),H,I.tok _,⟨_,rfl⟩,q⟩
theorem opI0 {f:Value→Value→Sem Value} {g:Int→Int→Int}
    (rule:∀ (i j:Int) (t u:Tok) (s:Shared) (Q:Value→Shared→Prop) (E:Value→Shared→Prop),Q (.int (g i j) s.toks) { s with toks:=s.toks + 1 }→wpAny (model X.prog X.w) X.A (f (.int i t) (.int j u)) Q E s) :
    OpR X f (rI0 fun i j=>.int (g i j)):=by
  intro pins s σ H x y v u Q I rx ry h
  obtain ⟨i,j,rfl,rfl,q⟩:=h
  obtain ⟨t,rfl⟩:=rx
  obtain ⟨t',rfl⟩:=ry
  exact rule i j t t' s _ _ ⟨.int (g i j),H,I.tok _,⟨_,rfl⟩,q⟩
theorem opB0 {f:Value→Value→Sem Value} {g:Int→Int→Bool}
    (rule:∀ (i j:Int) (t u:Tok) (s:Shared) (Q:Value→Shared→Prop) (E:Value→Shared→Prop),Q (.bool (g i j)) s→wpAny (model X.prog X.w) X.A (f (.int i t) (.int j u)) Q E s) :
    OpR X f (rI0 fun i j=>.bl (g i j)):=by
  intro pins s σ H x y v u Q I rx ry h
  obtain ⟨i,j,rfl,rfl,q⟩:=h
  obtain ⟨t,rfl⟩:=rx
  obtain ⟨t',rfl⟩:=ry
  exact rule i j t t' s _ _ ⟨.bl (g i j),H,I,rfl,q⟩
def CDiv (i j:Int):Prop:=0 < j∧j < 1073741824
def CPow (i j:Int):Prop:=0≤j∧j≤1000000∧i.natAbs < 2 ^ 64
def CMul (i j:Int):Prop:=(-(2 ^ 64) < i∧i < 2 ^ 64)∨(-(2 ^ 64) < j∧j < 2 ^ 64)
theorem CMul.ok {i j:Int} (h:CMul i j):IntMulOk i j:=by
  rcases h with ⟨h1,h2⟩ | ⟨h1,h2⟩
  · exact .of_left (intBits_le_64 h1 h2)
  · exact .of_right (intBits_le_64 h1 h2)
theorem op_add:OpR X (binaryOp .Add) (rI0 fun i j=>.int (i + j)):=opI0 fun _ _ _ _ _ _ _ q=>add_int q
theorem op_sub:OpR X (binaryOp .Sub) (rI0 fun i j=>.int (i - j)):=opI0 fun _ _ _ _ _ _ _ q=>sub_int q
theorem op_mul:OpR X (binaryOp .Mult) (rI CMul fun i j=>.int (i * j)):=opI fun _ _ _ _ _ _ _ hc q=>mul_int q hc.ok
theorem op_fdiv:OpR X (binaryOp .FloorDiv) (rI CDiv fun i j=>.int (i / j)):=opI fun i j _ _ _ _ _ hc q=>by
  have h1:(0:Int) < j:=hc.1
  have h2:j < 1073741824:=hc.2
  exact floordiv_int (by omega) (by rw [Int.fdiv_eq_ediv_of_nonneg i (by omega)]; exact q) (.inl (PyProof.noPylong_small (by omega)))
theorem op_mod:OpR X (binaryOp .Mod) (rI (fun _ j=>0 < j) fun i j=>.int (i % j)):=opI fun i j _ _ _ _ _ hc q=>by
  have h1:(0:Int) < j:=hc
  exact mod_int' (by omega) (by rw [Int.fmod_eq_emod_of_nonneg i (by omega)]; exact q)
theorem op_pow:OpR X (binaryOp .Pow) (rI CPow fun i j=>.int (i ^ j.toNat)):=opI fun _ _ _ _ _ _ _ hc q=>pow_int_small hc.1 hc.2.1 hc.2.2 q
end
def scal:V→V→Bool
  | .non,.non=>true | .non,.int _=>true | .int _,.non=>true | .non,.bl _=>true | .bl _,.non=>true | .non,.str _=>true | .str _,.non=>true
  | .int _,.int _=>true | .bl _,.bl _=>true | .str _,.str _=>true | .byt _,.byt _=>true
  | .int _,.str _=>true | .str _,.int _=>true | .bl _,.str _=>true | .str _,.bl _=>true
  | _,_=>false
def rEq:R2:=fun x y H Q=>scal x y = true∧Q (.bl (decide (x = y))) H
def rNe:R2:=fun x y H Q=>scal x y = true∧Q (.bl (!decide (x = y))) H
theorem dec_int {i j:Int}:decide (V.int i = V.int j) = (i == j):=by
  rw [Bool.eq_iff_iff]
  simp
theorem dec_bl {i j:Bool}:decide (V.bl i = V.bl j) = (i == j):=by
  rw [Bool.eq_iff_iff]
  simp
theorem dec_str {i j:Str}:decide (V.str i = V.str j) = (i == j):=by
  rw [Bool.eq_iff_iff]
  simp
theorem dec_byt {i j:Array UInt8}:decide (V.byt i = V.byt j) = (i.toList == j.toList):=by
  rw [Bool.eq_iff_iff]
  cases i
  cases j
  simp
section
variable {X:Cx} {a b c:Expr} {ta tb tc:TE} {pos:Pos}
theorem fin_bl {pins:List (Addr×Obj)} {σ:St} {H:Hp} {s:Shared} {Q:VK} {k k':Bool} (I:Inv X pins σ H s) (q:Q (.bl k) H) (e:k = k'):EP X pins σ Q (.bool k') s:=by
  subst e
  exact ⟨.bl k,H,I,rfl,q⟩
theorem op_eq:OpR X (compareOp .Eq) rEq:=by
  intro pins s σ H x y v u Q I rx ry h
  obtain ⟨hs,q⟩:=h
  cases x with
  | non=>
    cases rx
    cases y with
    | non=>cases ry; exact PySem.EqNone.eq_none_none (fin_bl I q (by simp))
    | bl j=>cases ry; exact PySem.EqNone.eq_none_bool (fin_bl I q (by simp))
    | int j=>obtain ⟨t',rfl⟩:=ry; exact PySem.EqNone.eq_none_int (fin_bl I q (by simp))
    | str j=>obtain ⟨t',rfl⟩:=ry; exact PySem.EqNone.eq_none_str (fin_bl I q (by simp))
    | _=>exact absurd (show false = true from hs) Bool.false_ne_true
  | bl i=>
    cases rx
    cases y with
    | non=>cases ry; exact PySem.EqNone.eq_bool_none (fin_bl I q (by simp))
    | bl j=>cases ry; exact eq_bool (fin_bl I q dec_bl)
    | str j=>obtain ⟨t',rfl⟩:=ry; exact PySem.EqMixed.eq_bool_str (fin_bl I q (by simp))
    | _=>exact absurd (show false = true from hs) Bool.false_ne_true
  | int i=>
    obtain ⟨t,rfl⟩:=rx
    cases y with
    | non=>cases ry; exact PySem.EqNone.eq_int_none (fin_bl I q (by simp))
    | int j=>obtain ⟨t',rfl⟩:=ry; exact eq_int (fin_bl I q dec_int)
    | str j=>obtain ⟨t',rfl⟩:=ry; exact PySem.EqMixed.eq_int_str (fin_bl I q (by simp))
    | _=>exact absurd (show false = true from hs) Bool.false_ne_true
  | str i=>
    obtain ⟨t,rfl⟩:=rx
    cases y with
    | non=>cases ry; exact PySem.EqNone.eq_str_none (fin_bl I q (by simp))
    | bl j=>cases ry; exact PySem.EqMixed.eq_str_bool (fin_bl I q (by simp))
    | int j=>obtain ⟨t',rfl⟩:=ry; exact PySem.EqMixed.eq_str_int (fin_bl I q (by simp))
    | str j=>obtain ⟨t',rfl⟩:=ry; exact eq_str (fin_bl I q dec_str)
    | _=>exact absurd (show false = true from hs) Bool.false_ne_true
  | byt i=>
    obtain ⟨t,rfl⟩:=rx
    cases y with
    | byt j=>obtain ⟨t',rfl⟩:=ry; exact PySem.W.eq_bytes (fin_bl I q dec_byt)
    | _=>exact absurd (show false = true from hs) Bool.false_ne_true
  | _=>cases y <;> exact absurd (show false = true from hs) Bool.false_ne_true
theorem op_ne:OpR X (compareOp .NotEq) rNe:=by
  intro pins s σ H x y v u Q I rx ry h
  obtain ⟨hs,q⟩:=h
  cases x with
  | non=>
    cases rx
    cases y with
    | non=>cases ry; exact PySem.EqNone.ne_none_none (fin_bl I q (by simp))
    | bl j=>cases ry; exact PySem.EqNone.ne_none_bool (fin_bl I q (by simp))
    | int j=>obtain ⟨t',rfl⟩:=ry; exact PySem.EqNone.ne_none_int (fin_bl I q (by simp))
    | str j=>obtain ⟨t',rfl⟩:=ry; exact PySem.EqNone.ne_none_str (fin_bl I q (by simp))
    | _=>exact absurd (show false = true from hs) Bool.false_ne_true
  | bl i=>
    cases rx
    cases y with
    | non=>cases ry; exact PySem.EqNone.ne_bool_none (fin_bl I q (by simp))
    | bl j=>cases ry; exact ne_bool (fin_bl I q (congrArg not dec_bl))
    | str j=>obtain ⟨t',rfl⟩:=ry; exact PySem.EqMixed.ne_bool_str (fin_bl I q (by simp))
    | _=>exact absurd (show false = true from hs) Bool.false_ne_true
  | int i=>
    obtain ⟨t,rfl⟩:=rx
    cases y with
    | non=>cases ry; exact PySem.EqNone.ne_int_none (fin_bl I q (by simp))
    | int j=>obtain ⟨t',rfl⟩:=ry; exact ne_int (fin_bl I q (congrArg not dec_int))
    | str j=>obtain ⟨t',rfl⟩:=ry; exact PySem.EqMixed.ne_int_str (fin_bl I q (by simp))
    | _=>exact absurd (show false = true from hs) Bool.false_ne_true
  | str i=>
    obtain ⟨t,rfl⟩:=rx
    cases y with
    | non=>cases ry; exact PySem.EqNone.ne_str_none (fin_bl I q (by simp))
    | bl j=>cases ry; exact PySem.EqMixed.ne_str_bool (fin_bl I q (by simp))
    | int j=>obtain ⟨t',rfl⟩:=ry; exact PySem.EqMixed.ne_str_int (fin_bl I q (by simp))
    | str j=>obtain ⟨t',rfl⟩:=ry; exact ne_str (fin_bl I q (congrArg not dec_str))
    | _=>exact absurd (show false = true from hs) Bool.false_ne_true
  | byt i=>
    obtain ⟨t,rfl⟩:=rx
    cases y with
    | byt j=>obtain ⟨t',rfl⟩:=ry; exact PySem.W.ne_bytes (fin_bl I q (congrArg not dec_byt))
    | _=>exact absurd (show false = true from hs) Bool.false_ne_true
  | _=>cases y <;> exact absurd (show false = true from hs) Bool.false_ne_true
theorem op_lt:OpR X (compareOp .Lt) (rI0 fun i j=>.bl (decide (i < j))):=opB0 fun _ _ _ _ _ _ _ q=>lt_int q
theorem op_le:OpR X (compareOp .LtE) (rI0 fun i j=>.bl (decide (i≤j))):=opB0 fun _ _ _ _ _ _ _ q=>le_int q
theorem op_gt:OpR X (compareOp .Gt) (rI0 fun i j=>.bl (decide (j < i))):=opB0 fun _ _ _ _ _ _ _ q=>gt_int q
theorem op_in_str:OpR X (compareOp .In) (fun x y H Q=>∃ i j,x = .str i∧y = .str j∧Q (.bl (!(Builtin.Str.occurrences j i 0 j.length 1).isEmpty)) H):=by
  intro pins s σ H x y v u Q I rx ry h
  obtain ⟨i,j,rfl,rfl,q⟩:=h
  obtain ⟨t,rfl⟩:=rx
  obtain ⟨t',rfl⟩:=ry
  exact in_str (fin_bl I q rfl)
theorem nomark (b:Expr) {op:CmpOp} (h:op≠.In:=by decide) (h2:op≠.NotIn:=by decide):behindInMarks op b = false:=by
  have e1:(op == CmpOp.In) = false:=by cases op <;> first | rfl | exact absurd rfl h
  have e2:(op == CmpOp.NotIn) = false:=by cases op <;> first | rfl | exact absurd rfl h2
  cases b <;> simp [behindInMarks,e1,e2]
theorem pe_cmpR {op:CmpOp} {r:R2} (ho:OpR X (compareOp op) r) (ha:PE X a ta) (hb:PE X b tb) (hm:behindInMarks op b = false):PE X (.Compare a [op] [b] pos) (tOp r ta tb):=by
  intro pins s σ H Q I h
  exact wpAny_Compare1 (binT ha hb I h fun v u s2 x y H2 I2 rx ry q=>ho pins s2 σ H2 x y v u Q I2 rx ry q) hm
def tTest (t:TE):TT:=fun σ H Q=>t σ H fun x H'=>∃ k,x = .bl k∧Q k H'
theorem pt_cmpR {op:CmpOp} {r:R2} (ho:OpR X (compareOp op) r) (ha:PE X a ta) (hb:PE X b tb) (hm:behindInMarks op b = false):PT X (.Compare a [op] [b] pos) (tTest (tOp r ta tb)):=by
  intro pins s σ H Q I h
  refine wpAny_isTrue_Compare1 (thn (ha pins s σ H _ I h) fun v s1 ⟨x,H1,I1,r1,q1⟩=>thn (hb pins s1 σ H1 _ I1 q1) fun u s2 ⟨y,H2,I2,r2,q2⟩=>
    thn (ho pins s2 σ H2 x y v u _ I2 r1 r2 q2) fun c s3 ⟨z,H3,I3,r3,k,e,q3⟩=>?_) hm
  subst e
  cases r3
  exact wpAny_truthy_bool ⟨H3,I3,q3⟩
def tChain (r r':R2) (ta tb tc:TE):TE:=fun σ H Q=>ta σ H fun x H1=>tb σ H1 fun y H2=>r x y H2 fun z H3=>∃ k,z = .bl k∧
  (if k = true then tc σ H3 fun w' H4=>r' y w' H4 Q else Q (.bl false) H3)
theorem pe_chain {op op':CmpOp} {r r':R2} (ho:OpR X (compareOp op) r) (ho':OpR X (compareOp op') r') (ha:PE X a ta) (hb:PE X b tb) (hc:PE X c tc)
    (hm:lastMarks [op,op'] [b,c] = false:=by with_unfolding_all rfl):PE X (.Compare a [op,op'] [b,c] pos) (tChain r r' ta tb tc):=by
  intro pins s σ H Q I h
  refine Compare_chain (thn (ha pins s σ H _ I h) fun v s1 ⟨x,H1,I1,r1,q1⟩=>chain_link (thn (hb pins s1 σ H1 _ I1 q1) fun u s2 ⟨y,H2,I2,r2,q2⟩=>
    thn (ho pins s2 σ H2 x y v u _ I2 r1 r2 q2) fun d s3 ⟨z,H3,I3,r3,k,e,q3⟩=>?_)) hm
  subst e
  cases r3
  refine wpAny_truthy_bool ?_
  cases k with
  | false=>exact ite_ff ⟨.bl false,H3,I3,rfl,q3⟩
  | true=>exact ite_tt (chain_last (thn (hc pins s3 σ H3 _ I3 q3) fun w' s4 ⟨z',H4,I4,r4,q4⟩=>ho' pins s4 σ H4 y z' u w' Q I4 r2 r4 q4))
theorem pt_chain {op op':CmpOp} {r r':R2} (ho:OpR X (compareOp op) r) (ho':OpR X (compareOp op') r') (ha:PE X a ta) (hb:PE X b tb) (hc:PE X c tc)
    (hm:lastMarks [op,op'] [b,c] = false:=by with_unfolding_all rfl):PT X (.Compare a [op,op'] [b,c] pos) (tTest (tChain r r' ta tb tc)):=by
  intro pins s σ H Q I h
  refine isTrue_chain (thn (ha pins s σ H _ I h) fun v s1 ⟨x,H1,I1,r1,q1⟩=>test_link (thn (hb pins s1 σ H1 _ I1 q1) fun u s2 ⟨y,H2,I2,r2,q2⟩=>
    thn (ho pins s2 σ H2 x y v u _ I2 r1 r2 q2) fun d s3 ⟨z,H3,I3,r3,k,e,q3⟩=>?_)) hm
  subst e
  cases r3
  refine wpAny_truthy_bool ?_
  cases k with
  | false=>
    obtain ⟨k',e',q'⟩:=q3
    cases e'
    exact ite_ff ⟨H3,I3,q'⟩
  | true=>
    refine ite_tt (test_last (thn (hc pins s3 σ H3 _ I3 q3) fun w' s4 ⟨z',H4,I4,r4,q4⟩=>thn (ho' pins s4 σ H4 y z' u w' _ I4 r2 r4 q4) fun d' s5 ⟨z2,H5,I5,r5,k2,e2,q5⟩=>?_))
    subst e2
    cases r5
    exact wpAny_truthy_bool ⟨H5,I5,q5⟩
theorem line63:(sizeLine:Nat) < 2 ^ 63:=by rw [sizeLine_eq]; decide
theorem op_add_str:OpR X (binaryOp .Add) (fun x y H Q=>∃ i j,x = .str i∧y = .str j∧i.length + j.length≤sizeLine∧Q (.str (i ++ j)) H):=by
  intro pins s σ H x y v u Q I rx ry h
  obtain ⟨i,j,rfl,rfl,hz,q⟩:=h
  obtain ⟨t,rfl⟩:=rx
  obtain ⟨t',rfl⟩:=ry
  exact add_str (fun t' tk=>⟨.str (i ++ j),H,I.tok _,⟨_,rfl⟩,q⟩) hz
theorem vals1 {x:V} {us:List Value} (r:Vals [x] us):∃ u,us = [u]∧RelV x u:=by
  cases r with
  | cons r1 r2=>cases r2; exact ⟨_,rfl,r1⟩
theorem vals2 {x y:V} {us:List Value} (r:Vals [x,y] us):∃ u w',us = [u,w']∧RelV x u∧RelV y w':=by
  cases r with
  | cons r1 r2=>
    cases r2 with
    | cons r3 r4=>cases r4; exact ⟨_,_,rfl,r1,r3⟩
end
end L2
namespace L2
open PySem PySem.Spec PyProof.Rows
structure ObjM (h:Heap) (x dx C:Addr) (mA:Str→Option Value):Prop where
  obj:h.get? x = some (PySem.W.instObj C dx)
  ns:h.Ns1 dx mA
  ne:dx≠x
theorem lookIn_ns {h:Heap} {dx:Addr} {mA:Str→Option Value} (n:h.Ns1 dx mA):∃ od,h.get? dx = some od∧∀ name,PySem.W.lookIn name od = some (mA name):=by
  obtain ⟨o,es,ep,ho,hd,hk,_,hm⟩:=n
  refine ⟨o,ho,fun name=>?_⟩
  have e:=hm name
  unfold nsFind findBy at e
  rw [← Array.find?_toList] at e
  unfold PySem.W.lookIn
  rw [hd]
  dsimp only
  split
  · rename_i y q
    rw [q] at e
    exact congrArg some e
  · rename_i q
    rw [q] at e
    have a:es.toList.any (·.refKey) = false:=by
      rw [List.any_eq_false]
      intro y hy
      obtain ⟨z,t,hkey⟩:=hk y (Array.mem_toList_iff.mp hy)
      simp [DictEntry.refKey,hkey]
    have a':¬ es.toList.any (·.refKey) = true:=by rw [a]; exact Bool.false_ne_true
    rw [if_neg a']
    exact congrArg some e
theorem ObjM.look {h:Heap} {x dx C:Addr} {mA:Str→Option Value} (I:ObjM h x dx C mA):∃ od,PySem.W.InstAt h x (PySem.W.instObj C dx) C (some od)∧∀ name,PySem.W.lookIn name od = some (mA name):=
  let ⟨od,ho,hl⟩:=lookIn_ns I.ns
  ⟨od,⟨I.obj,rfl,rfl,ho⟩,hl⟩
section
variable {prog:Program} {w:World} {A:Around} {E:Value→Shared→Prop} {s:Shared} {K:PySem.W.Frag} {x dx C f:Addr} {mA:Str→Option Value} {name:Str} {v:Value}
end
theorem RelO.some_of {v:V} {o:Option Value} (r:RelO (some v) o):∃ u,o = some u∧RelV v u:=by
  cases o with
  | none=>exact (show False from r).elim
  | some u=>exact ⟨u,rfl,r⟩
section
variable {P:Program} {w:World} {H H':Hp} {h h':Heap} {a C dx:Addr} {fs fs':List (Str×V)}
theorem ins_get (hok:HOk P w H h) (e:H a = some (.ins C dx fs)):∃ mA,ObjM h a dx C mA∧(∀ f,RelO (fs.lookup f) (mA f))∧PySem.Within mA (fs.map (·.1))∧fs.length≤1000∧H dx = some (.own a):=by
  obtain ⟨d,z,ne,ob,mA,n,r,q⟩:=(show ObjOk P w H h a (.ins C dx fs) from hok a _ e)
  exact ⟨mA,⟨ob,n,ne⟩,r,q,z,d⟩
end
structure Cls (K:PySem.W.Frag) (C:Addr):Prop where
  pg:PySem.W.plainGet K C Str.empty = true
  hd:PySem.W.hasDictIn K C = true
  po:PySem.W.plainOver K C = true
  sa:PySem.W.findIn K (.ref C) "__setattr__" = some (some (.builtin "object.__setattr__"))
theorem Cls.get {K:PySem.W.Frag} {C:Addr} (c:Cls K C) (f:Str):PySem.W.plainGet K C f = true:=c.pg
structure Con (K:PySem.W.Frag) (C:Addr) (f:Str) (v:V) (u:Value):Prop where
  at_:PySem.W.findIn K (.ref C) f = some (some u)
  rel:RelV v u
  get:PySem.W.specialIn K u "__get__" = some none
  cp:PySem.W.copiedNames.contains f = false
structure Meth (K:PySem.W.Frag) (C:Addr) (m:Str) (f:Addr):Prop where
  at_:PySem.W.findIn K (.ref C) m = some (some (.ref f))
  fn:PySem.W.isFn K (.ref f) = true
  kp:PySem.W.keepIn K (.ref f) = true
section
variable {X:Cx} {pins:List (Addr×Obj)} {σ:St} {H:Hp} {s:Shared} {a C dx:Addr} {fs:List (Str×V)} {f:Str} {v:V} {A:Around} {E:Value→Shared→Prop}
theorem Inv.made (I:Inv X pins σ H s):Inv X pins σ (upd (upd H s.heap.objs.size (.own (s.heap.objs.size + 1))) (s.heap.objs.size + 1) (.ins C s.heap.objs.size []))
    { s with heap:=(s.heap.push PySem.W.emptyDict).push (PySem.W.instObj C s.heap.objs.size) }:=by
  have e1:(s.heap.push PySem.W.emptyDict).get? s.heap.objs.size = some PySem.W.emptyDict:=Heap.get?_push_size s.heap rfl
  have e2:((s.heap.push PySem.W.emptyDict).push (PySem.W.instObj C s.heap.objs.size)).get? (s.heap.objs.size + 1) = some (PySem.W.instObj C s.heap.objs.size):=by
    have:=Heap.get?_push_size (s.heap.push PySem.W.emptyDict) (o:=PySem.W.instObj C s.heap.objs.size) rfl
    rwa [Heap.size_push] at this
  have e3:(s.heap.push PySem.W.emptyDict).Ns s.heap.objs.size (fun _=>none):=⟨PySem.W.emptyDict,#[],_,e1,rfl,(fun e he=>absurd he (by simp)),fun _=>rfl⟩
  have I1:=I.laid (a:=s.heap.objs.size) (o:=.own (s.heap.objs.size + 1)) (h':=s.heap.push PySem.W.emptyDict) (t':=s.toks) (fun b u q=>Heap.get?_push_of_some _ q) (Nat.le_refl _) ⟨_,e1⟩
  refine I1.laid (a:=s.heap.objs.size + 1) (o:=.ins C s.heap.objs.size []) (t':=s.toks) (fun b u q=>Heap.get?_push_of_some _ q) (Nat.le_of_eq (Heap.size_push _ _)) ?_
  have ne:s.heap.objs.size≠s.heap.objs.size + 1:=Nat.ne_of_lt (Nat.lt_succ_self _)
  refine ⟨by rw [upd_ne ne,upd_same],Nat.zero_le _,ne,e2,fun _=>none,(Heap.Ns1.of_empty e3).at fun o q=>Heap.get?_push_of_some _ q,fun _=>True.intro,fun y hy=>absurd rfl hy⟩
end
section
variable {X:Cx} {o e value:Expr} {f:Str} {pos pos' tpos:Pos} {ta tv:TE}
end
section
variable {X:Cx} {pins:List (Addr×Obj)} {σ:St} {H:Hp} {s:Shared} {A:Around} {E:Value→Shared→Prop} {Q:Value→Shared→Prop} {c:Value} {b:Bool}
inductive TyOf (K:PySem.W.Frag) (H:Hp):V→Value→Prop where
  | non:TyOf K H .non (.type "NoneType")
  | bl (x:Bool):TyOf K H (.bl x) (.type "bool")
  | int (i:Int):TyOf K H (.int i) (.type "int")
  | str (x:Str):TyOf K H (.str x) (.type "str")
  | flt (x:UInt64):TyOf K H (.flt x) (.type "float")
  | lst {a:Addr} {xs:List V} (e:H a = some (.lst xs)):TyOf K H (.ref a) (.type "list")
  | frz {a:Addr} {o:Obj} {xs:List V} (e:H a = some (.frz o (.lst xs))):TyOf K H (.ref a) (.type "list")
  | tup {a:Addr} {xs:List V} (e:H a = some (.tup xs)):TyOf K H (.ref a) (.type "tuple")
  | dK {a:Addr} {kvs:List (Key×V)} (e:H a = some (.dK kvs)):TyOf K H (.ref a) (.type "dict")
  | dT {a:Addr} {kvs:List (List Key×V)} (e:H a = some (.dT kvs)):TyOf K H (.ref a) (.type "dict")
  | ins {a C dx:Addr} {fs:List (Str×V)} (e:H a = some (.ins C dx fs)) (cl:Cls K C) (ha:PySem.W.findIn K (.ref C) "__class__" = some (some (.builtin "object.__class__")))
      (hn:PySem.W.specialIn K (.builtin "object.__class__") "__get__" = some (some (.builtin "getset_descriptor.__get__"))) (htk:PySem.W.takesIn K (.builtin "object.__class__") = some true)
      (hm:PySem.W.mroIn K C (.type "object") = some true):TyOf K H (.ref a) (.ref C)
theorem isinst_ok {x:V} {u t:Value} (I:Inv X pins σ H s) (rx:RelV x u) (ty:TyOf X.K H x t) (e:PySem.W.kitOne X.K t c = some b) (h:∀ tk,Q (.bool b) { s with toks:=tk }) :
    wpAny (model X.prog X.w) A (call (.builtin "isinstance") [u,c]) Q E s:=by
  cases ty with
  | non=>cases (show u = Value.none from rx); exact PySem.W.kia_one PySem.W.kitx_none I.kIn True.intro e (fun z=>nomatch z) h
  | bl y=>cases (show u = Value.bool y from rx); exact PySem.W.kia_one PySem.W.kitx_bool I.kIn True.intro e (fun z=>nomatch z) h
  | int i=>obtain ⟨t,q⟩:=(show ∃ t,u = Value.int i t from rx); cases q; exact PySem.W.kia_one PySem.W.kitx_int I.kIn True.intro e (fun z=>nomatch z) h
  | str y=>obtain ⟨t,q⟩:=(show ∃ t,u = Value.str y t from rx); cases q; exact PySem.W.kia_one PySem.W.kitx_str I.kIn True.intro e (fun z=>nomatch z) h
  | flt y=>obtain ⟨t,q⟩:=(show ∃ t,u = Value.float y t from rx); cases q; exact PySem.W.kia_one PySem.W.kitx_float I.kIn True.intro e (fun z=>nomatch z) h
  | @lst a xs ea=>
    cases (show u = Value.ref a from rx)
    obtain ⟨_,_,n,_,h1⟩:=(show ObjOk X.prog X.w H s.heap a (.lst xs) from I.hok a _ ea)
    exact PySem.W.kia_one PySem.W.kitx_list I.kIn ⟨_,h1,rfl⟩ e (fun z=>nomatch z) h
  | @frz a ob xs ea=>
    cases (show u = Value.ref a from rx)
    obtain ⟨_,_,_,n,_,h1⟩:=(show ObjOk X.prog X.w H s.heap a (.frz ob (.lst xs)) from I.hok a _ ea)
    exact PySem.W.kia_one PySem.W.kitx_list I.kIn ⟨_,h1,rfl⟩ e (fun z=>nomatch z) h
  | @tup a xs ea=>
    cases (show u = Value.ref a from rx)
    obtain ⟨_,_,_,p⟩:=(show ObjOk X.prog X.w H s.heap a (.tup xs) from I.hok a _ ea)
    obtain ⟨o,h1,h2,_⟩:=p
    exact PySem.W.kia_one PySem.W.kitx_tuple I.kIn ⟨o,h1,h2⟩ e (fun z=>nomatch z) h
  | @dK a kvs ea=>
    cases (show u = Value.ref a from rx)
    obtain ⟨_,_,vs,_,p⟩:=(show ObjOk X.prog X.w H s.heap a (.dK kvs) from I.hok a _ ea)
    obtain ⟨o,es,ep,h1,h2,_⟩:=p
    exact PySem.W.kia_one PySem.W.kitx_dict I.kIn ⟨o,h1,h2.1⟩ e (fun z=>nomatch z) h
  | @dT a kvs ea=>
    cases (show u = Value.ref a from rx)
    obtain ⟨_,_,xs,_,o,es,ep,h1,h2,_⟩:=(show ObjOk X.prog X.w H s.heap a (.dT kvs) from I.hok a _ ea)
    exact PySem.W.kia_one PySem.W.kitx_dict I.kIn ⟨o,h1,h2.1⟩ e (fun z=>nomatch z) h
  | @ins a C dx fs ea cl ha hn htk hm=>
    cases (show u = Value.ref a from rx)
    obtain ⟨mA,O,_⟩:=ins_get I.hok ea
    obtain ⟨od,J,_⟩:=O.look
    exact PySem.W.kia_one (PySem.W.kitx_own (cl.get _) cl.hd ha hn htk hm) I.kIn J e (fun z=>nomatch z) h
end
end L2
namespace L2
open PySem PySem.Spec PyProof.Rows
structure Room (k:Nat) (A:Around):Prop where
  hd:A.handled = none
  dp:A.depth + 3 * k + 5 < recursionLimit
  un:A.units + 16 * k + 200 < cLine
theorem Room.mono {j k:Nat} {A:Around} (r:Room k A) (h:j≤k):Room j A:=⟨r.hd,by have:=r.dp; omega,by have:=r.un; omega⟩
theorem Room.deeper {k:Nat} {A:Around} (r:Room (k + 1) A) (env:Env):Room k (A.deeper env):=
  ⟨r.hd,by have:=r.dp; show A.depth + 1 + 3 * k + 5 < _; omega,by have:=r.un; show A.units + 3 + 16 * k + 200 < _; omega⟩
theorem Room.in1 {k:Nat} {A:Around} (r:Room (k + 1) A):Room k A.in1:=
  ⟨r.hd,by have:=r.dp; show A.depth + 3 * k + 5 < _; omega,by have:=r.un; show A.units + 1 + 16 * k + 200 < _; omega⟩
theorem Room.depth {k:Nat} {A:Around} (r:Room k A):A.depth < recursionLimit:=by have:=r.dp; omega
theorem Room.units {k:Nat} {A:Around} (r:Room k A):A.units + 64 < cLine:=by have:=r.un; omega
def tNil:TA:=fun _ H Q=>Q [] H
def tCons (ta:TE) (tr:TA):TA:=fun σ H Q=>ta σ H fun x H1=>tr σ H1 fun xs H2=>Q (x :: xs) H2
section
variable {X:Cx} {e:Expr} {es:List Expr} {te:TE} {t:TA} {pos:Pos}
theorem pa_nil:PA X [] tNil:=fun _ _ _ _ H Q I h=>Calls.spliced_nil ⟨[],H,I,.nil,h⟩
theorem pa_cons (ha:PE X e te) (hr:PA X es t) (hs:starEach (e :: es) X.env = (false,eval e X.env) :: starEach es X.env:=by rfl):PA X (e :: es) (tCons te t):=by
  intro pos pins s σ H Q I h
  rw [hs]
  show wpAny _ _ (spliced ((false,eval e X.env) :: backTo pos (starEach es X.env))) _ _ s
  refine Calls.spliced_cons (thn (ha pins s σ H _ I h) fun u s1 ⟨x,H1,I1,r1,q1⟩=>?_)
  exact thn (hr pos pins s1 σ H1 _ I1 q1) fun us s2 ⟨xs,H2,I2,r2,q2⟩=>⟨x :: xs,H2,I2,.cons r1 r2,q2⟩
def tTup (t:TA):TE:=fun σ H Q=>t σ H fun xs H1=>xs.length≤sizeLine∧∀ p,H1 p = none→Q (.ref p) (upd H1 p (.tup xs))
def tLst (t:TA):TE:=fun σ H Q=>t σ H fun xs H1=>xs.length≤sizeLine∧∀ p,H1 p = none→Q (.ref p) (upd H1 p (.lst xs))
theorem pe_tup {x1} (h:PA X es t):PE X (.Tuple es x1 pos) (tTup t):=by
  intro pins s σ H Q I hq
  refine wpAny_Tuple_spliced (thn (h pos pins s σ H _ I hq) fun us s1 ⟨xs,H1,I1,r,z,q⟩=>⟨by rw [← r.length]; exact z,?_⟩)
  have hf:H1 s1.heap.objs.size = none:=I1.hok.fresh (Nat.le_refl _)
  refine ⟨.ref s1.heap.objs.size,upd H1 s1.heap.objs.size (.tup xs),I1.laid (t':=s1.toks) (fun b u e=>Heap.get?_push_of_some _ e) (Nat.le_refl _) ?_,rfl,q _ hf⟩
  exact ⟨z,us,r,⟨_,Heap.get?_push_size _ rfl,rfl,_,rfl⟩⟩
theorem pe_lst (h:PA X es t):PE X (.List es pos) (tLst t):=by
  intro pins s σ H Q I hq
  refine wpAny_List_spliced (thn (h pos pins s σ H _ I hq) fun us s1 ⟨xs,H1,I1,r,z,q⟩=>⟨by rw [← r.length]; exact z,?_⟩)
  have hf:H1 s1.heap.objs.size = none:=I1.hok.fresh (Nat.le_refl _)
  refine ⟨.ref s1.heap.objs.size,upd H1 s1.heap.objs.size (.lst xs),I1.laid (t':=s1.toks) (fun b u e=>Heap.get?_push_of_some _ e) (Nat.le_refl _) ?_,rfl,q _ hf⟩
  exact ⟨z,us,0,r,Heap.get?_push_size _ rfl⟩
end
abbrev Sp:=List V→Hp→VK→XK→Prop
abbrev CXT:=List Env→Hp→Shared→XK→Value→Shared→Prop
structure Env0 (P:Program) (w:World) (K:PySem.W.Frag) (mg:Str→Option Value) (base:Heap) (A:Around) (outer:List Env) (s:Shared) (H:Hp):Prop where
  frames:A.frames = some outer
  mod:Mod K mg base
  bs:∀ b o,base.get? b = some o→s.heap.get? b = some o∧H b = none
  bsz:base.objs.size≤s.heap.objs.size
  funs:s.heap.FunFrames base outer
  frf:∀ b∈frs outer,H b = none
  hok:HOk P w H s.heap
  bare:AllBare s.gens
def CE (outer:List Env) (P:Program) (w:World) (H:Hp) (s:Shared) (Q:VK) (u:Value) (s':Shared):Prop:=
  ∃ v H',s'.os = s.os∧AllBare s'.gens∧Un (frs outer) [] H H' s.heap s'.heap∧HOk P w H' s'.heap∧RelV v u∧Q v H'
def CR (CX:CXT) (outer:List Env) (P:Program) (w:World) (H:Hp) (s:Shared) (Q:VK) (E:XK) (r:Result) (s':Shared):Prop:=
  match r with
  | .ok (.ret u)=>CE outer P w H s Q u s'
  | .ok _=>False
  | .error e=>CX outer H s E e s'
structure FnOk (P:Program) (w:World) (K:PySem.W.Frag) (mg:Str→Option Value) (base:Heap) (CX:CXT) (k:Nat) (f:Addr) (fd:FuncData) (ps:List Str) (sp:Sp):Prop where
  len:∀ vs H Q E,sp vs H Q E→vs.length = ps.length
  run:∀ (A:Around) (outer:List Env) (s:Shared) (H:Hp) (args:Args) (us:List Value) (vs:List V) (Q:VK) (E:XK),Room k A→Env0 P w K mg base A outer s H→BindsTo s fd args (ps.zip us)→Vals vs us→sp vs H Q E→
    codeAny (model P w) A (.call (.ref f) args) (CR CX outer P w H s Q E) s
theorem FnOk.mono {P:Program} {w:World} {K:PySem.W.Frag} {mg:Str→Option Value} {base:Heap} {CX:CXT} {j k:Nat} {f:Addr} {fd:FuncData} {ps:List Str} {sp:Sp} (F:FnOk P w K mg base CX j f fd ps sp) (h:j≤k) :
    FnOk P w K mg base CX k f fd ps sp:=⟨F.len,fun A outer s H args us vs Q E hr=>F.run A outer s H args us vs Q E (hr.mono h)⟩
theorem FnOk.imp {P:Program} {w:World} {K:PySem.W.Frag} {mg:Str→Option Value} {base:Heap} {CX:CXT} {k:Nat} {f:Addr} {fd:FuncData} {ps:List Str} {sp sp':Sp} (F:FnOk P w K mg base CX k f fd ps sp)
    (h:∀ vs H Q E,sp' vs H Q E→sp vs H Q E):FnOk P w K mg base CX k f fd ps sp':=
  ⟨fun vs H Q E q=>F.len vs H Q E (h _ _ _ _ q),fun A outer s H args us vs Q E hr he hb hv hs=>F.run A outer s H args us vs Q E hr he hb hv (h _ _ _ _ hs)⟩
theorem Env0.in1 {P:Program} {w:World} {K:PySem.W.Frag} {mg:Str→Option Value} {base:Heap} {A:Around} {outer:List Env} {s:Shared} {H:Hp} (e:Env0 P w K mg base A outer s H) :
    Env0 P w K mg base A.in1 outer s H:=⟨e.frames,e.mod,e.bs,e.bsz,e.funs,e.frf,e.hok,e.bare⟩
section
variable {X:Cx} {pins:List (Addr×Obj)} {σ:St} {H:Hp} {s s':Shared}
theorem Inv.env0 (I:Inv X pins σ H s):Env0 X.prog X.w X.K X.mg X.base X.A X.stack s H:=
  ⟨I.ok.frames,I.ok.mod,I.bs,Nat.le_trans I.ok.bsz I.sz,I.stack,I.stkFree,I.hok,I.bare⟩
theorem Inv.after {Q:VK} {u:Value} (I:Inv X pins σ H s) (h:CE X.stack X.prog X.w H s Q u s'):EP X pins σ Q u s':=by
  obtain ⟨v,H',os,bare,un,hok,r,q⟩:=h
  obtain ⟨hh,g,d,t,os'⟩:=s'
  obtain rfl:os' = s.os:=os
  exact ⟨v,H',I.call (h':=hh) (g':=g) (d':=d) (t':=t) (ch:=[]) un hok bare (fun b z=>absurd z (by simp)),r,q⟩
end
def tCall (sp:Sp) (dvs:List V) (E:XK) (t:TA):TE:=fun σ H Q=>t σ H fun vs H1=>sp (vs ++ dvs) H1 Q E
def Binds (K:PySem.W.Frag) (fd:FuncData) (ps:List Str) (ds:List Value):Prop:=
  ∀ (s:Shared) (us:List Value),K.In s.heap→(us ++ ds).length = ps.length→BindsTo s fd ⟨us,[]⟩ (ps.zip (us ++ ds))
theorem Binds.all {K:PySem.W.Frag} {fd:FuncData} {ps:List Str} (h:∀ us:List Value,us.length = ps.length→bindArgs fd ⟨us,[]⟩ = pure (ps.zip us)):Binds K fd ps []:=fun s us _ hl=>by
  rw [List.append_nil] at hl ⊢
  exact .of_eq (h us hl)
def Passes (CX:CXT) (X:Cx) (E:XK):Prop:=∀ (pins:List (Addr×Obj)) (σ:St) (H:Hp) (s:Shared) (e:Value) (s':Shared),Inv X pins σ H s→CX X.stack H s E e s'→X.xe e s'
section
variable {X:Cx} {CX:CXT} {k:Nat} {f C:Addr} {fd:FuncData} {ps:List Str} {sp:Sp} {dvs:List V} {ds:List Value} {E:XK} {x m:Str} {p pos apos:Pos} {e o:Expr} {es:List Expr} {ta:TE} {t:TA}
theorem run_fn {pins:List (Addr×Obj)} {σ:St} {H:Hp} {s:Shared} {Q:VK} {us:List Value} {vs:List V} (F:FnOk X.prog X.w X.K X.mg X.base CX k f fd ps sp) (hr:Room k X.A) (hb:Binds X.K fd ps ds) (hd:Vals dvs ds) (hx:Passes CX X E)
    (I:Inv X pins σ H s) (r:Vals vs us) (h:sp (vs ++ dvs) H Q E):wpAny (model X.prog X.w) X.A (call (.ref f) us) (EP X pins σ Q) X.xe s:=by
  have r2:Vals (vs ++ dvs) (us ++ ds):=r.append hd
  have hl:(us ++ ds).length = ps.length:=by rw [← r2.length]; exact F.len _ _ _ _ h
  refine wpAny_call (codeAny_mono (F.run X.A X.stack s H ⟨us,[]⟩ (us ++ ds) (vs ++ dvs) Q E hr I.env0 (hb s us I.kIn hl) r2 h) fun r s' hq=>?_)
  cases r with
  | error e=>exact hx pins σ H s e s' I hq
  | ok fl=>
    cases fl with
    | ret u=>exact I.after hq
    | next=>exact False.elim hq
    | brk=>exact False.elim hq
    | cont=>exact False.elim hq
theorem pe_call (F:FnOk X.prog X.w X.K X.mg X.base CX k f fd ps sp) (hr:Room k X.A) (hg:Gl X x) (hm:X.mg x = some (.ref f)) (hk:PySem.W.keepIn X.K (.ref f) = true) (hb:Binds X.K fd ps ds) (hd:Vals dvs ds) (hx:Passes CX X E)
    (ha:PA X (e :: es) t) (hdb:(x == ("__debug__":Str)) = false:=by decide) (he:starEach (e :: es) X.env = (false,eval e X.env) :: starEach es X.env:=by rfl) (hpl:(backTo pos (starEach es X.env)).any (·.1) = false:=by rfl) :
    PE X (.Call (.Name x p) (e :: es) [] pos) (tCall sp dvs E t):=by
  intro pins s σ H Q I h
  refine wpAny_Call_Name_kw (ld_glob I hg hm ?_ hdb)
  refine PySem.W.callWith_K (h₀:=X.base) I.ok.mod.kin hk (thn (ha pos pins s σ H _ I h) fun us s1 ⟨vs,H1,I1,r,q⟩=>⟨I1.kIn,?_⟩) he hpl
  exact run_fn F hr hb hd hx I1 r q
structure Mk (K:PySem.W.Frag) (C f:Addr):Prop where
  makes:PySem.W.makesIn K C = true
  init:PySem.W.findIn K (.ref C) "__init__" = some (some (.ref f))
  fn:PySem.W.isFn K (.ref f) = true
  kp:PySem.W.keepIn K (.ref C) = true
end
section
variable {X:Cx} {CX:CXT} {k:Nat} {f C:Addr} {fd:FuncData} {ps ks:List Str} {sp:Sp} {E:XK} {x m:Str} {p pos apos kpos:Pos} {e o:Expr} {es:List Expr} {kws:List Keyword} {te ta:TE} {t tk:TA} {nm:Option Str}
structure KBinds (K:PySem.W.Frag) (fd:FuncData) (ps ks:List Str) (g:List Value→List Value→List Value) (gV:List V→List V→List V):Prop where
  to:∀ (s:Shared) (us ws:List Value),K.In s.heap→(g us ws).length = ps.length→BindsTo s fd ⟨us,ks.zip ws⟩ (ps.zip (g us ws))
  rel:∀ {vs:List V} {us:List Value} {zs:List V} {ws:List Value},Vals vs us→Vals zs ws→Vals (gV vs zs) (g us ws)
variable {g:List Value→List Value→List Value} {gV:List V→List V→List V}
end
structure FnScope (N P:List Str) (sc:Scope):Prop where
  kind:sc.kind = .function
  co:sc.isCoroutine = false
  gen:sc.isGenerator = false
  nd:N.Nodup
  pre:N.take P.length = P
  par:∀ x∈P,sc.names.lookup x = some .local∨sc.names.lookup x = some .cell
  nofree:∀ y∈sc.names,y.2≠.free
theorem bindL_out {kindOf:Str→Option NameKind} {x:Str}:∀ {binds:List (Str×Value)} {m:Str→Option Value},(∀ v,(x,v) ∉ binds)→bindL kindOf binds m x = m x
  | [],_,_=>rfl
  | (n,v) :: r,m,h=>by
    unfold bindL
    rw [bindL_out fun w hw=>h w (List.mem_cons_of_mem _ hw)]
    split
    · have:x≠n:=by rintro rfl; exact h v List.mem_cons_self
      simp [this]
    · rfl
theorem bindC_out {kindOf:Str→Option NameKind} {x:Str}:∀ {binds:List (Str×Value)} {m:Str→Option Value},(∀ v,(x,v) ∉ binds)→bindC kindOf binds m x = m x
  | [],_,_=>rfl
  | (n,v) :: r,m,h=>by
    unfold bindC
    rw [bindC_out fun w hw=>h w (List.mem_cons_of_mem _ hw)]
    split
    · rfl
    · have:x≠n:=by rintro rfl; exact h v List.mem_cons_self
      simp [this]
theorem bindL_get {kindOf:Str→Option NameKind} {x:Str} {v:Value}:∀ {P:List Str} {vs:List Value} {i:Nat} {m:Str→Option Value},P.Nodup→P[i]? = some x→vs[i]? = some v→kindOf x = some .local→
    bindL kindOf (P.zip vs) m x = some v
  | [],_,_,_,_,h,_,_=>by simp at h
  | _ :: _,[],_,_,_,_,h,_=>by simp at h
  | p :: P,w :: vs,0,m,nd,h1,h2,hk=>by
    simp at h1 h2; subst h1; subst h2
    show bindL kindOf ((p,w) :: P.zip vs) m p = _
    unfold bindL
    rw [bindL_out fun v hv=>(List.nodup_cons.mp nd).1 (List.of_mem_zip hv).1,if_pos hk]
    simp
  | p :: P,w :: vs,i + 1,m,nd,h1,h2,hk=>by
    show bindL kindOf ((p,w) :: P.zip vs) m x = _
    unfold bindL
    exact bindL_get (i:=i) (List.nodup_cons.mp nd).2 (by simpa using h1) (by simpa using h2) hk
theorem bindC_get {kindOf:Str→Option NameKind} {x:Str} {v:Value}:∀ {P:List Str} {vs:List Value} {i:Nat} {m:Str→Option Value},P.Nodup→P[i]? = some x→vs[i]? = some v→kindOf x≠some .local→
    bindC kindOf (P.zip vs) m x = some v
  | [],_,_,_,_,h,_,_=>by simp at h
  | _ :: _,[],_,_,_,_,h,_=>by simp at h
  | p :: P,w :: vs,0,m,nd,h1,h2,hk=>by
    simp at h1 h2; subst h1; subst h2
    show bindC kindOf ((p,w) :: P.zip vs) m p = _
    unfold bindC
    rw [bindC_out fun v hv=>(List.nodup_cons.mp nd).1 (List.of_mem_zip hv).1,if_neg hk]
    simp
  | p :: P,w :: vs,i + 1,m,nd,h1,h2,hk=>by
    show bindC kindOf ((p,w) :: P.zip vs) m x = _
    unfold bindC
    exact bindC_get (i:=i) (List.nodup_cons.mp nd).2 (by simpa using h1) (by simpa using h2) hk
def start (N:List Str) (vs:List V):St:=vs.map some ++ List.replicate (N.length - vs.length) none
def cxOf (CX:CXT) (P:Program) (w:World) (K:PySem.W.Frag) (mg:Str→Option Value) (base:Heap) (N:List Str) (qual:Str) (scope:Scope) (f:Addr) (cd:Value) (A:Around) (outer:List Env) (s:Shared) (H:Hp) (E:XK):Cx where
  prog:=P
  w:=w
  K:=K
  mg:=mg
  base:=base
  A:=A.deeper (envOfC qual scope s.heap.objs.size f cd)
  N:=N
  s₀:=s
  H₀:=H
  env:=envOfC qual scope s.heap.objs.size f cd
  outer:=outer
  stack:=envOfC qual scope s.heap.objs.size f cd :: outer
  ex:=[]
  calm:=true
  fn:=fun _=>true
  pn:=[]
  xe:=fun e s'=>wpAny (model P w) (A.deeper (envOfC qual scope s.heap.objs.size f cd)) (leaving (envOfC qual scope s.heap.objs.size f cd) e) (fun _ s''=>CX outer H s E e s'') (fun e' s''=>CX outer H s E e' s'') s'
theorem cell_has {sc:Scope} {n:Nat} {x:Str} (h:sc.names.lookup x = some .cell):∃ c,(cellsFrom n sc.names []).lookup x = some c:=by
  have q:=PySem.W.cellsFrom_some sc.names n [] (.inl h)
  exact Option.isSome_iff_exists.mp q
theorem inv_start {CX:CXT} {P:Program} {w:World} {K:PySem.W.Frag} {mg:Str→Option Value} {base:Heap} {N ps:List Str} {qual:Str} {scope:Scope} {f:Addr} {cd:Value} {A:Around} {outer:List Env} {s s1:Shared} {H:Hp} {E:XK} {us:List Value} {vs:List V}
    (S:FnScope N ps scope) (hd:A.handled = none) (e0:Env0 P w K mg base A outer s H) (hl:vs.length = ps.length) (r:Vals vs us)
    (x:InCallC s s.heap.objs.size (bindL (envOfC qual scope s.heap.objs.size f cd).kindOf (ps.zip us) fun _=>none) (cellsFrom (s.heap.objs.size + 1) scope.names []) (bindC (envOfC qual scope s.heap.objs.size f cd).kindOf (ps.zip us) fun _=>none) s1) :
    Inv (cxOf CX P w K mg base N qual scope f cd A outer s H E) [] (start N vs) H s1:=by
  have hpl:ps.length≤N.length:=by have:=congrArg List.length S.pre; rw [List.length_take] at this; omega
  obtain ⟨h1,tk,rfl,hk⟩:=x.done
  have noA:∀ b:Addr,b ∉ (cxOf CX P w K mg base N qual scope f cd A outer s H E).ex:=fun b z=>absurd (show b∈([]:List Addr) from z) (by simp)
  refine ⟨⟨e0.mod,S.kind,rfl,rfl,Nat.le_refl _,fun y z c h1 h2=>?_,fun y hy=>?_,fun y c _ h=>?_,fun _=>hd,Around.frames_deeper e0.frames,.inr ⟨rfl,rfl⟩,fun b z=>absurd z (noA b),e0.bs,e0.bsz,fun b _ _=>noA b,fun b z=>absurd z (noA b),e0.funs,e0.frf⟩,
    rfl,e0.bare,Un.kept hk,⟨_,x.toInCall.ns,fun i y v h1 h2 h3=>?_⟩,fun y c h=>⟨_,x.cell y c h⟩,e0.hok.fresh (Nat.le_refl _),fun y c h=>?_,fun p hp=>absurd (show p∈([]:List (Addr×Obj)) from hp) (by simp),e0.hok.kept hk,?_⟩
  · exact name_of_addr x.apart (PySem.mem_of_lookup h1) (PySem.mem_of_lookup h2)
  · have hy:scope.names.lookup y = some .cell∨scope.names.lookup y = some .free:=hy
    rcases hy with hy | hy
    · exact cell_has hy
    · exact absurd rfl (S.nofree _ (PySem.mem_of_lookup hy))
  · exact Nat.le_of_lt (x.above y c (PySem.mem_of_lookup h))
  · have hi:i < vs.length:=by
      unfold start at h2
      by_cases hi:i < vs.length
      · exact hi
      · rw [List.getElem?_append_right (by simpa using hi)] at h2
        rw [List.getElem?_replicate] at h2
        split at h2 <;> cases h2
    have ha:vs[i]? = some v:=by
      unfold start at h2
      rw [List.getElem?_append_left (by simpa using hi),List.getElem?_map] at h2
      cases e:vs[i]? with
      | none=>rw [e] at h2; cases h2
      | some a=>rw [e] at h2; cases h2; rfl
    obtain ⟨u,hu,rv⟩:=r.get ha
    have hp:ps[i]? = some y:=by
      rw [← S.pre,List.getElem?_take_of_lt (by omega)]; exact h1
    have ndP:ps.Nodup:=by rw [← S.pre]; exact S.nd.sublist (List.take_sublist _ _)
    refine ⟨u,rv,?_⟩
    rcases S.par y (List.mem_of_getElem? hp) with k | k
    · exact .inl ⟨k,bindL_get ndP hp hu k⟩
    · obtain ⟨c,e⟩:=cell_has (n:=s.heap.objs.size + 1) k
      refine .inr ⟨.inl k,c,e,?_⟩
      have q:=x.cell y c e
      rw [bindC_get ndP hp hu (by show scope.names.lookup y≠_; rw [k]; decide)] at q
      exact q
  · exact e0.hok.fresh (Nat.le_of_lt (x.above y c (PySem.mem_of_lookup h)))
  · unfold start
    show _ = N.length
    rw [List.length_append,List.length_map,List.length_replicate]
    omega
theorem fn_of {CX:CXT} {P:Program} {w:World} {K:PySem.W.Frag} {mg:Str→Option Value} {base:Heap} {k:Nat} {f:Addr} {name qual:Str} {params:Arguments} {body:List Stmt} {scope:Scope} {dV kV doc pm cdv ct oc:Value} {an od:Option Addr}
    {osl:Array (Option Value)} {N ps:List Str} {sp:Sp} (lk:K.lookup f = some ⟨oc,od,.func (PySem.W.fnOf name qual params body scope dV kV doc pm an cdv ct),osl⟩) (hcd:PySem.W.codeIn K cdv qual = true) (S:FnScope N ps scope)
    (len:∀ vs H Q E,sp vs H Q E→vs.length = ps.length)
    (hbody:∀ (A:Around) (outer:List Env) (s:Shared) (H:Hp) (vs:List V) (Q:VK) (E:XK),Room k (A.deeper (envOfC qual scope s.heap.objs.size f cdv))→sp vs H Q E→
      ∃ t,PSs (cxOf CX P w K mg base N qual scope f cdv A outer s H E) body t∧t { nx:=fun _ H'=>Q .non H',rt:=Q } (start N vs) H) :
    FnOk P w K mg base CX (k + 1) f (PySem.W.fnOf name qual params body scope dV kV doc pm an cdv ct) ps sp:=by
  refine ⟨len,fun A outer s H args us vs Q E hr e0 hb r hsp=>?_⟩
  have hl:=len _ _ _ _ hsp
  have KX:K.In s.heap:=e0.mod.kin.keeps fun b o e=>(e0.bs b o e).1
  have lim:s.heap.NoLimit:=e0.mod.nolimit.keeps fun b o e=>(e0.bs b o e).1
  have hkind:∀ y∈ps.zip us,scope.names.lookup y.1 = some .local∨(scope.names.lookup y.1 = some .cell∧((cellsFrom (s.heap.objs.size + 1) scope.names []).lookup y.1).isSome = true):=fun ⟨n,v⟩ hy=>by
    rcases S.par n (List.of_mem_zip hy).1 with q | q
    · exact .inl q
    · exact .inr ⟨q,PySem.W.cellsFrom_some _ _ _ (.inl q)⟩
  refine codeAny_call_function hr.depth (KX _ _ lk) rfl S.co S.gen rfl (PySem.W.codeRec_of KX hcd) (hb _ _ _ _ ?_)
  refine wpAny_newFunctionEnv_cells S.kind hkind fun env he s1 x=>?_
  subst he
  refine ⟨lim.keeps x.toInCall.keep,codeAny_func ?_⟩
  obtain ⟨t,ht,hq⟩:=hbody A outer s H vs Q E (hr.deeper _) hsp
  have I:Inv (cxOf CX P w K mg base N qual scope f cdv A outer s H E) [] (start N vs) H s1:=inv_start S hr.hd e0 hl r x
  refine wpAny_mono (ht [] s1 (start N vs) H _ I hq) (fun fl s' hs=>?_) fun e s' hs=>hs
  have fin:∀ {σ':St} {H':Hp} {v:V} {u:Value},Inv (cxOf CX P w K mg base N qual scope f cdv A outer s H E) [] σ' H' s'→RelV v u→Q v H'→CE outer P w H s Q u s':=
    fun {σ' H' v u} J rv q=>⟨v,H',J.os,J.bare,J.base,J.hok,rv,q⟩
  cases fl with
  | ret u=>
    obtain ⟨v,σ',H',J,rv,q⟩:=hs
    exact fin J rv q
  | next=>
    obtain ⟨σ',H',J,q⟩:=hs
    exact fin (v:=V.non) (u:=Value.none) J rfl q
  | brk=>
    obtain ⟨_,_,_,q⟩:=hs
    exact False.elim q
  | cont=>
    obtain ⟨_,_,_,q⟩:=hs
    exact False.elim q
end L2
namespace L2
open PySem PySem.Spec PyProof.Rows
section
variable {X:Cx} {x:Str} {p pos:Pos} {e:Expr} {es:List Expr} {t:TA} {id T:String} {r:List V→Hp→VK→Prop}
def tCB (r:List V→Hp→VK→Prop) (t:TA):TE:=fun σ H Q=>t σ H fun vs H1=>r vs H1 Q
theorem pe_callB (hc:CallR X (.builtin id) r) (hg:Gl X x) (hm:X.mg x = none) (hv:bootBuiltins x = some (.builtin id)) (ha:PA X (e :: es) t) (hn:x≠"__name__":=by decide) (hdb:(x == ("__debug__":Str)) = false:=by decide)
    (he:starEach (e :: es) X.env = (false,eval e X.env) :: starEach es X.env:=by rfl) (hpl:(backTo pos (starEach es X.env)).any (·.1) = false:=by rfl):PE X (.Call (.Name x p) (e :: es) [] pos) (tCB r t):=by
  intro pins s σ H Q I h
  refine wpAny_Call_Name_kw (ld_blt I hg hm hv ?_ hn hdb)
  exact PyProof.Rows.callWith_builtin1 (thn (ha pos pins s σ H _ I h) fun us s1 ⟨vs,H1,I1,r1,q1⟩=>hc pins s1 σ H1 vs us Q I1 r1 q1) he hpl
theorem pe_callTy (hc:CallR X (.type T) r) (hg:Gl X x) (hm:X.mg x = none) (hv:bootBuiltins x = some (.type T)) (ha:PA X (e :: es) t) (hn:x≠"__name__":=by decide) (hdb:(x == ("__debug__":Str)) = false:=by decide)
    (he:starEach (e :: es) X.env = (false,eval e X.env) :: starEach es X.env:=by rfl) (hpl:(backTo pos (starEach es X.env)).any (·.1) = false:=by rfl):PE X (.Call (.Name x p) (e :: es) [] pos) (tCB r t):=by
  intro pins s σ H Q I h
  refine wpAny_Call_Name_kw (ld_blt I hg hm hv ?_ hn hdb)
  exact PyProof.Rows.callWith_type1 (thn (ha pos pins s σ H _ I h) fun us s1 ⟨vs,H1,I1,r1,q1⟩=>hc pins s1 σ H1 vs us Q I1 r1 q1) he hpl
end
end L2
namespace HT
open PySem PyProof.Rows
section
open PySem.SeqAt
open PySem.AutoSeq1 (wpAny_loadPart')
open PySem.MeetsSeq PySem.MeetsSeq2 PySem.MeetsSeq3
end
section
variable {prog:Program} {w:World} {A:Around} {E:Value→Shared→Prop} {s:Shared}
theorem cat_tup {t b:Addr} {vs ws:List Value} {Q:Value→Shared→Prop} (ht:IsTup s.heap t vs.toArray) (hb:IsTup s.heap b ws.toArray) (hv:vs≠[])
    (h1:ws = []→Q (.ref t) s) (h2:ws≠[]→Q (.ref s.heap.objs.size) { s with heap:=s.heap.push { cls:=.type "tuple",data:=.seq (vs ++ ws).toArray } })
    (hsz:vs.length + ws.length≤sizeLine):wpAny (model prog w) A (binaryOp .Add (.ref t) (.ref b)) Q E s:=by
  obtain ⟨⟨cls,dd,data,sl⟩,ho,hc,n,hd⟩:=id ht
  obtain ⟨⟨cls2,dd2,data2,sl2⟩,ho2,hc2,n2,hd2⟩:=id hb
  simp only at hc hd hc2 hd2
  subst hc hd hc2 hd2
  have e:vs.toArray ++ ws.toArray = (vs ++ ws).toArray:=by simp
  by_cases hw:ws = []
  · exact concat_meets ⟨_,ho,rfl⟩ ⟨_,ho2,rfl⟩ noFill_tuple_add seq_tuple_add PySem.F.slot_tuple_add PySem.F.entry_tuple_add (PySem.F.args_tuple_add_2 _ _)
      (tuple_addW1 t b vs.toArray ws.toArray n n2 dd dd2 sl sl2 (by simpa using hv) (by simp [hw])) ⟨ho,ho2,h1 hw⟩
  · refine concat_meets ⟨_,ho,rfl⟩ ⟨_,ho2,rfl⟩ noFill_tuple_add seq_tuple_add PySem.F.slot_tuple_add PySem.F.entry_tuple_add (PySem.F.args_tuple_add_2 _ _)
      (tuple_addW2 t b vs.toArray ws.toArray n n2 dd dd2 sl sl2 (by simpa using hv) (by simpa using hw) (by rw [List.size_toArray,List.size_toArray]; exact hsz)) ⟨ho,ho2,?_⟩
    rw [e]
    exact h2 hw
def sIx (n d:Nat):Option Int→Nat
  | none=>d
  | some v=>if v < 0 then (v + (n:Int)).toNat else min v.toNat n
theorem sIx_none (n d:Nat):sIx n d none = d:=rfl
theorem sIx_nat (n d k:Nat):sIx n d (some (k:Int)) = min k n:=by
  show (if (k:Int) < 0 then ((k:Int) + (n:Int)).toNat else min (k:Int).toNat n) = min k n
  rw [if_neg (by omega),Int.toNat_natCast]
theorem sIx_le (n d:Nat) (hd:d≤n) (o:Option Int):sIx n d o≤n:=by
  cases o with
  | none=>exact hd
  | some v=>
    show (if v < 0 then (v + (n:Int)).toNat else min v.toNat n)≤n
    by_cases hv:v < 0
    · rw [if_pos hv]; omega
    · rw [if_neg hv]; exact Nat.min_le_right _ _
theorem clip_eq (v:Int) (n d:Nat):(if v < 0 then max (v + (n:Int)) 0 else min v (n:Int)) = ((sIx n d (some v):Nat):Int):=by
  show (if v < 0 then max (v + (n:Int)) 0 else min v (n:Int)) = (((if v < 0 then (v + (n:Int)).toNat else min v.toNat n):Nat):Int)
  by_cases hv:v < 0
  · simp only [if_pos hv]; omega
  · simp only [if_neg hv]; omega
theorem adjust_gen (lo hi:Option Int) (n:Nat):Builtin.Slice.sliceAdjust lo hi 1 (n:Int) = (((sIx n 0 lo:Nat):Int),((sIx n n hi:Nat):Int)):=by
  have h1:¬ ((1:Int) < 0):=by omega
  unfold Builtin.Slice.sliceAdjust
  simp only [h1,if_false]
  refine Prod.ext ?_ ?_
  · cases lo with
    | none=>rfl
    | some v=>exact clip_eq v n 0
  · cases hi with
    | none=>rfl
    | some v=>exact clip_eq v n n
theorem places_gen (i j:Nat):Builtin.Slice.slicePlaces (i:Int) (j:Int) 1 = j - i:=by
  unfold Builtin.Slice.slicePlaces
  have h1:(1:Int) > 0:=by omega
  simp only [h1,if_true,Int.ediv_one]
  split <;> omega
theorem slicePart_ {v:Value} {o:Option Int} {Q:Option Int→Shared→Prop} (p:IsPart v o) (h:Q o s):wpAny (model prog w) A (Builtin.Slice.slicePartIndex v) Q E s:=by
  cases p with
  | none=>exact slicePart_none h
  | int i t=>exact slicePart_int h
theorem sliceApplied_gen {sl:Addr} {vl vu:Value} {lo hi:Option Int} {n:Nat} {Q:Int×Int×Nat→Shared→Prop} (hs:s.heap.IsSliceOf sl vl vu .none) (pl:IsPart vl lo) (pu:IsPart vu hi)
    (h:Q (((sIx n 0 lo:Nat):Int),1,sIx n n hi - sIx n 0 lo) s):wpAny (model prog w) A (Builtin.Slice.sliceApplied (.ref sl) (pure (n:Int))) Q E s:=by
  obtain ⟨os,hos,hcs,hds⟩:=id hs
  unfold Builtin.Slice.sliceApplied Builtin.Slice.sliceFields
  refine wpAny_bind (wpAny_bind (wpAny_field hos hds (x:=vl) rfl (wpAny_bind (wpAny_field hos hds (x:=vu) rfl (wpAny_bind (wpAny_field hos hds (x:=.none) rfl (wpAny_pure ?_)))))))
  refine wpAny_bind (slicePart_none ?_)
  show wpAny _ _ (if ((1:Int) == 0) = true then _ else _) _ _ s
  rw [if_neg (by decide)]
  refine wpAny_bind (slicePart_ pl (wpAny_bind (slicePart_ pu (wpAny_bind (wpAny_pure ?_)))))
  show wpAny _ _ (match Builtin.Slice.sliceAdjust lo hi 1 (n:Int) with | (lo,hi)=>pure (lo,(1:Int),Builtin.Slice.slicePlaces lo hi 1)) _ _ s
  rw [adjust_gen lo hi n]
  show wpAny _ _ (pure (((sIx n 0 lo:Nat):Int),(1:Int),Builtin.Slice.slicePlaces ((sIx n 0 lo:Nat):Int) ((sIx n n hi:Nat):Int) 1)) _ _ s
  rw [places_gen]
  exact wpAny_pure h
theorem pick_gen (xs:Array Value) (i k:Nat):((List.range k).filterMap fun (m:Nat)=>xs[((i:Int) + (m:Int) * 1).toNat]?).toArray = ((xs.toList.drop i).take k).toArray:=by
  have e:(fun (m:Nat)=>xs[((i:Int) + (m:Int) * 1).toNat]?) = fun m=>xs[i + m]?:=by
    funext m
    have:((i:Int) + (m:Int) * 1).toNat = i + m:=by omega
    rw [this]
  rw [e]
  have:=pick_run xs i k
  rw [List.filterMap_map] at this
  have e2:((fun x=>xs[x]?)∘fun x=>i + x) = fun m=>xs[i + m]?:=rfl
  rw [e2] at this
  rw [this]
theorem getItem_tuple_cut {t sl:Addr} {items:Array Value} {vl vu:Value} {lo hi:Option Int} {Q:Value→Shared→Prop} (ht:IsTup s.heap t items) (hs:s.heap.IsSliceOf sl vl vu .none) (pl:IsPart vl lo) (pu:IsPart vu hi)
    (hw:¬ (sIx items.size 0 lo = 0∧sIx items.size items.size hi = items.size))
    (h:Q (.ref s.heap.objs.size) { s with heap:=s.heap.push { cls:=.type "tuple",data:=.seq ((items.toList.drop (sIx items.size 0 lo)).take (sIx items.size items.size hi - sIx items.size 0 lo)).toArray } })
    (hsz:items.size≤sizeLine):wpAny (model prog w) A (getItem (.ref t) (.ref sl)) Q E s:=by
  have htake:sizeOk (.seq ((items.toList.drop (sIx items.size 0 lo)).take (sIx items.size items.size hi - sIx items.size 0 lo)).toArray):=by
    show ((items.toList.drop (sIx items.size 0 lo)).take (sIx items.size items.size hi - sIx items.size 0 lo)).toArray.size≤sizeLine
    rw [List.size_toArray,List.length_take,List.length_drop,Array.length_toList]
    omega
  have hj:sIx items.size items.size hi≤items.size:=sIx_le _ _ (Nat.le_refl _) hi
  obtain ⟨os,hos,hcs,hds⟩:=id hs
  have hTs:s.TypeIs (.ref sl) "slice":=⟨os,hos,hcs⟩
  unfold getItem
  try with_reducible refine wpAny_holding ?_
  first | refine wpAny_bind (wpAny_pure ?_) | skip
  refine wpAny_bind (wpAny_sequenceKey ht.typeIs (by decide) ?_)
  refine wpAny_bind (wpAny_callSpecial?_slot (name:=Str.ofString "__getitem__") ht.typeIs PyProof.Rows.slot_tuple_getitem
    (wpAny_call_entry PyProof.Rows.slot_tuple_getitem ht.typeIs entry_tuple_getitem ?_ (args_tuple_getitem _ _)))
  show wpAny _ _ (Builtin.Tuple.tupleItemsOf (.ref t) >>= _) _ _ s
  refine wpAny_bind (tupleItemsOf_ ht ?_)
  refine wpAny_bind (wpAny_typeOf hTs ?_)
  rw [if_pos (by decide)]
  refine wpAny_bind (sliceApplied_gen hs pl pu ?_)
  have hno:¬ ((((sIx items.size 0 lo:Nat):Int) == 0 && (1:Int) == 1 && (sIx items.size items.size hi - sIx items.size 0 lo) == items.size) = true):=by
    intro q
    rw [Bool.and_eq_true,Bool.and_eq_true] at q
    have q1:((sIx items.size 0 lo:Nat):Int) = 0:=eq_of_beq q.1.1
    have q2:sIx items.size items.size hi - sIx items.size 0 lo = items.size:=eq_of_beq q.2
    exact hw ⟨by omega,by omega⟩
  show wpAny _ _ (if (((sIx items.size 0 lo:Nat):Int) == 0 && (1:Int) == 1 && (sIx items.size items.size hi - sIx items.size 0 lo) == items.size) = true then _ else _) _ _ s
  rw [if_neg hno,pick_gen]
  first
    | exact wpAny_bind (m:=Builtin.Tuple.tupleExact _) (wpAny_newObj_type (wpAny_pure ⟨_,rfl,wpAny_pure h⟩) htake)
    | exact wpAny_bind (m:=Builtin.Tuple.tupleExact _) (wpAny_newObj_type (wpAny_bind (wpAny_pure (wpAny_pure ⟨_,rfl,wpAny_pure h⟩))) htake)
    | exact wpAny_bind (wpAny_bind (m:=Builtin.Tuple.tupleExact _) (wpAny_newObj_type (wpAny_pure (wpAny_pure ⟨_,rfl,wpAny_pure h⟩)) htake))
    | exact wpAny_bind (wpAny_bind (m:=Builtin.Tuple.tupleExact _) (wpAny_newObj_type (wpAny_pure ⟨_,rfl,wpAny_pure h⟩) htake))
end
end HT
namespace L2
open PySem PySem.Spec PyProof.Rows
abbrev TO:=St→Hp→(Option Int→Hp→Prop)→Prop
def PO (X:Cx) (e:Option Expr) (t:TO):Prop:=
  ∀ (pins:List (Addr×Obj)) (s:Shared) (σ:St) (H:Hp) (Q:Option Int→Hp→Prop),Inv X pins σ H s→t σ H Q→
    wpAny (model X.prog X.w) X.A (evalPart e X.env) (fun u s'=>∃ o H',Inv X pins σ H' s'∧IsPart u o∧Q o H') X.xe s
def tNoPart:TO:=fun _ H Q=>Q none H
def tPart (t:TE):TO:=fun σ H Q=>t σ H fun x H1=>∃ i,x = .int i∧Q (some i) H1
theorem intsAre_of {ns:List Int}:∀ {us:List Value},Vals (ns.map V.int) us→IntsAre us ns:=by
  induction ns with
  | nil=>intro us r; rw [List.map_nil] at r; cases r; exact .nil
  | cons n ns ih=>
    intro us r
    rw [List.map_cons] at r
    cases r with
    | cons r1 r2=>
      obtain ⟨t,e⟩:=r1
      subst e
      exact .cons n t (ih r2)
section
variable {X:Cx} {e:Expr} {te:TE} {lo hi:Option Expr} {tl th:TO} {pos p2:Pos}
theorem po_none:PO X none tNoPart:=by
  intro pins s σ H Q I h
  rw [evalPart_none]
  exact wpAny_pure ⟨none,H,I,.none,h⟩
theorem po_some (h:PE X e te):PO X (some e) (tPart te):=by
  intro pins s σ H Q I hw
  rw [evalPart_some]
  refine thn (h pins s σ H _ I hw) fun u s1 ⟨x,H1,I1,r1,q1⟩=>?_
  obtain ⟨i,rfl,q⟩:=q1
  obtain ⟨t,rfl⟩:=r1
  exact ⟨some i,H1,I1,.int i t,q⟩
def SlR (X:Cx) (r:V→Option Int→Option Int→Hp→VK→Prop):Prop:=
  ∀ (pins:List (Addr×Obj)) (s:Shared) (σ:St) (H:Hp) (x:V) (v vl vu:Value) (lo hi:Option Int) (sl:Addr) (Q:VK),Inv X pins σ H s→RelV x v→s.heap.IsSliceOf sl vl vu .none→IsPart vl lo→IsPart vu hi→r x lo hi H Q→
    ∃ T id,typeLookup (.type T) "__getitem__" = pure (some (.builtin id))∧s.TypeIs v T∧wpAny (model X.prog X.w) X.A (getItem v (.ref sl)) (EP X pins σ Q) X.xe s
def tSl (r:V→Option Int→Option Int→Hp→VK→Prop) (te:TE) (tl th:TO):TE:=fun σ H Q=>te σ H fun x H1=>tl σ H1 fun l H2=>th σ H2 fun u H3=>r x l u H3 Q
theorem pe_slice {r:V→Option Int→Option Int→Hp→VK→Prop} (hr:SlR X r) (he:PE X e te) (hl:PO X lo tl) (hu:PO X hi th):PE X (.Subscript e (.Slice lo hi none p2) pos) (tSl r te tl th):=by
  intro pins s σ H Q I h
  refine Subscript_ (thn (he pins s σ H _ I h) fun v s1 ⟨x,H1,I1,r1,q1⟩=>?_)
  refine wpAny_Slice (thn (hl pins s1 σ H1 _ I1 q1) fun vl s2 ⟨l,H2,I2,pl,q2⟩=>thn (hu pins s2 σ H2 _ I2 q2) fun vu s3 ⟨u,H3,I3,pu,q3⟩=>?_)
  rw [evalPart_none]
  refine wpAny_pure ?_
  have I4:Inv X pins σ H3 { s3 with heap:=s3.heap.push { cls:=.type "slice",data:=.fields #[vl,vu,.none] } }:=I3.kept (t':=s3.toks) fun b ob q=>Heap.get?_push_of_some _ q
  obtain ⟨T,id,hT,ht,hg⟩:=hr pins { s3 with heap:=s3.heap.push { cls:=.type "slice",data:=.fields #[vl,vu,.none] } } σ H3 x v vl vu l u s3.heap.objs.size Q I4 r1 (Heap.IsSliceOf.new ..) pl pu q3
  show wpAny (model X.prog X.w) X.A (subscriptTail e (.Slice lo hi none p2) v (.ref s3.heap.objs.size)) (EP X pins σ Q) X.xe { s3 with heap:=s3.heap.push { cls:=.type "slice",data:=.fields #[vl,vu,.none] } }
  exact tail_any (ops:=[.ref s3.heap.objs.size,v]) ht hT hg (by with_unfolding_all rfl)
def cutV (xs:List V) (lo hi:Option Int):List V:=(xs.drop (HT.sIx xs.length 0 lo)).take (HT.sIx xs.length xs.length hi - HT.sIx xs.length 0 lo)
theorem cutV_length (xs:List V) (lo hi:Option Int):(cutV xs lo hi).length≤xs.length:=by
  unfold cutV
  rw [List.length_take,List.length_drop]
  omega
def rSlT (K:PySem.W.Frag):V→Option Int→Option Int→Hp→VK→Prop:=fun x lo hi H Q=>∃ a xs,x = .ref a∧SqT K H a xs∧
  ¬ (HT.sIx xs.length 0 lo = 0∧HT.sIx xs.length xs.length hi = xs.length)∧∀ p,H p = none→Q (.ref p) (upd H p (.tup (cutV xs lo hi)))
theorem sl_tup:SlR X (rSlT X.K):=by
  intro pins s σ H x v vl vu lo hi sl Q I rx hs pl pu h
  obtain ⟨a,xs,rfl,hx,hw,q⟩:=h
  cases rx
  obtain ⟨its,r,ht,hz⟩:=I.tuple hx
  have hlen:its.toArray.size = xs.length:=by rw [List.size_toArray]; exact r.length.symm
  refine ⟨"tuple",_,PyProof.Rows.slot_tuple_getitem.lookup,ht.typeIs,?_⟩
  refine HT.getItem_tuple_cut ht hs pl pu (by rw [hlen]; exact hw) ?_ (by rw [hlen]; exact hz)
  rw [hlen]
  refine ⟨.ref s.heap.objs.size,_,I.laid (t':=s.toks) (o:=.tup (cutV xs lo hi)) (fun b ob q=>Heap.get?_push_of_some _ q) (Nat.le_refl _) ?_,rfl,q _ (I.hok.fresh (Nat.le_refl _))⟩
  exact ⟨Nat.le_trans (cutV_length xs lo hi) hz,_,(r.drop (HT.sIx xs.length 0 lo)).take (HT.sIx xs.length xs.length hi - HT.sIx xs.length 0 lo),IsTup.new _ _⟩
def rCatT (K:PySem.W.Frag):R2:=fun x y H Q=>∃ a b xs ys,x = .ref a∧y = .ref b∧SqT K H a xs∧SqT K H b ys∧xs≠[]∧xs.length + ys.length≤sizeLine∧
  (ys = []→Q (.ref a) H)∧(ys≠[]→∀ p,H p = none→Q (.ref p) (upd H p (.tup (xs ++ ys))))
theorem Vals.nil_iff {xs:List V} {us:List Value} (r:Vals xs us):us = []↔xs = []:=by
  cases r with
  | nil=>simp
  | cons _ _=>simp
theorem op_catT:OpR X (binaryOp .Add) (rCatT X.K):=by
  intro pins s σ H x y v u Q I rx ry h
  obtain ⟨a,b,xs,ys,rfl,rfl,ha,hb,hx,hz,q1,q2⟩:=h
  cases rx
  cases ry
  obtain ⟨its,r1,p1,_⟩:=I.tuple ha
  obtain ⟨its2,r2,p2,_⟩:=I.tuple hb
  refine HT.cat_tup p1 p2 (fun z=>hx (r1.nil_iff.mp z)) (fun z=>⟨.ref a,H,I,rfl,q1 (r2.nil_iff.mp z)⟩) (fun z=>?_) (by rw [← r1.length,← r2.length]; exact hz)
  refine ⟨.ref s.heap.objs.size,_,I.laid (t':=s.toks) (o:=.tup (xs ++ ys)) (fun b ob q=>Heap.get?_push_of_some _ q) (Nat.le_refl _) ?_,rfl,q2 (fun w=>z (r2.nil_iff.mpr w)) _ (I.hok.fresh (Nat.le_refl _))⟩
  exact ⟨by rw [List.length_append]; exact hz,_,r1.append r2,IsTup.new _ _⟩
end
end L2
namespace L2
open PySem PySem.Spec PyProof.Rows
def ixN (n:Nat) (i:Int):Option Nat:=if 0≤i then (if i < n then some i.toNat else none) else if -(n:Int)≤i then some (i + n).toNat else none
def atI {α:Type} (xs:List α) (i:Int):Option α:=(ixN xs.length i).bind fun j=>xs[j]?
theorem ixN_seq {n:Nat} {i:Int} {j:Nat} (h:ixN n i = some j):seqIndex? i n = some j∧j < n∧-(n:Int)≤i∧i < n:=by
  unfold ixN at h
  by_cases h0:0≤i
  · rw [if_pos h0] at h
    by_cases h1:i < n
    · rw [if_pos h1] at h
      have e:i.toNat = j:=Option.some.inj h
      exact ⟨by rw [seqIndex_of h0 h1,e],by omega,by omega,h1⟩
    · rw [if_neg h1] at h; cases h
  · rw [if_neg h0] at h
    by_cases h1:-(n:Int)≤i
    · rw [if_pos h1] at h
      have e:(i + n).toNat = j:=Option.some.inj h
      exact ⟨by rw [seqIndex_neg (by omega) h1,e],by omega,h1,by omega⟩
    · rw [if_neg h1] at h; cases h
theorem atI_get {α:Type} {xs:List α} {i:Int} {v:α} (h:atI xs i = some v):∃ j,seqIndex? i xs.length = some j∧xs[j]? = some v∧j < xs.length∧-(xs.length:Int)≤i∧i < xs.length:=by
  unfold atI at h
  cases e:ixN xs.length i with
  | none=>rw [e] at h; cases h
  | some j=>
    rw [e] at h
    obtain ⟨h1,h2,h3,h4⟩:=ixN_seq e
    exact ⟨j,h1,h,h2,h3,h4⟩
theorem atI_nat {α:Type} {xs:List α} {j:Nat} {v:α} (h:xs[j]? = some v):atI xs (j:Int) = some v:=by
  have hj:j < xs.length:=(List.getElem?_eq_some_iff.mp h).1
  have e:ixN xs.length (j:Int) = some j:=by
    unfold ixN
    rw [if_pos (by omega),if_pos (by omega)]; simp
  unfold atI; rw [e]; exact h
def PlainIx (b:Expr):Prop:=∀ o i,subscripted b false o i = operate [o,i] (getItem o i)
def IxR (X:Cx) (r:R2):Prop:=
  ∀ (value slice:Expr) (pins:List (Addr×Obj)) (s:Shared) (σ:St) (H:Hp) (x y:V) (v u:Value) (Q:VK),Inv X pins σ H s→RelV x v→RelV y u→r x y H Q→
    subscripted slice false v u = operate [v,u] (getItem v u)→wpAny (model X.prog X.w) X.A (subscriptTail value slice v u) (EP X pins σ Q) X.xe s
def MtR (X:Cx) (id:String) (r:V→List V→Hp→VK→Prop):Prop:=
  ∀ (pins:List (Addr×Obj)) (s:Shared) (σ:St) (H:Hp) (x:V) (xs:List V) (v:Value) (us:List Value) (Q:VK),Inv X pins σ H s→RelV x v→Vals xs us→r x xs H Q→
    wpAny (model X.prog X.w) X.A (call (.builtin id) (v :: us)) (EP X pins σ Q) X.xe s
section
variable {X:Cx} {a b:Expr} {ta tb:TE} {pos:Pos}
theorem pe_ix {r:R2} (hr:IxR X r) (ha:PE X a ta) (hb:PE X b tb) (hs:PlainIx b):PE X (.Subscript a b pos) (tOp r ta tb):=by
  intro pins s σ H Q I h
  exact Subscript_ (binT ha hb I h fun v u s2 x y H2 I2 rx ry q=>hr a b pins s2 σ H2 x y v u Q I2 rx ry q (hs _ _))
def rIxL (K:PySem.W.Frag):R2:=fun x y H Q=>∃ p xs i v,x = .ref p∧y = .int i∧SqL K H p xs∧atI xs i = some v∧Q v H
def rIxT (K:PySem.W.Frag):R2:=fun x y H Q=>∃ p xs i v,x = .ref p∧y = .int i∧SqT K H p xs∧atI xs i = some v∧Q v H
def rIxS:R2:=fun x y H Q=>∃ z i c,x = .str z∧y = .int i∧z.length≤sizeLine∧atI z.cps.toList i = some c∧Q (.str ⟨#[c]⟩) H
theorem ix_list:IxR X (rIxL X.K):=by
  intro value slice pins s σ H x y v u Q I rx ry h hs
  obtain ⟨p,xs,i,z,rfl,rfl,hq,he,q⟩:=h
  cases rx
  obtain ⟨t,rfl⟩:=ry
  obtain ⟨its,r,pl,hz⟩:=I.list hq
  obtain ⟨j,h1,h2,h3,h4,h5⟩:=atI_get he
  obtain ⟨w,ew,rw'⟩:=r.get h2
  have hl:=r.length
  have hn:=line63
  have fin:EP X pins σ Q w s:=⟨z,H,I,rw',q⟩
  by_cases h0:0≤i
  · have hj:i.toNat = j:=by
      rw [seqIndex_of h0 h5] at h1
      exact Option.some.inj h1
    exact item_listR pl.isList h0 (by omega) (by rw [hj]; simpa using ew) fin hs
  · have hj:(i + (its.toArray.size:Int)).toNat = j:=by
      rw [seqIndex_neg (by omega) h4] at h1
      rw [List.size_toArray,← hl]
      exact Option.some.inj h1
    exact subscriptTail_builtinR (x:=w) pl.isList.typeIs slot_list_getitem.lookup
      (wpAny_getItem_list_neg (Q:=fun r s'=>r = w∧EP X pins σ Q r s') pl.isList (by omega) (by rw [List.size_toArray] <;> omega) (by omega) (by rw [hj]; simpa using ew) ⟨rfl,fin⟩) hs
theorem ix_tup:IxR X (rIxT X.K):=by
  intro value slice pins s σ H x y v u Q I rx ry h hs
  obtain ⟨p,xs,i,z,rfl,rfl,hq,he,q⟩:=h
  cases rx
  obtain ⟨t,rfl⟩:=ry
  obtain ⟨its,r,pl,hz⟩:=I.tuple hq
  obtain ⟨j,h1,h2,h3,h4,h5⟩:=atI_get he
  obtain ⟨w,ew,rw'⟩:=r.get h2
  have hl:=r.length
  have hn:=line63
  have fin:EP X pins σ Q w s:=⟨z,H,I,rw',q⟩
  exact subscriptTail_builtinR (x:=w) pl.typeIs slot_tuple_getitem.lookup
    (getItem_tuple (j:=j) (Q:=fun r s'=>r = w∧EP X pins σ Q r s') pl (by omega) (by omega) (by rw [List.size_toArray,← hl]; exact h1) (by simpa using ew) ⟨rfl,fin⟩) hs
theorem ix_str:IxR X rIxS:=by
  intro value slice pins s σ H x y v u Q I rx ry h hs
  obtain ⟨z,i,c,rfl,rfl,hz,he,q⟩:=h
  obtain ⟨t,rfl⟩:=rx
  obtain ⟨t',rfl⟩:=ry
  obtain ⟨j,h1,h2,h3,h4,h5⟩:=atI_get he
  have hl:z.cps.toList.length = z.length:=by simp [Str.length]
  rw [hl] at h1 h4 h5
  have hn:=line63
  exact tail_any (typeIs_str s z t) slot_str_getitem.lookup (getItem_str (c:=c) (by
    have e1:decide (i < -(2 ^ 63:Int)) = false:=decide_eq_false (by omega)
    have e2:decide (i ≥ 2 ^ 63) = false:=decide_eq_false (by omega)
    rw [e1,e2,Bool.or_false]) (by rw [h1]; simpa using h2) ⟨.str ⟨#[c]⟩,H,I.tok _,⟨_,rfl⟩,q⟩) hs
theorem Inv.lst {pins:List (Addr×Obj)} {σ:St} {H:Hp} {s:Shared} {p:Addr} {xs:List V} (I:Inv X pins σ H s) (h:H p = some (.lst xs)) :
    ∃ (its:List Value) (n:Nat),Vals xs its∧s.heap.get? p = some { cls:=.type "list",data:=.seq its.toArray n }∧xs.length≤sizeLine:=by
  obtain ⟨z,its,n,r,e⟩:=I.hok p _ h
  exact ⟨its,n,r,e,z⟩
theorem slice_bounds (lo hi:Option Int) (n:Nat):(sliceBounds lo hi none n).1 = ((HT.sIx n 0 lo:Nat):Int)∧(sliceBounds lo hi none n).2.1 = ((HT.sIx n n hi:Nat):Int)∧(sliceBounds lo hi none n).2.2 = 1:=by
  refine ⟨?_,?_,rfl⟩
  · cases lo with
    | none=>simp [sliceBounds,HT.sIx]
    | some i=>
      simp only [sliceBounds,HT.sIx,Option.getD_none,show (1:Int) > 0 by decide,if_true]
      by_cases h:i < 0
      · simp only [h,if_true] <;> omega
      · simp only [h,if_false] <;> omega
  · cases hi with
    | none=>simp [sliceBounds,HT.sIx]
    | some i=>
      simp only [sliceBounds,HT.sIx,Option.getD_none,show (1:Int) > 0 by decide,if_true]
      by_cases h:i < 0
      · simp only [h,if_true] <;> omega
      · simp only [h,if_false] <;> omega
theorem slicePick_cut (its:List Value) (lo hi:Option Int):slicePick its.toArray lo hi none = ((its.drop (HT.sIx its.length 0 lo)).take (HT.sIx its.length its.length hi - HT.sIx its.length 0 lo)).toArray:=by
  obtain ⟨h1,h2,h3⟩:=slice_bounds lo hi its.toArray.size
  unfold slicePick
  rw [h1,h2,h3]
  simp only [sliceRange_one,pick_run,List.size_toArray] <;> rfl
def rSlL (K:PySem.W.Frag):V→Option Int→Option Int→Hp→VK→Prop:=fun x lo hi H Q=>∃ a xs,x = .ref a∧SqL K H a xs∧∀ p,H p = none→Q (.ref p) (upd H p (.lst (cutV xs lo hi)))
theorem sl_list:SlR X (rSlL X.K):=by
  intro pins s σ H x v vl vu lo hi sl Q I rx hs pl pu h
  obtain ⟨a,xs,rfl,hx,q⟩:=h
  cases rx
  obtain ⟨its,r,ht,hz⟩:=I.list hx
  have hlen:=r.length
  refine ⟨"list",_,slot_list_getitem.lookup,ht.isList.typeIs,?_⟩
  refine wpAny_getItem_list_slice ht.isList hs pl pu .none (by simp) ?_ (by rw [List.size_toArray] <;> omega)
  rw [slicePick_cut,← hlen]
  refine ⟨.ref s.heap.objs.size,_,I.laid (t':=s.toks) (o:=.lst (cutV xs lo hi)) (fun b ob q=>Heap.get?_push_of_some _ q) (Nat.le_refl _) ?_,rfl,q _ (I.hok.fresh (Nat.le_refl _))⟩
  exact ⟨Nat.le_trans (cutV_length xs lo hi) hz,_,0,(r.drop (HT.sIx xs.length 0 lo)).take (HT.sIx xs.length xs.length hi - HT.sIx xs.length 0 lo),Heap.get?_push_size _ rfl⟩
def flatV:V→Bool
  | .non=>true
  | .bl _=>true
  | .int _=>true
  | .str _=>true
  | _=>false
def eqV:V→V→Bool
  | .non,.non=>true
  | .bl a,.bl b=>a == b
  | .bl a,.int b=>(if a then 1 else 0) == b
  | .int a,.bl b=>a == (if b then 1 else 0)
  | .int a,.int b=>a == b
  | .str a,.str b=>a == b
  | _,_=>false
theorem eqAt_V {A:Around} {s:Shared} {y x:V} {u v:Value} (ry:RelV y u) (rx:RelV x v) (fy:flatV y = true) (fx:flatV x = true):SeqAt.EqAt A s u v (eqV y x):=by
  cases y with
  | non=>
    cases ry
    cases x with
    | non=>cases rx; exact SeqAt.EqAt.same _
    | bl b=>cases rx; exact SeqAt.EqAt.none_bool b
    | int b=>obtain ⟨t,rfl⟩:=rx; exact SeqAt.EqAt.none_int b t
    | str b=>obtain ⟨t,rfl⟩:=rx; exact SeqAt.EqAt.none_str b t
    | _=>exact absurd (show false = true from fx) Bool.false_ne_true
  | bl a=>
    cases ry
    cases x with
    | non=>cases rx; exact SeqAt.EqAt.bool_none a
    | bl b=>cases rx; exact SeqAt.EqAt.bool_bool a b
    | int b=>obtain ⟨t,rfl⟩:=rx; exact SeqAt.EqAt.bool_int a b t
    | str b=>obtain ⟨t,rfl⟩:=rx; exact SeqAt.EqAt.bool_str a b t
    | _=>exact absurd (show false = true from fx) Bool.false_ne_true
  | int a=>
    obtain ⟨t',rfl⟩:=ry
    cases x with
    | non=>cases rx; exact SeqAt.EqAt.int_none a t'
    | bl b=>cases rx; exact SeqAt.EqAt.int_bool a t' b
    | int b=>obtain ⟨t,rfl⟩:=rx; exact SeqAt.EqAt.int_int a t' b t
    | str b=>obtain ⟨t,rfl⟩:=rx; exact SeqAt.EqAt.int_str a t' b t
    | _=>exact absurd (show false = true from fx) Bool.false_ne_true
  | str a=>
    obtain ⟨t',rfl⟩:=ry
    cases x with
    | non=>cases rx; exact SeqAt.EqAt.str_none a t'
    | bl b=>cases rx; exact SeqAt.EqAt.str_bool a t' b
    | int b=>obtain ⟨t,rfl⟩:=rx; exact SeqAt.EqAt.str_int a t' b t
    | str b=>obtain ⟨t,rfl⟩:=rx; exact SeqAt.EqAt.str_str a t' b t
    | _=>exact absurd (show false = true from fx) Bool.false_ne_true
  | _=>exact absurd (show false = true from fy) Bool.false_ne_true
def eqU (x:V) (u:Value):Bool:=match u with
  | .none=>eqV .non x
  | .bool b=>eqV (.bl b) x
  | .int i _=>eqV (.int i) x
  | .str z _=>eqV (.str z) x
  | _=>false
theorem eqU_of {x y:V} {u:Value} (r:RelV y u) (f:flatV y = true):eqU x u = eqV y x:=by
  cases y with
  | non=>cases r; rfl
  | bl b=>cases r; rfl
  | int i=>obtain ⟨t,rfl⟩:=r; rfl
  | str z=>obtain ⟨t,rfl⟩:=r; rfl
  | _=>exact absurd (show false = true from f) Bool.false_ne_true
theorem any_eqU {x:V}:∀ {xs:List V} {us:List Value},Vals xs us→xs.all flatV = true→us.any (eqU x) = xs.any fun y=>eqV y x
  | _,_,.nil,_=>rfl
  | y :: xs,u :: us,.cons r t,f=>by
    rw [List.all_cons,Bool.and_eq_true] at f
    rw [List.any_cons,List.any_cons,eqU_of r f.1,any_eqU t f.2]
theorem mem_eqAt {A:Around} {s:Shared} {x:V} {v:Value} (rx:RelV x v) (fx:flatV x = true):∀ {xs:List V} {us:List Value},Vals xs us→xs.all flatV = true→∀ u∈us,SeqAt.EqAt A s u v (eqU x u)
  | _,_,.nil,_=>fun u hu=>by cases hu
  | y :: xs,u :: us,.cons r t,f=>fun u' hu=>by
    rw [List.all_cons,Bool.and_eq_true] at f
    rcases List.mem_cons.mp hu with rfl | hu
    · rw [eqU_of r f.1]; exact eqAt_V r rx f.1 fx
    · exact mem_eqAt rx fx t f.2 u' hu
def inV (x:V) (xs:List V):Bool:=xs.any fun y=>eqV y x
def rIn (K:PySem.W.Frag) (neg:Bool):R2:=fun x y H Q=>∃ p xs,y = .ref p∧(SqL K H p xs∨SqT K H p xs)∧flatV x = true∧xs.all flatV = true∧Q (.bl (if neg then !inV x xs else inV x xs)) H
theorem op_in_seq:OpR X (compareOp .In) (rIn X.K false):=by
  intro pins s σ H x y v u Q I rx ry h
  obtain ⟨p,xs,rfl,hq,fx,fs,q⟩:=h
  cases ry
  rcases hq with hq | hq
  · obtain ⟨its,r,pl,hz⟩:=I.list hq
    refine SeqAt.in_listAt (eqU x) pl.isList (fun w hw=>mem_eqAt rx fx r fs w (by simpa using hw)) ⟨.bl _,H,I,rfl,?_⟩
    rw [show its.toArray.any (eqU x) = its.any (eqU x) by simp,any_eqU r fs]
    exact q
  · obtain ⟨its,r,pl,hz⟩:=I.tuple hq
    refine SeqAt.in_tupleAt (eqU x) pl (fun w hw=>mem_eqAt rx fx r fs w (by simpa using hw)) ⟨.bl _,H,I,rfl,?_⟩
    rw [show its.toArray.any (eqU x) = its.any (eqU x) by simp,any_eqU r fs]
    exact q
theorem call_len_seq:CallR X (.builtin "len") (fun xs H Q=>∃ p ys,xs = [.ref p]∧(SqL X.K H p ys∨SqT X.K H p ys)∧Q (.int ys.length) H):=by
  intro pins s σ H xs us Q I r h
  obtain ⟨p,ys,rfl,hq,q⟩:=h
  obtain ⟨u,rfl,rx⟩:=vals1 r
  cases rx
  have hn:=line63
  rcases hq with hq | hq
  · obtain ⟨its,r',pl,hz⟩:=I.list hq
    have hlen:=r'.length
    exact Calls.call_len_list pl.isList (by simp only [List.size_toArray] <;> omega) ⟨.int ys.length,H,I.tok _,⟨s.toks + 1,by rw [List.size_toArray,hlen]⟩,q⟩
  · obtain ⟨its,r',pl,hz⟩:=I.tuple hq
    have hlen:=r'.length
    exact len_tuple pl (by simp only [List.size_toArray] <;> omega) ⟨.int ys.length,H,I.tok _,⟨s.toks + 1,by rw [List.size_toArray,hlen]⟩,q⟩
theorem call_len_str:CallR X (.builtin "len") (fun xs H Q=>∃ z,xs = [.str z]∧z.length≤sizeLine∧Q (.int z.length) H):=by
  intro pins s σ H xs us Q I r h
  obtain ⟨z,rfl,hz,q⟩:=h
  obtain ⟨u,rfl,t,rfl⟩:=vals1 r
  have hn:=line63
  exact len_str (by omega) ⟨.int z.length,H,I.tok _,⟨_,rfl⟩,q⟩
theorem call_list_of:CallR X (.type "list") (fun xs H Q=>∃ p ys,xs = [.ref p]∧(SqL X.K H p ys∨SqT X.K H p ys)∧∀ l,H l = none→Q (.ref l) (upd H l (.lst ys))):=by
  intro pins s σ H xs us Q I r h
  obtain ⟨p,ys,rfl,hq,q⟩:=h
  obtain ⟨u,rfl,rx⟩:=vals1 r
  cases rx
  have fin:∀ (its:List Value),Vals ys its→ys.length≤sizeLine→∀ (h':Heap) (c':Nat),(∀ b o',s.heap.get? b = some o'→h'.get? b = some o')→
      h'.get? s.heap.objs.size = some { cls:=.type "list",dict:=none,data:=.seq its.toArray c',slots:=#[] }→EP X pins σ Q (.ref s.heap.objs.size) { s with heap:=h' }:=fun its r' hz h' c' kp e=>
    ⟨.ref s.heap.objs.size,_,I.laid (t':=s.toks) kp (Nat.le_refl _) (show ObjOk X.prog X.w _ h' _ (.lst ys) from ⟨hz,its,c',r',e⟩),rfl,q _ (I.hok.fresh (Nat.le_refl _))⟩
  rcases hq with hq | hq
  · obtain ⟨its,r',pl,hz⟩:=I.list hq
    have hlen:=r'.length
    obtain ⟨o,ho,hc,n,hd⟩:=pl.isList
    exact call_list_seq p (.inl rfl) ho hc hd (fun h' c' kp e=>fin its r' hz h' c' kp e) (by simp only [List.size_toArray] <;> omega)
  · obtain ⟨its,r',pl,hz⟩:=I.tuple hq
    have hlen:=r'.length
    obtain ⟨o,ho,hc,n,hd⟩:=pl
    exact call_list_seq p (.inr rfl) ho hc hd (fun h' c' kp e=>fin its r' hz h' c' kp e) (by simp only [List.size_toArray] <;> omega)
theorem call_tuple_of:CallR X (.type "tuple") (fun xs H Q=>∃ p ys,xs = [.ref p]∧((SqL X.K H p ys∧∀ l,H l = none→Q (.ref l) (upd H l (.tup ys)))∨(SqT X.K H p ys∧Q (.ref p) H))):=by
  intro pins s σ H xs us Q I r h
  obtain ⟨p,ys,rfl,h⟩:=h
  obtain ⟨u,rfl,rx⟩:=vals1 r
  cases rx
  rcases h with ⟨hq,q⟩ | ⟨hq,q⟩
  · obtain ⟨its,r',pl,hz⟩:=I.list hq
    have hlen:=r'.length
    refine call_tuple_list pl.isList (fun h' kp=>?_) (by simp only [List.size_toArray] <;> omega)
    have I1:Inv X pins σ H { s with heap:=h' }:=I.kept (t':=s.toks) kp
    have I2:Inv X pins σ (upd H h'.objs.size (.tup ys)) { s with heap:=h'.push { cls:=.type "tuple",data:=.seq its.toArray } }:=
      I1.laid (t':=s.toks) (fun b o e=>Heap.get?_push_of_some _ e) (Nat.le_refl _) (show ObjOk X.prog X.w _ _ _ (.tup ys) from ⟨hz,its,r',IsTup.new _ _⟩)
    exact ⟨.ref h'.objs.size,_,I2,rfl,q _ (I1.hok.fresh (Nat.le_refl _))⟩
  · obtain ⟨its,r',pl,hz⟩:=I.tuple hq
    exact call_tuple_same pl ⟨.ref p,H,I,rfl,q⟩
def tyV (K:PySem.W.Frag) (T:String) (x:V) (H:Hp):Prop:=match x with
  | .str _=>T = "str"
  | .int _=>T = "int"
  | .ref p=>(T = "list"∧∃ xs,SqL K H p xs)∨(T = "tuple"∧∃ o,K.lookup p = some o∧o.cls = .type "tuple"∧o.dict = none)∨
      (T = "dict"∧((∃ kvs,H p = some (.dK kvs))∨∃ kvs,H p = some (.dT kvs)))∨(T = "set"∧∃ S n,H p = some (.set S n))
  | _=>False
theorem tyV_is {pins:List (Addr×Obj)} {σ:St} {H:Hp} {s:Shared} {T:String} {x:V} {v:Value} (I:Inv X pins σ H s) (r:RelV x v) (ty:tyV X.K T x H) :
    s.TypeIs v T∧∀ a,v = .ref a→∃ ob,s.heap.get? a = some ob∧ob.dict = none:=by
  cases x with
  | str z=>
    obtain ⟨t,rfl⟩:=r
    cases (show T = "str" from ty)
    exact ⟨typeIs_str s z t,fun _ e=>nomatch e⟩
  | int i=>
    obtain ⟨t,rfl⟩:=r
    cases (show T = "int" from ty)
    exact ⟨typeIs_int s i t,fun _ e=>nomatch e⟩
  | ref p=>
    cases r
    rcases ty with ⟨rfl,xs,hq⟩ | ⟨rfl,o,hk,hc,hd⟩ | ⟨rfl,hk⟩ | ⟨rfl,S,n,hk⟩
    · obtain ⟨its,_,pl,_⟩:=I.list hq
      refine ⟨pl.isList.typeIs,fun a e=>?_⟩
      cases e
      obtain ⟨o,n,e,c,hd,_⟩:=pl
      exact ⟨o,e,hd⟩
    · refine ⟨⟨o,I.kIn p o hk,hc⟩,fun a e=>?_⟩
      cases e
      exact ⟨o,I.kIn _ o hk,hd⟩
    · have z:∃ o,s.heap.get? p = some o∧o.ExactDict:=by
        rcases hk with ⟨kvs,hk⟩ | ⟨kvs,hk⟩
        · obtain ⟨_,_,_,_,o,_,_,e,ex,_⟩:=I.hok p _ hk
          exact ⟨o,e,ex⟩
        · obtain ⟨_,_,_,_,o,_,_,e,ex,_⟩:=I.hok p _ hk
          exact ⟨o,e,ex⟩
      obtain ⟨o,e,ex⟩:=z
      refine ⟨⟨o,e,ex.1⟩,fun a e2=>?_⟩
      cases e2
      exact ⟨o,e,ex.2.1⟩
    · obtain ⟨o,_,_,_,e,ex,_⟩:=I.hok p _ hk
      refine ⟨⟨o,e,ex.1⟩,fun a e2=>?_⟩
      cases e2
      exact ⟨o,e,ex.2.1⟩
  | _=>exact False.elim ty
def tBM (K:PySem.W.Frag) (T:String) (r:V→List V→Hp→VK→Prop) (to:TE) (t:TA):TE:=fun σ H Q=>to σ H fun x H1=>tyV K T x H1∧t σ H1 fun xs H2=>r x xs H2 Q
variable {o e:Expr} {es:List Expr} {to:TE} {t:TA} {name:Str} {apos cpos:Pos} {T id:String} {r:V→List V→Hp→VK→Prop}
theorem pe_bm (pa:PlainAttrs T) (slot:Slot T name id) (hty:typeOf (.builtin id) = pure (.type "method_descriptor")) (hm:MtR X id r) (ho:PE X o to) (ha:PA X (e :: es) t)
    (hbase:attributeBase o name X.env (eval o X.env) = eval o X.env:=by rfl)
    (hfew:((backTo cpos (starEach (e :: es) X.env)).all (fun x=>!x.1) && (backToKw cpos (keywordEach [] X.env)).all (fun x=>x.1.isSome)
      && decide ((e :: es).length + ([]:List Keyword).length + (if ([]:List Keyword).isEmpty then 0 else 1) < 30)) = true:=by rfl)
    (hline:(apos.endLine == cpos.line) = true:=by rfl) (hs:starEach (e :: es) X.env = (false,eval e X.env) :: starEach es X.env:=by rfl) (hplain:(backTo cpos (starEach es X.env)).any (·.1) = false:=by rfl) :
    PE X (.Call (.Attribute o name apos) (e :: es) [] cpos) (tBM X.K T r to t):=by
  intro pins s σ H Q I h
  refine wpAny_Call_method_late hbase hfew hline rfl (thn (ho pins s σ H _ I h) fun v s1 ⟨x,H1,I1,r1,ty,q1⟩=>?_)
  obtain ⟨h1,h2⟩:=tyV_is I1 r1 ty
  refine ⟨T,id,pa,slot,hty,h1,h2,?_⟩
  have hA:=ha cpos pins s1 σ H1 _ I1 q1
  rw [hs] at hA ⊢
  refine Calls.callWith_builtin (by show (false || (backTo cpos (starEach es X.env)).any (·.1)) = false; rw [hplain] <;> rfl) (Calls.evalArgs_plain ?_)
  exact thn hA fun us s2 ⟨vs,H2,I2,r2,q2⟩=>hm pins s2 σ H2 x vs v us Q I2 r1 r2 q2
end
end L2
namespace L2
open PySem PySem.Spec PyProof.Rows
def MtM (X:Cx) (id:String) (r:V→List V→Hp→VK→Prop):Prop:=
  ∀ (pins:List (Addr×Obj)) (s:Shared) (σ:St) (H:Hp) (x:V) (xs:List V) (v:Value) (us:List Value) (Q:VK),Inv X pins σ H s→RelV x v→Vals xs us→r x xs H Q→
    wpAny (model X.prog X.w) X.A (call (.builtin id) (v :: us)) (EP X pins σ Q) X.xe s
theorem Vals.one:∀ {x:V} {us:List Value},Vals [x] us→∃ u,us = [u]∧RelV x u
  | _,_,.cons r .nil=>⟨_,rfl,r⟩
theorem Vals.zero:∀ {us:List Value},Vals [] us→us = []
  | _,.nil=>rfl
theorem Vals.eraseIdx:∀ {xs:List V} {us:List Value} (i:Nat),Vals xs us→Vals (xs.eraseIdx i) (us.eraseIdx i)
  | _,_,_,.nil=>.nil
  | _,_,0,.cons _ t=>t
  | _,_,i + 1,.cons r t=>.cons r (Vals.eraseIdx i t)
theorem Vals.reverse {xs:List V} {us:List Value} (h:Vals xs us):Vals xs.reverse us.reverse:=by
  induction h with
  | nil=>exact .nil
  | cons r t ih=>rw [List.reverse_cons,List.reverse_cons]; exact Vals.append ih (.cons r .nil)
theorem Vals.rep {xs:List V} {us:List Value} (h:Vals xs us):∀ k:Nat,Vals (List.replicate k xs).flatten (List.replicate k us).flatten
  | 0=>.nil
  | k + 1=>by
    rw [List.replicate_succ,List.replicate_succ,List.flatten_cons,List.flatten_cons]
    exact Vals.append h (Vals.rep h k)
section
variable {X:Cx} {pins:List (Addr×Obj)} {σ:St} {H:Hp} {s:Shared} {l b:Addr} {xs ys zs:List V}
theorem Inv.lset {its its':List Value} {n:Nat} {f:Array Value→Array Value} {t':Nat} (I:Inv X pins σ H s) (hH:H l = some (.lst xs))
    (e:s.heap.get? l = some { cls:=.type "list",data:=.seq its.toArray n }) (hf:f its.toArray = its'.toArray) (hv:Vals ys its') (hz:ys.length≤sizeLine) :
    Inv X pins σ (upd H l (.lst ys)) { s with heap:=s.heap.update l (Obj.mapSeq f),toks:=t' }:=by
  have q:=PySem.IsL.update e f
  rw [hf] at q
  refine I.write (x:=l) (e:=l) (by rw [hH]; exact trivial) (.inl rfl) (fun b' u hb hu=>(Heap.get?_update_other s.heap (Obj.mapSeq f) (Ne.symm hb)).trans hu) ⟨_,q⟩ ?_
  exact ⟨hz,its',_,hv,q⟩
theorem Inv.lnew {its:List Value} {t':Nat} (I:Inv X pins σ H s) (hv:Vals ys its) (hz:ys.length≤sizeLine) :
    Inv X pins σ (upd H s.heap.objs.size (.lst ys)) { s with heap:=s.heap.push { cls:=.type "list",data:=.seq its.toArray },toks:=t' }:=
  I.laid (fun _ _ q=>Heap.get?_push_of_some _ q) (Nat.le_refl _) ⟨hz,its,0,hv,Heap.get?_push_size _ rfl⟩
theorem Inv.fresh (I:Inv X pins σ H s):H s.heap.objs.size = none:=I.hok.fresh (Nat.le_refl _)
theorem Inv.lstM (I:Inv X pins σ H s) (hH:H l = some (.lst xs)):xs.length≤sizeLine∧∃ (its:List Value) (n:Nat),Vals xs its∧xs.length = its.length∧s.heap.get? l = some { cls:=.type "list",data:=.seq its.toArray n }:=by
  obtain ⟨z,its,n,r,e⟩:=I.hok l _ hH
  exact ⟨z,its,n,r,r.length,e⟩
end
section
variable {X:Cx}
def rAppend:V→List V→Hp→VK→Prop:=fun x vs H Q=>∃ l xs y,x = .ref l∧vs = [y]∧H l = some (.lst xs)∧xs.length < sizeLine∧Q .non (upd H l (.lst (xs ++ [y])))
theorem mt_append:MtM X "list.append" rAppend:=by
  intro pins s σ H x vs v us Q I rx rv h
  obtain ⟨l,xs,y,rfl,rfl,hH,hz,q⟩:=h
  cases rx
  obtain ⟨u,rfl,ru⟩:=rv.one
  obtain ⟨z,its,n,r,hl,e⟩:=I.lstM hH
  refine call_meets F.slot_list_append ⟨_,e,rfl⟩ F.entry_list_append (F.args_list_append_2 _ _) (PySem.list_append l its.toArray n u (by rw [List.size_toArray]; omega)) ⟨e,?_⟩
  refine ⟨.non,_,I.lset (its':=its ++ [u]) hH e (by simp) (r.append (.cons ru .nil)) ?_,rfl,q⟩
  rw [List.length_append,List.length_singleton]
  omega
end
section
variable {prog:Program} {w:World} {A:Around} {E:Value→Shared→Prop} {s:Shared}
end
section
variable {X:Cx}
end
end L2
namespace Att
open PySem PySem.W PySem.Calls PyProof.Rows
theorem ints_of_wellAll {P:Params} {h:Heap}:∀ (ns:List Int) (vs:List Value),WellAll P h vs (ns.map WData.int)→IntsAre vs ns:=by
  intro ns
  induction ns with
  | nil=>
    intro vs w
    rw [List.map_nil] at w
    cases w
    exact .nil
  | cons n ns ih=>
    intro vs w
    rw [List.map_cons] at w
    cases w with
    | cons a b=>
      cases a
      exact .cons _ _ (ih _ b)
theorem script_of {l:OpenLaw} {n:Nat} (hn:l.most = some n) {P:Params} {h:Heap} {args:List WData} {vals:List Value}
    (hpre:l.row.toRowW.claim.pre args = true) (hwl:WellAll P h vals args) :
    ∃ a vs ns,vals = [Value.ref a]∧args = [WData.list (ns.map WData.int)]∧h.get? a = some { cls:=.type "list",data:=.seq vs.toArray }∧IntsAre vs ns∧ns.length≤n:=by
  have hsh:WShape.hasAll [] args [.list .int] = true:=(pre_splitW hpre).1
  have hc:l.pre.holds [] { args:=args } = true:=(pre_splitW hpre).2
  obtain ⟨d,r,rfl,h1,h2⟩:=hasAllW_cons hsh
  obtain rfl:=hasAllW_nil h2
  obtain ⟨xs,rfl,h3⟩:=hasW_list h1
  obtain ⟨ns,rfl⟩:=items_int h3
  have hlen:ns.length≤n:=by
    unfold OpenLaw.pre at hc
    have h4:(WTm.not (.lt (.lit (.int (n:Int))) (.len (.arg 0)))).holds [] { args:=[.list (ns.map .int)] } = true:=by
      have h4:=(holds_andW hc).1
      rw [hn] at h4
      exact h4
    have h5:=condW_of h4 (w_not (w_lt w_lit (w_len_list (w_arg rfl))))
    rw [List.length_map] at h5
    refine Nat.le_of_not_lt fun q=>?_
    have q':(n:Int) < ((ns.length:Nat):Int):=by omega
    first
      | (rw [decide_eq_true q'] at h5; exact absurd h5 (by decide))
      | (simp at h5; omega)
  cases hwl with
  | cons w1 w2=>
    cases w2
    cases w1 with
    | list ho hall=>exact ⟨_,_,ns,rfl,rfl,ho,ints_of_wellAll ns _ hall,hlen⟩
theorem post_true (l:OpenLaw) (args:List WData):l.row.toRowW.claim.post args (.bool true) args = true:=
  postW_of (r:=l.row.toRowW) (X:=(true == true))
    (show WShape.has [] (.bool true) .bool = true by first | rfl | decide | simp [WShape.has,WShape.arms,WShape.armsAll])
    (show (WTm.eq .res (.lit (.bool true))).value [] { args:=args,res:=some (.bool true),after:=args } = some (.bool (true == true)) from w_eq_bool (w_res rfl) w_lit) rfl
theorem attach_call {l:OpenLaw} {n:Nat} {q:Program} {loose:List Str} {XP:(Str→Option Value)→Heap→Prop} {YP:World→Heap→Prop} {d:DefRec}
    (hn:l.most = some n) (hdf:d.params.defaults = [])
    (call:∀ (w:World) (s₀ s₁:Shared) (mg mb:Str→Option Value) (fa:Addr) (o:Obj) (pm cd doc:Value) (a:Addr) (vs:List Value) (ns:List Int),
      Ground q loose [] XP w s₀ mg mb s₁.heap→YP w s₁.heap→
      s₁.heap.get? fa = some o→o.data = .func (docDef d.name d.params d.body d.scope pm cd doc)→s₁.heap.CodeRec cd d.name→mg d.name = some (.ref fa)→
      s₁.heap.get? a = some { cls:=.type "list",data:=.seq vs.toArray }→IntsAre vs ns→ns.length≤n→s₁.gens = #[]→
      codeAny (model l.prog w) callerA (.call (.ref fa) ⟨[.ref a],[]⟩) (fun r s'=>r = .ok (.ret (.bool true))∧OldK s₁.heap s'.heap∧s'.os = s₁.os∧AllBare s'.gens) s₁) :
    WalkO q loose XP YP l.row.toRowW d [] (fun f vs=>PySem.call f vs):=by
  intro w s₀ s₁ mg mb G Y fa o pm cd doc dV kV ho hd hcd hD hmg hg args vals as hpre hlay hrd hwl hlo
  obtain rfl:dV = .none:=Dflts.none hD hdf
  obtain rfl:kV = .none:=Dflts.noKw hD
  obtain ⟨a,vs,ns,rfl,rfl,hobj,hints,hlen⟩:=script_of hn hpre hwl
  refine enter_call (codeAny_mono (call w s₀ s₁ mg mb fa o pm cd doc a vs ns G Y ho (fd_plain hd) hcd hmg hobj hints hlen hg) fun r s' hq=>?_)
  obtain ⟨rfl,h2,h3,h4⟩:=hq
  exact ⟨.inl ⟨.bool true,.bool true,[],rfl,fun _=>rfl,.bool true,post_true l _,fun _=>⟨List.Pairwise.nil,fun _ hm=>(nomatch hm)⟩⟩,h2,h3,h4⟩
section
variable {prog:Program} {w:World} {A:Around} {E:Value→Shared→Prop} {s:Shared} {K:Frag}
def noObjs (h:Heap):Heap:={ h with objs:=#[] }
theorem noObjs_get (h:Heap) (b:Addr):(noObjs h).get? b = none:=by
  cases e:(noObjs h).get? b with
  | none=>rfl
  | some o=>exact absurd (Heap.lt_size e) (Nat.not_lt_zero _)
def ledger (h:Heap) (L d:Addr):List (Addr×Obj):=(List.range h.objs.size).filterMap fun a=>if a = L∨a = d then none else (h.get? a).map fun o=>(a,o)
theorem mem_ledger {h:Heap} {L d a:Addr} {o:Obj}:(a,o)∈ledger h L d↔a≠L∧a≠d∧h.get? a = some o:=by
  unfold ledger
  rw [List.mem_filterMap]
  constructor
  · rintro ⟨b,_,e⟩
    split at e
    · cases e
    · rename_i hb
      obtain ⟨o',ho,e'⟩:=Option.map_eq_some_iff.mp e
      cases e'
      exact ⟨fun q=>hb (.inl q),fun q=>hb (.inr q),ho⟩
  · rintro ⟨n1,n2,ho⟩
    refine ⟨a,List.mem_range.mpr (Heap.lt_size ho),?_⟩
    rw [if_neg (show ¬ (a = L∨a = d) from fun q=>q.elim n1 n2),ho] <;> rfl
theorem news_ledger {h:Heap} {L d:Addr} {od:Obj} (hne:d≠L) (ho:h.get? d = some od):News (noObjs h) L h ([] ++ (d,od) :: ledger h L d):=by
  rintro ⟨a,o⟩ hp
  rcases List.mem_cons.mp hp with e | hp
  · cases e
    exact ⟨ho,hne,noObjs_get _ _⟩
  · obtain ⟨n1,n2,e⟩:=mem_ledger.mp hp
    exact ⟨e,n1,noObjs_get _ _⟩
theorem fr_all {h:Heap} {L:Addr} {m:Str→Option Value} (n:h.Ns L m):Fr (noObjs h) L h m:=
  ⟨n,fun b o e=>(by rw [noObjs_get] at e; cases e),Nat.zero_le _⟩
theorem set_field {x C dx L:Addr} {ox:Obj} {m:Str→Option Value} {es es':List DictEntry} {n n':Nat} {name:Str} {v:Value} {Q:Unit→Shared→Prop}
    (X:K.In s.heap) (I:PySem.W.InstAt s.heap x ox C (some (dictOf es n))) (hd:ox.dict = some dx) (hL:s.heap.Ns L m) (hne:dx≠L)
    (hs:findIn K (.ref C) "__setattr__" = some (some (.builtin "object.__setattr__"))) (hp:plainOver K C = true) (ht:takerIn K C name = some none) (hh:hasDictIn K C = true) (hl:(getL name es).isSome = true)
    (e:(putL name (PyData.keyHash w.params name) (.str name (s.toks + 1)) v es,putN name es n) = (es',n')) (hz:es'.length≤1000)
    (h:∀ h':Heap,h'.Ns L m→h'.get? dx = some (dictOf es' n')→(∀ b o,b≠dx→b≠L→s.heap.get? b = some o→h'.get? b = some o)→Q () { s with heap:=h',toks:=s.toks + 2 }) :
    wpAny (model prog w) A (setAttr (.ref x) name v) Q E s:=by
  obtain ⟨e1,e2⟩:=Prod.mk.inj e
  have hdx:s.heap.get? dx = some (dictOf es n):=by
    have:=I.dict
    rw [hd] at this
    exact this
  refine set_plain X I hs (osa_dict (s:={ s with toks:=s.toks + 1 }) (h₀:=noObjs s.heap) (L:=L) (m:=m) (od:=dictOf es n) (od':=dictOf es' n') (es:=es') (n:=n') (pre:=[]) (post:=ledger s.heap L dx)
    (fr_all hL) (news_ledger hne hdx) X I hd hp ht hh hl (fun _ q=>nomatch q) (fun ⟨_,_⟩ q=>(mem_ledger.mp q).2.1) (by rw [putName_dict,e1,e2]) rfl hz fun h' F' N'=>?_)
  exact h h' F'.ns (N'.get (List.Mem.head _)) fun b o n1 n2 ho=>N'.get (List.Mem.tail _ (mem_ledger.mpr ⟨n2,n1,ho⟩))
end
end Att
namespace L2
open PySem PySem.Spec PyProof.Rows
theorem vals_ints:∀ {vs:List Value} {ns:List Int},IntsAre vs ns→Vals (ns.map V.int) vs
  | _,_,.nil=>.nil
  | _,_,.cons n t h=>.cons ⟨t,rfl⟩ (vals_ints h)
end L2
namespace L2
open PySem PySem.Spec PyProof.Rows
end L2
namespace L2
open PySem PySem.Spec PyProof.Rows
def defArgs (s:Stmt):Arguments:=match s with
  | .FunctionDef _ a _ _ _ _ _ _ _ _=>a
  | _=>{ posonlyargs:=[],args:=[],vararg:=none,kwonlyargs:=[],kw_defaults:=[],kwarg:=none,defaults:=[] }
def defBody (s:Stmt):List Stmt:=match s with
  | .FunctionDef _ _ b _ _ _ _ _ _ _=>b
  | _=>[]
def defScope (s:Stmt):Scope:=match s with
  | .FunctionDef _ _ _ _ _ _ sc _ _ _=>sc
  | _=>{ kind:=.function,names:=[],isGenerator:=false,isCoroutine:=false }
abbrev CX0:CXT:=fun _ _ _ _ _ _=>False
abbrev E0:XK:=fun _ _ _=>False
theorem pass0 {X:Cx}:Passes CX0 X E0:=fun _ _ _ _ _ _ _ h=>h.elim
structure Fun (K:PySem.W.Frag) (x qual:Str) (st:Stmt) (f:Addr) (fd:FuncData):Prop where
  ex:∃ (oc:Value) (od:Option Addr) (kV doc pm:Value) (an:Option Addr) (cdv ct:Value) (osl:Array (Option Value)),
    fd = PySem.W.fnOf x qual (defArgs st) (defBody st) (defScope st) .none kV doc pm an cdv ct∧K.lookup f = some ⟨oc,od,.func fd,osl⟩∧PySem.W.codeIn K cdv qual = true
  kp:PySem.W.keepIn K (.ref f) = true
section
variable {P:Program} {w:World} {K:PySem.W.Frag} {mg:Str→Option Value} {base:Heap}
theorem Fun.ok {x qual:Str} {st:Stmt} {f:Addr} {fd:FuncData} {N ps:List Str} {k:Nat} {sp:Sp} (F:Fun K x qual st f fd) (S:FnScope N ps (defScope st)) (len:∀ vs H Q E,sp vs H Q E→vs.length = ps.length)
    (hbody:∀ (cdv:Value) (A:Around) (outer:List Env) (s:Shared) (H:Hp) (vs:List V) (Q:VK) (E:XK),Room k (A.deeper (envOfC qual (defScope st) s.heap.objs.size f cdv))→sp vs H Q E→
      ∃ t,PSs (cxOf CX0 P w K mg base N qual (defScope st) f cdv A outer s H E).nox (defBody st) t∧t { nx:=fun _ H'=>Q .non H',rt:=Q } (start N vs) H):FnOk P w K mg base CX0 (k + 1) f fd ps sp:=by
  obtain ⟨oc,od,kV,doc,pm,an,cdv,ct,osl,rfl,lk,hcd⟩:=F.ex
  refine fn_of lk hcd S len fun A outer s H vs Q E hr hsp=>?_
  obtain ⟨t,h,q⟩:=hbody cdv A outer s H vs Q E hr hsp
  exact ⟨t,h.nox,q⟩
theorem Fun.binds {x qual:Str} {st:Stmt} {f:Addr} {fd:FuncData} {ps:List Str} (F:Fun K x qual st f fd)
    (h:∀ (kV doc pm:Value) (an:Option Addr) (cdv ct:Value) (us:List Value),us.length = ps.length→bindArgs (PySem.W.fnOf x qual (defArgs st) (defBody st) (defScope st) .none kV doc pm an cdv ct) ⟨us,[]⟩ = pure (ps.zip us)):Binds K fd ps []:=by
  obtain ⟨oc,od,kV,doc,pm,an,cdv,ct,osl,rfl,lk,hcd⟩:=F.ex
  exact .all (h kV doc pm an cdv ct)
theorem fun_mk {x qual:Str} {st:Stmt} {f:Addr} {oc:Value} {od an:Option Addr} {osl:Array (Option Value)} {kV doc pm cdv ct:Value} (l:K.lookup f = some ⟨oc,od,.func (PySem.W.fnOf x qual (defArgs st) (defBody st) (defScope st) .none kV doc pm an cdv ct),osl⟩)
    (c:PySem.W.codeIn K cdv qual = true) (k:PySem.W.keepIn K (.ref f) = true):Fun K x qual st f (PySem.W.fnOf x qual (defArgs st) (defBody st) (defScope st) .none kV doc pm an cdv ct):=⟨⟨oc,od,kV,doc,pm,an,cdv,ct,osl,rfl,l,c⟩,k⟩
end
theorem hu_of {A:Around} {k:Nat} (hr:Room k A):A.units + 1 < cLine:=Nat.lt_of_le_of_lt (Nat.add_le_add_left (by decide:1≤64) _) hr.units
section
variable {X:Cx}
theorem pv (i:Nat) {x:Str} {pos:Pos} (hN:X.N[i]? = some x:=by rfl) (hv:Vis X.env.scope x:=by first | exact Or.inl rfl | exact Or.inr (Or.inl rfl) | exact Or.inr (Or.inr rfl)) (hd:(x == ("__debug__":Str)) = false:=by decide)
    (hcd:(x == ("__classdict__":Str)) = false:=by decide):PE X (.Name x pos) (tVar i):=pe_var hN hv hd hcd
end
theorem ite2 {c A B:Prop} [Decidable c] (h1:c→A) (h2:¬ c→B):if c then A else B:=by
  by_cases h:c
  · rw [if_pos h]
    exact h1 h
  · rw [if_neg h]
    exact h2 h
def Same (H H':Hp):Prop:=∀ b o,H b = some o→H' b = some o
theorem Same.refl (H:Hp):Same H H:=fun _ _ h=>h
theorem Same.trans {H H1 H2:Hp} (a:Same H H1) (b:Same H1 H2):Same H H2:=fun c o h=>b c o (a c o h)
theorem Same.free {H H':Hp} (e:Same H H') {l:Addr} (h:H' l = Option.none):H l = Option.none:=by
  cases q:H l with
  | none=>rfl
  | some o=>
    rw [e l o q] at h
    cases h
theorem Same.seq {K:PySem.W.Frag} {H H':Hp} {a:Addr} {xs:List V} (e:Same H H') (h:SqL K H a xs):SqL K H' a xs:=by
  rcases h with (h | ⟨o,h⟩) | h
  · exact .inl (.inl (e _ _ h))
  · exact .inl (.inr ⟨o,e _ _ h⟩)
  · exact .inr h
end L2
set_option maxHeartbeats 1000000
namespace L2
open PySem PySem.Spec PyProof.Rows
section
variable {prog:Program} {w:World} {A:Around} {env:Env} {elt target iter:Expr} {ifs:List Expr} {scope:Scope} {pos:Pos} {it acc:Value}
abbrev testsOf (env:Env) (ifs:List Expr):Sem Bool:=forIn ifs true fun c r=>(if r = true then (do let ok ← isTrue c env (eval c env); pure (ForInStep.yield ok)) else pure (ForInStep.yield r))
abbrev OneTurn (prog:Program) (w:World) (A:Around) (env:Env) (elt target:Expr) (ifs:List Expr) (it acc:Value) (Ee:Value→Shared→Prop) (over on:Shared→Prop):Shared→Prop:=
  wpAny (model prog w) A (pyNext it) (fun | none,s1=>over s1 | some v,s1=>wpAny (model prog w) A (letOwnedTupleGo target it v) (fun _ s2=>wpAny (model prog w) A (assign target env v) (fun _ s3=>wpAny (model prog w) A (testsOf env ifs) (fun ok s4=>
    if ok = true then wpAny (model prog w) A (eval elt env) (fun x s5=>wpAny (model prog w) A (call (.builtin "list.append") [acc,x]) (fun _=>on) (fun _ _=>False) s5) Ee s4 else on s4) Ee s3) Ee s2) (fun _ _=>False) s1) (fun _ _=>False)
theorem comp_turnsX {R:Result→Shared→Prop} {Ee:Value→Shared→Prop} (I:Nat→Shared→Prop) (hE:∀ x s,Ee x s→notedBy (model prog w) A env (fun x s=>R (.error x) s) x s)
    (turn:∀ n s,I n s→OneTurn prog w A env elt target ifs it acc Ee (R (.ok .next)) (fun s'=>∃ m,m < n∧I m s') s) (n:Nat) {s:Shared} (h:I n s) :
    codeAny (model prog w) A (.compLoop (.ListComp elt [⟨target,iter,ifs,0⟩] scope pos) 0 it acc env) R s:=by
  have none':∀ {Z:Value→Shared→Prop} (x:Value) (s:Shared),False→Z x s:=fun _ _ z=>z.elim
  refine codeAny_loop rfl I (fun k s1 h1=>?_) n h
  change wpAny _ A ((compTurn (.ListComp elt [⟨target,iter,ifs,0⟩] scope pos) 0 it acc env).onRaise (fun x=>do noteFrame x env; theTreesLotGoes x)) _ _ s1
  refine wpAny_noted ?_
  rw [compTurn_list]
  refine wpAny_bind (wpAny_standAt (wpAny_bind (wpAny_mono (turn k s1 h1) (fun r s2 h2=>?_) none')))
  match r,h2 with
  | none,h2=>exact wpAny_pure h2
  | some v,h2=>
    refine wpAny_bind (wpAny_mono h2 (fun _ s3 h3=>wpAny_bind (wpAny_mono h3 (fun _ s4 h4=>wpAny_bind (wpAny_mono h4 (fun ok s5 h5=>?_) hE)) hE)) none')
    match ok,h5 with
    | false,h5=>exact wpAny_pure ⟨rfl,h5⟩
    | true,h5=>exact wpAny_bind (wpAny_bind (wpAny_mono h5 (fun x s6 h6=>wpAny_bind (wpAny_mono h6 (fun _ s7 h7=>wpAny_pure (wpAny_pure ⟨rfl,h7⟩)) none')) hE))
theorem comp_turns {R:Result→Shared→Prop} (I:Nat→Shared→Prop) (turn:∀ n s,I n s→OneTurn prog w A env elt target ifs it acc (fun _ _=>False) (R (.ok .next)) (fun s'=>∃ m,m < n∧I m s') s) (n:Nat) {s:Shared} (h:I n s) :
    codeAny (model prog w) A (.compLoop (.ListComp elt [⟨target,iter,ifs,0⟩] scope pos) 0 it acc env) R s:=comp_turnsX I (fun _ _ z=>z.elim) turn n h
end
def PIfs (X:Cx) (ifs:List Expr) (t:TT):Prop:=
  ∀ (pins:List (Addr×Obj)) (s:Shared) (σ:St) (H:Hp) (Q:Bool→Hp→Prop),Inv X pins σ H s→t σ H Q→
    wpAny (model X.prog X.w) X.A (forIn ifs true fun c r=>if r = true then do let ok ← isTrue c X.env (eval c X.env); pure (ForInStep.yield ok) else pure (ForInStep.yield r)) (TP X pins σ Q) X.xe s
def tYes:TT:=fun _ H Q=>Q true H
theorem pifs_nil {X:Cx}:PIfs X [] tYes:=fun _ _ _ H _ I h=>wpAny_tests_nil ⟨H,I,h⟩
theorem pifs_one {X:Cx} {c:Expr} {t:TT} (h:PT X c t):PIfs X [c] t:=fun pins s σ H Q I q=>wpAny_tests_one (h pins s σ H Q I q)
def cxComp (X:Cx) (scope:Scope) (cl:List (Str×Addr)) (N:List Str) (C:Addr) (s:Shared) (H:Hp) (fp:List Addr):Cx:=
  { prog:=X.prog,w:=X.w,K:=X.K,mg:=X.mg,base:=X.base,A:=X.A,N:=N,s₀:=s,H₀:=H,env:=compEnvC scope cl C X.env,outer:=X.stack,stack:=X.stack,ex:=fp,fn:=fun _=>false,calm:=X.calm,pn:=[],xe:=fun _ _=>False }
def stC (fr:List (Option Nat)) (σ:St):St:=fr.map fun o=>o.bind fun i=>(σ[i]?).bind id
def tCompK (fr:List (Option Nat)) (g:TG) (tt:TT) (te:TE) (σ:St) (Q:VK) (J:It) (H1:Hp):Prop:=∀ l,H1 l = none→∃ W:Nat→Nat→St→Hp→Prop,(∃ m,W 0 m (stC fr σ) (upd H1 l (.lst [])))∧∀ i m σ H,W i m σ H→
  (J.stop i H∧Q (.ref l) H)∨(J.go i H∧∀ x H',J.yld i H x H'→g x σ H' fun σ2 H2=>tt σ2 H2 fun b H3=>if b = true then te σ2 H3 fun v H4=>∃ xs,H4 l = some (.lst xs)∧xs.length < sizeLine∧∃ m',m' < m∧W (i + 1) m' σ2 (upd H4 l (.lst (xs ++ [v])))
    else ∃ m',m' < m∧W (i + 1) m' σ2 H3)
def tComp (fr:List (Option Nat)) (wi:TI) (g:TG) (tt:TT) (te:TE):TE:=fun σ H Q=>wi σ H (tCompK fr g tt te σ Q)
def compChk (XN:List Str) (xs sc:Scope) (N:List Str) (fr:List (Option Nat)):Bool:=
  decide (sc.kind = .function) && decide (fr.length = N.length) && (sc.names.all fun y=>!decide (y.2 = .cell)) && (sc.names.all fun y=>!decide (y.2 = .local) || decide (sc.names.lookup y.1 = some .local)) &&
  (sc.names.all fun y=>!decide (y.2 = .free) || (decide (xs.names.lookup y.1 = some .cell) || decide (xs.names.lookup y.1 = some .free))) &&
  ((N.zip fr).all fun p=>match p.2 with | none=>true | some i=>decide (XN[i]? = some p.1) && decide (sc.names.lookup p.1 = some .free))
def ClOk (cells:List (Str×Addr)):List (Str×Addr)→Prop
  | []=>True
  | p :: r=>cells.lookup p.1 = some p.2∧ClOk cells r
theorem ClOk.get {cells:List (Str×Addr)}:∀ {cl:List (Str×Addr)},ClOk cells cl→∀ {x:Str} {c:Addr},cl.lookup x = some c→cells.lookup x = some c
  | [],_,_,_,h=>by cases h
  | (y,d) :: r,k,x,c,h=>by
    rw [List.lookup_cons] at h
    cases e:x == y with
    | true=>
      rw [e] at h
      cases h
      rw [eq_of_beq e]
      exact k.1
    | false=>
      rw [e] at h
      exact ClOk.get k.2 h
def ClAll (cl:List (Str×Addr)):List (Str×NameKind)→Prop
  | []=>True
  | p :: r=>(p.2 = .free→∃ c,cl.lookup p.1 = some c)∧ClAll cl r
theorem ClAll.get {cl:List (Str×Addr)}:∀ {ns:List (Str×NameKind)},ClAll cl ns→∀ y∈ns,y.2 = .free→∃ c,cl.lookup y.1 = some c
  | [],_,_,h=>by cases h
  | p :: r,k,y,h=>by
    rcases List.mem_cons.mp h with rfl | h
    · exact k.1
    · exact ClAll.get k.2 y h
theorem relabel_cell {env:Env}:∀ {names:List (Str×NameKind)} {x:Str} {k:NameKind},(names.map fun (n,k)=>if (k == NameKind.free && env.scope.kind == .function && env.kindOf n == some .cell) then (n,NameKind.cell) else (n,k)).lookup x = some k→
    names.lookup x = some k∨(k = .cell∧names.lookup x = some .free)
  | [],_,_,h=>by cases h
  | (n,k0) :: r,x,k,h=>by
    have ih:=@relabel_cell env r x k
    by_cases hc:(k0 == NameKind.free && env.scope.kind == .function && env.kindOf n == some .cell) = true
    · simp only [List.map_cons,if_pos hc,List.lookup_cons] at h
      rw [List.lookup_cons]
      cases e:x == n with
      | true=>
        rw [e] at h
        cases h
        simp only [Bool.and_eq_true] at hc
        have:k0 = .free:=by simpa using hc.1.1
        exact .inr ⟨rfl,by rw [this]⟩
      | false=>rw [e] at h; exact ih h
    · simp only [List.map_cons,if_neg hc,List.lookup_cons] at h
      rw [List.lookup_cons]
      cases e:x == n with
      | true=>rw [e] at h; exact .inl h
      | false=>rw [e] at h; exact ih h
theorem relabel_free {env:Env}:∀ {names:List (Str×NameKind)} {x:Str},names.lookup x = some .free→
    (names.map fun (n,k)=>if (k == NameKind.free && env.scope.kind == .function && env.kindOf n == some .cell) then (n,NameKind.cell) else (n,k)).lookup x = some .cell∨
    (names.map fun (n,k)=>if (k == NameKind.free && env.scope.kind == .function && env.kindOf n == some .cell) then (n,NameKind.cell) else (n,k)).lookup x = some .free
  | [],_,h=>by cases h
  | (n,k0) :: r,x,h=>by
    have ih:=@relabel_free env r x
    rw [List.lookup_cons] at h
    by_cases hc:(k0 == NameKind.free && env.scope.kind == .function && env.kindOf n == some .cell) = true
    · simp only [List.map_cons,if_pos hc,List.lookup_cons]
      cases e:x == n with
      | true=>exact .inl rfl
      | false=>rw [e] at h; exact ih h
    · simp only [List.map_cons,if_neg hc,List.lookup_cons]
      cases e:x == n with
      | true=>rw [e] at h; exact .inr h
      | false=>rw [e] at h; exact ih h
section
variable {X:Cx}
theorem comp_core (N:List Str) (fr:List (Option Nat)) {elt tg iter:Expr} {ifs:List Expr} {scope:Scope} {pos fpos:Pos} {wi:TI} {g:TG} {tt:TT} {te:TE} {cl:List (Str×Addr)}
    (hc:X.calm = true) (hi:PI X tg iter wi) (hchk:compChk X.N X.env.scope scope N fr = true) (hclos:closureFor scope X.env = pure cl) (hcl:ClOk X.env.cells cl) (hall:ClAll cl scope.names)
    (hb:∀ (C:Addr) (s:Shared) (H:Hp) (fp:List Addr),PG (cxComp X scope cl N C s H fp) tg g∧PIfs (cxComp X scope cl N C s H fp) ifs tt∧PE (cxComp X scope cl N C s H fp) elt te)
    (hs:∀ x,foldedSetIterable iter X.env x = pure x) {pins:List (Addr×Obj)} {s:Shared} {σ:St} {H:Hp} {Q:VK} {use:Option (Value→Sem Unit)} {Qc:Value→Shared→Prop} (I:Inv X pins σ H s) (h:tComp fr wi g tt te σ H Q)
    (hfin:∀ (l:Addr) (H':Hp) (s':Shared) (C:Addr),Inv X pins σ H' s'→FpOk X pins H' C→(∃ m,s'.heap.Ns C m)→Q (.ref l) H'→compPost (model X.prog X.w) X.A X.xe use Qc (.ref l) C (.ok .next) s') :
    wpAny (model X.prog X.w) X.A (comprehension (.ListComp elt [⟨tg,iter,ifs,0⟩] scope pos) scope X.env fpos (newList []) (firstAsync [⟨tg,iter,ifs,0⟩]) (firstIter [⟨tg,iter,ifs,0⟩] X.env) use) Qc X.xe s:=by
  simp only [compChk,Bool.and_eq_true,decide_eq_true_eq,List.all_eq_true,Bool.or_eq_true,Bool.not_eq_true',decide_eq_false_iff_not] at hchk
  obtain ⟨⟨⟨⟨⟨hkind,hlen⟩,hcell⟩,hnames⟩,hfree⟩,hfr⟩:=hchk
  have hnames':∀ x∈scope.names,x.2 = .local→scope.names.lookup x.1 = some .local:=fun y hy e=>(hnames y hy).resolve_left fun z=>z e
  have hcell':∀ x∈scope.names,x.2≠.cell:=fun y hy=>hcell y hy
  refine wpAny_comprehension_free (use:=use) rfl hs hclos hkind hnames' (thn (hi pins s σ H _ I h) fun v s1 h1=>thn h1 fun itv s2 h2=>?_)
  obtain ⟨it,fp,tn,J,H2,e,I2,T,st2,f2,hQ⟩:=h2
  subst e
  refine wpAny_newObj_type (hd:=by size_fits) (wpAny_newFunctionEnv hcell' (by intro y hy; simp at hy) (fun h₁ hns hsb=>?_) hkind)
  dsimp only at hns hsb ⊢
  obtain ⟨W,⟨m0,w0⟩,turn⟩:=hQ s2.heap.objs.size I2.fresh
  have I3:Inv X pins σ (upd H2 s2.heap.objs.size (.lst [])) { s2 with heap:=s2.heap.push { cls:=.type "list",data:=.seq ([]:List Value).toArray },toks:=s2.toks }:=I2.lnew (its:=[]) .nil (Nat.zero_le _)
  generalize hh3:s2.heap.push { cls:=.type "list",dict:=none,data:=.seq ([]:List Value).toArray } = h3 at hns hsb ⊢
  rw [show s2.heap.push { cls:=.type "list",data:=.seq ([]:List Value).toArray } = h3 from hh3] at I3
  generalize hH3:upd H2 s2.heap.objs.size (.lst []) = H3 at I3 w0
  generalize hl:s2.heap.objs.size = l at turn hH3 ⊢
  have hl3:l < h3.objs.size:=by rw [← hh3,← hl,Heap.size_push]; exact Nat.lt_succ_self _
  generalize hs3:({ s2 with heap:=h3,toks:=s2.toks }:Shared) = s3 at I3
  have es3:s3.heap = h3:=by rw [← hs3]
  have eos:s3.os = s2.os:=by rw [← hs3]
  have egens:s3.gens = s2.gens:=by rw [← hs3]
  generalize hC:h3.objs.size = C at hns hsb ⊢
  have old:∀ b o,h3.get? b = some o→h₁.get? b = some o:=fun b o e=>
    hsb.extBut b o (by rw [← hC]; exact Nat.ne_of_lt (Heap.lt_size e)) (Heap.get?_push_of_some _ e)
  have f3:∀ b∈fp,FpOk X pins H3 b:=fun b hb=>by
    obtain ⟨g0,g1⟩:=f2 b hb
    refine ⟨?_,g1⟩
    rw [← hH3]
    have:b≠l:=by
      obtain ⟨o,e,_⟩:=T.obj _ _ st2 b hb
      rw [← hl]; exact Nat.ne_of_lt (Heap.lt_size e)
    rw [upd_ne this]; exact g0
  have st3:tn 0 h₁:=T.keep _ _ _ st2 fun b hb o e=>old b o (by rw [← hh3]; exact Heap.get?_push_of_some _ e)
  have ok:(cxComp X scope cl N C s3 H3 fp).Ok:=by
    refine ⟨I3.ok.mod,?_,I3.ok.glob,I3.ok.blt,?_,fun x y c e1 e2=>I3.ok.inj x y c (hcl.get e1) (hcl.get e2),fun x hx=>?_,fun x c hx=>(by cases hx),I3.ok.hd,I3.ok.frames,.inl rfl,fun b hb=>?_,fun b o e=>?_,?_,fun b o e hb=>?_,fun b hb hb2=>?_,?_,fun b hb=>?_⟩
    · exact hkind
    · show s3.heap.objs.size≤C
      rw [es3,hC]; exact Nat.le_refl _
    · have hx':(relabel scope X.env).names.lookup x = some .cell∨(relabel scope X.env).names.lookup x = some .free:=hx
      have:scope.names.lookup x = some .free:=by
        rcases hx' with z | z
        · rcases relabel_cell z with q | ⟨_,q⟩
          · exact absurd rfl (hcell' _ (PySem.mem_of_lookup q))
          · exact q
        · rcases relabel_cell z with q | ⟨q,_⟩
          · exact q
          · cases q
      exact hall.get _ (PySem.mem_of_lookup this) rfl
    · obtain ⟨g0,g1,g2,g3,g4,g5⟩:=f3 b hb
      obtain ⟨o,e,_⟩:=T.obj _ _ st2 b hb
      refine ⟨?_,fun x c e=>g4 x c (hcl.get e)⟩
      show b≠C
      rw [← hC]
      exact Nat.ne_of_lt (Heap.lt_size (by rw [← hh3]; exact Heap.get?_push_of_some _ e))
    · have q:=I3.bs b o e
      exact q
    · show X.base.objs.size≤s3.heap.objs.size
      exact Nat.le_trans I3.ok.bsz I3.sz
    · obtain ⟨g0,g1,g2,g3,g4,g5⟩:=f3 b hb
      rcases g3 with z | z
      · exact I3.ok.noex b o e z
      · exact absurd (Nat.lt_of_lt_of_le (Heap.lt_size e) (Nat.le_trans I3.ok.bsz z)) (Nat.lt_irrefl _)
    · obtain ⟨g0,g1,g2,g3,g4,g5⟩:=f3 b hb
      rcases List.mem_cons.mp (I3.stkSub b hb2) with z | z
      · exact g1 z
      · exact g2 z
    · show s3.heap.FunFrames X.base X.stack
      exact I3.stack
    · exact I3.stkFree b hb
  have I4:Inv (cxComp X scope cl N C s3 H3 fp) [] (stC fr σ) H3 { s2 with heap:=h₁,toks:=s2.toks + ([]:List (Str×Value)).length }:=by
    have hk3:∀ b o,s3.heap.get? b = some o→h₁.get? b = some o:=fun b o e=>old b o (by rw [← es3]; exact e)
    refine ⟨ok,eos.symm ▸ rfl,egens ▸ I3.bare,Un.kept hk3,⟨_,hns,fun i x v e1 e2 e3=>?_⟩,fun x c e=>?_,?_,fun x c e=>I3.freeC x c (hcl.get e),fun p hp=>(by cases hp),I3.hok.kept hk3,?_⟩
    ·
      have e1':N[i]? = some x:=e1
      have e2':(fr[i]?).map (fun o=>o.bind fun i=>(σ[i]?).bind id) = some (some v):=by
        have:(stC fr σ)[i]? = some (some v):=e2
        rw [stC,List.getElem?_map] at this
        exact this
      cases q:fr[i]? with
      | none=>rw [q] at e2'; cases e2'
      | some o=>
        rw [q] at e2'
        cases o with
        | none=>cases e2'
        | some j=>
          have e2'':(σ[j]?).bind id = some v:=Option.some.inj e2'
          obtain ⟨p1,p2⟩:X.N[j]? = some x∧scope.names.lookup x = some .free:=by
            have hz:(x,some j)∈N.zip fr:=by
              have:(N.zip fr)[i]? = some (x,some j):=by
                rw [List.getElem?_zip_eq_some]; exact ⟨e1',q⟩
              exact List.mem_of_getElem? this
            have:=hfr _ hz
            simpa using this
          have hv:X.env.scope.names.lookup x = some .cell∨X.env.scope.names.lookup x = some .free:=by
            rcases hfree _ (PySem.mem_of_lookup p2) with z | z
            · exact absurd rfl z
            · simpa using z
          have e3':σ[j]? = some (some v):=by
            cases q3:σ[j]? with
            | none=>rw [q3] at e2''; cases e2''
            | some w'=>rw [q3] at e2''; have:w' = some v:=e2''; rw [this]
          obtain ⟨m,hn,hl'⟩:=I3.loc
          obtain ⟨u,ru,lk⟩:=hl' j x v p1 e3' (.inr hv)
          refine ⟨u,ru,.inr ⟨relabel_free p2,?_⟩⟩
          rcases lk with ⟨lk,_⟩ | ⟨_,c,ec,cc⟩
          · have lk':X.env.scope.names.lookup x = some .local:=lk
            rcases hv with z | z <;> (rw [z] at lk'; cases lk')
          · obtain ⟨c',ec'⟩:=hall.get _ (PySem.mem_of_lookup p2) rfl
            have:=hcl.get ec'
            rw [ec] at this; cases this
            obtain ⟨o,ho,hd⟩:=cc
            exact ⟨c,ec',o,hk3 _ _ ho,hd⟩
    · obtain ⟨v,o,ho,hd⟩:=I3.cell x c (hcl.get e)
      exact ⟨v,o,hk3 _ _ ho,hd⟩
    · show H3 C = none
      exact I3.hok.fresh (by rw [es3,hC]; exact Nat.le_refl _)
    · show (stC fr σ).length = N.length
      rw [stC,List.length_map]; exact hlen
  obtain ⟨hg,ht,he⟩:=hb C s3 H3 fp
  have fpc:∀ {H':Hp},(∀ b∈fp,H' b = none)→∀ b∈fp,FpOk (cxComp X scope cl N C s3 H3 fp) [] H' b:=fun hn b hb=>by
    obtain ⟨q1,q2⟩:=ok.exf b hb
    exact ⟨hn b hb,q1,ok.exfs b hb,.inl hb,q2,fun p hp=>by cases hp⟩
  have fin:∀ (σ':St) (H':Hp) (s':Shared),Inv (cxComp X scope cl N C s3 H3 fp) [] σ' H' s'→Q (.ref l) H'→compPost (model X.prog X.w) X.A X.xe use Qc (.ref l) C (.ok .next) s':=fun σ' H' s' I' q=>by
    obtain ⟨m,hn,_⟩:=I'.loc
    have nC:∀ b o,s3.heap.get? b = some o→b≠C:=fun b o e=>by
      rw [← hC,← es3]; exact Nat.ne_of_lt (Heap.lt_size e)
    have fC:H' C = none:=I'.free
    have u:=I'.base
    refine hfin l H' s' C ?_ (I3.fpOk (by rw [es3,hC]; exact Nat.le_refl _) fC) ⟨m,hn⟩ q
    refine I3.call' (s':=s') (ch:=fp) I'.os ⟨fun b o e n hb hx=>u.keep b o e n hb hx,fun b o e n hb hx=>u.slot b o e n hb hx,u.free,fun b o e hx=>u.there b o e hx,u.tups,u.frzs,u.tbls⟩ (fun b o e=>I'.hok b o e) I'.bare fun b hb=>?_
    obtain ⟨g0,g1,g2,g3,g4,g5⟩:=f3 b hb
    exact ⟨g3,g1,g4,g5⟩
  have loop:codeAny (model X.prog X.w) X.A (.compLoop (.ListComp elt [⟨tg,iter,ifs,0⟩] scope pos) 0 (.ref it) (.ref l) (compEnvC scope cl C X.env)) (compPost (model X.prog X.w) X.A X.xe use Qc (.ref l) C)
      { s2 with heap:=h₁,toks:=s2.toks + ([]:List (Str×Value)).length }:=by
    refine comp_turns (fun n s'=>∃ i σ' H',Inv (cxComp X scope cl N C s3 H3 fp) [] σ' H' s'∧tn i s'.heap∧(∀ b∈fp,H' b = none)∧W i n σ' H') ?_ m0 ⟨0,_,H3,I4,st3,fun b hb=>(f3 b hb).1,w0⟩
    rintro n s5 ⟨i,σ5,H5,I5,st5,fr5,w5⟩
    rcases turn i n σ5 H5 w5 with ⟨stop,qn⟩ | ⟨go,step⟩
    · refine thn (T.done (cxComp X scope cl N C s3 H3 fp) rfl rfl rfl hc i [] s5 σ5 H5 (fun _ _=>False) I5 (fpc fr5) st5 stop) fun r s6 ⟨hr,I6⟩=>?_
      subst hr
      exact fin σ5 H5 s6 I6 qn
    · refine thn (T.item (cxComp X scope cl N C s3 H3 fp) rfl rfl rfl hc i [] s5 σ5 H5 (fun _ _=>False) I5 (fpc fr5) st5 go) fun r s6 ⟨u,hr,h6⟩=>?_
      subst hr
      refine thn h6 fun _ s7 ⟨x,H7,I7,r7,y7,st7,fr7⟩=>?_
      have I7':=I7.pinned (fpc fr7) (T.obj _ _ st7)
      refine thn (hg _ s7 σ5 H7 x u _ I7' r7 (step x H7 y7)) fun _ s8 ⟨σ8,H8,I8,q8⟩=>?_
      have again:∀ {σ9:St} {H9:Hp} {s9:Shared},Inv (cxComp X scope cl N C s3 H3 fp) ([] ++ pinsAt fp s7.heap) σ9 H9 s9→(∃ m',m' < n∧W (i + 1) m' σ9 H9)→∃ m,m < n∧∃ i σ' H',Inv (cxComp X scope cl N C s3 H3 fp) [] σ' H' s9∧tn i s9.heap∧(∀ b∈fp,H' b = none)∧W i m σ' H':=fun {σ9 H9 s9} I9 n9=>by
        obtain ⟨m',hm,w9⟩:=n9
        refine ⟨m',hm,i + 1,σ9,H9,I9.unpinned,T.keep _ _ _ st7 fun b hb o e=>(I9.pin (b,o) (List.mem_append_right _ (List.mem_append_right _ (mem_pinsAt hb e)))).1,fun b hb=>?_,w9⟩
        obtain ⟨o,e,d⟩:=T.obj _ _ st7 b hb
        exact (I9.pin (b,o) (List.mem_append_right _ (List.mem_append_right _ (mem_pinsAt hb e)))).2.1
      refine thn (ht _ s8 σ8 H8 _ I8 q8) fun ok s9 ⟨H9,I9,q9⟩=>?_
      cases ok with
      | false=>
        rw [if_neg Bool.false_ne_true] at q9 ⊢
        exact again I9 q9
      | true=>
        rw [if_pos rfl] at q9 ⊢
        refine thn (he _ s9 σ8 H9 _ I9 q9) fun y sa ⟨vy,Ha,Ia,ry,qa⟩=>?_
        obtain ⟨xs,hla,hsz,n9⟩:=qa
        refine thn (mt_append _ sa σ8 Ha (.ref l) [vy] (.ref l) [y] (fun _ Hb=>∃ m',m' < n∧W (i + 1) m' σ8 Hb) Ia rfl (.cons ry .nil) ⟨l,xs,vy,rfl,rfl,hla,hsz,n9⟩) fun _ sb ⟨_,Hb,Ib,_,qb⟩=>?_
        exact again Ib qb
  show codeAny (model X.prog X.w) X.A (.compStart (.ListComp elt [⟨tg,iter,ifs,0⟩] scope pos) 0 (.ref it) (.ref l) (compEnvC scope cl C X.env)) (compPost (model X.prog X.w) X.A X.xe use Qc (.ref l) C) { s2 with heap:=h₁,toks:=s2.toks + ([]:List (Str×Value)).length }
  exact codeAny_compStart_list loop (T.self _ 0 _ _ _ st3 loop)
theorem pe_comp (N:List Str) (fr:List (Option Nat)) {elt tg iter:Expr} {ifs:List Expr} {scope:Scope} {pos:Pos} {wi:TI} {g:TG} {tt:TT} {te:TE} {cl:List (Str×Addr)}
    (hc:X.calm = true) (hi:PI X tg iter wi) (hchk:compChk X.N X.env.scope scope N fr = true) (hclos:closureFor scope X.env = pure cl) (hcl:ClOk X.env.cells cl) (hall:ClAll cl scope.names)
    (hb:∀ (C:Addr) (s:Shared) (H:Hp) (fp:List Addr),PG (cxComp X scope cl N C s H fp) tg g∧PIfs (cxComp X scope cl N C s H fp) ifs tt∧PE (cxComp X scope cl N C s H fp) elt te)
    (hs:∀ x,foldedSetIterable iter X.env x = pure x:=by intro _; rfl) :
    PE X (.ListComp elt [⟨tg,iter,ifs,0⟩] scope pos) (tComp fr wi g tt te):=by
  intro pins s σ H Q I h
  rw [eval_ListComp]
  refine comp_core N fr hc hi hchk hclos hcl hall hb hs I h fun l H' s' C I' fC ⟨m,hn⟩ q=>?_
  refine ⟨m,hn,fun h'' hs''=>⟨.ref l,H',?_,rfl,q⟩⟩
  obtain ⟨f0,f1,f2,f3,f4,f5⟩:=fC
  exact I'.turned (t':=s'.toks) (fun b o hb e=>(hs''.2 b hb).trans e) f0 f1 f3 f4 f5
theorem ps_setC (N:List Str) (fr:List (Option Nat)) {i:Nat} {x:Str} {elt tg iter:Expr} {ifs:List Expr} {scope:Scope} {cpos pos pos':Pos} {wi:TI} {g:TG} {tt:TT} {te:TE} {cl:List (Str×Addr)}
    (hN:X.N.Nodup) (hi':X.N[i]? = some x) (hx:Loc X.env.scope x)
    (hc:X.calm = true) (hi:PI X tg iter wi) (hchk:compChk X.N X.env.scope scope N fr = true) (hclos:closureFor scope X.env = pure cl) (hcl:ClOk X.env.cells cl) (hall:ClAll cl scope.names)
    (hb:∀ (C:Addr) (s:Shared) (H:Hp) (fp:List Addr),PG (cxComp X scope cl N C s H fp) tg g∧PIfs (cxComp X scope cl N C s H fp) ifs tt∧PE (cxComp X scope cl N C s H fp) elt te)
    (hs:∀ x,foldedSetIterable iter X.env x = pure x:=by intro _; rfl)
    (hsw:swapsWith (.ListComp elt [⟨tg,iter,ifs,0⟩] scope cpos) (some (.Name x pos')) pos.line X.env = pure true:=by rfl)
    (hf:X.fn x = true∨X.env.scope.names.lookup x = some .local:=by first | exact .inl rfl | exact .inr rfl | assumption) :
    PS X (.Assign [.Name x pos'] (.ListComp elt [⟨tg,iter,ifs,0⟩] scope cpos) pos) (tAsg (tComp fr wi g tt te) (gName i)):=by
  intro pins s σ H D I h
  rw [exec_Assign_arm]
  refine wpAny_bind (wpAny_standAt ?_)
  rw [show swapsWithSole [.Name x pos'] (.ListComp elt [⟨tg,iter,ifs,0⟩] scope cpos) pos.line X.env = pure true from hsw]
  refine wpAny_bind (wpAny_pure ?_)
  rw [if_pos rfl,arm_evalThenUse_ListComp]
  refine wpAny_bind (wpAny_bind ?_)
  have h1:tComp fr wi g tt te σ H fun v H1=>D.nx (σ.set i (some v)) H1:=h
  refine comp_core (use:=some _) N fr hc hi hchk hclos hcl hall hb hs I h1 fun l H' s' C I' fC ⟨m,hn⟩ q=>?_
  obtain ⟨f0,f1,f2,f3,f4,f5⟩:=fC
  obtain ⟨o,es,ep,ho,hd,hk,hm⟩:=hn
  have Ip:Inv X (pins ++ [(C,o)]) σ H' s':=I'.pins_of fun p hp=>(List.mem_append.mp hp).elim (fun z=>I'.pin p (List.mem_append_right _ z)) fun z=>by
    rw [List.mem_singleton.mp z]
    exact ⟨ho,f0,f1,f2,fun v e=>by rw [hd] at e; cases e⟩
  show wpAny _ _ (assignAll (.ref l) [assign (.Name x pos') X.env]) _ _ _
  rw [assignAll.eq_2]
  refine wpAny_assign_Name (store_ok Ip hN hi' hx (v:=.ref l) rfl (fun s2 I2=>?_) hf)
  have ho2:=(I2.pin (C,o) (List.mem_append_right _ (List.mem_append_right _ (List.mem_singleton_self _)))).1
  refine ⟨m,⟨o,es,ep,ho2,hd,hk,hm⟩,fun h' hs'=>wpAny_pure (wpAny_pure ⟨_,H',?_,q⟩)⟩
  exact I2.unpinned.turned (t':=s2.toks) (fun b o hb e=>(hs'.2 b hb).trans e) f0 f1 f3 f4 f5
def compChk0 (sc:Scope):Bool:=
  decide (sc.kind = .function) && (sc.names.all fun y=>!decide (y.2 = .cell)) && (sc.names.all fun y=>!decide (y.2 = .local) || decide (sc.names.lookup y.1 = some .local)) && (sc.names.all fun y=>!decide (y.2 = .free))
theorem pe_comp0 (N:List Str) {elt tg iter:Expr} {ifs:List Expr} {scope:Scope} {pos:Pos} {wi:TI} {g:TG} {tt:TT} {te:TE}
    (hc:X.calm = true) (hi:PI X tg iter wi) (hchk:compChk0 scope = true)
    (hb:∀ (C:Addr) (s:Shared) (H:Hp) (fp:List Addr),PG (cxComp X scope [] N C s H fp) tg g∧PIfs (cxComp X scope [] N C s H fp) ifs tt∧PE (cxComp X scope [] N C s H fp) elt te)
    (hs:∀ x,foldedSetIterable iter X.env x = pure x:=by intro _; rfl) :
    PE X (.ListComp elt [⟨tg,iter,ifs,0⟩] scope pos) (tComp (N.map fun _=>none) wi g tt te):=by
  simp only [compChk0,Bool.and_eq_true,decide_eq_true_eq,List.all_eq_true,Bool.or_eq_true,Bool.not_eq_true',decide_eq_false_iff_not] at hchk
  obtain ⟨⟨⟨hkind,hcell⟩,hnames⟩,hfree⟩:=hchk
  refine pe_comp (cl:=[]) N (N.map fun _=>none) hc hi ?_ (closureFor_none fun x hx=>hfree x hx) trivial ?_ hb hs
  · simp only [compChk,Bool.and_eq_true,decide_eq_true_eq,List.all_eq_true,Bool.or_eq_true,Bool.not_eq_true',decide_eq_false_iff_not]
    refine ⟨⟨⟨⟨⟨hkind,by simp⟩,hcell⟩,hnames⟩,fun y hy=>.inl (hfree y hy)⟩,fun p hp=>?_⟩
    have:p.2∈N.map fun _=>(none:Option Nat):=(List.of_mem_zip hp).2
    obtain ⟨_,_,e⟩:=List.mem_map.mp this
    rw [← e]
  · have:∀ ns:List (Str×NameKind),(∀ y∈ns,y.2≠.free)→ClAll [] ns:=by
      intro ns
      induction ns with
      | nil=>intro _; exact trivial
      | cons p r ih=>intro h; exact ⟨fun e=>absurd e (h p List.mem_cons_self),ih fun y hy=>h y (List.mem_cons_of_mem _ hy)⟩
    exact this _ fun y hy=>hfree y hy
theorem ps_setC0 (N:List Str) {i:Nat} {x:Str} {elt tg iter:Expr} {ifs:List Expr} {scope:Scope} {cpos pos pos':Pos} {wi:TI} {g:TG} {tt:TT} {te:TE}
    (hN:X.N.Nodup) (hi':X.N[i]? = some x) (hx:Loc X.env.scope x)
    (hc:X.calm = true) (hi:PI X tg iter wi) (hchk:compChk0 scope = true)
    (hb:∀ (C:Addr) (s:Shared) (H:Hp) (fp:List Addr),PG (cxComp X scope [] N C s H fp) tg g∧PIfs (cxComp X scope [] N C s H fp) ifs tt∧PE (cxComp X scope [] N C s H fp) elt te)
    (hs:∀ x,foldedSetIterable iter X.env x = pure x:=by intro _; rfl)
    (hsw:swapsWith (.ListComp elt [⟨tg,iter,ifs,0⟩] scope cpos) (some (.Name x pos')) pos.line X.env = pure true:=by rfl)
    (hf:X.fn x = true∨X.env.scope.names.lookup x = some .local:=by first | exact .inl rfl | exact .inr rfl | assumption) :
    PS X (.Assign [.Name x pos'] (.ListComp elt [⟨tg,iter,ifs,0⟩] scope cpos) pos) (tAsg (tComp (N.map fun _=>none) wi g tt te) (gName i)):=by
  simp only [compChk0,Bool.and_eq_true,decide_eq_true_eq,List.all_eq_true,Bool.or_eq_true,Bool.not_eq_true',decide_eq_false_iff_not] at hchk
  obtain ⟨⟨⟨hkind,hcell⟩,hnames⟩,hfree⟩:=hchk
  refine ps_setC (cl:=[]) N (N.map fun _=>none) hN hi' hx hc hi ?_ (closureFor_none fun x hx=>hfree x hx) trivial ?_ hb hs hsw hf
  · simp only [compChk,Bool.and_eq_true,decide_eq_true_eq,List.all_eq_true,Bool.or_eq_true,Bool.not_eq_true',decide_eq_false_iff_not]
    refine ⟨⟨⟨⟨⟨hkind,by simp⟩,hcell⟩,hnames⟩,fun y hy=>.inl (hfree y hy)⟩,fun p hp=>?_⟩
    have:p.2∈N.map fun _=>(none:Option Nat):=(List.of_mem_zip hp).2
    obtain ⟨_,_,e⟩:=List.mem_map.mp this
    rw [← e]
  · have:∀ ns:List (Str×NameKind),(∀ y∈ns,y.2≠.free)→ClAll [] ns:=by
      intro ns
      induction ns with
      | nil=>intro _; exact trivial
      | cons p r ih=>intro h; exact ⟨fun e=>absurd e (h p List.mem_cons_self),ih fun y hy=>h y (List.mem_cons_of_mem _ hy)⟩
    exact this _ fun y hy=>hfree y hy
end
end L2
namespace L2
open PySem PySem.Spec PyProof.Rows
def Def (P:Program) (w:World) (K:PySem.W.Frag) (mg:Str→Option Value) (base:Heap) (k:Nat) (x:Str) (ps:List Str) (sp:Sp):Prop:=
  ∃ (f:Addr) (fd:FuncData),FnOk P w K mg base CX0 k f fd ps sp∧mg x = some (.ref f)∧PySem.W.keepIn K (.ref f) = true∧Binds K fd ps []
section
variable {X:Cx} {k:Nat} {x:Str} {ps:List Str} {sp:Sp} {e:Expr} {es:List Expr} {t:TA} {p pos:Pos}
theorem pe_fn (D:Def X.prog X.w X.K X.mg X.base k x ps sp) (hr:Room k X.A) (hg:Gl X x) (ha:PA X (e :: es) t)
    (hdb:(x == ("__debug__":Str)) = false:=by decide) (he:starEach (e :: es) X.env = (false,eval e X.env) :: starEach es X.env:=by rfl) (hpl:(backTo pos (starEach es X.env)).any (·.1) = false:=by rfl) :
    PE X (.Call (.Name x p) (e :: es) [] pos) (tCall sp [] E0 t):=by
  obtain ⟨f,fd,F,hm,hk,hb⟩:=D
  exact pe_call F hr hg hm hk hb .nil pass0 ha hdb he hpl
end
section
variable {X:Cx}
theorem pe_globI {x:Str} {i:Int} {pos:Pos} (hg:Gl X x) (hm:∃ t,X.mg x = some (.int i t)) (hd:(x == ("__debug__":Str)) = false:=by decide):PE X (.Name x pos) (tC (.int i)):=by
  obtain ⟨t,hm⟩:=hm
  exact pe_glob hg hm ⟨_,rfl⟩ hd
theorem pe_ty {x:Str} {T:String} {pos:Pos} (hg:Gl X x) (hm:X.mg x = none) (hv:bootBuiltins x = some (.type T)) (hn:x≠"__name__":=by decide) (hd:(x == ("__debug__":Str)) = false:=by decide):PE X (.Name x pos) (tC (.ty T)):=pe_bltn hg hm hv rfl hn hd
theorem pe_globS {x z:Str} {pos:Pos} (hg:Gl X x) (hm:∃ t,X.mg x = some (.str z t)) (hd:(x == ("__debug__":Str)) = false:=by decide):PE X (.Name x pos) (tC (.str z)):=by
  obtain ⟨t,hm⟩:=hm
  exact pe_glob hg hm ⟨_,rfl⟩ hd
end
theorem bt_isinstance:bootBuiltins "isinstance" = some (.builtin "isinstance"):=by decide +kernel
theorem bt_all:bootBuiltins "all" = some (.builtin "all"):=by decide +kernel
theorem bt_sorted:bootBuiltins "sorted" = some (.builtin "sorted"):=by decide +kernel
theorem bt_len:bootBuiltins "len" = some (.builtin "len"):=by decide +kernel
theorem bt_int:bootBuiltins "int" = some (.type "int"):=by decide +kernel
theorem bt_bool:bootBuiltins "bool" = some (.type "bool"):=by decide +kernel
theorem bt_str:bootBuiltins "str" = some (.type "str"):=by decide +kernel
theorem bt_list:bootBuiltins "list" = some (.type "list"):=by decide +kernel
theorem bt_tuple:bootBuiltins "tuple" = some (.type "tuple"):=by decide +kernel
theorem bt_dict:bootBuiltins "dict" = some (.type "dict"):=by decide +kernel
theorem bt_set:bootBuiltins "set" = some (.type "set"):=by decide +kernel
theorem kit_of {t c:String} {b:Bool} (h:(if (Value.type t == Value.type c) = true then some true else if PySem.W.kitMeta c = true then (fastBuiltinMro t).map (·.contains (.type c)) else none) = some b) (K:PySem.W.Frag) :
    PySem.W.kitOne K (.type t) (.type c) = some b:=h
section
variable {X:Cx}
def rIsi (K:PySem.W.Frag):List V→Hp→VK→Prop:=fun xs H Q=>∃ x c t b,xs = [x,.ty c]∧TyOf K H x t∧PySem.W.kitOne K t (.type c) = some b∧Q (.bl b) H
theorem call_isinst:CallR X (.builtin "isinstance") (rIsi X.K):=by
  intro pins s σ H xs us Q I r h
  obtain ⟨x,c,t,b,rfl,ty,e,q⟩:=h
  obtain ⟨u,v,rfl,ru,rv⟩:=vals2 r
  have ev:v = Value.type c:=rv
  subst ev
  exact isinst_ok I ru ty e fun tk=>⟨.bl b,H,I.tok _,rfl,q⟩
end
def pureV:V→Bool
  | .non=>true
  | .int _=>true
  | .str _=>true
  | _=>false
theorem pure_flat {x:V} (h:pureV x = true):flatV x = true:=by
  cases x <;> first | rfl | exact h
theorem pure_eq {x y:V} (hx:pureV x = true) (hy:pureV y = true):eqV x y = decide (x = y):=by
  cases x <;> first | exact absurd (show false = true from hx) Bool.false_ne_true | skip
  all_goals (cases y <;> first | exact absurd (show false = true from hy) Bool.false_ne_true | skip)
  · rfl
  · rfl
  · rfl
  · rfl
  · exact dec_int.symm
  · rfl
  · rfl
  · rfl
  · exact dec_str.symm
theorem range_all_dec:∀ (xs ys:List V),xs.length = ys.length→xs.all pureV = true→ys.all pureV = true→
    ((List.range xs.length).all fun i=>eqV (xs.getD i .non) (ys.getD i .non)) = decide (xs = ys):=by
  intro xs
  induction xs with
  | nil=>
    intro ys hl _ _
    cases ys with
    | nil=>rfl
    | cons _ _=>simp at hl
  | cons x xs ih=>
    intro ys hl hx hy
    cases ys with
    | nil=>simp at hl
    | cons y ys=>
      rw [List.all_cons,Bool.and_eq_true] at hx hy
      have q:=ih ys (by simpa using hl) hx.2 hy.2
      rw [List.length_cons,List.range_succ_eq_map,List.all_cons,List.all_map]
      have e0:((fun i=>eqV ((x :: xs).getD i .non) ((y :: ys).getD i .non))∘Nat.succ) = fun i=>eqV (xs.getD i .non) (ys.getD i .non):=by
        funext i; simp
      rw [e0,q]
      show (eqV x y && decide (xs = ys)) = _
      rw [pure_eq hx.1 hy.1]
      by_cases h1:x = y
      · by_cases h2:xs = ys <;> simp [h1,h2]
      · simp [h1]
theorem all_get {xs:List V} {us:List Value} (r:Vals xs us) {j:Nat} (hj:j < us.length):∃ x,xs[j]? = some x∧RelV x us[j]:=by
  have hl:=r.length
  obtain ⟨u,e1,e2⟩:=r.get (i:=j) (x:=xs[j]'(by omega)) (by simp [show j < xs.length by omega])
  refine ⟨xs[j]'(by omega),by simp [show j < xs.length by omega],?_⟩
  rw [List.getElem?_eq_getElem hj] at e1
  cases e1
  exact e2
section
variable {X:Cx}
theorem rc_lists {A:Around} {s:Shared} {a b:Addr} {xs ys:List V} {its its2:List Value} (hu:A.units < cLine) (r1:Vals xs its) (r2:Vals ys its2) (h1:s.heap.IsList a its.toArray) (h2:s.heap.IsList b its2.toArray)
    (f1:xs.all pureV = true) (f2:ys.all pureV = true):SeqAt.RcAt A s (.ref a) (.ref b) (decide (xs = ys)):=by
  have l1:=r1.length
  have l2:=r2.length
  by_cases hl:xs.length = ys.length
  · have q:=SeqAt.RcAt.lists (A:=A) (s:=s) (e:=fun i=>eqV (xs.getD i .non) (ys.getD i .non)) h1 h2 (by simp; omega) hu (fun j g1 g2=>by
      have g1':j < its.length:=by simpa using g1
      have g2':j < its2.length:=by simpa using g2
      obtain ⟨x,e1,rx⟩:=all_get r1 g1'
      obtain ⟨y,e2,ry⟩:=all_get r2 g2'
      have p1:pureV x = true:=List.all_eq_true.mp f1 x (List.mem_of_getElem? e1)
      have p2:pureV y = true:=List.all_eq_true.mp f2 y (List.mem_of_getElem? e2)
      have:=eqAt_V (A:=A.in1) (s:=s) rx ry (pure_flat p1) (pure_flat p2)
      simpa [List.getD,e1,e2] using this)
    have e:(its.toArray.size) = xs.length:=by simp; omega
    rw [e,range_all_dec xs ys hl f1 f2] at q
    exact q
  · have e:decide (xs = ys) = false:=decide_eq_false fun z=>hl (by rw [z])
    rw [e]
    exact SeqAt.RcAt.lists_lengths h1 h2 (by simp; omega) hu
def rEqL (K:PySem.W.Frag) (neg:Bool):R2:=fun x y H Q=>∃ a b xs ys,x = .ref a∧y = .ref b∧SqL K H a xs∧SqL K H b ys∧xs.all pureV = true∧ys.all pureV = true∧Q (.bl (if neg then !decide (xs = ys) else decide (xs = ys))) H
theorem op_eqD (hu:X.A.units + 1 < cLine):OpR X (compareOp .Eq) (rEqL X.K false):=by
  intro pins s σ H x y v u Q I rx ry h
  obtain ⟨a,b,xs,ys,rfl,rfl,h1,h2,f1,f2,q⟩:=h
  cases rx
  cases ry
  obtain ⟨its,r1,p1,_⟩:=I.list h1
  obtain ⟨its2,r2,p2,_⟩:=I.list h2
  exact rc_lists (by omega) r1 r2 p1.isList p2.isList f1 f2 _ _ _ _ ⟨.bl _,H,I,rfl,q⟩
theorem rc_neLists {A:Around} {s:Shared} {a b:Addr} {xs ys:List V} {its its2:List Value} (hu:A.units < cLine) (r1:Vals xs its) (r2:Vals ys its2) (h1:s.heap.IsList a its.toArray) (h2:s.heap.IsList b its2.toArray)
    (f1:xs.all pureV = true) (f2:ys.all pureV = true):SeqAt.RcNeAt A s (.ref a) (.ref b) (!decide (xs = ys)):=by
  have l1:=r1.length
  have l2:=r2.length
  by_cases hl:xs.length = ys.length
  · have q:=SeqAt.RcNeAt.lists (A:=A) (s:=s) (e:=fun i=>eqV (xs.getD i .non) (ys.getD i .non)) h1 h2 (by simp; omega) hu (fun j g1 g2=>by
      have g1':j < its.length:=by simpa using g1
      have g2':j < its2.length:=by simpa using g2
      obtain ⟨x,e1,rx⟩:=all_get r1 g1'
      obtain ⟨y,e2,ry⟩:=all_get r2 g2'
      have p1:pureV x = true:=List.all_eq_true.mp f1 x (List.mem_of_getElem? e1)
      have p2:pureV y = true:=List.all_eq_true.mp f2 y (List.mem_of_getElem? e2)
      have:=eqAt_V (A:=A.in1) (s:=s) rx ry (pure_flat p1) (pure_flat p2)
      simpa [List.getD,e1,e2] using this)
    have e:(its.toArray.size) = xs.length:=by simp; omega
    rw [e,range_all_dec xs ys hl f1 f2] at q
    exact q
  · have e:decide (xs = ys) = false:=decide_eq_false fun z=>hl (by rw [z])
    rw [e]
    exact SeqAt.RcNeAt.lists_lengths h1 h2 (by simp; omega) hu
theorem op_neD (hu:X.A.units + 1 < cLine):OpR X (compareOp .NotEq) (rEqL X.K true):=by
  intro pins s σ H x y v u Q I rx ry h
  obtain ⟨a,b,xs,ys,rfl,rfl,h1,h2,f1,f2,q⟩:=h
  cases rx
  cases ry
  obtain ⟨its,r1,p1,_⟩:=I.list h1
  obtain ⟨its2,r2,p2,_⟩:=I.list h2
  exact rc_neLists (by omega) r1 r2 p1.isList p2.isList f1 f2 _ _ _ _ ⟨.bl _,H,I,rfl,q⟩
end
theorem boolsAre_of:∀ {bs:List Bool} {us:List Value},Vals (bs.map V.bl) us→LSm.BoolsAre us bs
  | [],_,.nil=>.nil
  | b :: bs,_,.cons r t=>by
    have e:_ = Value.bool b:=r
    subst e
    exact .cons b (boolsAre_of t)
section
variable {prog:Program} {w:World} {A:Around} {E:Value→Shared→Prop} {s:Shared} {l:Addr} {vs:List Value}
theorem all_kept {bs:List Bool} {Q:Value→Shared→Prop} (hh:A.handled = none) (hl:s.heap.IsList l vs.toArray) (hb:LSm.BoolsAre vs bs)
    (h:∀ h' tk,(∀ b o,s.heap.get? b = some o→h'.get? b = some o)→Q (.bool (bs.all id)) { s with heap:=h',toks:=tk }):wpAny (model prog w) A (call (.builtin "all") [.ref l]) Q E s:=by
  have below:l < s.heap.objs.size:=(fun ⟨_,e,_⟩=>Heap.lt_size e:s.heap.IsList l vs.toArray→_) hl
  have whole:((List.range vs.toArray.size).all fun i=>(bs[i]?).getD true) = bs.all id:=by rw [List.size_toArray,hb.length,LSm.range_all]
  exact call_all_walk (wpAny_pyIter_list hl ⟨s.heap.objs.size,[s.heap.objs.size,l],[s.heap.objs.size],vs.toArray.size,_,_,fun i=>(bs[i]?).getD true,rfl,Walks.list (A:=A.in1) hh _ l (Nat.ne_of_lt below) vs.toArray,⟨⟨_,Heap.get?_push_size _ rfl,rfl,rfl⟩,hl.push _⟩,
    (fun i v s' Q' E' hP hQ=>by
      obtain ⟨b,hg,hv⟩:=hb.get i v (by simpa using hP)
      have hQ':Q' b s':=by simpa [hg] using hQ
      subst hv
      exact wpAny_truthy_bool hQ'),
    fun h' tk hk=>whole ▸ h h' tk (LSm.kept_iter hk)⟩)
end
section
variable {X:Cx}
theorem call_all (hc:X.calm = true):CallR X (.builtin "all") (fun xs H Q=>∃ (a:Addr) (bs:List Bool),xs = [.ref a]∧SqL X.K H a (bs.map V.bl)∧Q (.bl (bs.all id)) H):=by
  intro pins s σ H xs us Q I r h
  obtain ⟨a,bs,rfl,h1,q⟩:=h
  obtain ⟨u,rfl,ru⟩:=vals1 r
  cases ru
  obtain ⟨its,r1,p1,_⟩:=I.list h1
  exact all_kept (I.ok.hd hc) p1.isList (boolsAre_of r1) fun h' tk hk=>⟨.bl _,H,I.kept hk,rfl,q⟩
def rCatS (K:PySem.W.Frag):R2:=fun x y H Q=>∃ l b xs zs,x = .ref l∧y = .ref b∧SqL K H l xs∧SqL K H b zs∧xs.length + zs.length≤sizeLine∧∀ p,H p = none→Q (.ref p) (upd H p (.lst (xs ++ zs)))
theorem op_catS:OpR X (binaryOp .Add) (rCatS X.K):=by
  intro pins s σ H x y v u Q I rx ry h
  obtain ⟨l,b,xs,zs,rfl,rfl,h1,h2,hz,q⟩:=h
  cases rx
  cases ry
  obtain ⟨its,r,p1,_⟩:=I.list h1
  obtain ⟨its2,r2,p2,_⟩:=I.list h2
  have l1:=r.length
  have l2:=r2.length
  obtain ⟨⟨cls,dd,data,sl⟩,ho,hc,n,hd⟩:=id p1.isList
  obtain ⟨⟨cls2,dd2,data2,sl2⟩,ho2,hc2,n2,hd2⟩:=id p2.isList
  simp only at hc hd hc2 hd2
  subst hc hd hc2 hd2
  have e:its.toArray ++ its2.toArray = (its ++ its2).toArray:=by simp
  refine concat_meets ⟨_,ho,rfl⟩ ⟨_,ho2,rfl⟩ noFill_list_add seq_list_add PySem.F.slot_list_add PySem.F.entry_list_add (PySem.F.args_list_add_2 _ _) (list_addW l b its.toArray its2.toArray n n2 dd dd2 sl sl2 (by rw [List.size_toArray,List.size_toArray]; omega)) ⟨ho,ho2,?_⟩
  rw [e]
  exact ⟨.ref _,_,I.lnew (t':=s.toks) (r.append r2) (by rw [List.length_append]; omega),rfl,q _ I.fresh⟩
end
theorem same_new {H:Hp} {p:Addr} (h:H p = none) (o:HO):Same H (upd H p o):=fun b u q=>by rw [upd_ne (ne_of_none q h)]; exact q
theorem same_upd {H H':Hp} {p:Addr} (s:Same H H') (h:H p = none) (o:HO):Same H (upd H' p o):=fun b u q=>by rw [upd_ne (ne_of_none q h)]; exact s b u q
theorem Same.get {H H':Hp} {a:Addr} {o:HO} (s:Same H H') (h:H a = some o):H' a = some o:=s a o h
theorem sizeLine_big:1000000≤sizeLine:=by decide
theorem small {n:Nat} (h:n≤1000000):n≤sizeLine:=Nat.le_trans h sizeLine_big
theorem smallLt {n:Nat} (h:n < 1000000):n < sizeLine:=Nat.lt_of_lt_of_le h sizeLine_big
theorem at_int {ns:List Int} {i:Int} (h0:0≤i) (h1:i < ns.length):atI (ns.map V.int) i = some (.int (ns.getD i.toNat 0)):=by
  have hk:i.toNat < ns.length:=by omega
  have ek:i = ((i.toNat:Nat):Int):=by omega
  have q:atI (ns.map V.int) ((i.toNat:Nat):Int) = some (.int (ns.getD i.toNat 0)):=atI_nat (by rw [List.getElem?_map,List.getElem?_eq_getElem hk]; simp [List.getD,List.getElem?_eq_getElem hk])
  rw [← ek] at q
  exact q
theorem cut_hi {xs:List V} {j:Int} (h:0≤j):cutV xs none (some j) = xs.take j.toNat:=by
  unfold cutV
  rw [show j = ((j.toNat:Nat):Int) by omega,HT.sIx_nat,HT.sIx_none,Int.toNat_natCast,List.drop_zero,Nat.sub_zero]
  by_cases hl:j.toNat≤xs.length
  · rw [Nat.min_eq_left hl]
  · rw [Nat.min_eq_right (by omega),List.take_of_length_le (Nat.le_refl _),List.take_of_length_le (by omega)]
theorem iteFc {c:Bool} {A B:Prop} (h:c = false) (b:B):if c = true then A else B:=by
  subst h
  rw [if_neg Bool.false_ne_true]
  exact b
theorem iteTc {c:Bool} {A B:Prop} (h:c = true) (b:A):if c = true then A else B:=by
  subst h
  rw [if_pos rfl]
  exact b
theorem dec_true {c:Prop} [Decidable c] (h:decide c = true):c:=of_decide_eq_true h
theorem dec_false {c:Prop} [Decidable c] (h:¬ decide c = true):¬ c:=fun z=>h (decide_eq_true z)
theorem tOr_p {t u:TT} {σ:St} {H:Hp} {Q:Bool→Hp→Prop} (c d:Bool) (ht:∀ R:Bool→Hp→Prop,R c H→t σ H R) (hu:c = false→∀ R:Bool→Hp→Prop,R d H→u σ H R) (q:Q (c || d) H):tOr t u σ H Q:=by
  refine ht _ ?_
  cases c with
  | true=>rw [if_pos rfl]; exact q
  | false=>rw [if_neg Bool.false_ne_true]; exact hu rfl _ q
def ItIs (J:It) (H:Hp) (xs:List V):Prop:=∀ H',Same H H'→∀ i:Nat,(i < xs.length→J.go i H')∧(∀ x H'',J.yld i H' x H''→H'' = H'∧(i < xs.length→xs[i]? = some x))∧(xs.length≤i→J.stop i H')
theorem itIs_list {K:PySem.W.Frag} {a:Addr} {H:Hp} {xs:List V} (h:SqL K H a xs):ItIs (Itl K a) H xs:=fun H' s i=>
  ⟨fun hi=>⟨xs,xs[i],s.seq h,by simp [hi]⟩,fun x H'' y=>⟨y.1,fun _=>y.2 xs (s.seq h)⟩,fun hi=>⟨xs,s.seq h,hi⟩⟩
theorem itIs_range {lo:Int} {n:Nat} {H:Hp}:ItIs (Itr lo n) H ((List.range n).map fun (i:Nat)=>V.int (lo + (i:Int))):=fun H' s i=>
  ⟨fun hi=>(by simpa using hi:i < n),fun x H'' y=>⟨y.1,fun hi=>by
    have hi':i < n:=by simpa using hi
    rw [List.getElem?_map,List.getElem?_range hi',y.2]; rfl⟩,fun hi=>(by simpa using hi:n≤i)⟩
theorem comp_map {J:It} {xs:List V} {fr:List (Option Nat)} {k:Nat} {te:TE} {Q:VK} {σ:St} {H:Hp} (f:V→V) (hJ:ItIs J H xs) (hn:xs.length≤1000000)
    (helt:∀ (x:V) (H':Hp) (R:VK),x∈xs→Same H H'→(∀ H'',Same H' H''→R (f x) H'')→te ((stC fr σ).set k (some x)) H' R)
    (hQ:∀ l H',H l = none→Same H H'→H' l = some (.lst (xs.map f))→Q (.ref l) H') :
    tCompK fr (gName k) tYes te σ Q J H:=by
  intro l hl
  refine ⟨fun i m σ' H'=>m = xs.length - i∧i≤xs.length∧(∀ y,σ'.set k y = (stC fr σ).set k y)∧Same H H'∧H' l = some (.lst ((xs.take i).map f)),⟨xs.length,by simp,Nat.zero_le _,fun _=>rfl,same_new hl _,by rw [upd_same,List.take_zero,List.map_nil]⟩,?_⟩
  rintro i m σ' H' ⟨rfl,hi,hσ,hs,hl'⟩
  obtain ⟨h1,h2,h3⟩:=hJ H' hs i
  by_cases hlt:i < xs.length
  · refine .inr ⟨h1 hlt,fun x H'' y=>?_⟩
    obtain ⟨rfl,hx⟩:=h2 x H'' y
    have hx:=hx hlt
    show te (σ'.set k (some x)) H'' _
    rw [hσ]
    refine helt x H'' _ (List.mem_of_getElem? hx) hs fun H4 s4=>?_
    refine ⟨_,s4.get hl',smallLt (by rw [List.length_map,List.length_take]; omega),xs.length - (i + 1),by omega,rfl,hlt,fun y=>by rw [List.set_set],same_upd (hs.trans s4) hl _,?_⟩
    rw [upd_same,List.take_add_one,hx]
    simp
  · have e:i = xs.length:=by omega
    subst e
    exact .inl ⟨h3 (Nat.le_refl _),hQ l H' hl hs (by rw [hl',List.take_of_length_le (Nat.le_refl _)])⟩
section
variable {X:Cx} {K:PySem.W.Frag}
theorem ix_listK (h:X.K = K):IxR X (rIxL K):=by subst h; exact ix_list
theorem ix_tupK (h:X.K = K):IxR X (rIxT K):=by subst h; exact ix_tup
end
def Ok (H:Hp):V→Prop
  | .non=>True
  | .bl _=>True
  | .int _=>True
  | .str z=>z.length≤1000
  | .ref a=>(∃ xs,H a = some (.lst xs))∨∃ xs,H a = some (.tup xs)
  | _=>False
theorem Ok.same {H H':Hp} {v:V} (h:Ok H v) (s:Same H H'):Ok H' v:=by
  cases v <;> first | exact h | skip
  rcases h with ⟨xs,e⟩ | ⟨xs,e⟩
  · exact .inl ⟨xs,s.get e⟩
  · exact .inr ⟨xs,s.get e⟩
def tyN (H:Hp):V→String
  | .non=>"NoneType"
  | .bl _=>"bool"
  | .int _=>"int"
  | .str _=>"str"
  | .ref a=>match H a with
    | some (.lst _)=>"list"
    | some (.tup _)=>"tuple"
    | _=>"?"
  | _=>"?"
theorem Ok.ty {H:Hp} {v:V} (h:Ok H v) (K:PySem.W.Frag):TyOf K H v (.type (tyN H v)):=by
  cases v with
  | non=>exact .non
  | bl b=>exact .bl b
  | int i=>exact .int i
  | str z=>exact .str z
  | ref a=>
    rcases h with ⟨xs,e⟩ | ⟨xs,e⟩
    · have q:tyN H (.ref a) = "list":=by simp only [tyN,e]
      rw [q]; exact .lst e
    · have q:tyN H (.ref a) = "tuple":=by simp only [tyN,e]
      rw [q]; exact .tup e
  | _=>exact h.elim
def isA (t c:String):Bool:=t == c || (t == "bool" && c == "int")
theorem kit_any {t c:String} (K:PySem.W.Frag) (ht:t∈["NoneType","bool","int","str","list","tuple"]) (hc:c∈["bool","int","str","list","tuple"]):PySem.W.kitOne K (.type t) (.type c) = some (isA t c):=by
  have all:∀ t∈["NoneType","bool","int","str","list","tuple"],∀ c∈["bool","int","str","list","tuple"],(if (Value.type t == Value.type c) = true then some true else if PySem.W.kitMeta c = true then (fastBuiltinMro t).map (·.contains (.type c)) else none) = some (isA t c):=by decide +kernel
  exact kit_of (all t ht c hc) K
theorem Ok.tyMem {H:Hp} {v:V} (h:Ok H v):tyN H v∈["NoneType","bool","int","str","list","tuple"]:=by
  cases v with
  | ref a=>
    rcases h with ⟨xs,e⟩ | ⟨xs,e⟩
    · simp only [tyN,e]; decide
    · simp only [tyN,e]; decide
  | byt _=>exact h.elim
  | flt _=>exact h.elim
  | ty _=>exact h.elim
  | _=>simp only [tyN]; decide
theorem Ok.kit {H:Hp} {v:V} (h:Ok H v) (K:PySem.W.Frag) {c:String} (hc:c∈["bool","int","str","list","tuple"]:=by decide):PySem.W.kitOne K (.type (tyN H v)) (.type c) = some (isA (tyN H v) c):=kit_any K h.tyMem hc
theorem tAndV_p {t u:TE} {σ:St} {H:Hp} {Q:VK} (c d:Bool) (ht:∀ R:VK,R (.bl c) H→t σ H R) (hu:c = true→∀ R:VK,R (.bl d) H→u σ H R) (q:Q (.bl (c && d)) H):tAndV t u σ H Q:=by
  refine ht _ ⟨c,rfl,?_⟩
  cases c with
  | false=>rw [if_neg Bool.false_ne_true]; exact q
  | true=>rw [if_pos rfl]; exact hu rfl _ q
theorem tyN_lst {H:Hp} {a:Addr} {xs:List V} (e:H a = some (.lst xs)):tyN H (.ref a) = "list":=by simp only [tyN,e]
theorem tyN_tup {H:Hp} {a:Addr} {xs:List V} (e:H a = some (.tup xs)):tyN H (.ref a) = "tuple":=by simp only [tyN,e]
theorem Ok.elim {H:Hp} {v:V} (ok:Ok H v) {C:Prop} (c1:v = .non→tyN H v = "NoneType"→C) (c2:∀ b,v = .bl b→tyN H v = "bool"→C) (c3:∀ i,v = .int i→tyN H v = "int"→C) (c4:∀ z,v = .str z→z.length≤1000→tyN H v = "str"→C)
    (c5:∀ a xs,v = .ref a→H a = some (.lst xs)→tyN H v = "list"→C) (c6:∀ a xs,v = .ref a→H a = some (.tup xs)→tyN H v = "tuple"→C):C:=by
  cases v with
  | non=>exact c1 rfl rfl
  | bl b=>exact c2 b rfl rfl
  | int i=>exact c3 i rfl rfl
  | str z=>exact c4 z rfl ok rfl
  | ref a=>
    rcases ok with ⟨xs,e⟩ | ⟨xs,e⟩
    · exact c5 a xs rfl e (tyN_lst e)
    · exact c6 a xs rfl e (tyN_tup e)
  | _=>exact (show False from ok).elim
def wholeB (H:Hp) (v:V):Bool:=isA (tyN H v) "int" && !isA (tyN H v) "bool"
theorem whole_int (H:Hp) (i:Int):wholeB H (.int i) = true:=by
  show (isA "int" "int" && !isA "int" "bool") = true
  decide
theorem whole_of {H:Hp} {v:V} (ok:Ok H v) (h:wholeB H v = true):∃ i,v = .int i:=by
  unfold wholeB at h
  refine ok.elim (fun _ e=>?_) (fun _ _ e=>?_) (fun i e _=>⟨i,e⟩) (fun _ _ _ e=>?_) (fun _ _ _ _ e=>?_) (fun _ _ _ _ e=>?_)
  all_goals (rw [e] at h; exact absurd h (by decide))
def betw (a b:Int):V→Bool
  | .int i=>decide (a≤i) && decide (i≤b)
  | _=>false
theorem betw_eq {H:Hp} {v:V} {a b:Int} (h:wholeB H v = false):betw a b v = false:=by
  cases v with
  | int i=>rw [whole_int] at h; cases h
  | _=>rfl
theorem tuple_of {H:Hp} {v:V} (ok:Ok H v) (h:isA (tyN H v) "tuple" = true):∃ a xs,v = .ref a∧H a = some (.tup xs):=by
  refine ok.elim (fun _ e=>?_) (fun _ _ e=>?_) (fun _ _ e=>?_) (fun _ _ _ e=>?_) (fun _ _ _ _ e=>?_) (fun a xs e1 e2 _=>⟨a,xs,e1,e2⟩)
  all_goals (rw [e] at h; exact absurd h (by decide))
theorem str_of {H:Hp} {v:V} (ok:Ok H v) (h:isA (tyN H v) "str" = true):∃ z,v = .str z∧z.length≤1000:=by
  refine ok.elim (fun _ e=>?_) (fun _ _ e=>?_) (fun _ _ e=>?_) (fun z e1 e2 _=>⟨z,e1,e2⟩) (fun _ _ _ _ e=>?_) (fun _ _ _ _ e=>?_)
  all_goals (rw [e] at h; exact absurd h (by decide))
end L2
namespace L2
open PySem PySem.Spec PyProof.Rows
def Itx (x:Str):It:=⟨fun i _=>i < x.cps.size,fun i H v H'=>H' = H∧∃ c,x.cps[i]? = some c∧v = .str ⟨#[c]⟩,fun i _=>x.cps.size≤i⟩
theorem turn_ascii {P:Program} {w:World} {K:PySem.W.Frag} {tg:Expr} (it:Addr) (x:Str) (t:Tok):Turn P w K tg (Itx x) [it] it (fun i h=>h.IsStrIter it "str_ascii_iterator" x t i) where
  mem:=by simp
  obj:=fun i h st b hb=>by
    have e:b = it:=by simpa using hb
    subst e
    obtain ⟨o,e,c,d⟩:=st
    exact ⟨o,e,fun v z=>by rw [d] at z; cases z⟩
  keep:=fun i h h' st k=>by
    obtain ⟨o,e,c,d⟩:=st
    exact ⟨o,k it (by simp) o e,c,d⟩
  item:=by
    intro X hP hw hK hc i pins s σ H E I hf st hg
    subst hP hw hK
    have hg':i < x.cps.size:=hg
    obtain ⟨f0,f1,f2,f3,f4,f5⟩:=hf it (by simp)
    refine wpAny_pyNext_ascii_item st (c:=x.cps[i]) (by simp [hg']) fun h' st' sb=>?_
    have I1:Inv X pins σ H { s with heap:=h',toks:=s.toks + 1 }:=I.turned (fun b o hb e=>(sb.2 b hb).trans e) f0 f1 f3 f4 f5
    obtain ⟨o,e,c,d⟩:=id st'
    exact ⟨_,rfl,go_of (s:={ s with heap:=h',toks:=s.toks + 1 }) e c d (by decide) ⟨.str ⟨#[x.cps[i]]⟩,H,I1,⟨_,rfl⟩,⟨rfl,_,by simp [hg'],rfl⟩,st',fun b hb=>(hf b hb).1⟩⟩
  done:=by
    intro X hP hw hK hc i pins s σ H E I hf st hg
    subst hP hw hK
    have hg':x.cps.size≤i:=hg
    obtain ⟨f0,f1,f2,f3,f4,f5⟩:=hf it (by simp)
    exact wpAny_pyNext_ascii_end (I.ok.hd hc) st (by simp [hg']) fun h' eb=>⟨rfl,I.turned (t':=s.toks) (fun b o hb e=>eb b o hb e) f0 f1 f3 f4 f5⟩
  self:=fun _ _ _ _ _ st h=>wpAny_pyIter_striter_ascii st h
theorem turn_wide {P:Program} {w:World} {K:PySem.W.Frag} {tg:Expr} (it:Addr) (x:Str) (t:Tok):Turn P w K tg (Itx x) [it] it (fun i h=>h.IsStrIter it "str_iterator" x t i) where
  mem:=by simp
  obj:=fun i h st b hb=>by
    have e:b = it:=by simpa using hb
    subst e
    obtain ⟨o,e,c,d⟩:=st
    exact ⟨o,e,fun v z=>by rw [d] at z; cases z⟩
  keep:=fun i h h' st k=>by
    obtain ⟨o,e,c,d⟩:=st
    exact ⟨o,k it (by simp) o e,c,d⟩
  item:=by
    intro X hP hw hK hc i pins s σ H E I hf st hg
    subst hP hw hK
    have hg':i < x.cps.size:=hg
    obtain ⟨f0,f1,f2,f3,f4,f5⟩:=hf it (by simp)
    refine wpAny_pyNext_wide_item st (c:=x.cps[i]) (by simp [hg']) fun h' st' sb=>?_
    have I1:Inv X pins σ H { s with heap:=h',toks:=s.toks + 1 }:=I.turned (fun b o hb e=>(sb.2 b hb).trans e) f0 f1 f3 f4 f5
    obtain ⟨o,e,c,d⟩:=id st'
    exact ⟨_,rfl,go_of (s:={ s with heap:=h',toks:=s.toks + 1 }) e c d (by decide) ⟨.str ⟨#[x.cps[i]]⟩,H,I1,⟨_,rfl⟩,⟨rfl,_,by simp [hg'],rfl⟩,st',fun b hb=>(hf b hb).1⟩⟩
  done:=by
    intro X hP hw hK hc i pins s σ H E I hf st hg
    subst hP hw hK
    have hg':x.cps.size≤i:=hg
    obtain ⟨f0,f1,f2,f3,f4,f5⟩:=hf it (by simp)
    exact wpAny_pyNext_wide_end (I.ok.hd hc) st (by simp [hg']) fun h' eb=>⟨rfl,I.turned (t':=s.toks) (fun b o hb e=>eb b o hb e) f0 f1 f3 f4 f5⟩
  self:=fun _ _ _ _ _ st h=>wpAny_pyIter_striter_wide st h
section
variable {X:Cx} {tg:Expr}
def iStr (tl:TE):TI:=fun σ H R=>tl σ H fun x H1=>∃ z,x = .str z∧R (Itx z) H1
theorem pi_str {l:Expr} {tl:TE} (hl:PE X l tl):PI X tg l (iStr tl):=by
  intro pins s σ H R I h
  refine thn (hl pins s σ H _ I h) fun v s1 ⟨x,H1,I1,r1,q1⟩=>?_
  obtain ⟨z,e,q⟩:=q1
  subst e
  obtain ⟨t,rfl⟩:=r1
  have fp:∀ b∈[s1.heap.objs.size],FpOk X pins H1 b:=fun b hb=>by
    have e:b = s1.heap.objs.size:=by simpa using hb
    subst e
    exact I1.fpOk (Nat.le_refl _) (I1.hok.fresh (Nat.le_refl _))
  cases ha:z.cps.all (· < 128)
  · exact wpAny_pyIter_wide ha ⟨s1.heap.objs.size,[s1.heap.objs.size],_,_,H1,rfl,I1.kept (t':=s1.toks) (fun b o e=>Heap.get?_push_of_some _ e),turn_wide _ z t,⟨_,Heap.get?_push_size _ rfl,rfl,rfl⟩,fp,q⟩
  · exact wpAny_pyIter_ascii ha ⟨s1.heap.objs.size,[s1.heap.objs.size],_,_,H1,rfl,I1.kept (t':=s1.toks) (fun b o e=>Heap.get?_push_of_some _ e),turn_ascii _ z t,⟨_,Heap.get?_push_size _ rfl,rfl,rfl⟩,fp,q⟩
end
theorem itIs_str {x:Str} {H:Hp}:ItIs (Itx x) H (x.cps.toList.map fun c=>V.str ⟨#[c]⟩):=fun H' s i=>
  ⟨fun hi=>(by simpa using hi:i < x.cps.size),fun v H'' y=>⟨y.1,fun hi=>by
    obtain ⟨_,c,hc,e⟩:=y
    rw [List.getElem?_map,Array.getElem?_toList,hc,e]; rfl⟩,fun hi=>(by simpa using hi:x.cps.size≤i)⟩
section
variable {X:Cx}
end
end L2
namespace L2
open PySem PySem.Spec PyProof.Rows
section
variable {X:Cx}
end
end L2
namespace L2
open PySem PySem.Spec PyProof.Rows
section
variable {X:Cx}
def rSlS:V→Option Int→Option Int→Hp→VK→Prop:=fun x lo hi H Q=>∃ z:Str,x = .str z∧z.length≤sizeLine∧Q (.str (PySem.Txt.slice z lo hi)) H
theorem sl_str:SlR X rSlS:=by
  intro pins s σ H x v vl vu lo hi sl Q I rx hs pl pu h
  obtain ⟨z,rfl,hz,q⟩:=h
  obtain ⟨t,rfl⟩:=rx
  refine ⟨"str",_,slot_str_getitem.lookup,typeIs_str _ _ _,?_⟩
  cases pl with
  | none=>
    cases pu with
    | none=>exact wpAny_getItem_str_slice (l:=none) (u:=none) (st:=none) hs rfl (post_val_or_str ⟨Nat.le_trans (PySem.Txt.slice_le z _ _) hz,fun t' k=>⟨.str _,H,I.tok k,⟨_,rfl⟩,q⟩⟩)
    | int j tj=>exact wpAny_getItem_str_slice (l:=none) (u:=some (j,tj)) (st:=none) hs rfl (post_val_or_str ⟨Nat.le_trans (PySem.Txt.slice_le z _ _) hz,fun t' k=>⟨.str _,H,I.tok k,⟨_,rfl⟩,q⟩⟩)
  | int i ti=>
    cases pu with
    | none=>exact wpAny_getItem_str_slice (l:=some (i,ti)) (u:=none) (st:=none) hs rfl (post_val_or_str ⟨Nat.le_trans (PySem.Txt.slice_le z _ _) hz,fun t' k=>⟨.str _,H,I.tok k,⟨_,rfl⟩,q⟩⟩)
    | int j tj=>exact wpAny_getItem_str_slice (l:=some (i,ti)) (u:=some (j,tj)) (st:=none) hs rfl (post_val_or_str ⟨Nat.le_trans (PySem.Txt.slice_le z _ _) hz,fun t' k=>⟨.str _,H,I.tok k,⟨_,rfl⟩,q⟩⟩)
theorem strsAre_of {ys:List Str}:∀ {us:List Value},Vals (ys.map V.str) us→StrsAre us ys:=by
  induction ys with
  | nil=>intro us r; rw [List.map_nil] at r; cases r; exact .nil
  | cons n ns ih=>
    intro us r
    rw [List.map_cons] at r
    cases r with
    | cons r1 r2=>
      obtain ⟨t,e⟩:=r1
      subst e
      exact .cons n t (ih r2)
def rJoin (K:PySem.W.Frag):V→List V→Hp→VK→Prop:=fun x vs H Q=>∃ (a:Addr) (z:Str) (ys:List Str),x = .str z∧vs = [.ref a]∧SqL K H a (ys.map V.str)∧(ys.map (·.length)).sum + ys.length * z.length≤16777216∧Q (.str (PySem.Txt.join z ys)) H
theorem mt_join (_:X.calm = true):MtR X "str.join" (rJoin X.K):=by
  intro pins s σ H x vs v us Q I rx rv h
  obtain ⟨a,z,ys,rfl,rfl,hq,hz,q⟩:=h
  obtain ⟨tk,rfl⟩:=rx
  obtain ⟨y,rfl,ry⟩:=rv.one
  cases ry
  obtain ⟨its,r1,p1,_⟩:=I.list hq
  exact join_list p1.isList (strsAre_of (by simpa using r1)) hz fun t' k=>⟨.str _,H,I.tok k,⟨_,rfl⟩,q⟩
end
end L2
namespace L2
open PySem PySem.Spec PyProof.Rows PySem.Builtin.Str
abbrev cod (z:Str):List Nat:=z.cps.toList
theorem cod_len (z:Str):(cod z).length = z.length:=by simp [Str.length]
theorem cod_app (a y:Str):cod (a ++ y) = cod a ++ cod y:=by
  show (a.cps ++ y.cps).toList = _
  simp
theorem sl_to (z:Str) {j:Int} (h0:0≤j):cod (PySem.Txt.slice z none (some j)) = (cod z).take j.toNat:=by
  have hc:StrLaws.sliceText z none (some j) = StrLaws.sliceText z none (some (min j z.length)):=by
    have e:strSliceIndices none (some j) 1 z.length = strSliceIndices none (some (min j z.length)) 1 z.length:=by
      unfold strSliceIndices
      have e1:(if j < 0 then j + (z.length:Int) else j) = j:=if_neg (by omega)
      have e2:(if min j (z.length:Int) < 0 then min j (z.length:Int) + (z.length:Int) else min j (z.length:Int)) = min j z.length:=if_neg (by omega)
      simp only [e1,e2]
      have e3:max 0 (min j (z.length:Int)) = max 0 (min (min j (z.length:Int)) z.length):=by omega
      rw [e3]
      simp only [if_pos (show (1:Int) > 0 by decide)]
    unfold StrLaws.sliceText
    rw [e]
  show cod (StrLaws.sliceText z none (some j)) = _
  rw [hc,StrLaws.sliceText_to ⟨by omega,by rw [cod_len z]; omega⟩]
  show ((cod z).drop 0).take (min j (z.length:Int) - 0).toNat = _
  rw [List.drop_zero]
  by_cases h:j≤z.length
  · congr 1; omega
  · have hl:=cod_len z
    rw [List.take_of_length_le (by omega),List.take_of_length_le (by omega)]
end L2
namespace L2
open PySem PySem.Spec PyProof.Rows
section
variable {X:Cx}
end
theorem comp_rel {J:It} {xs:List V} {fr:List (Option Nat)} {k:Nat} {te:TE} {Q:VK} {σ:St} {H:Hp} (P:V→V→Hp→Prop) (hP:∀ x y H1 H2,P x y H1→Same H1 H2→P x y H2)
    (hU:∀ x y H1 l us us',P x y H1→H1 l = some (.lst us)→y≠.ref l→P x y (upd H1 l (.lst us'))) (hJ:ItIs J H xs) (hn:xs.length≤1000000)
    (helt:∀ (x:V) (H':Hp) (R:VK),x∈xs→Same H H'→(∀ y H'',Same H' H''→(∀ a,y = .ref a→H' a = none)→P x y H''→R y H'')→te ((stC fr σ).set k (some x)) H' R)
    (hQ:∀ l H' (ys:List V),H l = none→Same H H'→H' l = some (.lst ys)→ys.length = xs.length→(∀ (i:Nat) x y,xs[i]? = some x→ys[i]? = some y→P x y H'∧y≠.ref l)→Q (.ref l) H') :
    tCompK fr (gName k) tYes te σ Q J H:=by
  intro l hl
  refine ⟨fun i m σ' H'=>m = xs.length - i∧i≤xs.length∧(∀ y,σ'.set k y = (stC fr σ).set k y)∧Same H H'∧∃ ys:List V,H' l = some (.lst ys)∧ys.length = i∧(∀ (i:Nat) x y,xs[i]? = some x→ys[i]? = some y→P x y H'∧y≠.ref l),
    ⟨xs.length,by simp,Nat.zero_le _,fun _=>rfl,same_new hl _,[],upd_same,rfl,fun i x y _ h=>by simp at h⟩,?_⟩
  rintro i m σ' H' ⟨rfl,hi,hσ,hs,ys,hl',hlen,hp⟩
  obtain ⟨h1,h2,h3⟩:=hJ H' hs i
  by_cases hlt:i < xs.length
  · refine .inr ⟨h1 hlt,fun x H'' y=>?_⟩
    obtain ⟨rfl,hx⟩:=h2 x H'' y
    have hx:=hx hlt
    show te (σ'.set k (some x)) H'' _
    rw [hσ]
    refine helt x H'' _ (List.mem_of_getElem? hx) hs fun y H4 s4 fy py=>?_
    have yl:y≠.ref l:=fun z=>by rw [fy l z] at hl'; cases hl'
    refine ⟨_,s4.get hl',smallLt (by omega),xs.length - (i + 1),by omega,rfl,hlt,fun y=>by rw [List.set_set],same_upd (hs.trans s4) hl _,ys ++ [y],upd_same,by rw [List.length_append,hlen]; rfl,fun j x' y' hx' hy'=>?_⟩
    by_cases hj:j < ys.length
    · rw [List.getElem?_append_left hj] at hy'
      obtain ⟨q1,q2⟩:=hp j x' y' hx' hy'
      exact ⟨hU _ _ _ _ _ _ (hP _ _ _ _ q1 s4) (s4.get hl') q2,q2⟩
    · rw [List.getElem?_append_right (by omega)] at hy'
      by_cases hj2:j = ys.length
      · subst hj2
        rw [Nat.sub_self] at hy'
        cases (Option.some.inj hy':y = y')
        rw [hlen] at hx'
        cases (Option.some.inj (hx.symm.trans hx'):x = x')
        exact ⟨hU _ _ _ _ _ _ py (s4.get hl') yl,yl⟩
      · rw [List.getElem?_eq_none (by simp; omega)] at hy'
        cases hy'
  · have e:i = xs.length:=by omega
    subst e
    exact .inl ⟨h3 (Nat.le_refl _),hQ l H' ys hl hs hl' hlen hp⟩
end L2
namespace L2
open PySem PySem.Spec PyProof.Rows
section
variable {prog:Program} {w:World} {A:Around} {E:Value→Shared→Prop} {s:Shared}
end
section
variable {X:Cx} {pins:List (Addr×Obj)} {σ:St} {H:Hp} {s:Shared} {h':Heap}
end
section
variable {X:Cx} {els:List Expr} {kk:Nat} {pp:Pos}
end
end L2
namespace L2
open PySem PySem.Spec PyProof.Rows
theorem pg_tupK {X:Cx} {K:PySem.W.Frag} {pos:Pos} {es:List Expr} {k:Nat} {t:TGs} {n:Nat} (hK:X.K = K) (hc:X.calm = true) (h:PGs X es t) (hn:(assignEach es X.env).length = n:=by rfl) (hs:(assignEach es X.env).findIdx? (·.1) = none:=by rfl):PG X (.Tuple es k pos) (gTup K n t):=by
  subst hK
  exact pg_tup hc h hn hs
section
variable {X:Cx}
end
end L2
namespace L2
open PySem PySem.Spec PyProof.Rows
section
variable {κ:Type} [DecidableEq κ]
def valV (kvs:List (κ×V)) (k:κ):Option V:=(kvs.find? fun kv=>decide (kv.1 = k)).map (·.2)
def putK (kvs:List (κ×V)) (k:κ) (v:V):List (κ×V):=
  if (kvs.any fun kv=>decide (kv.1 = k)) = true then kvs.map (fun kv=>if kv.1 = k then (kv.1,v) else kv) else kvs ++ [(k,v)]
def dropK (kvs:List (κ×V)) (k:κ):List (κ×V):=kvs.filter fun kv=>decide (kv.1≠k)
theorem valV_pos {p:κ×V} {r:List (κ×V)} {k:κ} (e:p.1 = k):valV (p :: r) k = some p.2:=by simp [valV,List.find?_cons,e]
theorem valV_neg {p:κ×V} {r:List (κ×V)} {k:κ} (e:¬ p.1 = k):valV (p :: r) k = valV r k:=by simp [valV,List.find?_cons,e]
theorem valV_any (k:κ):∀ kvs:List (κ×V),(kvs.any fun kv=>decide (kv.1 = k)) = (valV kvs k).isSome
  | []=>rfl
  | p :: r=>by
    rw [List.any_cons]
    by_cases e:p.1 = k
    · simp only [valV_pos e,decide_eq_true e,Bool.true_or,Option.isSome_some]
    · rw [valV_neg e,decide_eq_false e,Bool.false_or]; exact valV_any k r
theorem RelO.isSome_eq {o:Option V} {u:Option Value} (r:RelO o u):o.isSome = u.isSome:=by
  cases o with
  | none=>cases u with
    | none=>rfl
    | some _=>exact (show False from r).elim
  | some _=>cases u with
    | none=>exact (show False from r).elim
    | some _=>rfl
theorem RelO.getD {o:Option V} {u:Option Value} {d:V} {d':Value} (r:RelO o u) (rd:RelV d d'):RelV (o.getD d) (u.getD d'):=by
  cases o with
  | none=>cases u with
    | none=>exact rd
    | some _=>exact (show False from r).elim
  | some _=>cases u with
    | none=>exact (show False from r).elim
    | some _=>exact r
theorem KV.val {kvs:List (κ×V)} {vs:List (κ×Value)} (r:KV kvs vs) (k:κ):RelO (valV kvs k) (valueAt vs k):=by
  unfold KV at r
  induction r with
  | nil=>exact True.intro
  | @cons p q ps qs h t ih=>
    obtain ⟨h1,h2⟩:=h
    by_cases e:p.1 = k
    · have e':q.1 = k:=h1.symm.trans e
      have b:valueAt (q :: qs) k = some q.2:=by simp [valueAt,List.find?_cons,e']
      rw [valV_pos e,b]; exact h2
    · have e':¬ q.1 = k:=fun z=>e (h1.trans z)
      have b:valueAt (q :: qs) k = valueAt qs k:=by simp [valueAt,List.find?_cons,e']
      rw [valV_neg e,b]; exact ih
theorem KV.any {kvs:List (κ×V)} {vs:List (κ×Value)} (r:KV kvs vs) (k:κ):(kvs.any fun kv=>decide (kv.1 = k)) = vs.any fun kv=>decide (kv.1 = k):=by
  unfold KV at r
  induction r with
  | nil=>rfl
  | cons h t ih=>rw [List.any_cons,List.any_cons,ih,h.1]
theorem KV.repl {kvs:List (κ×V)} {vs:List (κ×Value)} (r:KV kvs vs) (k:κ) {y:V} {u:Value} (ry:RelV y u) :
    KV (kvs.map fun kv=>if kv.1 = k then (kv.1,y) else kv) (vs.map fun kv=>if kv.1 = k then (kv.1,u) else kv):=by
  unfold KV at r ⊢
  induction r with
  | nil=>exact .nil
  | @cons p q ps qs h t ih=>
    rw [List.map_cons,List.map_cons]
    refine .cons ?_ ih
    obtain ⟨h1,h2⟩:=h
    by_cases e:p.1 = k
    · rw [if_pos e,if_pos (h1.symm.trans e)]; exact ⟨h1,ry⟩
    · rw [if_neg e,if_neg (fun z=>e (h1.trans z))]; exact ⟨h1,h2⟩
theorem KV.put {kvs:List (κ×V)} {vs:List (κ×Value)} (r:KV kvs vs) (k:κ) {y:V} {u:Value} (ry:RelV y u):KV (putK kvs k y) (stored vs k u):=by
  unfold putK stored
  rw [r.any k]
  by_cases e:(vs.any fun kv=>decide (kv.1 = k)) = true
  · rw [if_pos e,if_pos e]; exact r.repl k ry
  · rw [if_neg e,if_neg e]; exact Paired.snoc r ⟨rfl,ry⟩
theorem KV.drop {kvs:List (κ×V)} {vs:List (κ×Value)} (r:KV kvs vs) (k:κ):KV (dropK kvs k) (without vs k):=by
  unfold KV at r ⊢
  unfold dropK without
  induction r with
  | nil=>exact .nil
  | @cons p q ps qs h t ih=>
    obtain ⟨h1,h2⟩:=h
    rw [List.filter_cons,List.filter_cons]
    by_cases e:p.1 = k
    · have a:¬ decide (p.1≠k) = true:=by simp [e]
      have b:¬ decide (q.1≠k) = true:=by simp [h1.symm.trans e]
      rw [if_neg a,if_neg b]; exact ih
    · have e':¬ q.1 = k:=fun z=>e (h1.trans z)
      have a:decide (p.1≠k) = true:=by simp [e]
      have b:decide (q.1≠k) = true:=by simp [e']
      rw [if_pos a,if_pos b]; exact .cons ⟨h1,h2⟩ ih
theorem KV.keys {kvs:List (κ×V)} {vs:List (κ×Value)} (r:KV kvs vs):kvs.map (·.1) = vs.map (·.1):=by
  unfold KV at r
  induction r with
  | nil=>rfl
  | cons h t ih=>rw [List.map_cons,List.map_cons,ih,h.1]
theorem KV.length {kvs:List (κ×V)} {vs:List (κ×Value)} (r:KV kvs vs):kvs.length = vs.length:=Paired.length r
end
theorem kV_is {P:Program} {w:World} {k:Key} {u:Value} (r:RelV (kV k) u):(mixKind P w).is k u = true:=by
  cases k with
  | inl i=>obtain ⟨t,e⟩:=(show ∃ t,u = Value.int i t from r); subst e; exact mixKind_int P w i t
  | inr x=>obtain ⟨t,e⟩:=(show ∃ t,u = Value.str x t from r); subst e; exact mixKind_str P w x t
theorem items_are {P:Program} {w:World}:∀ {ks:List Key} {us:List Value},Vals (ks.map kV) us→ItemsAre (mixKind P w) ks us
  | [],_,r=>by rw [List.map_nil] at r; cases r; exact .nil
  | k :: ks,_,r=>by
    rw [List.map_cons] at r
    cases r with
    | cons h t=>exact .cons (kV_is h) (items_are t)
abbrev KT (H:Hp):List (List Key×V)→List (List Key×Addr×Value)→Prop:=Paired fun p q=>p.1 = q.1∧H q.2.1 = some (.tup (p.1.map kV))∧RelV p.2 q.2.2
theorem KT.val {H:Hp} {kvs:List (List Key×V)} {xs:List (List Key×Addr×Value)} (r:KT H kvs xs) (k:List Key):RelO (valV kvs k) ((atKey xs k).map (·.2)):=by
  induction r with
  | nil=>exact True.intro
  | @cons p q ps qs h t ih=>
    obtain ⟨h1,_,h2⟩:=h
    by_cases e:p.1 = k
    · have e':q.1 = k:=h1.symm.trans e
      have b:atKey (q :: qs) k = some q.2:=by simp [atKey,List.find?_cons,e']
      rw [valV_pos e,b]; exact h2
    · have e':¬ q.1 = k:=fun z=>e (h1.trans z)
      have b:atKey (q :: qs) k = atKey qs k:=by simp [atKey,List.find?_cons,e']
      rw [valV_neg e,b]; exact ih
theorem KT.repl {H:Hp} {kvs:List (List Key×V)} {xs:List (List Key×Addr×Value)} (r:KT H kvs xs) (k:List Key) {y:V} {u:Value} (ry:RelV y u) :
    KT H (kvs.map fun kv=>if kv.1 = k then (kv.1,y) else kv) (xs.map (putAt k u)):=by
  induction r with
  | nil=>exact .nil
  | @cons p q ps qs h t ih=>
    rw [List.map_cons,List.map_cons]
    refine .cons ?_ ih
    obtain ⟨h1,h2,h3⟩:=h
    unfold putAt
    by_cases e:p.1 = k
    · rw [if_pos e,if_pos (h1.symm.trans e)]; exact ⟨h1,h2,ry⟩
    · rw [if_neg e,if_neg (fun z=>e (h1.trans z))]; exact ⟨h1,h2,h3⟩
theorem KT.put {H:Hp} {kvs:List (List Key×V)} {xs:List (List Key×Addr×Value)} (r:KT H kvs xs) (k:List Key) {b:Addr} {y:V} {u:Value} (hb:H b = some (.tup (k.map kV))) (ry:RelV y u) :
    KT H (putK kvs k y) (storedH xs k b u):=by
  have e:(kvs.any fun kv=>decide (kv.1 = k)) = (atKey xs k).isSome:=by
    rw [valV_any,(r.val k).isSome_eq,Option.isSome_map]
  unfold putK storedH
  rw [e]
  by_cases q:(atKey xs k).isSome = true
  · rw [if_pos q,if_pos q]; exact r.repl k ry
  · rw [if_neg q,if_neg q]; exact Paired.snoc r ⟨rfl,hb,ry⟩
theorem KT.keeps {H H':Hp} {kvs:List (List Key×V)} {xs:List (List Key×Addr×Value)} (r:KT H kvs xs) (ht:∀ b ys,H b = some (.tup ys)→H' b = some (.tup ys)):KT H' kvs xs:=
  Paired.mapP r fun _ _ z=>⟨z.1,ht _ _ z.2.1,z.2.2⟩
section
variable {P:Program} {w:World} {H:Hp} {h:Heap} {a:Addr}
theorem rd_of {u:HO} (ok:HOk P w H h) (e:Rd H a u):ObjOk P w H h a u:=e.ok ok
theorem dk_rd {kvs:List (Key×V)} (ok:HOk P w H h) (e:Rd H a (.dK kvs)):kvs.length≤sizeLine∧(a == sysModules) = false∧∃ vs,KV kvs vs∧h.DictOf (mixKind P w) a vs:=
  show ObjOk P w H h a (.dK kvs) from rd_of ok e
theorem key_of {ks:List Key} (ok:HOk P w H h) (e:H a = some (.tup (ks.map kV))):(tupleKind (mixKind P w)).is h ks a:=by
  obtain ⟨_,its,r,o,h1,h2,n,h3⟩:=(show ObjOk P w H h a (.tup (ks.map kV)) from ok a _ e)
  exact ⟨o,its.toArray,n,h1,h2,h3,by simpa using items_are r⟩
theorem dt_rd {kvs:List (List Key×V)} (ok:HOk P w H h) (e:Rd H a (.dT kvs)):kvs.length≤sizeLine∧(a == sysModules) = false∧
    ∃ xs,KT H kvs xs∧h.DictOfH (tupleKind (mixKind P w)) a xs:=by
  obtain ⟨z,y,xs,r,o,es,ep,h1,h2,h3,h4,h5⟩:=(show ObjOk P w H h a (.dT kvs) from rd_of ok e)
  refine ⟨z,y,xs,r,o,es,ep,h1,h2,h3,h4,fun x hx=>?_,h5⟩
  have all:∀ {l:List (List Key×V)} {m:List (List Key×Addr×Value)},KT H l m→∀ x∈m,(tupleKind (mixKind P w)).is h x.1 x.2.1:=by
    intro l m q
    induction q with
    | nil=>intro x hx; exact nomatch hx
    | @cons p q ps qs hq t ih=>
      intro x hx
      rcases List.mem_cons.mp hx with e | hx
      · subst e
        exact key_of ok (by rw [← hq.1]; exact hq.2.1)
      · exact ih x hx
  exact all r x hx
end
def DGet (H:Hp) (a:Addr) (y:V) (r:Option V):Prop:=
  (∃ kvs k,Rd H a (.dK kvs)∧y = kV k∧r = valV kvs k)∨∃ kvs k b,Rd H a (.dT kvs)∧y = .ref b∧H b = some (.tup (k.map kV))∧r = valV kvs k
def DPut (H:Hp) (a:Addr) (y v:V) (H':Hp):Prop:=
  (∃ kvs k,H a = some (.dK kvs)∧y = kV k∧kvs.length < sizeLine∧H' = upd H a (.dK (putK kvs k v)))∨
  ∃ kvs k b,H a = some (.dT kvs)∧y = .ref b∧H b = some (.tup (k.map kV))∧kvs.length < sizeLine∧H' = upd H a (.dT (putK kvs k v))
theorem DGet.k {H:Hp} {a:Addr} {kvs:List (Key×V)} {k:Key} (e:H a = some (.dK kvs)):DGet H a (kV k) (valV kvs k):=.inl ⟨kvs,k,.inl e,rfl,rfl⟩
theorem DGet.t {H:Hp} {a b:Addr} {kvs:List (List Key×V)} {k:List Key} (e:H a = some (.dT kvs)) (eb:H b = some (.tup (k.map kV))):DGet H a (.ref b) (valV kvs k):=.inr ⟨kvs,k,b,.inl e,rfl,eb,rfl⟩
theorem DPut.k {H:Hp} {a:Addr} {kvs:List (Key×V)} {k:Key} {v:V} (e:H a = some (.dK kvs)) (hl:kvs.length < sizeLine):DPut H a (kV k) v (upd H a (.dK (putK kvs k v))):=.inl ⟨kvs,k,e,rfl,hl,rfl⟩
theorem DPut.t {H:Hp} {a b:Addr} {kvs:List (List Key×V)} {k:List Key} {v:V} (e:H a = some (.dT kvs)) (eb:H b = some (.tup (k.map kV))) (hl:kvs.length < sizeLine) :
    DPut H a (.ref b) v (upd H a (.dT (putK kvs k v))):=.inr ⟨kvs,k,b,e,rfl,eb,hl,rfl⟩
section
variable {X:Cx} {pins:List (Addr×Obj)} {σ:St} {H:Hp} {s:Shared} {a:Addr} {y v:V} {u r:Value} {o:Option V} {A:Around} {E:Value→Shared→Prop}
theorem Inv.big (I:Inv X pins σ H s):sysModules < s.heap.objs.size:=by
  have h:mainGlobals < s.heap.objs.size:=(I.mod.glob.keeps I.bk).lt
  exact Nat.lt_trans (by decide) h
theorem d_getItem {Q:Value→Shared→Prop} (hu:A.units + 1 < cLine) (I:Inv X pins σ H s) (g:DGet H a y (some v)) (ry:RelV y u) (h:∀ w' s',Inv X pins σ H s'→RelV v w'→Q w' s') :
    wpAny (model X.prog X.w) A (getItem (.ref a) u) Q E s:=by
  rcases g with ⟨kvs,k,e,ey,l⟩ | ⟨kvs,k,b,e,ey,eb,l⟩
  · subst ey
    obtain ⟨z,hd,vs,rel,dd⟩:=dk_rd I.hok e
    obtain ⟨w',hw,rw'⟩:=RelO.some_of (v:=v) (o:=valueAt vs k) (by rw [l]; exact rel.val k)
    exact wpAny_getItem_of (kV_is ry) dd.mapOf hw (h w' _ (I.tok _) rw')
  · subst ey
    cases (show u = Value.ref b from ry)
    obtain ⟨z,hd,xs,rel,dd⟩:=dt_rd I.hok e
    obtain ⟨w',hw,rw'⟩:=RelO.some_of (v:=v) (o:=(atKey xs k).map (·.2)) (by rw [l]; exact rel.val k)
    obtain ⟨p,hp,hp2⟩:=Option.map_eq_some_iff.mp hw
    refine wpAny_getItem_heap (tupleKind_room_in1 hu) (key_of I.hok eb) dd hp ?_
    rw [hp2]
    exact h w' _ (I.tok _) rw'
theorem d_in {Q:Value→Shared→Prop} (hu:A.units + 1 < cLine) (I:Inv X pins σ H s) (g:DGet H a y o) (ry:RelV y u) (h:∀ s',Inv X pins σ H s'→Q (.bool o.isSome) s') :
    wpAny (model X.prog X.w) A (compareOp .In u (.ref a)) Q E s:=by
  rcases g with ⟨kvs,k,e,ey,l⟩ | ⟨kvs,k,b,e,ey,eb,l⟩
  · subst ey
    obtain ⟨z,hd,vs,rel,dd⟩:=dk_rd I.hok e
    refine wpAny_in_of (kV_is ry) hd dd.mapOf ?_
    rw [← (rel.val k).isSome_eq,← l]
    exact h _ (I.tok _)
  · subst ey
    cases (show u = Value.ref b from ry)
    obtain ⟨z,hd,xs,rel,dd⟩:=dt_rd I.hok e
    refine wpAny_in_heap (tupleKind_room_in1 hu) (key_of I.hok eb) hd dd ?_
    have q:=(rel.val k).isSome_eq
    rw [Option.isSome_map] at q
    rw [← q,← l]
    exact h _ (I.tok _)
theorem dk_new {P:Program} {w:World} {H':Hp} {h':Heap} {kvs:List (Key×V)} {vs:List (Key×Value)} (z:kvs.length≤sizeLine) (hd:(a == sysModules) = false) (rel:KV kvs vs) (dd:h'.DictOf (mixKind P w) a vs) :
    ObjOk P w H' h' a (.dK kvs):=⟨z,hd,vs,rel,dd⟩
end
section
variable {X:Cx} {pins:List (Addr×Obj)} {σ:St} {H:Hp} {s:Shared} {a:Addr} {kvs:List (Key×V)} {k:Key} {u:Value} {A:Around} {E:Value→Shared→Prop}
end
def NoSl (i:Expr):Prop:=∀ ov iv,subscripted i false ov iv = operate [ov,iv] (getItem ov iv)
theorem subD_of {prog:Program} {w:World} {A:Around} {E:Value→Shared→Prop} {s:Shared} {env:Env} {value slice:Expr} {pos:Pos} {T id:String} {Q:Value→Shared→Prop}
    (hl:typeLookup (.type T) "__getitem__" = pure (some (.builtin id))) (hs:NoSl slice)
    (h:wpAny (model prog w) A (eval value env) (fun o s₁=>wpAny (model prog w) A (eval slice env) (fun i s₂=>s₂.TypeIs o T∧wpAny (model prog w) A (getItem o i) Q E s₂) E s₁) E s) :
    wpAny (model prog w) A (eval (.Subscript value slice pos) env) Q E s:=by
  refine Subscript_ (wpAny_mono h (fun o s₁ h₁=>wpAny_mono h₁ (fun i s₂ h₂=>?_) fun _ _ x=>x) fun _ _ x=>x)
  obtain ⟨hT,h₂⟩:=h₂
  unfold subscriptTail
  refine wpAny_bind ?_
  rw [getitemInPython_of_ne hT.not_modules]
  refine wpAny_bind (wpAny_specialOf hT hl ?_)
  have fin:wpAny (model prog w) A (subscripted slice false o i) (fun r s₃=>wpAny (model prog w) A (letTemporaryGo value o r >>= fun _=>pure r) Q E s₃) E s₂:=by
    rw [hs o i]
    exact wpAny_operating (wpAny_mono h₂ (fun r s₃ h₃=>wpAny_bind (wpAny_letTemporaryGo (wpAny_pure h₃))) fun _ _ x=>x)
  first
    | exact wpAny_pure (wpAny_bind fin)
    | exact wpAny_bind (wpAny_pure (wpAny_bind fin))
    | exact wpAny_bind fin
theorem dict_typeIs {X:Cx} {pins:List (Addr×Obj)} {σ:St} {H:Hp} {s:Shared} {a:Addr} {y:V} {o:Option V} (I:Inv X pins σ H s) (g:DGet H a y o):s.TypeIs (.ref a) "dict":=by
  rcases g with ⟨kvs,k,e,_,_⟩ | ⟨kvs,k,b,e,_,_,_⟩
  · obtain ⟨_,_,vs,_,dd⟩:=dk_rd I.hok e
    exact dd.typeIs
  · obtain ⟨_,_,xs,_,dd⟩:=dt_rd I.hok e
    exact dd.typeIs
def tDGet (td ty:TE):TE:=fun σ H Q=>td σ H fun x H1=>ty σ H1 fun y H2=>∃ a v,x = .ref a∧DGet H2 a y (some v)∧Q v H2
def tDIn (ty td:TE):TE:=fun σ H Q=>ty σ H fun y H1=>td σ H1 fun x H2=>∃ a o,x = .ref a∧DGet H2 a y o∧Q (.bl o.isSome) H2
section
variable {X:Cx} {o i e value:Expr} {pos pos' tpos:Pos} {td ty tv:TE}
theorem pe_dget (hu:X.A.units + 1 < cLine) (ho:PE X o td) (hi:PE X i ty) (hs:NoSl i):PE X (.Subscript o i pos) (tDGet td ty):=by
  intro pins s σ H Q I h
  refine subD_of PySem.F.slot_dict_getitem.lookup hs (thn (ho pins s σ H _ I h) fun u s1 ⟨x,H1,I1,rx,q1⟩=>thn (hi pins s1 σ H1 _ I1 q1) fun iv s2 ⟨y,H2,I2,ry,a,v,ex,g,q2⟩=>?_)
  subst ex
  obtain rfl:u = Value.ref a:=rx
  exact ⟨dict_typeIs I2 g,d_getItem hu I2 g ry fun w' s3 I3 rw'=>⟨v,H2,I3,rw',q2⟩⟩
theorem pc_din (hu:X.A.units + 1 < cLine) (hi:PE X i ty) (ho:PE X o td):PC X .In i o (tDIn ty td):=by
  intro pins s σ H Q I h
  refine thn (hi pins s σ H _ I h) fun iv s1 ⟨y,H1,I1,ry,q1⟩=>thn (ho pins s1 σ H1 _ I1 q1) fun u s2 ⟨x,H2,I2,rx,a,ov,ex,g,q2⟩=>?_
  subst ex
  obtain rfl:u = Value.ref a:=rx
  exact d_in hu I2 g ry fun s3 I3=>⟨.bl ov.isSome,H2,I3,rfl,q2⟩
end
section
variable {X:Cx} {pos:Pos}
end
structure M1 (X:Cx) (o:Expr) (m:Str) (apos:Pos) (e:Expr) (cpos:Pos):Prop where
  base:attributeBase o m X.env (eval o X.env) = eval o X.env
  few:((backTo cpos (starEach [e] X.env)).all (fun x=>!x.1) && (backToKw cpos (keywordEach [] X.env)).all (fun x=>x.1.isSome)
    && decide (([e]:List Expr).length + ([]:List Keyword).length + (if ([]:List Keyword).isEmpty then 0 else 1) < 30)) = true
  line:(apos.endLine == cpos.line) = true
  trees:backTo cpos (starEach [e] X.env) = [(false,eval e X.env)]
structure M2 (X:Cx) (o:Expr) (m:Str) (apos:Pos) (e f:Expr) (cpos:Pos):Prop where
  base:attributeBase o m X.env (eval o X.env) = eval o X.env
  few:((backTo cpos (starEach [e,f] X.env)).all (fun x=>!x.1) && (backToKw cpos (keywordEach [] X.env)).all (fun x=>x.1.isSome)
    && decide (([e,f]:List Expr).length + ([]:List Keyword).length + (if ([]:List Keyword).isEmpty then 0 else 1) < 30)) = true
  line:(apos.endLine == cpos.line) = true
  trees:backTo cpos (starEach [e,f] X.env) = [(false,eval e X.env),(false,eval f X.env)]
def IsD (H:Hp) (a:Addr):Prop:=(∃ kvs,Rd H a (.dK kvs))∨∃ kvs,Rd H a (.dT kvs)
theorem isD_at {X:Cx} {pins:List (Addr×Obj)} {σ:St} {H:Hp} {s:Shared} {a:Addr} (I:Inv X pins σ H s) (d:IsD H a) :
    s.TypeIs (.ref a) "dict"∧(∀ b,Value.ref a = .ref b→∃ ob,s.heap.get? b = some ob∧ob.dict = none)∧(a == sysModules) = false:=by
  rcases d with ⟨kvs,e⟩ | ⟨kvs,e⟩
  · obtain ⟨_,hd,vs,_,dd⟩:=dk_rd I.hok e
    refine ⟨dd.typeIs,fun b q=>?_,hd⟩
    cases q
    obtain ⟨ob,_,_,h1,h2,_⟩:=dd
    exact ⟨ob,h1,h2.2.1⟩
  · obtain ⟨_,hd,xs,_,dd⟩:=dt_rd I.hok e
    refine ⟨dd.typeIs,fun b q=>?_,hd⟩
    cases q
    obtain ⟨ob,_,_,h1,h2,_⟩:=dd
    exact ⟨ob,h1,h2.2.1⟩
section
variable {X:Cx} {pins:List (Addr×Obj)} {σ:St} {H:Hp} {s:Shared} {a:Addr} {y d:V} {u r:Value} {o:Option V} {A:Around} {E:Value→Shared→Prop}
theorem d_get2 {Q:Value→Shared→Prop} (hu:A.units + 1 < cLine) (I:Inv X pins σ H s) (g:DGet H a y o) (ry:RelV y u) (rd:RelV d r) (h:∀ w' s',Inv X pins σ H s'→RelV (o.getD d) w'→Q w' s') :
    wpAny (model X.prog X.w) A (call (.builtin "dict.get") [.ref a,u,r]) Q E s:=by
  rcases g with ⟨kvs,k,e,ey,l⟩ | ⟨kvs,k,b,e,ey,eb,l⟩
  · subst ey
    obtain ⟨z,hd,vs,rel,dd⟩:=dk_rd I.hok e
    refine call_meetsIn PySem.F.slot_dict_get dd.typeIs PySem.F.entry_dict_get (PySem.F.args_dict_get_3 _ _ _) (meets_dict_get_default (mixKind X.prog X.w) a (kV_is ry) hd r) ⟨_,dd.mapOf,h _ _ (I.tok _) ?_⟩
    rw [l]
    exact (rel.val k).getD rd
  · subst ey
    cases (show u = Value.ref b from ry)
    obtain ⟨z,hd,xs,rel,dd⟩:=dt_rd I.hok e
    refine call_meetsIn PySem.F.slot_dict_get dd.typeIs PySem.F.entry_dict_get (PySem.F.args_dict_get_3 _ _ _) (meetsH_dict_get_default (tupleKind (mixKind X.prog X.w)) a b hd r) ⟨tupleKind_room_in1 hu,k,xs,key_of I.hok eb,dd,h _ _ (I.tok _) ?_⟩
    rw [l]
    exact (rel.val k).getD rd
end
def tDGet2 (td ty tx:TE):TE:=fun σ H Q=>td σ H fun x H1=>∃ a,x = .ref a∧IsD H1 a∧ty σ H1 fun y H2=>tx σ H2 fun z H3=>∃ o,DGet H3 a y o∧Q (o.getD z) H3
section
variable {X:Cx} {o e f:Expr} {apos cpos:Pos} {td ty tx:TE}
theorem pe_dget2 (hu:X.A.units + 1 < cLine) (ho:PE X o td) (he:PE X e ty) (hf:PE X f tx) (m:M2 X o "get" apos e f cpos):PE X (.Call (.Attribute o "get" apos) [e,f] [] cpos) (tDGet2 td ty tx):=by
  intro pins s σ H Q I h
  refine wpAny_Call_method m.base m.few m.line PySem.F.plainAttrs_dict PySem.F.slot_dict_get PySem.F.type_dict_get (thn (ho pins s σ H _ I h) fun u s1 ⟨x,H1,I1,rx,a,ex,d,q1⟩=>?_)
  subst ex
  obtain rfl:u = Value.ref a:=rx
  obtain ⟨t1,t2,_⟩:=isD_at I1 d
  refine ⟨t1,t2,?_⟩
  rw [m.trees]
  refine Calls.callWith_builtin rfl (Calls.evalArgs_plain (Calls.spliced_cons (thn (he pins s1 σ H1 _ I1 q1) fun iv s2 ⟨y,H2,I2,ry,q2⟩=>
    Calls.spliced_cons (thn (hf pins s2 σ H2 _ I2 q2) fun fv s3 ⟨z,H3,I3,rz,ov,g,q3⟩=>Calls.spliced_nil ?_))))
  exact d_get2 hu I3 g ry rz fun w' s4 I4 rw'=>⟨_,H3,I4,rw',q3⟩
end
section
variable {X:Cx} {pins:List (Addr×Obj)} {σ:St} {H:Hp} {s:Shared} {a:Addr} {kvs:List (Key×V)} {A:Around} {E:Value→Shared→Prop}
end
section
variable {X:Cx} {pins:List (Addr×Obj)} {σ:St} {H:Hp} {s:Shared} {a:Addr} {y:V} {u:Value} {A:Around} {E:Value→Shared→Prop}
end
end L2
namespace L2
open PySem PySem.Spec PyProof.Rows
section
variable {X:Cx}
def rCatT3 (K:PySem.W.Frag):R2:=fun x y H Q=>∃ a b xs ys,x = .ref a∧y = .ref b∧SqT K H a xs∧SqT K H b ys∧xs.length + ys.length≤sizeLine∧
  (xs = []→Q (.ref b) H)∧(xs≠[]→ys = []→Q (.ref a) H)∧(xs≠[]→ys≠[]→∀ p,H p = none→Q (.ref p) (upd H p (.tup (xs ++ ys))))
theorem op_catT3:OpR X (binaryOp .Add) (rCatT3 X.K):=by
  intro pins s σ H x y v u Q I rx ry h
  obtain ⟨a,b,xs,ys,rfl,rfl,ha,hb,hz,q0,q1,q2⟩:=h
  by_cases hx:xs = []
  · subst hx
    cases rx
    cases ry
    obtain ⟨its,r1,p1,_⟩:=I.tuple ha
    obtain ⟨its2,r2,p2,_⟩:=I.tuple hb
    cases r1
    obtain ⟨⟨cls,dd,data,sl⟩,ho,hc,n,hd⟩:=id p1
    obtain ⟨⟨cls2,dd2,data2,sl2⟩,ho2,hc2,n2,hd2⟩:=id p2
    simp only at hc hd hc2 hd2
    subst hc hd hc2 hd2
    exact concat_meets ⟨_,ho,rfl⟩ ⟨_,ho2,rfl⟩ noFill_tuple_add seq_tuple_add PySem.F.slot_tuple_add PySem.F.entry_tuple_add (PySem.F.args_tuple_add_2 _ _) (tuple_addW0 a b _ _ n n2 dd dd2 sl sl2 rfl) ⟨ho,ho2,.ref b,H,I,rfl,q0 rfl⟩
  · exact op_catT pins s σ H _ _ v u Q I rx ry ⟨a,b,xs,ys,rfl,rfl,ha,hb,hx,hz,q1 hx,q2 hx⟩
def rEqE (K:PySem.W.Frag) (neg:Bool):R2:=fun x y H Q=>∃ a b xs,x = .ref a∧y = .ref b∧SqL K H a xs∧SqL K H b []∧Q (.bl (if neg then !decide (xs = []) else decide (xs = []))) H
theorem op_eqE (hu:X.A.units + 1 < cLine):OpR X (compareOp .Eq) (rEqE X.K false):=by
  intro pins s σ H x y v u Q I rx ry h
  obtain ⟨a,b,xs,rfl,rfl,h1,h2,q⟩:=h
  cases rx
  cases ry
  obtain ⟨its,r1,p1,_⟩:=I.list h1
  obtain ⟨its2,r2,p2,_⟩:=I.list h2
  cases r2
  cases r1 with
  | nil=>
    exact SeqAt.RcAt.lists (A:=X.A) (s:=s) (e:=fun _=>true) p1.isList p2.isList rfl (by omega) (fun j g1 g2=>absurd g1 (by simp)) _ _ _ _ ⟨.bl _,H,I,rfl,q⟩
  | cons r rr=>
    exact SeqAt.RcAt.lists_lengths p1.isList p2.isList (by simp) (by omega) _ _ _ _ ⟨.bl _,H,I,rfl,q⟩
end
inductive Tr where
  | non
  | bl (b:Bool)
  | int (i:Int)
  | str (z:Str)
  | tup (ts:List Tr)
  | lst (ts:List Tr)
mutual
def Rep (F:Addr→Prop) (H:Hp):Tr→V→Prop
  | .non,v=>v = .non
  | .bl b,v=>v = .bl b
  | .int i,v=>v = .int i
  | .str z,v=>v = .str z
  | .tup ts,v=>∃ a vs,v = .ref a∧H a = some (.tup vs)∧Reps F H ts vs
  | .lst ts,v=>∃ a vs,v = .ref a∧F a∧H a = some (.lst vs)∧Reps F H ts vs
def Reps (F:Addr→Prop) (H:Hp):List Tr→List V→Prop
  | [],vs=>vs = []
  | t :: ts,vs=>∃ v us,vs = v :: us∧Rep F H t v∧Reps F H ts us
end
mutual
def Tr.dep:Tr→Nat
  | .tup ts=>1 + Tr.deps ts
  | .lst ts=>1 + Tr.deps ts
  | _=>1
def Tr.deps:List Tr→Nat
  | []=>0
  | t :: ts=>max (Tr.dep t) (Tr.deps ts)
end
mutual
def Tr.ok:Tr→Prop
  | .str z=>z.length≤1000
  | .tup ts=>ts.length≤1000∧Tr.oks ts
  | .lst ts=>ts.length≤1000∧Tr.oks ts
  | _=>True
def Tr.oks:List Tr→Prop
  | []=>True
  | t :: ts=>Tr.ok t∧Tr.oks ts
end
mutual
theorem Rep.same {F:Addr→Prop} {H H':Hp} (s:Same H H'):∀ (t:Tr) (v:V),Rep F H t v→Rep F H' t v
  | .non,_,h=>h
  | .bl _,_,h=>h
  | .int _,_,h=>h
  | .str _,_,h=>h
  | .tup ts,_,⟨a,vs,e,ha,hr⟩=>⟨a,vs,e,s.get ha,Reps.same s ts vs hr⟩
  | .lst ts,_,⟨a,vs,e,fa,ha,hr⟩=>⟨a,vs,e,fa,s.get ha,Reps.same s ts vs hr⟩
theorem Reps.same {F:Addr→Prop} {H H':Hp} (s:Same H H'):∀ (ts:List Tr) (vs:List V),Reps F H ts vs→Reps F H' ts vs
  | [],_,h=>h
  | t :: ts,_,⟨v,us,e,h1,h2⟩=>⟨v,us,e,Rep.same s t v h1,Reps.same s ts us h2⟩
end
theorem Reps.len {F:Addr→Prop} {H:Hp}:∀ (ts:List Tr) (vs:List V),Reps F H ts vs→vs.length = ts.length
  | [],_,h=>by rw [show _ = [] from h]; rfl
  | t :: ts,_,⟨v,us,e,_,h2⟩=>by rw [e,List.length_cons,List.length_cons,Reps.len ts us h2]
theorem Reps.get {F:Addr→Prop} {H:Hp}:∀ {ts:List Tr} {vs:List V},Reps F H ts vs→∀ {i:Nat} {v:V},vs[i]? = some v→∃ t,ts[i]? = some t∧Rep F H t v
  | [],_,h,i,v,hv=>by rw [show _ = [] from h] at hv; simp at hv
  | t :: ts,_,⟨w,us,e,h1,h2⟩,0,v,hv=>by
    rw [e] at hv
    cases (Option.some.inj hv)
    exact ⟨t,rfl,h1⟩
  | t :: ts,_,⟨w,us,e,h1,h2⟩,i + 1,v,hv=>by
    rw [e] at hv
    obtain ⟨t',e1,e2⟩:=Reps.get h2 (i:=i) (v:=v) (by simpa using hv)
    exact ⟨t',by simpa using e1,e2⟩
theorem Reps.append {F:Addr→Prop} {H:Hp}:∀ {ts us:List Tr} {vs ws:List V},Reps F H ts vs→Reps F H us ws→Reps F H (ts ++ us) (vs ++ ws)
  | [],us,_,ws,h,h2=>by rw [show _ = [] from h]; exact h2
  | t :: ts,us,_,ws,⟨w,vs,e,h1,hr⟩,h2=>by
    rw [e]
    exact ⟨w,vs ++ ws,rfl,h1,Reps.append hr h2⟩
theorem Reps.one {F:Addr→Prop} {H:Hp} {t:Tr} {v:V} (h:Rep F H t v):Reps F H [t] [v]:=⟨v,[],rfl,h,rfl⟩
theorem Rep.ok {F:Addr→Prop} {H:Hp}:∀ {t:Tr} {v:V},Rep F H t v→t.ok→Ok H v
  | .non,_,h,_=>by rw [show _ = V.non from h]; trivial
  | .bl _,_,h,_=>by rw [show _ = V.bl _ from h]; trivial
  | .int _,_,h,_=>by rw [show _ = V.int _ from h]; trivial
  | .str z,_,h,o=>by rw [show _ = V.str z from h]; exact o
  | .tup ts,_,⟨a,vs,e,ha,_⟩,_=>by rw [e]; exact .inr ⟨vs,ha⟩
  | .lst ts,_,⟨a,vs,e,_,ha,_⟩,_=>by rw [e]; exact .inl ⟨vs,ha⟩
section
variable {X:Cx} {pins:List (Addr×Obj)} {σ:St} {H:Hp} {s:Shared} {F G:Addr→Prop}
mutual
theorem rep_eq (I:Inv X pins σ H s):∀ (t:Tr) (A:Around) (v u:V) (vv uu:Value),A.units + t.dep < cLine→Rep F H t v→Rep G H t u→RelV v vv→RelV u uu→SeqAt.EqAt A s vv uu true
  | .non,A,v,u,vv,uu,_,h1,h2,r1,r2=>by
    rw [show v = V.non from h1] at r1; rw [show u = V.non from h2] at r2
    cases r1; cases r2
    exact SeqAt.EqAt.same _
  | .bl b,A,v,u,vv,uu,_,h1,h2,r1,r2=>by
    rw [show v = V.bl b from h1] at r1; rw [show u = V.bl b from h2] at r2
    cases r1; cases r2
    exact SeqAt.EqAt.same _
  | .int i,A,v,u,vv,uu,_,h1,h2,r1,r2=>by
    have:=eqAt_V (A:=A) (s:=s) r1 r2 (by rw [show v = V.int i from h1]; rfl) (by rw [show u = V.int i from h2]; rfl)
    rw [show v = V.int i from h1,show u = V.int i from h2] at this
    have e:eqV (V.int i) (V.int i) = true:=by rw [pure_eq rfl rfl]; simp
    rw [e] at this
    exact this
  | .str z,A,v,u,vv,uu,_,h1,h2,r1,r2=>by
    have:=eqAt_V (A:=A) (s:=s) r1 r2 (by rw [show v = V.str z from h1]; rfl) (by rw [show u = V.str z from h2]; rfl)
    rw [show v = V.str z from h1,show u = V.str z from h2] at this
    have e:eqV (V.str z) (V.str z) = true:=by rw [pure_eq rfl rfl]; simp
    rw [e] at this
    exact this
  | .tup ts,A,v,u,vv,uu,hA,⟨a,vs,e1,ha,hr1⟩,⟨b,us,e2,hb,hr2⟩,r1,r2=>by
    subst e1 e2
    cases r1; cases r2
    by_cases hab:a = b
    · subst hab; exact SeqAt.EqAt.same _
    have hA':A.units + (1 + Tr.deps ts) < cLine:=hA
    obtain ⟨its,rv1,p1,_⟩:=I.tuple (SqT.of (K:=X.K) ha)
    obtain ⟨its2,rv2,p2,_⟩:=I.tuple (SqT.of (K:=X.K) hb)
    have l1:=rv1.length.symm.trans (Reps.len ts vs hr1)
    have l2:=rv2.length.symm.trans (Reps.len ts us hr2)
    have q:=SeqAt.RcAt.tuples (A:=A) (s:=s) (e:=fun _=>true) p1 p2 (by omega) (fun j g1 g2=>reps_eq I ts A.in1 vs us its its2 (by show A.units + 1 + Tr.deps ts < cLine; omega) hr1 hr2 rv1 rv2 j (by simpa using g1) (by simpa using g2))
    have e:((List.range (min its.toArray.size its2.toArray.size)).all (fun _=>true) && its.toArray.size == its2.toArray.size) = true:=by
      simp [l1,l2]
    rw [e] at q
    exact SeqAt.EqAt.of_refs hab q
  | .lst ts,A,v,u,vv,uu,hA,⟨a,vs,e1,_,ha,hr1⟩,⟨b,us,e2,_,hb,hr2⟩,r1,r2=>by
    subst e1 e2
    cases r1; cases r2
    by_cases hab:a = b
    · subst hab; exact SeqAt.EqAt.same _
    have hA':A.units + (1 + Tr.deps ts) < cLine:=hA
    obtain ⟨its,rv1,p1,_⟩:=I.list (SqL.of (K:=X.K) ha)
    obtain ⟨its2,rv2,p2,_⟩:=I.list (SqL.of (K:=X.K) hb)
    have l1:=rv1.length.symm.trans (Reps.len ts vs hr1)
    have l2:=rv2.length.symm.trans (Reps.len ts us hr2)
    have q:=SeqAt.RcAt.lists (A:=A) (s:=s) (e:=fun _=>true) p1.isList p2.isList (by simp [l1,l2]) (by omega) (fun j g1 g2=>reps_eq I ts A.in1 vs us its its2 (by show A.units + 1 + Tr.deps ts < cLine; omega) hr1 hr2 rv1 rv2 j (by simpa using g1) (by simpa using g2))
    have e:((List.range its.toArray.size).all (fun _=>true)) = true:=by simp
    rw [e] at q
    exact SeqAt.EqAt.of_refs hab q
theorem reps_eq (I:Inv X pins σ H s):∀ (ts:List Tr) (A:Around) (vs us:List V) (its its2:List Value),A.units + Tr.deps ts < cLine→Reps F H ts vs→Reps G H ts us→Vals vs its→Vals us its2→∀ (j:Nat) (g1:j < its.length) (g2:j < its2.length),SeqAt.EqAt A s its[j] its2[j] true
  | [],A,vs,us,its,its2,_,h1,h2,r1,r2=>fun j g1 g2=>by
    rw [show vs = [] from h1] at r1
    cases r1
    simp at g1
  | t :: ts,A,vs,us,its,its2,hA,⟨v,vr,e1,a1,b1⟩,⟨u,ur,e2,a2,b2⟩,r1,r2=>by
    subst e1 e2
    have hA':A.units + max (Tr.dep t) (Tr.deps ts) < cLine:=hA
    cases r1 with
    | cons p1 q1=>
      cases r2 with
      | cons p2 q2=>
        intro j g1 g2
        cases j with
        | zero=>exact rep_eq I t A v u _ _ (by omega) a1 a2 p1 p2
        | succ j=>exact reps_eq I ts A vr ur _ _ (by omega) b1 b2 q1 q2 j (by simpa using g1) (by simpa using g2)
end
end
section
variable {X:Cx}
def rNeR:R2:=fun x y H Q=>∃ t F G,t.dep≤100∧Rep F H t x∧Rep G H t y∧Q (.bl false) H
theorem op_neR (hu:X.A.units + 150 < cLine):OpR X (compareOp .NotEq) rNeR:=by
  intro pins s σ H x y v u Q I rx ry h
  obtain ⟨t,F,G,hd,h1,h2,q⟩:=h
  have scal:∀ z:V,pureV z = true∨(∃ b,z = .bl b)→x = z→y = z→wpAny (model X.prog X.w) X.A (compareOp .NotEq v u) (EP X pins σ Q) X.xe s:=fun z hz e1 e2=>by
    refine op_ne pins s σ H x y v u Q I rx ry ⟨?_,?_⟩
    · subst e1 e2
      rcases hz with hz | ⟨b,rfl⟩
      · cases y <;> first | rfl | exact absurd (show false = true from hz) Bool.false_ne_true
      · rfl
    · rw [e1,e2]; simpa using q
  cases t with
  | non=>exact scal _ (.inl rfl) h1 h2
  | bl b=>exact scal _ (.inr ⟨b,rfl⟩) h1 h2
  | int i=>exact scal (.int i) (.inl rfl) h1 h2
  | str z=>exact scal (.str z) (.inl rfl) h1 h2
  | tup ts=>
    obtain ⟨a,vs,rfl,ha,hr1⟩:=h1
    obtain ⟨b,us,rfl,hb,hr2⟩:=h2
    cases rx; cases ry
    have hd':1 + Tr.deps ts≤100:=hd
    obtain ⟨its,rv1,p1,_⟩:=I.tuple (SqT.of (K:=X.K) ha)
    obtain ⟨its2,rv2,p2,_⟩:=I.tuple (SqT.of (K:=X.K) hb)
    have l1:=rv1.length.symm.trans (Reps.len ts vs hr1)
    have l2:=rv2.length.symm.trans (Reps.len ts us hr2)
    have q2:=SeqAt.RcNeAt.tuples (A:=X.A) (s:=s) (e:=fun _=>true) p1 p2 (by omega) (fun j g1 g2=>reps_eq I ts X.A.in1 vs us its its2 (by show X.A.units + 1 + Tr.deps ts < cLine; omega) hr1 hr2 rv1 rv2 j (by simpa using g1) (by simpa using g2))
    have e:(!((List.range (min its.toArray.size its2.toArray.size)).all (fun _=>true) && its.toArray.size == its2.toArray.size)) = false:=by
      simp [l1,l2]
    rw [e] at q2
    exact q2 _ _ _ _ ⟨.bl _,H,I,rfl,q⟩
  | lst ts=>
    obtain ⟨a,vs,rfl,_,ha,hr1⟩:=h1
    obtain ⟨b,us,rfl,_,hb,hr2⟩:=h2
    cases rx; cases ry
    have hd':1 + Tr.deps ts≤100:=hd
    obtain ⟨its,rv1,p1,_⟩:=I.list (SqL.of (K:=X.K) ha)
    obtain ⟨its2,rv2,p2,_⟩:=I.list (SqL.of (K:=X.K) hb)
    have l1:=rv1.length.symm.trans (Reps.len ts vs hr1)
    have l2:=rv2.length.symm.trans (Reps.len ts us hr2)
    have q2:=SeqAt.RcNeAt.lists (A:=X.A) (s:=s) (e:=fun _=>true) p1.isList p2.isList (by simp [l1,l2]) (by omega) (fun j g1 g2=>reps_eq I ts X.A.in1 vs us its its2 (by show X.A.units + 1 + Tr.deps ts < cLine; omega) hr1 hr2 rv1 rv2 j (by simpa using g1) (by simpa using g2))
    have e:(!(List.range its.toArray.size).all (fun _=>true)) = false:=by simp
    rw [e] at q2
    exact q2 _ _ _ _ ⟨.bl _,H,I,rfl,q⟩
end
mutual
theorem Rep.mono {F G:Addr→Prop} {H:Hp} (h:∀ a,F a→G a):∀ (t:Tr) (v:V),Rep F H t v→Rep G H t v
  | .non,_,q=>q
  | .bl _,_,q=>q
  | .int _,_,q=>q
  | .str _,_,q=>q
  | .tup ts,_,⟨a,vs,e,ha,hr⟩=>⟨a,vs,e,ha,Reps.mono h ts vs hr⟩
  | .lst ts,_,⟨a,vs,e,fa,ha,hr⟩=>⟨a,vs,e,h a fa,ha,Reps.mono h ts vs hr⟩
theorem Reps.mono {F G:Addr→Prop} {H:Hp} (h:∀ a,F a→G a):∀ (ts:List Tr) (vs:List V),Reps F H ts vs→Reps G H ts vs
  | [],_,q=>q
  | t :: ts,_,⟨v,us,e,h1,h2⟩=>⟨v,us,e,Rep.mono h t v h1,Reps.mono h ts us h2⟩
end
mutual
theorem Rep.upd {F:Addr→Prop} {H:Hp} {l:Addr} {us us':List V} (hl:H l = some (.lst us)) (nl:¬ F l):∀ (t:Tr) (v:V),Rep F H t v→Rep F (upd H l (.lst us')) t v
  | .non,_,q=>q
  | .bl _,_,q=>q
  | .int _,_,q=>q
  | .str _,_,q=>q
  | .tup ts,_,⟨a,vs,e,ha,hr⟩=>⟨a,vs,e,by rw [upd_ne (ne_of ha hl (by intro z; cases z))]; exact ha,Reps.upd hl nl ts vs hr⟩
  | .lst ts,_,⟨a,vs,e,fa,ha,hr⟩=>⟨a,vs,e,fa,by rw [upd_ne (show a≠l from fun z=>nl (by rw [← z]; exact fa))]; exact ha,Reps.upd hl nl ts vs hr⟩
theorem Reps.upd {F:Addr→Prop} {H:Hp} {l:Addr} {us us':List V} (hl:H l = some (.lst us)) (nl:¬ F l):∀ (ts:List Tr) (vs:List V),Reps F H ts vs→Reps F (L2.upd H l (.lst us')) ts vs
  | [],_,q=>q
  | t :: ts,_,⟨v,ur,e,h1,h2⟩=>⟨v,ur,e,Rep.upd hl nl t v h1,Reps.upd hl nl ts ur h2⟩
end
theorem itIs_tup {K:PySem.W.Frag} {a:Addr} {H:Hp} {xs:List V} (h:H a = some (.tup xs)):ItIs (Itt K a) H xs:=fun H' s i=>
  ⟨fun hi=>⟨xs,xs[i],SqT.of (s.get h),by simp [hi]⟩,fun x H'' y=>⟨y.1,fun _=>y.2 xs (SqT.of (s.get h))⟩,fun hi=>⟨xs,SqT.of (s.get h),hi⟩⟩
def Tr.ty:Tr→String
  | .non=>"NoneType"
  | .bl _=>"bool"
  | .int _=>"int"
  | .str _=>"str"
  | .tup _=>"tuple"
  | .lst _=>"list"
theorem Rep.tyN {F:Addr→Prop} {H:Hp}:∀ {t:Tr} {v:V},Rep F H t v→L2.tyN H v = t.ty
  | .non,_,h=>by rw [show _ = V.non from h]; rfl
  | .bl _,_,h=>by rw [show _ = V.bl _ from h]; rfl
  | .int _,_,h=>by rw [show _ = V.int _ from h]; rfl
  | .str z,_,h=>by rw [show _ = V.str z from h]; rfl
  | .tup ts,_,⟨a,vs,e,ha,_⟩=>by rw [e]; simp only [L2.tyN,ha]; rfl
  | .lst ts,_,⟨a,vs,e,_,ha,_⟩=>by rw [e]; simp only [L2.tyN,ha]; rfl
theorem hu9_of {A:Around} {k:Nat} (hr:Room k A):A.units + 150 < cLine:=by have:=hr.un; omega
section
variable {σ:St} {H:Hp} {m k:Nat} {te:TE} {ta:TA}
theorem Reps.rep {F:Addr→Prop} {ts:List Tr} {vs:List V} (h:Reps F H ts vs):∀ n:Nat,Reps F H (List.replicate n ts).flatten (List.replicate n vs).flatten
  | 0=>rfl
  | n + 1=>by
    rw [List.replicate_succ,List.replicate_succ,List.flatten_cons,List.flatten_cons]
    exact Reps.append h (Reps.rep h n)
end
end L2
namespace L2
open PySem PySem.Spec PyProof.Rows
section
variable {X:Cx} {k:Nat} {x m:Str} {C:Addr} {ps:List Str} {sp:Sp} {e o:Expr} {es:List Expr} {t:TA} {ta:TE} {p apos pos:Pos}
end
end L2
namespace L2
open PySem PySem.Spec PyProof.Rows
section
variable {X:Cx} {els:List Expr} {kk:Nat} {pp:Pos}
end
end L2
namespace L2
open PySem PySem.Spec PyProof.Rows
section
variable {X:Cx} {tg:Expr}
end
theorem DGet.kf {H:Hp} {a:Addr} {o:Obj} {kvs:List (Key×V)} {k:Key} (e:H a = some (.frz o (.dK kvs))):DGet H a (kV k) (valV kvs k):=.inl ⟨kvs,k,.inr ⟨o,e⟩,rfl,rfl⟩
end L2
namespace L2
open PySem PySem.Spec PyProof.Rows
section
variable {X:Cx}
structure M0 (X:Cx) (o:Expr) (m:Str) (apos cpos:Pos):Prop where
  base:attributeBase o m X.env (eval o X.env) = eval o X.env
  few:((backTo cpos (starEach [] X.env)).all (fun x=>!x.1) && (backToKw cpos (keywordEach [] X.env)).all (fun x=>x.1.isSome)
    && decide (([]:List Expr).length + ([]:List Keyword).length + (if ([]:List Keyword).isEmpty then 0 else 1) < 30)) = true
  line:(apos.endLine == cpos.line) = true
  trees:backTo cpos (starEach [] X.env) = []
end
theorem seq_mid {t u:TS} {D:Ends} {σ:St} {H:Hp} (M:St→Hp→Prop) (h1:∀ N:St→Hp→Prop,(∀ σ' H',M σ' H'→N σ' H')→t { D with nx:=N } σ H) (h2:∀ σ' H',M σ' H'→u D σ' H'):tSeq t u D σ H:=h1 (u D) h2
end L2
namespace L2
section
open PySem
open Sem (wp wp_bind' wp_mono)
def Fld2 (o:Obj):Prop:=∃ vs,o.data = .fields vs∧vs[2]? = some .none
def DictAt (h:Heap) (e:Addr) (d:Option Addr):Prop:=∃ o,h.objs[e]? = some o∧o.dict = d∧Fld2 o
variable {α β:Type}
theorem DictAt.get {h:Heap} {e:Addr} {d:Option Addr} {o:Obj} (j:DictAt h e d) (q:h.get? e = some o):o.dict = d∧Fld2 o:=by
  obtain ⟨o1,e1,h1⟩:=j
  unfold Heap.get? at q
  rw [e1] at q
  split at q
  · cases q
  · cases q; exact h1
end
end L2
namespace L2
open PySem PySem.Spec PyProof.Rows
theorem ObjOk.get {P:Program} {w:World} {H:Hp} {h:Heap} {a:Addr} {o:HO} (x:ObjOk P w H h a o):∃ ob,h.get? a = some ob:=by
  cases o with
  | lst xs=>obtain ⟨_,_,_,_,e⟩:=x; exact ⟨_,e⟩
  | tup xs=>obtain ⟨_,_,_,ob,e,_⟩:=x; exact ⟨_,e⟩
  | dK kvs=>obtain ⟨_,_,_,_,o,_,_,e,_⟩:=x; exact ⟨_,e⟩
  | dT kvs=>obtain ⟨_,_,_,_,o,_,_,e,_⟩:=x; exact ⟨_,e⟩
  | set S n=>obtain ⟨o,_,_,_,e,_⟩:=x; exact ⟨_,e⟩
  | ins C dx fs=>obtain ⟨_,_,_,e,_⟩:=x; exact ⟨_,e⟩
  | own y=>obtain ⟨_,e⟩:=x; exact ⟨_,e⟩
  | xd fs=>obtain ⟨_,⟨_,_,_,e,_⟩,_⟩:=x; exact ⟨_,e⟩
  | rng lo hi=>obtain ⟨_,_,_,e⟩:=x; exact ⟨_,e⟩
  | frz ob u=>obtain ⟨e,_⟩:=x; exact ⟨_,e⟩
  | tbl ps=>exact ⟨_,x⟩
  | met f y=>exact ⟨_,x⟩
  | ext φ=>obtain ⟨_,e,_⟩:=x; exact e
structure Fly (P:Program) (w:World) (outer:List Env) (H:Hp) (s:Shared) (ea:Addr) (cls:Value) (H':Hp) (B:Heap) (a0:Value) (s':Shared):Prop where
  os:s'.os = s.os
  bare:AllBare s'.gens
  un:Un (frs outer) [] H H' s.heap s'.heap
  hok:HOk P w H' B
  fl:Heap.FlyingW B outer ea cls a0 s'.heap
  kp:∀ b o,s.heap.get? b = some o→H b = none→b ∉ frs outer→B.get? b = some o
  th:∀ b o,s.heap.get? b = some o→b ∉ frs outer→∃ o',B.get? b = some o'
  dj:∃ d,DictAt s'.heap ea d
section
variable {P:Program} {w:World} {outer:List Env} {H H':Hp} {s s':Shared} {ea:Addr} {cls a0:Value} {B h' base:Heap}
theorem Fly.stay (F:Fly P w outer H s ea cls H' B a0 s') (hl:s.heap.FunFrames base outer) (hn:∀ b∈frs outer,H b = none) (sB:B.StaysIn h') (up:s'.heap.UpToSlots h'):Un (frs outer) [] H H' s.heap h':=by
  have sl:∀ b o,s.heap.get? b = some o→b∈frs outer→∃ sl,h'.get? b = some { o with slots:=sl }:=fun b o q hb=>by
    obtain ⟨z,e⟩:=F.un.slot b o q (hn b hb) hb (by simp)
    obtain ⟨_,o',ho',hd⟩:=hl.mem hb
    rw [q] at ho'
    cases ho'
    exact up b { o with slots:=z } e hd
  refine ⟨fun b o q n hb _=>sB b o (F.kp b o q n hb),fun b o q _ hb _=>sl b o q hb,F.un.free,fun b o q _=>?_,F.un.tups,F.un.frzs,F.un.tbls⟩
  by_cases hb:b∈frs outer
  · obtain ⟨z,e⟩:=sl b o q hb
    exact ⟨_,e⟩
  · obtain ⟨o',e⟩:=F.th b o q hb
    exact ⟨o',sB b o' e⟩
theorem Fly.free (F:Fly P w outer H s ea cls H' B a0 s'):H' ea = none:=by
  cases e:H' ea with
  | none=>rfl
  | some u=>
    obtain ⟨ob,q⟩:=(F.hok ea u e).get
    rw [F.fl.2.1] at q
    cases q
end
section
variable {X:Cx} {pins:List (Addr×Obj)} {σ:St} {H H':Hp} {s s':Shared} {ea:Addr} {cls a0:Value} {B h':Heap}
end
section
variable {P:Program} {w:World} {K:PySem.W.Frag} {mg:Str→Option Value} {base:Heap} {N:List Str} {qual:Str} {scope:Scope} {f:Addr} {cd:Value} {A:Around} {outer:List Env} {s:Shared} {H:Hp} {E:XK}
end
section
variable {X:Cx} {E:XK} {x:Str} {C:Addr} {np cpos pos:Pos}
end
abbrev XS:=Value→St→Hp→Prop
def XP (X:Cx) (pins:List (Addr×Obj)) (Ex:XS) (e:Value) (s':Shared):Prop:=
  ∃ (ea:Addr) (cls:Value) (σ':St) (H1 H':Hp) (s1:Shared) (B:Heap) (a0:Value),e = .ref ea∧Inv X pins σ' H1 s1∧Fly X.prog X.w X.stack H1 s1 ea cls H' B a0 s'∧Ex cls σ' H'
section
variable {X:Cx} {st:Stmt} {rest:List Stmt} {e:Expr} {pos:Pos}
end
section
variable {X:Cx} {k:Nat} {x m:Str} {C:Addr} {ps:List Str} {sp:Sp} {E:XK} {e o:Expr} {es:List Expr} {t:TA} {ta:TE} {p pos apos:Pos}
end
section
variable {X:Cx} {pins:List (Addr×Obj)} {σ:St} {H:Hp} {s:Shared} {e:Value}
end
section
variable {X:Cx} {x:Str} {c:Value} {body orelse suite:List Stmt} {b₀:Stmt} {np hpos pos:Pos}
end
end L2
namespace L2
open PySem PySem.Spec PyProof.Rows
section
variable {X:Cx}
end
theorem deps_map {α:Type} {f:α→Tr} {m:Nat}:∀ {xs:List α},(∀ x∈xs,(f x).dep≤m)→Tr.deps (xs.map f)≤m
  | [],_=>Nat.zero_le _
  | x :: xs,h=>Nat.max_le.mpr ⟨h x List.mem_cons_self,deps_map fun y hy=>h y (List.mem_cons_of_mem _ hy)⟩
theorem reps_of {F:Addr→Prop} {H:Hp}:∀ {ts:List Tr} {vs:List V},vs.length = ts.length→(∀ (i:Nat) t v,ts[i]? = some t→vs[i]? = some v→Rep F H t v)→Reps F H ts vs
  | [],[],_,_=>rfl
  | [],_ :: _,h,_=>by simp at h
  | _ :: _,[],h,_=>by simp at h
  | t :: ts,v :: vs,h,k=>⟨v,vs,rfl,k 0 t v rfl rfl,reps_of (by simpa using h) fun i t' v' h1 h2=>k (i + 1) t' v' (by simpa using h1) (by simpa using h2)⟩
end L2
namespace L2
open PySem PySem.Spec PyProof.Rows
section
variable {X:Cx}
end
end L2
namespace L2
open PySem PySem.Spec PyProof.Rows
section
variable {prog:Program} {w:World} {A:Around} {E:Value→Shared→Prop} {s:Shared} {it t:Addr} {i:Nat} {its:Array Value} {Q:Value→Shared→Prop}
end
structure ZA (z TI TO i1 i2:Addr) (f1 f2:List Addr):Prop where
  TIz:TI≠z
  TOz:TO≠z
  i1z:i1≠z
  i2z:i2≠z
  TITO:TI≠TO
  TIi1:TI≠i1
  TIi2:TI≠i2
  TOi1:TO≠i1
  TOi2:TO≠i2
  i12:i1≠i2
  z1:z ∉ f1
  o1:TO ∉ f1
  j1:i2 ∉ f1
  z2:z ∉ f2
  o2:TO ∉ f2
  j2:i1 ∉ f2
section
variable {prog:Program} {w:World} {A:Around} {E:Value→Shared→Prop} {s:Shared} {z TI TO i1 i2:Addr} {f1 f2:List Addr} {n i:Nat} {P1 P2:Nat→Value→Prop} {St1 St2:Nat→Heap→Prop} {a b:Value}
end
section
variable {prog:Program} {w:World} {A:Around} {E:Value→Shared→Prop} {s:Shared} {z TI TO i1 i2:Addr} {f1 f2:List Addr} {n i:Nat} {P1 P2:Nat→Value→Prop} {St1 St2:Nat→Heap→Prop} {a b:Value}
end
section
variable {X:Cx} {pins:List (Addr×Obj)} {σ:St} {H:Hp} {s:Shared} {h':Heap}
end
section
variable {X:Cx} {els:List Expr} {kk:Nat} {pp:Pos}
end
end L2
namespace L2
open PySem PySem.Spec PyProof.Rows
section
variable {M:Model} {A:Around} {E:Value→Shared→Prop} {s:Shared} {base:Heap} {env:Env} {outer l:List Env} {L e:Addr} {cls a0 fl:Value}
structure Retraced (base h h':Heap) (T:Addr) (ts:Array Value) (v:Value):Prop where
  here:∃ o',h'.get? T = some o'∧o'.data = .fields (ts.setIfInBounds 3 v)
  rest:∀ b o,b≠T→h.get? b = some o→h'.get? b = some o
  low:base.StaysIn h→base.StaysIn h'
  plain:∀ b o,h.get? b = some o→(∀ vs,o.data≠.fields vs)→h'.get? b = some o
end
section
variable {P:Program} {w:World} {K:PySem.W.Frag} {mg:Str→Option Value} {base:Heap} {N:List Str} {qual:Str} {scope:Scope} {f:Addr} {cd:Value} {A:Around} {outer:List Env} {s:Shared} {H:Hp} {E:XK}
end
section
variable {X:Cx}
end
end L2
namespace L2
section
open PySem PySem.Calls PyProof.Rows PySem.W Builtin Builtin.ObjectAttr Builtin.Getset_descriptor
section
variable {prog:Program} {w:World} {A:Around} {E:Value→Shared→Prop} {K:Frag} {e D:Addr}
structure IsExc (h:Heap) (e D:Addr):Prop where
  ob:∃ o,h.get? e = some o∧o.cls = .ref D∧∃ vs,o.data = .fields vs
theorem IsExc.ty {h:Heap} (z:IsExc h e D) {M:Model}:Looks M h (typeOf (.ref e)) (.ref D):=by
  obtain ⟨o,q,c,_⟩:=z.ob
  rw [← c]
  exact (Looks.ld q).andThen .now
theorem exc_descr {tp:Value} {s:Shared} {R:Result→Shared→Prop} (k:K.In s.heap) (z:IsExc s.heap e D) (hm:mroIn K D (.type "object") = some true) (q:R (.ok (.ret (.ref D))) s) :
    codeAny (model prog w) A (.call (.builtin "getset_descriptor.__get__") ⟨[.builtin "object.__class__",.ref e,tp],[]⟩) R s:=by
  obtain ⟨h1,g1,d1,t1,o1⟩:=s
  have T0:=z.ty (M:=model prog w)
  have T1:=looks_mroIn (M:=model prog w) k hm
  have slot:=KF.slot_gs
  refine codeAny_call_builtin slot.plain KF.entry_gs (slot.check _ _ _ _ _ _ _ _ KF.type_class (KF.args_gs _ _ _) ?_)
  simp only [Builtin.«getset_descriptor.__get__»,descrGet,dga_obj]
  refine wpAny_bind (wpAny_pure ?_)
  dsimp only [descrGetter,descrCheckInstance,descrNameAndClass,isInstance]
  rw [show descrOwnerAndName "object.__class__" = ("object","__class__") from KF.owner_class]
  repeat lk
  refine ⟨Code.quiet_builtin (id:="object.__class__") _ (by decide +kernel),codeAny_builtin KF.entry_class ?_⟩
  simp only [Builtin.«object.__class__»,shownTypeOf]
  repeat lk
  exact q
theorem exc_find {h:Heap} {M:Model} (k:K.In h) (ha:findIn K (.ref D) "__class__" = some (some (.builtin "object.__class__")))
    (hn:specialIn K (.builtin "object.__class__") "__get__" = some (some (.builtin "getset_descriptor.__get__"))) (ht:takesIn K (.builtin "object.__class__") = some true) :
    Looks M h (find (.ref e) (.ref D) "__class__") (.bind (.builtin "getset_descriptor.__get__") (.builtin "object.__class__")):=
  (looks_findIn k ha).andThen ((show Looks M h (getOf (some (.builtin "object.__class__"))) (some (.builtin "getset_descriptor.__get__")) from looks_specialIn k hn).andThen
    ((show Looks M h (dataDescriptor? (some (.builtin "object.__class__")) (some (.builtin "getset_descriptor.__get__"))) (some (.builtin "getset_descriptor.__get__",.builtin "object.__class__")) from (looks_takesIn k ht).andThen .now).andThen (Looks.tag .now)))
theorem exc_check {nv:Value} {s:Shared} {Q:Unit→Shared→Prop} {M:Model} (k:K.In s.heap) (z:IsExc s.heap e D) (hb:mroIn K D (.type "BaseException") = some true) (q:Q () s) :
    wpAny M A (checkBuiltinCall "BaseException.__getattribute__" ⟨[.ref e,nv],[]⟩) Q E s:=by
  obtain ⟨h1,g1,d1,t1,o1⟩:=s
  have b1:builtinKind "BaseException.__getattribute__" = some .slot:=by decide +kernel
  have b2:splitId "BaseException.__getattribute__" = some ("BaseException","__getattribute__"):=by decide +kernel
  have b3:=F.args_bexc_ga (.ref e) nv
  have T:Looks M h1 (isInstance (.ref e) (.type "BaseException")) true:=z.ty.andThen (looks_mroIn k hb)
  simp only [checkBuiltinCall,b1,b2]
  refine wpAny_bind (T.at ?_)
  rw [if_neg (by decide)]
  repeat wp_step
  exact q
theorem exc_entry {tk:Tok} {s:Shared} {Q:Fin→Shared→Prop} (k:K.In s.heap) (z:IsExc s.heap e D) (ha:findIn K (.ref D) "__class__" = some (some (.builtin "object.__class__")))
    (hn:specialIn K (.builtin "object.__class__") "__get__" = some (some (.builtin "getset_descriptor.__get__"))) (ht:takesIn K (.builtin "object.__class__") = some true) (hm:mroIn K D (.type "object") = some true) (q:Q (.done (.ret (.ref D))) s) :
    wpAny (model prog w) A (Builtin.«object.__getattribute__» ⟨[.ref e,.str "__class__" tk],[]⟩) Q E s:=by
  obtain ⟨h1,g1,d1,t1,o1⟩:=s
  have T0:=z.ty (M:=model prog w)
  have T1:=exc_find (e:=e) (M:=model prog w) k ha hn ht
  have s0:slotArgs "__getattribute__" 1 ⟨[.ref e,.str "__class__" tk],[]⟩ = pure (Value.ref e,[Value.str "__class__" tk]):=by kernel_rfl
  have s1:attrName (.str "__class__" tk) = pure "__class__":=by kernel_rfl
  simp only [Builtin.«object.__getattribute__»,s0]
  refine wpAny_bind (wpAny_pure ?_)
  dsimp only
  rw [s1]
  refine wpAny_bind (wpAny_pure (wpAny_bind (T0.at (wpAny_bind (T1.at ?_)))))
  dsimp only
  unfold bindTo
  dsimp only
  refine wpAny_bind (wpAny_call (exc_descr (s:=⟨h1,g1,d1,t1,o1⟩) k z hm ?_))
  exact wpAny_pure q
theorem exc_class {s:Shared} {Q:Option Value→Shared→Prop} (k:K.In s.heap) (z:IsExc s.heap e D) (hga:findIn K (.ref D) "__getattribute__" = some (some (.builtin "BaseException.__getattribute__"))) (hgg:findIn K (.ref D) "__getattr__" = some none)
    (ha:findIn K (.ref D) "__class__" = some (some (.builtin "object.__class__"))) (hn:specialIn K (.builtin "object.__class__") "__get__" = some (some (.builtin "getset_descriptor.__get__"))) (ht:takesIn K (.builtin "object.__class__") = some true)
    (hm:mroIn K D (.type "object") = some true) (hb:mroIn K D (.type "BaseException") = some true) (q:Q (some (.ref D)) { s with toks:=s.toks + 1 }) :
    wpAny (model prog w) A (getAttr? (.ref e) "__class__") Q E s:=by
  obtain ⟨h1,g1,d1,t1,o1⟩:=s
  have T0:=z.ty (M:=model prog w)
  have T1:=looks_findIn (M:=model prog w) k hga
  have T2:=looks_findIn (M:=model prog w) k hgg
  have B:=F.excAttr_ValueError.ga.bind (.ref e)
  simp only [getAttr?,getAttrBy?,getAttrBy]
  refine wpAny_bind (wpAny_mkText (wpAny_bind (wpAny_attempt (wpAny_holding (wpAny_bind (T0.at (wpAny_bind (T1.at ?_))))))))
  have n0:(onTheHeap (Value.ref D) && Value.builtin "BaseException.__getattribute__" == Value.builtin "object.__getattribute__") = false:=by
    have:(Value.builtin "BaseException.__getattribute__" == Value.builtin "object.__getattribute__") = false:=by decide +kernel
    rw [this]; rfl
  dsimp only
  rw [if_neg (by rw [n0]; decide)]
  unfold getAttrByItsOwn hookBefore
  rw [if_pos (by rfl)]
  refine wpAny_bind (T2.at (wpAny_bind (wpAny_attempt (wpAny_holding ?_))))
  unfold callGetattribute boundAndCalled
  rw [if_neg (by decide),B]
  refine wpAny_bind (wpAny_pure ?_)
  dsimp only
  refine wpAny_call (codeAny_call_builtin F.excAttr_ValueError.ga.plain F.entry_bexc_ga ?_)
  refine exc_check (s:=⟨h1,g1,d1,t1 + 1,o1⟩) k ⟨z.ob⟩ hb (exc_entry (s:=⟨h1,g1,d1,t1 + 1,o1⟩) k ⟨z.ob⟩ ha hn ht hm ?_)
  dsimp only
  exact handed_on rfl (wpAny_pure q)
structure ExcCls (K:Frag) (D:Addr):Prop where
  ga:findIn K (.ref D) "__getattribute__" = some (some (.builtin "BaseException.__getattribute__"))
  gg:findIn K (.ref D) "__getattr__" = some none
  cl:findIn K (.ref D) "__class__" = some (some (.builtin "object.__class__"))
  sp:specialIn K (.builtin "object.__class__") "__get__" = some (some (.builtin "getset_descriptor.__get__"))
  tk:takesIn K (.builtin "object.__class__") = some true
  mo:mroIn K D (.type "object") = some true
  mb:mroIn K D (.type "BaseException") = some true
theorem ExcCls.there (c:ExcCls K D):∃ o,K.lookup D = some o∧∃ cd,o.data = .cls cd:=by
  obtain ⟨cd,h,_⟩:=Option.bind_eq_some_iff.mp c.mo
  unfold clsIn at h
  split at h
  · rename_i o d' cd' sl' ho
    exact ⟨_,ho,_,rfl⟩
  · cases h
theorem ExcCls.kit (c:ExcCls K D):KitX K (.ref e) (.ref D) (fun h=>IsExc h e D) where
  ty:=fun _ _ _ z=>z.ty
  it:=fun M h k _=>by
    obtain ⟨⟨oc,od,oda,os⟩,h1,cd,h2⟩:=c.there
    dsimp only at h2
    subst h2
    intro A1 Q1 E1 s1 st q
    unfold isType loadHead
    exact wpAny_bind (wpAny_loadPart (st _ _ (k _ _ h1)) (wpAny_pure q))
  ne:=fun h tp dd its n sl k ht=>by
    obtain ⟨o,h1,cd,h2⟩:=c.there
    cases q:(Value.ref D == Value.ref tp) with
    | false=>rfl
    | true=>
      cases Value.ref.inj (beq_iff_eq.mp q)
      rw [k _ _ h1] at ht
      cases ht
      cases h2
  ca:=fun k z q=>exc_class k z c.ga c.gg c.cl c.sp c.tk c.mo c.mb q
end
end
open PySem PySem.Spec PyProof.Rows
section
variable {X:Cx} {pins:List (Addr×Obj)} {σ:St} {H:Hp} {s:Shared}
theorem Inv.know {e:Addr} {o:HO} (I:Inv X pins σ H s) (n0:e ∉ X.ex→X.s₀.heap.get? e = none) (nl:e≠X.env.locals) (nc:∀ x c,X.env.cells.lookup x = some c→c≠e) (np:∀ p∈X.pn ++ pins,p.1≠e) (hn:H e = none)
    (ho:ObjOk X.prog X.w (upd H e o) s.heap e o):Inv X pins σ (upd H e o) s:=by
  have up:∀ {b:Addr} {u:HO},H b = some u→upd H e o b = some u:=fun {b u} q=>by rw [upd_ne (ne_of_none q hn)]; exact q
  refine ⟨I.ok,I.os,I.bare,⟨I.base.keep,I.base.slot,fun b ob q n x=>?_,I.base.there,fun b xs q=>up (I.base.tups b xs q),fun b ob u q=>up (I.base.frzs b ob u q),fun b ps q=>?_⟩,I.loc,I.cell,?_,fun x c q=>?_,fun p hp=>?_,fun b u q=>?_,I.len⟩
  · rw [upd_ne (fun z=>by subst z; rw [n0 x] at q; cases q)]
    exact I.base.free b ob q n x
  · obtain ⟨more,z⟩:=I.base.tbls b ps q
    exact ⟨more,up z⟩
  · rw [upd_ne nl.symm]; exact I.free
  · rw [upd_ne (nc x c q)]; exact I.freeC x c q
  · obtain ⟨h1,h2,h3⟩:=I.pin p hp
    exact ⟨h1,by rw [upd_ne (np p hp)]; exact h2,h3⟩
  · by_cases hb:b = e
    · subst hb
      rw [upd_same] at q
      cases q
      exact ho
    · rw [upd_ne hb] at q
      exact (I.hok b u q).stay (fun c v _ z=>z) (fun _ z=>up z) fun _ _ z=>up z
end
section
variable {X:Cx} {x n:Str} {c:Value} {body orelse suite:List Stmt} {b₀:Stmt} {np hpos pos:Pos} {i:Nat}
end
section
variable {X:Cx} {e:Expr} {es:List Expr} {pos:Pos}
end
end L2
namespace L2
section
open PySem PySem.Calls PyProof.Rows
variable {prog:Program} {w:World} {A:Around} {E:Value→Shared→Prop} {s:Shared}
def HeldAt (h:Heap) (e:Addr):Prop:=∃ o vs,h.get? e = some o∧o.data = .fields vs∧vs[2]? = some .none
theorem HeldAt.keeps {h h':Heap} {e:Addr} (z:HeldAt h e) (k:∀ o,h.get? e = some o→h'.get? e = some o):HeldAt h' e:=by
  obtain ⟨o,vs,q,r⟩:=z
  exact ⟨o,vs,k o q,r⟩
end
end L2
namespace L2
section
open PySem PySem.Calls PyProof.Rows PySem.W
structure IsExcD (h:Heap) (e D:Addr) (d:Option Addr):Prop where
  is:IsExc h e D
  dj:∃ o,h.get? e = some o∧o.dict = d∧Fld2 o
end
section
open PySem PySem.Spec PyProof.Rows
variable {X:Cx} {pins:List (Addr×Obj)} {σ:St} {H:Hp} {s:Shared}
variable {x n:Str} {c:Value} {body orelse suite:List Stmt} {b₀:Stmt} {np hpos pos:Pos} {i:Nat}
end
end L2
namespace L2
open PySem PySem.Calls PySem.Spec PyProof.Rows PySem.Builtin.Str
section
variable {prog:Program} {w:World} {A:Around} {E:Value→Shared→Prop} {s:Shared} {x y:Str} {t u:Tok} {Q:Value→Shared→Prop}
end
section
variable {X:Cx}
end
end L2
namespace L2
open PySem PySem.Spec PyProof.Rows
end L2
namespace L2
section
open PySem PySem.Calls PyProof.Rows
variable {prog:Program} {w:World} {A:Around} {E:Value→Shared→Prop} {s:Shared}
theorem none_end (h:Heap):h.get? h.objs.size = none:=by
  cases e:h.get? h.objs.size with
  | none=>rfl
  | some o=>exact absurd (Heap.lt_size e) (Nat.lt_irrefl _)
def SortsTo (Q:Value→Shared→Prop) (vs:List Value) (s1:Shared):Prop:=∃ ss,StrsAre vs ss∧vs.length < 64∧
  ∀ h' p (out:List Value) ss' c,StrsAre out ss'→ss'.Perm ss→sortedS ss' = true→s1.heap.objs.size≤p→(∀ b o,s1.heap.get? b = some o→h'.get? b = some o)→
    h'.get? p = some (seqObj "list" out.toArray c)→Q (.ref p) { s1 with heap:=h' }
theorem sorted_walked {x:Value} {Q:Value→Shared→Prop} (hc:wpAny (model prog w) A.in1 (collect x) (SortsTo Q) E s):wpAny (model prog w) A (call (.builtin "sorted") [x]) Q E s:=by
  refine Calls.call_function_entry kind_sorted plain_sorted entry_sorted (args_sorted1 x) ?_
  unfold Builtin.«sorted»
  refine wpAny_bind (m:=checkCount "sorted" 1 1 _) (wpAny_pure (wpAny_bind (wpAny_mono hc (fun vs s1 z=>?_) fun _ _ e=>e)))
  obtain ⟨ss,hS,few,q⟩:=z
  refine wpAny_bind (wpAny_newList ?_)
  have there:(s1.heap.push (seqObj "list" vs.toArray 0)).get? s1.heap.objs.size = some (seqObj "list" vs.toArray 0):=Heap.get?_push_size _ rfl
  refine wpAny_bind (wpAny_holding (wpAny_call_entry slot_list_sort ⟨_,there,rfl⟩ entry_list_sort (list_sort_treeK strKind_oneLt there hS.keysOf (fun v₁ v₂ rest e=>keyKind_strs (by rw [← e]; exact hS)) few fun st' pm so=>⟨_,rfl,?_⟩) (args_list_sort _)))
  obtain ⟨ss',y1,y2,y3⟩:=sorted_out_str hS pm so
  obtain ⟨c,hp⟩:=sortedHeap_at (out:=(arrOf st').map (·.2)) there
  refine wpAny_pure ⟨_,rfl,q _ _ ((arrOf st').map (·.2)).toList ss' c y1 y2 y3 (Nat.le_refl _) (fun b o e=>?_) (by rw [Array.toArray_toList]; exact hp)⟩
  have lt:=Heap.lt_size e
  show Heap.get? _ b = some o
  rw [sortedHeap_old (Nat.ne_of_lt lt) (by rw [Heap.size_push]; exact Nat.lt_succ_of_lt lt)]
  exact Heap.get?_push_of_some _ e
def Took (S:Addr) (Q:List Value→Shared→Prop) (r:Result) (s':Shared):Prop:=∃ acc c,r = .ok (.ret (.ref S))∧s'.heap.get? S = some { cls:=.type "list",dict:=none,data:=.seq acc c,slots:=#[] }∧Q acc.toList s'
theorem collect_ext {x:Value} {Q:List Value→Shared→Prop} (h:wpAny (model prog w) A.in1 (Builtin.List.listExtendWith (.ref s.heap.objs.size) x (.ref s.heap.objs.size))
      (fun fin s'=>match fin with | .done f=>Took s.heap.objs.size Q (.ok f) s' | .again c'=>c'.quiet = true∧codeAny (model prog w) A c' (Took s.heap.objs.size Q) s') (fun e s'=>Took s.heap.objs.size Q (.error e) s')
      { s with heap:=s.heap.push { cls:=.type "list",data:=.seq #[] } }):wpAny (model prog w) A (collect x) Q E s:=by
  unfold collect
  refine wpAny_bind (wpAny_runValue (codeAny_builtin PySem.F.entry_proto_collect ?_))
  rw [Around.under_plainId PySem.F.plain_proto_collect _]
  refine wpAny_bind (wpAny_newObj_type (wpAny_pure ⟨plainId_quiet PySem.F.plain_list_iadd _,codeAny_builtin PySem.F.entry_list_iadd ?_⟩))
  rw [Around.under_plainId PySem.F.plain_list_iadd _]
  refine wpAny_mono h (fun fin s' z=>?_) (fun e s' z=>?_)
  · cases fin with
    | done f=>
      obtain ⟨acc,c,e,hS,q⟩:=z
      cases e
      exact wpAny_bind (wpAny_load hS (wpAny_pure q))
    | again c'=>
      refine ⟨z.1,codeAny_mono z.2 fun r s2 z2=>?_⟩
      obtain ⟨acc,c,rfl,hS,q⟩:=z2
      exact wpAny_bind (wpAny_load hS (wpAny_pure q))
  · obtain ⟨acc,c,e,_⟩:=z
    cases e
theorem sit_owner:Manifest.owners.lookup (String.ofList "rotareti_tes".toList.reverse) = some Manifest.sig_set_iterator:=by kernel_rfl
theorem sit_slot:Slot "set_iterator" "__next__" "set_iterator.__next__":=
  .of (owner:="set_iterator") (n:="__next__") (by rw [typeLookup_type,builtinLookup_eq_fast]; kernel_rfl) (by decide +kernel) (by decide +kernel) (by decide +kernel) (by first | exact .inl (by decide +kernel) | exact .inr (by decide +kernel)) (by rw [isSubtype_type]; kernel_rfl)
theorem sit_entry:entryFor table "set_iterator.__next__" = some Builtin.«set_iterator.__next__»:=entryFor_of_fast (by kernel_rfl)
theorem sit_args (a:Value):argsOk "set_iterator.__next__" ⟨[a],[]⟩:=by
  unfold argsOk
  rw [signature?_of (id:="set_iterator.__next__") (n:="__txen__".toList) (o:="rotareti_tes".toList) (by kernel_rfl) sit_owner]
  kernel_rfl
theorem set_iter_entry:entryFor table "set.__iter__" = some Builtin.«frozenset.__iter__»:=entryFor_alias (id':="frozenset.__iter__") (by kernel_rfl) rfl (by decide +kernel) (by kernel_rfl)
theorem next_gives {it:Addr} {T id:String} {B:Builtin} {Q:Option Value→Shared→Prop} (slot:Slot T "__next__" id) (hT:s.TypeIs (.ref it) T) (entry:entryFor table id = some B) (args:argsOk id ⟨[.ref it],[]⟩)
    (h:wpAny (model prog w) A.in1 (B ⟨[.ref it],[]⟩) (fun fin s'=>∃ v,fin = .done (.ret v)∧Q (some v) s') (fun _ _=>False) s):wpAny (model prog w) A (pyNext (.ref it)) Q E s:=by
  unfold pyNext
  refine wpAny_bind (wpAny_attempt (wpAny_callSpecial?_slot (name:=Str.ofString "__next__") hT slot (wpAny_call_entry slot hT entry (wpAny_mono h (fun fin s' z=>?_) fun _ _ z=>z.elim) args)))
  obtain ⟨v,rfl,q⟩:=z
  exact ⟨v,rfl,wpAny_pure q⟩
theorem next_stops {it:Addr} {T id:String} {B:Builtin} {Q:Option Value→Shared→Prop} (slot:Slot T "__next__" id) (hT:s.TypeIs (.ref it) T) (entry:entryFor table id = some B) (args:argsOk id ⟨[.ref it],[]⟩)
    (h:wpAny (model prog w) A.in1 (B ⟨[.ref it],[]⟩) (fun _ _=>False) (fun x s'=>∃ a o,x = .ref a∧s'.heap.get? a = some o∧o.cls = .type "StopIteration"∧Q none s') s):wpAny (model prog w) A (pyNext (.ref it)) Q E s:=by
  unfold pyNext
  refine wpAny_bind (wpAny_attempt (wpAny_callSpecial?_slot (name:=Str.ofString "__next__") hT slot (wpAny_call_entry slot hT entry (wpAny_mono h (fun _ _ z=>z.elim) fun x s' z=>?_) args)))
  obtain ⟨a,o,rfl,e,c,q⟩:=z
  exact wpAny_bind (wpAny_isInstance (T:="StopIteration") (b:=true) ⟨o,e,c⟩ isSubtype_stop (wpAny_pure q))
theorem stop_calm {α:Type} {Q:α→Shared→Prop} (hh:A.handled = none)
    (q:∀ h' x,(∀ b o,s.heap.get? b = some o→h'.get? b = some o)→(∃ o,h'.get? x = some o∧o.cls = .type "StopIteration")→E (.ref x) { s with heap:=h' }) :
    wpAny (model prog w) A (newExc (.type "StopIteration") [] >>= raiseNew:Sem α) Q E s:=by
  refine wpAny_bind ?_
  simp only [newExc,newTuple]
  refine wpAny_bind (wpAny_newObj_type ?_ (by size_fits))
  refine wpAny_bind (m:=firstArgMember _ _) (wpAny_of_eq (a:=Value.none) (by simp only [firstArgMember]; rfl) (wpAny_newObj_type ?_ (by size_fits)))
  unfold raiseNew
  refine wpAny_bind (wpAny_handled ?_)
  rw [hh]
  exact wpAny_throw (q _ _ (fun b o z=>Heap.get?_push_of_some _ (Heap.get?_push_of_some _ z)) ⟨_,Heap.get?_push_size _ rfl,rfl⟩)
theorem sit_slot_iter:Slot "set_iterator" "__iter__" "set_iterator.__iter__":=
  .of (owner:="set_iterator") (n:="__iter__") (by rw [typeLookup_type,builtinLookup_eq_fast]; kernel_rfl) (by decide +kernel) (by decide +kernel) (by decide +kernel) (by first | exact .inl (by decide +kernel) | exact .inr (by decide +kernel)) (by rw [isSubtype_type]; kernel_rfl)
theorem sit_entry_iter:entryFor table "set_iterator.__iter__" = some Builtin.«dict_keyiterator.__iter__»:=entryFor_alias (id':="dict_keyiterator.__iter__") (by kernel_rfl) rfl (by decide +kernel) (by kernel_rfl)
theorem sit_args_iter (a:Value):argsOk "set_iterator.__iter__" ⟨[a],[]⟩:=by
  unfold argsOk
  rw [signature?_of (id:="set_iterator.__iter__") (n:="__reti__".toList) (o:="rotareti_tes".toList) (by kernel_rfl) sit_owner]
  kernel_rfl
def SetAt (h:Heap) (a:Addr) (es:Array (Int×Value)) (ep:Nat) (t:SetTable):Prop:=∃ o,h.get? a = some o∧o.cls = .type "set"∧o.data = .set es ep t
def SetIt (h:Heap) (it a:Addr) (first:Value) (i n ep:Nat):Prop:=∃ o,h.get? it = some o∧o.cls = .type "set_iterator"∧o.data = .fields #[first,rawInt i,.ref a,rawInt n,rawInt ep]
theorem SetAt.keep {h h':Heap} {a:Addr} {es:Array (Int×Value)} {ep:Nat} {t:SetTable} (x:SetAt h a es ep t) (k:∀ o,h.get? a = some o→h'.get? a = some o):SetAt h' a es ep t:=let ⟨o,e,r⟩:=x; ⟨o,k o e,r⟩
theorem SetIt.keep {h h':Heap} {it a:Addr} {f:Value} {i n ep:Nat} (x:SetIt h it a f i n ep) (k:∀ o,h.get? it = some o→h'.get? it = some o):SetIt h' it a f i n ep:=let ⟨o,e,r⟩:=x; ⟨o,k o e,r⟩
theorem SetIt.typeIs {it a:Addr} {f:Value} {i n ep:Nat} (x:SetIt s.heap it a f i n ep):s.TypeIs (.ref it) "set_iterator":=let ⟨o,e,c,_⟩:=x; ⟨o,e,c⟩
theorem SetIt.self {it a:Addr} {f:Value} {i n ep:Nat} {Q:Value→Shared→Prop} (x:SetIt s.heap it a f i n ep) (q:Q (.ref it) s):wpAny (model prog w) A (pyIter (.ref it)) Q E s:=by
  refine wpAny_pyIter_slot x.typeIs sit_slot_iter (wpAny_call_entry sit_slot_iter x.typeIs sit_entry_iter ?_ (sit_args_iter _))
  exact wpAny_pure ⟨_,rfl,"set_iterator",_,x.typeIs,sit_slot.lookup,q⟩
theorem set_entries {a:Addr} {es:Array (Int×Value)} {ep:Nat} {t:SetTable} {Q:Array (Int×Value)→Shared→Prop} (x:SetAt s.heap a es ep t) (f:t.fits es.size = true) (q:Q es s):wpAny (model prog w) A (setEntries a) Q E s:=
  let ⟨_,e,_,d⟩:=x; wpAny_setEntries_of e d f q
end
end L2
namespace L2
section
open PySem PySem.Calls PyProof.Rows
variable {prog:Program} {w:World} {A:Around} {E:Value→Shared→Prop} {s:Shared}
theorem set_field {it:Addr} {vs:Array Value} {k:Nat} {x:Value} {Q:Unit→Shared→Prop} {o:Obj} (ho:s.heap.get? it = some o) (hc:o.cls = .type "set_iterator") (hd:o.data = .fields vs) (hk:k < vs.size)
    (q:∀ h' o',h'.get? it = some o'→o'.cls = .type "set_iterator"→o'.data = .fields (vs.setIfInBounds k x)→(∀ b o,b ∉ [it]→s.heap.get? b = some o→h'.get? b = some o)→Q () { s with heap:=h' }):wpAny (model prog w) A (setField (.ref it) k x) Q E s:=
  wpAny_setField ho hd hk (q _ _ (Heap.get?_update_self _ ho (Obj.isFreed_of_fields (Obj.data_mapFields hd _))) ((Obj.cls_mapFields ..).trans hc) (Obj.data_mapFields hd _) fun b o hb e=>(Heap.get?_update_other _ _ (fun z=>hb (by simp [z]))).trans e)
theorem walk_slot (hh:A.handled = none) (I a:Addr) (hne:a≠I) (xs:List Value) (sl:Nat→Nat) (es:Array (Int×Value)) (ep:Nat) (t:SetTable) (f:t.fits es.size = true) (hn:es.size = xs.length)
    (nx:∀ (i:Nat) (A:Around) (E:Value→Shared→Prop) (s:Shared) (Q:Option (Value×Nat)→Shared→Prop),i≤xs.length→SetAt s.heap a es ep t→Q (xs[i]?.map fun v=>(v,sl (i + 1))) s→wpAny (model prog w) A (setNext a (sl i) i ep) Q E s) :
    Walks prog w A I [I,a] [I] xs.length (fun i v=>xs[i]? = some v) (fun i h=>SetIt h I a (rawInt (sl i)) i xs.length ep∧SetAt h a es ep t) where
  sub:=fun b z=>by simp at z; simp [z]
  frame:=fun _ _ _ st k=>⟨st.1.keep fun o e=>k I (by simp) o e,st.2.keep fun o e=>k a (by simp) o e⟩
  self:=fun _ _ _ _ st q=>st.1.self q
  item:=fun i s Q E hi st qq=>by
    refine next_gives sit_slot st.1.typeIs sit_entry (sit_args _) ?_
    obtain ⟨o,ho,hc,hd⟩:=st.1
    unfold Builtin.«set_iterator.__next__»
    refine wpAny_bind (wpAny_pure ?_)
    dsimp only
    refine wpAny_bind (wpAny_fieldsOf ho hd ?_)
    refine wpAny_bind (m:=setEntries a) (set_entries st.2 f ?_)
    rw [if_neg (by rw [hn]; simp)]
    refine wpAny_bind (m:=setNext a (sl i) i ep) (nx i _ _ _ _ (Nat.le_of_lt hi) st.2 ?_)
    obtain ⟨v,hv⟩:∃ v,xs[i]? = some v:=⟨xs[i],by simp [hi]⟩
    rw [hv]
    dsimp only [Option.map]
    refine wpAny_bind (set_field ho hc hd (by simp) fun h1 o1 e1 c1 d1 k1=>?_)
    refine wpAny_bind (set_field e1 c1 d1 (by simp) fun h2 o2 e2 c2 d2 k2=>?_)
    exact wpAny_pure ⟨v,rfl,qq v h2 s.toks hv ⟨⟨o2,e2,c2,d2⟩,st.2.keep fun o e=>k2 a o (by simp [hne]) (k1 a o (by simp [hne]) e)⟩ fun b o hb e=>k2 b o hb (k1 b o hb e)⟩
  done:=fun s Q E st hQ=>by
    refine next_stops sit_slot st.1.typeIs sit_entry (sit_args _) ?_
    obtain ⟨o,ho,hc,hd⟩:=st.1
    unfold Builtin.«set_iterator.__next__»
    refine wpAny_bind (wpAny_pure ?_)
    dsimp only
    refine wpAny_bind (wpAny_fieldsOf ho hd ?_)
    refine wpAny_bind (m:=setEntries a) (set_entries st.2 f ?_)
    rw [if_neg (by rw [hn]; simp)]
    refine wpAny_bind (m:=setNext a (sl xs.length) xs.length ep) (nx xs.length _ _ _ _ (Nat.le_refl _) st.2 ?_)
    rw [List.getElem?_eq_none (Nat.le_refl _)]
    dsimp only [Option.map]
    refine wpAny_bind (set_field ho hc hd (by simp) fun h1 o1 e1 c1 d1 k1=>?_)
    refine stop_calm hh fun h2 x k2 ⟨ox,ex,cx⟩=>⟨x,ox,rfl,ex,cx,hQ h2 s.toks fun b o hb e=>k2 b o (k1 b o hb e)⟩
def TupAt (h:Heap) (tp:Addr) (vs:List Value):Prop:=∃ o n,h.get? tp = some o∧o.data = .seq vs.toArray n
theorem TupAt.keep {h h':Heap} {tp:Addr} {vs:List Value} (x:TupAt h tp vs) (k:∀ o,h.get? tp = some o→h'.get? tp = some o):TupAt h' tp vs:=let ⟨o,n,e,r⟩:=x; ⟨o,n,k o e,r⟩
theorem next_drawn {a:Addr} {es:Array (Int×Value)} {ep p:Nat} {t:SetTable} {hx:Int} {v:Value} {Q:Value→Shared→Prop} (x:SetAt s.heap a es ep t) (f:t.fits es.size = true) (e:es[p]? = some (hx,v)) (q:Q v s):wpAny (model prog w) A (setNextDrawn a p ep) Q E s:=by
  obtain ⟨o,eo,_,d⟩:=x
  unfold setNextDrawn
  refine wpAny_bind (wpAny_setState_of eo d f ?_)
  dsimp only
  rw [if_neg (by simp),e]
  exact wpAny_pure q
theorem walk_drawn (hh:A.handled = none) (I a tp:Addr) (hne:a≠I) (hnt:tp≠I) (xs:List Value) (ps:List Nat) (es:Array (Int×Value)) (ep:Nat) (t:SetTable) (f:t.fits es.size = true) (hn:es.size = xs.length) (hp:ps.length = xs.length)
    (at_:∀ (i p:Nat),ps[i]? = some p→∃ hx v,es[p]? = some (hx,v)∧xs[i]? = some v) :
    Walks prog w A I [I,a,tp] [I] xs.length (fun i v=>xs[i]? = some v) (fun i h=>SetIt h I a (.ref tp) i xs.length ep∧SetAt h a es ep t∧TupAt h tp (ps.map fun (p:Nat)=>rawInt p)) where
  sub:=fun b z=>by simp at z; simp [z]
  frame:=fun _ _ _ st k=>⟨st.1.keep fun o e=>k I (by simp) o e,st.2.1.keep fun o e=>k a (by simp) o e,st.2.2.keep fun o e=>k tp (by simp) o e⟩
  self:=fun _ _ _ _ st q=>st.1.self q
  item:=fun i s Q E hi st qq=>by
    refine next_gives sit_slot st.1.typeIs sit_entry (sit_args _) ?_
    obtain ⟨o,ho,hc,hd⟩:=st.1
    obtain ⟨ot,nt,et,dt⟩:=st.2.2
    unfold Builtin.«set_iterator.__next__»
    refine wpAny_bind (wpAny_pure ?_)
    dsimp only
    refine wpAny_bind (wpAny_fieldsOf ho hd ?_)
    refine wpAny_bind (m:=setEntries a) (set_entries st.2.1 f ?_)
    rw [if_neg (by rw [hn]; simp)]
    obtain ⟨p,hpi⟩:∃ p,ps[i]? = some p:=⟨ps[i]'(by omega),by simp [hp,hi]⟩
    obtain ⟨hx,v,ev,xv⟩:=at_ i p hpi
    refine wpAny_bind (m:=seqItems? (.ref tp)) (wpAny_seqItems et dt ?_)
    have look:(ps.map fun (p:Nat)=>rawInt p).toArray[(i:Int).toNat]? = some (rawInt p):=by simp [hpi]
    dsimp only
    rw [look]
    refine wpAny_bind (m:=setNextDrawn a p ep) (next_drawn st.2.1 f ev ?_)
    refine wpAny_bind (set_field ho hc hd (by simp) fun h1 o1 e1 c1 d1 k1=>?_)
    exact wpAny_pure ⟨v,rfl,qq v h1 s.toks xv ⟨⟨o1,e1,c1,d1⟩,st.2.1.keep fun o e=>k1 a o (by simp [hne]) e,st.2.2.keep fun o e=>k1 tp o (by simp [hnt]) e⟩ k1⟩
  done:=fun s Q E st hQ=>by
    refine next_stops sit_slot st.1.typeIs sit_entry (sit_args _) ?_
    obtain ⟨o,ho,hc,hd⟩:=st.1
    obtain ⟨ot,nt,et,dt⟩:=st.2.2
    unfold Builtin.«set_iterator.__next__»
    refine wpAny_bind (wpAny_pure ?_)
    dsimp only
    refine wpAny_bind (wpAny_fieldsOf ho hd ?_)
    refine wpAny_bind (m:=setEntries a) (set_entries st.2.1 f ?_)
    rw [if_neg (by rw [hn]; simp)]
    refine wpAny_bind (m:=seqItems? (.ref tp)) (wpAny_seqItems et dt ?_)
    have look:(ps.map fun (p:Nat)=>rawInt p).toArray[(xs.length:Int).toNat]? = none:=by simp [hp]
    dsimp only
    rw [look]
    refine wpAny_bind (set_field ho hc hd (by simp) fun h1 o1 e1 c1 d1 k1=>?_)
    refine wpAny_bind (set_field e1 c1 d1 (by simp) fun h2 o2 e2 c2 d2 k2=>?_)
    refine stop_calm hh fun h3 x k3 ⟨ox,ex,cx⟩=>⟨x,ox,rfl,ex,cx,hQ h3 s.toks fun b o hb e=>k3 b o (k2 b o hb (k1 b o hb e))⟩
theorem choose_any {src:Source} {n:Nat} {Q:Nat→Shared→Prop} (h:n≠0) (q:∀ i d,i < n→Q i { s with drawn:=d }):wpAny (model prog w) A (choose src n) Q E s:=by
  intro Γ p _
  unfold choose
  rw [Sem.wp_choose]
  exact ⟨h,by rw [Sem.wp_pure]; exact q _ _ (Nat.mod_lt _ (Nat.pos_of_ne_zero h))⟩
theorem out_perm {α:Type}:∀ {l:List α} {i:Nat} (h:i < l.length),(l[i] :: l.eraseIdx i).Perm l
  | x :: r,0,_=>List.Perm.refl _
  | x :: r,i + 1,h=>by
    have z:=out_perm (l:=r) (i:=i) (by simpa using h)
    exact (List.Perm.swap ..).trans (List.Perm.cons x z)
theorem draw_order {α:Type}:∀ (n:Nat) (xs:List α) (s:Shared) (Q:List α→Shared→Prop),n = xs.length→(∀ ys d,ys.Perm xs→Q ys { s with drawn:=d })→wpAny (model prog w) A (drawOrder n xs) Q E s
  | 0,xs,s,Q,h,q=>by
    have e:xs = []:=List.length_eq_zero_iff.mp h.symm
    subst e
    exact wpAny_pure (q [] s.drawn (List.Perm.refl _))
  | n + 1,[],s,Q,h,q=>nomatch h
  | n + 1,x :: r,s,Q,h,q=>by
    unfold drawOrder
    refine wpAny_bind (choose_any (by simp) fun i d hi=>?_)
    rw [List.getElem?_eq_getElem hi]
    dsimp only
    refine wpAny_bind (draw_order n _ _ _ (by rw [List.length_eraseIdx_of_lt hi]; simp at h ⊢; omega) fun ys d2 pm=>?_)
    exact wpAny_pure (q _ d2 ((List.Perm.cons _ pm).trans (out_perm hi)))
theorem pick_go {α:Type} (next:Nat→Nat):∀ (fuel k:Nat) (left:List α) (out:Array α),fuel = left.length→(pickOrder.go next fuel k left out).toList.Perm (out.toList ++ left)
  | 0,k,left,out,h=>by
    have e:left = []:=List.length_eq_zero_iff.mp h.symm
    subst e
    unfold pickOrder.go
    rw [List.append_nil]
  | fuel + 1,k,left,out,h=>by
    unfold pickOrder.go
    have hi:next k % left.length < left.length:=Nat.mod_lt _ (by omega)
    rw [List.getElem?_eq_getElem hi]
    dsimp only
    refine (pick_go next fuel _ _ _ (by rw [List.length_eraseIdx_of_lt hi]; omega)).trans ?_
    rw [Array.toList_push,List.append_assoc]
    exact List.Perm.append_left _ (out_perm hi)
theorem pick_perm {α:Type} (next:Nat→Nat) (xs:Array α):(pickOrder next xs).toList.Perm xs.toList:=by
  unfold pickOrder
  exact pick_go next _ _ _ _ (by simp)
def ByText (w:World):Bool:=w.params.followText "set-order"
theorem next_text {a:Addr} {es:Array (Int×Value)} {ep i sl:Nat} {t:SetTable} {Q:Option (Value×Nat)→Shared→Prop} (bt:ByText w = true) (x:SetAt s.heap a es ep t) (f:t.fits es.size = true)
    (q:Q (((pickOrder (w.params.setOrder a ep) es).toList.map (·.2))[i]?.map fun v=>(v,sl)) s):wpAny (model prog w) A (setNext a sl i ep) Q E s:=by
  obtain ⟨o,eo,_,d⟩:=x
  unfold setNext setsByText setWalk setsByText
  refine wpAny_bind (wpAny_setState_of eo d f ?_)
  dsimp only
  simp only [bind_assoc,pure_bind]
  refine wpAny_bind (wpAny_askSetting ?_)
  refine wpAny_ite_split (fun _=>?_) (fun c=>absurd bt c)
  rw [if_neg (by simp)]
  refine wpAny_bind (wpAny_setState_of eo d f ?_)
  dsimp only
  refine wpAny_bind (wpAny_askSetting ?_)
  refine wpAny_bind (wpAny_ite_split (fun _=>?_) (fun c=>absurd bt c))
  refine wpAny_bind (wpAny_askSetting (wpAny_pure ?_))
  have e:((pickOrder (w.params.setOrder a ep) es).toList.map (·.2))[i]? = ((pickOrder (w.params.setOrder a ep) es)[i]?).map (·.2):=by rw [List.getElem?_map,Array.getElem?_toList]
  rw [e,Option.map_map] at q
  exact wpAny_pure q
theorem few_fits {es:Array (Int×Value)} {t:SetTable} (f:t.fits es.size = true):t.place.size = es.size:=by
  simp only [SetTable.fits,Bool.and_eq_true,beq_iff_eq] at f
  exact f.1
theorem next_few {a:Addr} {es:Array (Int×Value)} {ep i:Nat} {t:SetTable} {Q:Option (Value×Nat)→Shared→Prop} (bt:ByText w = false) (hl:t.led = true) (few:es.size≤1) (hi:i≤es.size) (x:SetAt s.heap a es ep t) (f:t.fits es.size = true)
    (q:Q ((es.toList.map (·.2))[i]?.map fun v=>(v,if i + 1 = 0 then 0 else t.place.getD 0 0 + 1)) s):wpAny (model prog w) A (setNext a (if i = 0 then 0 else t.place.getD 0 0 + 1) i ep) Q E s:=by
  obtain ⟨o,eo,_,d⟩:=x
  unfold setNext setsByText
  refine wpAny_bind (wpAny_setState_of eo d f ?_)
  dsimp only
  simp only [bind_assoc,pure_bind]
  refine wpAny_bind (wpAny_askSetting ?_)
  refine wpAny_ite_split (fun c=>absurd (bt.symm.trans c) (by decide)) (fun _=>?_)
  refine wpAny_ite_split (fun c=>absurd c ?_) (fun _=>?_)
  · show ¬ (!t.plain && decide (es.size > 1)) = true
    rw [decide_eq_false (by omega)]
    simp
  refine wpAny_bind (?_:wpAny _ _ (if (!t.led && !es.isEmpty) = true then unsupported "set:maker-not-led" else pure ()) _ _ _)
  rw [hl,if_neg (by simp)]
  refine wpAny_pure (wpAny_pure ?_)
  have pz:=few_fits f
  clear f hl d
  revert q
  generalize t.place = pl at pz
  obtain ⟨l⟩:=es
  obtain ⟨m⟩:=pl
  match l,m,few,pz,hi with
  | [],[],_,_,hi=>
    have e:i = 0:=by simpa using hi
    subst e
    exact fun q=>q
  | [(hx,v)],[k],_,_,hi=>
    rcases (show i = 0∨i = 1 by simp at hi; omega) with rfl | rfl
    · have b:SetTable.below #[k] (if 0 = 0 then 0 else (#[k]:Array Nat).getD 0 0 + 1) = 0:=by simp [SetTable.below,SetTable.below.go]
      rw [b]
      exact fun q=>q
    · have b:SetTable.below #[k] (if 1 = 0 then 0 else (#[k]:Array Nat).getD 0 0 + 1) = 1:=by simp [SetTable.below,SetTable.below.go]
      rw [b]
      exact fun q=>q
  | _ :: _ :: _,_,few,_,_=>exact absurd few (by simp)
  | [],_ :: _,_,pz,_=>exact absurd pz (by simp)
  | [_],[],_,pz,_=>exact absurd pz (by simp)
  | [_],_ :: _ :: _,_,pz,_=>exact absurd pz (by simp)
theorem set_iter {a:Addr} {es:Array (Int×Value)} {ep:Nat} {t:SetTable} {Q:Value→Shared→Prop} (x:SetAt s.heap a es ep t) (f:t.fits es.size = true) (hl:t.led = !ByText w) (hp:es.size≠0→t.plain = false) (hb:es.size < scanBound)
    (q:∀ h' d I fp (xs:List Value) St,(∀ b o,s.heap.get? b = some o→h'.get? b = some o)→xs.Perm (es.toList.map (·.2))→(∀ A:Around,A.handled = none→Walks prog w A I fp [I] xs.length (fun i v=>xs[i]? = some v) St)→St 0 h'→
      (∀ b∈fp,b = a∨s.heap.get? b = none)→s.heap.get? I = none→Q (.ref I) { s with heap:=h',drawn:=d }):wpAny (model prog w) A (pyIter (.ref a)) Q E s:=by
  obtain ⟨o,eo,co,dd⟩:=id x
  have hT:s.TypeIs (.ref a) "set":=⟨o,eo,co⟩
  have hlt:=Heap.lt_size eo
  refine wpAny_pyIter_slot hT PySem.F.slot_set_iter (wpAny_call_entry PySem.F.slot_set_iter hT set_iter_entry ?_ (PySem.F.args_set_iter_1 _))
  unfold Builtin.«frozenset.__iter__» Builtin.Frozenset.slot0 slotArgs
  simp only [bind_assoc,bne_self_eq_false,List.isEmpty_nil,List.length_nil,Bool.not_true,Bool.false_eq_true,↓reduceIte]
  refine wpAny_bind (wpAny_pure ?_)
  dsimp only
  refine wpAny_bind (m:=Builtin.Frozenset.addrOf (.ref a)) (wpAny_pure ?_)
  unfold Builtin.Frozenset.sizeOf
  simp only [bind_assoc,pure_bind]
  refine wpAny_bind (set_entries x f ?_)
  unfold setDrawn setsByText
  simp only [bind_assoc,pure_bind]
  refine wpAny_bind (wpAny_setState_of eo dd f ?_)
  dsimp only
  refine wpAny_bind (wpAny_askSetting ?_)
  change wpAny _ _ (if (!ByText w && (!t.plain && decide (es.size > 1))) = true then _ else _) _ _ _
  refine wpAny_ite_split (fun c=>?_) (fun c=>?_)
  · simp only [Bool.and_eq_true,Bool.not_eq_true',decide_eq_true_eq] at c
    refine wpAny_bind (draw_order es.size _ _ _ (by simp) fun ps d pm=>?_)
    refine wpAny_bind (wpAny_newTuple ?_ (by rw [List.length_map,pm.length_eq,List.length_range]; exact fits_of_scanBound hb))
    refine wpAny_bind (wpAny_setEpoch_of (Heap.get?_push_of_some _ eo) dd f ?_)
    refine wpAny_bind (wpAny_newObj_type (wpAny_pure ⟨_,rfl,"set_iterator",_,⟨_,Heap.get?_push_size _ rfl,rfl⟩,sit_slot.lookup,?_⟩))
    have rg:∀ p∈ps,p < es.size:=fun p hp=>List.mem_range.mp (pm.mem_iff.mp hp)
    have ex:(List.range es.size).map (fun p=>(es[p]?.map (·.2)).getD .none) = es.toList.map (·.2):=by
      refine List.ext_getElem (by simp) fun i h1 h2=>?_
      have hi:i < es.size:=by simpa using h1
      simp [hi]
    have nt:s.heap.objs.size≠(s.heap.push { cls:=.type "tuple",data:=.seq (ps.map fun (i:Nat)=>rawInt i).toArray }).objs.size:=by rw [Heap.size_push]; exact Nat.ne_of_lt (Nat.lt_succ_self _)
    have na:a≠(s.heap.push { cls:=.type "tuple",data:=.seq (ps.map fun (i:Nat)=>rawInt i).toArray }).objs.size:=by rw [Heap.size_push]; exact Nat.ne_of_lt (Nat.lt_succ_of_lt hlt)
    have ln:es.size = (ps.map (fun p=>(es[p]?.map (·.2)).getD Value.none)).length:=by rw [List.length_map,pm.length_eq,List.length_range]
    have above:s.heap.get? (s.heap.push { cls:=.type "tuple",data:=.seq (ps.map fun (i:Nat)=>rawInt i).toArray }).objs.size = none:=by
      cases z:s.heap.get? _ with
      | none=>rfl
      | some o=>exact absurd (Heap.lt_size z) (by rw [Heap.size_push]; exact Nat.not_lt.mpr (Nat.le_succ _))
    refine q _ d _ _ _ _ (fun b o e=>Heap.get?_push_of_some _ (Heap.get?_push_of_some _ e)) ((pm.map (fun p=>(es[p]?.map (·.2)).getD Value.none)).trans (by rw [ex])) (fun A hh=>walk_drawn hh (s.heap.push { cls:=.type "tuple",data:=.seq (ps.map fun (i:Nat)=>rawInt i).toArray }).objs.size a s.heap.objs.size na nt _ ps es ep t f ln (by rw [List.length_map]) fun i p hi=>?_) ⟨⟨_,Heap.get?_push_size _ rfl,rfl,?_⟩,x.keep fun o e=>Heap.get?_push_of_some _ (Heap.get?_push_of_some _ e),⟨_,_,Heap.get?_push_of_some _ (Heap.get?_push_size _ rfl),rfl⟩⟩ (fun b hb=>?_) above
    · have hp':=rg p (List.mem_of_getElem? hi)
      refine ⟨es[p].1,es[p].2,by simp [hp'],?_⟩
      rw [List.getElem?_map,hi]
      simp [hp']
    · rw [← ln]; rfl
    · simp only [List.mem_cons,List.not_mem_nil,or_false] at hb
      rcases hb with rfl | rfl | rfl
      · exact .inr above
      · exact .inl rfl
      · exact .inr (none_end _)
  · refine wpAny_bind (wpAny_setEpoch_of eo dd f ?_)
    refine wpAny_bind (wpAny_newObj_type (wpAny_pure ⟨_,rfl,"set_iterator",_,⟨_,Heap.get?_push_size _ rfl,rfl⟩,sit_slot.lookup,?_⟩))
    have kk:∀ b o,s.heap.get? b = some o→(s.heap.push { cls:=.type "set_iterator",data:=.fields [rawInt 0,rawInt 0,.ref a,rawInt es.size,rawInt ep].toArray }).get? b = some o:=fun b o e=>Heap.get?_push_of_some _ e
    have fresh:∀ b∈[s.heap.objs.size,a],b = a∨s.heap.get? b = none:=fun b hb=>by
      simp only [List.mem_cons,List.not_mem_nil,or_false] at hb
      rcases hb with rfl | rfl
      · exact .inr (none_end _)
      · exact .inl rfl
    cases bt:ByText w with
    | true=>
      have ln:es.size = ((pickOrder (w.params.setOrder a ep) es).toList.map (·.2)).length:=by rw [List.length_map,(pick_perm _ es).length_eq,Array.length_toList]
      refine q _ s.drawn s.heap.objs.size _ _ _ kk ((pick_perm _ es).map _) (fun A hh=>walk_slot hh s.heap.objs.size a (Nat.ne_of_lt hlt) ((pickOrder (w.params.setOrder a ep) es).toList.map (·.2)) (fun _=>0) es ep t f ln fun i A E s Q _ x q=>next_text bt x f q) ⟨⟨_,Heap.get?_push_size _ rfl,rfl,?_⟩,x.keep fun o e=>kk a o e⟩ fresh (none_end _)
      rw [← ln]; rfl
    | false=>
      have few:es.size≤1:=by
        rw [bt] at c
        by_cases z:es.size = 0
        · omega
        · rw [hp z] at c
          simpa using c
      rw [bt] at hl
      refine q _ s.drawn s.heap.objs.size _ _ _ kk (List.Perm.refl _) (fun A hh=>walk_slot hh s.heap.objs.size a (Nat.ne_of_lt hlt) (es.toList.map (·.2)) (fun i=>if i = 0 then 0 else t.place.getD 0 0 + 1) es ep t f (by simp) fun i A E s Q li x q=>next_few bt hl few (by simpa using li) x f q) ⟨⟨_,Heap.get?_push_size _ rfl,rfl,?_⟩,x.keep fun o e=>kk a o e⟩ fresh (none_end _)
      simp
theorem hint_set {a:Addr} {Q:Bool→Shared→Prop} (hT:s.TypeIs (.ref a) "set") (q:Q false s):wpAny (model prog w) A (Builtin.List.listLengthHint (.ref a)) Q E s:=by
  unfold Builtin.List.listLengthHint
  refine wpAny_bind (wpAny_specialOf hT PySem.F.slot_set_len.lookup ?_)
  generalize e0:("set.__len__":String) = d0
  wp_delta
  rw [show splitId d0 = some ("set","__len__") from by subst e0; decide +kernel]
  subst e0
  refine wpAny_bind (wpAny_isInstance (T:="set") (b:=true) hT (by rw [isSubtype_type]; kernel_rfl) ?_)
  refine wpAny_ite_split (fun c=>absurd c (by decide)) (fun _=>wpAny_ite_split (fun _=>?_) (fun c=>absurd (by decide +kernel) c))
  exact wpAny_bind (wpAny_typeOf hT (wpAny_pure q))
theorem items_list {xs:List Value} {acc:Array Value} (z:ItemsOf (fun i v=>xs[i]? = some v) acc xs.length):acc.toList = xs:=by
  refine List.ext_getElem? fun i=>?_
  rw [Array.getElem?_toList]
  cases e:acc[i]? with
  | some v=>exact (z.2 i v e).symm
  | none=>
    have:acc.size≤i:=by simpa using e
    rw [z.1] at this
    exact (List.getElem?_eq_none this).symm
theorem collect_set {a:Addr} {es:Array (Int×Value)} {ep:Nat} {t:SetTable} {Q:List Value→Shared→Prop} (hh:A.handled = none) (x:SetAt s.heap a es ep t) (f:t.fits es.size = true) (hl:t.led = !ByText w) (hp:es.size≠0→t.plain = false) (hb:es.size < scanBound)
    (q:∀ h' d tk (vs:List Value),(∀ b o,s.heap.get? b = some o→h'.get? b = some o)→vs.Perm (es.toList.map (·.2))→Q vs { s with heap:=h',drawn:=d,toks:=tk }):wpAny (model prog w) A (collect (.ref a)) Q E s:=by
  refine collect_ext ?_
  have x1:SetAt (s.heap.push { cls:=.type "list",data:=.seq #[] }) a es ep t:=x.keep fun o e=>Heap.get?_push_of_some _ e
  have lt:a < s.heap.objs.size:=let ⟨_,e,_⟩:=x; Heap.lt_size e
  unfold Builtin.List.listExtendWith
  have hT:Shared.TypeIs { s with heap:=s.heap.push { cls:=.type "list",data:=.seq #[] } } (.ref a) "set":=let ⟨o,e,c,_⟩:=x1; ⟨o,e,c⟩
  refine wpAny_bind (wpAny_typeOf hT ?_)
  have n1:Builtin.List.listSameRef (.ref s.heap.objs.size) (.ref a) = false:=by simp [Builtin.List.listSameRef,Nat.ne_of_gt lt]
  have n2:(Value.type "set" == Value.type "list") = false:=by decide
  have n3:(Value.type "set" == Value.type "tuple") = false:=by decide
  simp only [n1,n2,n3,Bool.or_false,Bool.false_eq_true,if_false]
  refine wpAny_bind (set_iter x1 f hl hp hb fun h1 d I fp xs St k1 pm W st fr nI0=>?_)
  have hS1:h1.get? s.heap.objs.size = some { cls:=.type "list",data:=.seq #[] }:=k1 _ _ (Heap.get?_push_size _ rfl)
  have hSf:s.heap.objs.size ∉ fp:=fun hm=>by
    rcases fr _ hm with z | z
    · exact absurd z (Nat.ne_of_gt lt)
    · rw [show (s.heap.push { cls:=.type "list",data:=.seq #[] }).get? s.heap.objs.size = some { cls:=.type "list",data:=.seq #[] } from Heap.get?_push_size _ rfl] at z
      cases z
  have nI:∀ b o,s.heap.get? b = some o→b ∉ s.heap.objs.size :: [I]:=fun b o e hm=>by
    rcases List.mem_cons.mp hm with z | z
    · exact absurd (Heap.lt_size e) (by rw [z]; exact Nat.lt_irrefl _)
    · rw [List.mem_singleton] at z
      subst z
      rw [Heap.get?_push_of_some _ e] at nI0
      cases nI0
  refine wpAny_bind (wpAny_holding (hint_set (let ⟨o,e,c,_⟩:=x1; ⟨o,k1 _ _ e,c⟩) ?_))
  refine wpAny_ite_split (fun _=>?_) (fun c=>absurd (by decide) c)
  refine wpAny_bind (wpAny_rule ?_)
  refine wpAny_bind ?_
  show wpAny _ _ (updateSeq s.heap.objs.size (·.push .none) >>= fun _=>updateSeq s.heap.objs.size (·.pop)) _ _ _
  refine wpAny_bind (wpAny_updateSeq hS1 rfl ?_)
  have hS2:=Heap.get?_update_self (Obj.mapSeq (·.push Value.none)) hS1 rfl
  refine wpAny_updateSeq (hz:=by seq_fits) hS2 rfl ?_
  have hS3:=Heap.get?_update_self (Obj.mapSeq (·.pop)) hS2 rfl
  have oth:∀ b o,b≠s.heap.objs.size→h1.get? b = some o→((h1.update s.heap.objs.size (Obj.mapSeq (·.push Value.none))).update s.heap.objs.size (Obj.mapSeq (·.pop))).get? b = some o:=
    fun b o n e=>(Heap.get?_update_other _ _ (Ne.symm n)).trans ((Heap.get?_update_other _ _ (Ne.symm n)).trans e)
  refine wpAny_pure ⟨plainId_quiet PySem.F.plain_extend_loop _,codeAny_extend_loopS (W A.in1 hh).toS (by rw [pm.length_eq,List.length_map,Array.length_toList]; exact fits_of_scanBound hb) s.heap.objs.size hSf (.ref s.heap.objs.size) xs.length 0 _ #[] _ rfl (Nat.zero_le _) ((W A hh).frame 0 _ _ st fun b hb o e=>oth b o (fun z=>hSf (z ▸ hb)) e) hS3 (ItemsOf.nil _) fun s' acc c hm hS' it=>?_⟩
  refine ⟨acc,c,rfl,hS',?_⟩
  rw [items_list it,Moved.eq_with hm]
  exact q _ _ _ xs (fun b o e=>hm.heap b o (nI b o e) (oth b o (Nat.ne_of_lt (Heap.lt_size e)) (k1 b o (Heap.get?_push_of_some _ e)))) pm
end
end L2
namespace L2
section
open PySem PySem.Calls PyProof.Rows
variable {prog:Program} {w:World} {A:Around} {E:Value→Shared→Prop} {s:Shared}
theorem lay_led (t:SetTable) (es:Array (Int×Value)) (h:Int) (x:Value):(layNew t es h x).2.1.led = t.led:=by
  unfold layNew
  split
  · dsimp only [SetTable.put,SetTable.orStandIn]
    split <;> split <;> rfl
  · rfl
theorem relay_led (t:SetTable) (es:Array (Int×Value)) (n:Nat):(relayAll t es n).2.1.led = t.led:=by
  unfold relayAll
  split
  · rename_i t' order e
    unfold SetTable.relaid SetTable.laid at e
    cases z:SetTable.layClean (SetTable.sizeAbove n - 1) (es.map (·.1)) with
    | none=>rw [z] at e; cases e
    | some ow=>
      rw [z] at e
      injection e with e
      injection e with e1 e2
      dsimp only
      split
      · rw [← e1]
      · rfl
  · rfl
theorem relay_plain (t:SetTable) (es:Array (Int×Value)) (n:Nat) (p:t.plain = false):(relayAll t es n).2.1.plain = false:=by
  unfold relayAll
  split
  · rename_i t' order e
    unfold SetTable.relaid SetTable.laid at e
    cases z:SetTable.layClean (SetTable.sizeAbove n - 1) (es.map (·.1)) with
    | none=>rw [z] at e; cases e
    | some ow=>
      rw [z] at e
      injection e with e
      injection e with e1 e2
      dsimp only
      split
      · rw [← e1]; exact p
      · rfl
  · rfl
def TxtSet (prog:Program) (w:World) (h:Heap) (a:Addr) (ks:List Str):Prop:=∃ o es ep t ss,h.get? a = some o∧o.ExactSet∧o.data = .set es ep t∧ElemsOf (PySem.strKind prog w) es.toList∧t.fits es.size = true∧t.led = (!ByText w)∧(es.size≠0→t.plain = false)∧
  StrsAre (es.toList.map (·.2)) ss∧ss.Perm ks
theorem is_str {k:Str} {v:Value} (h:Value.isStrOf k v = true):∃ t,v = .str k t:=Value.isStrOf_shape h
theorem txt_new (led:Bool) (hl:led = !ByText w) {h:Heap} {a:Addr} (e:h.get? a = some { cls:=.type "set",dict:=none,data:=.set #[] 0 (.fresh 0 0 led) }):TxtSet prog w h a []:=
  ⟨_,#[],0,_,[],e,⟨rfl,rfl,rfl⟩,rfl,fun e he=>by simp at he,by rfl,hl,fun z=>absurd rfl z,.nil,List.Perm.refl _⟩
theorem strs_perm {vs us:List Value} {ss:List Str} (h:StrsAre vs ss) (p:us.Perm vs):∃ ts,StrsAre us ts∧ts.Perm ss:=by
  refine ⟨us.map strOf,strsAre_map us fun v hv=>h.all v (p.mem_iff.mp hv),?_⟩
  have:=p.map strOf
  rw [h.strs] at this
  exact this
theorem strs_app:∀ {vs us:List Value} {ss ts:List Str},StrsAre vs ss→StrsAre us ts→StrsAre (vs ++ us) (ss ++ ts)
  | _,_,_,_,.nil,h=>h
  | _,_,_,_,.cons x t g,h=>.cons x t (strs_app g h)
theorem mem_strs {es:Array (Int×Value)} {ss:List Str} {k:Str} (hs:StrsAre (es.toList.map (·.2)) ss):k∈ss↔∃ e∈es.toList,Value.isStrOf k e.2 = true:=by
  rw [← hs.strs,List.mem_map]
  constructor
  · rintro ⟨v,hv,rfl⟩
    obtain ⟨e,he,rfl⟩:=List.mem_map.mp hv
    obtain ⟨x,t,ex⟩:=hs.all _ hv
    refine ⟨e,he,?_⟩
    rw [ex]
    simp [Value.isStrOf,strOf]
  · rintro ⟨e,he,hk⟩
    obtain ⟨t,ex⟩:=is_str hk
    exact ⟨e.2,List.mem_map.mpr ⟨e,he,rfl⟩,by rw [ex]; rfl⟩
theorem add_tail {g:Bool→Sem Unit} (hg:∀ (b:Bool) (s₁:Shared) (Q':Unit→Shared→Prop),Q' () s₁→wpAny (model prog w) A (g b) Q' E s₁) {a:Addr} {o:Obj} {es es1:Array (Int×Value)} {ep:Nat} {t t2:SetTable} {wd:Bool} {R:Option Bool→Shared→Prop}
    (ho:s.heap.get? a = some o) (hd:o.data = .set es ep t) (hb:es1.size < scanBound) (hf:t2.fits es1.size = true) (hp:t2.plain = false)
    (q:∀ h' es' ep' t',Heap.SameBut a s.heap h'→h'.get? a = some { o with data:=.set es' ep' t' }→es'.toList.Perm es1.toList→t'.fits es'.size = true→t'.led = t2.led→t'.plain = false→R (some true) { s with heap:=h' }) :
    wpAny (model prog w) A (storeSet a es1 t2 >>= fun _=>if (!wd && t2.tooFull) = true then g (relayAll t2 es1 (SetTable.grown es1.size)).2.2 >>= fun _=>storeSet a (relayAll t2 es1 (SetTable.grown es1.size)).1 (relayAll t2 es1 (SetTable.grown es1.size)).2.1 >>= fun _=>pure (some true) else pure (some true)) R E s:=by
  have put:∀ (h:Heap) (o:Obj) (es ep t es' t'),h.get? a = some o→o.data = .set es ep t→(h.update a (Obj.putSet es' t')).get? a = some { o with data:=.set es' (ep + 1) t' }:=fun h o es ep t es' t' e d=>by
    have z:=Heap.get?_update_self (Obj.putSet es' t') e (by rw [putSet_of es' t' d]; rfl)
    rw [putSet_of es' t' d] at z
    exact z
  refine wpAny_bind (wpAny_storeSet_of ho hd ?_ (fits_of_scanBound hb))
  have h1:=put s.heap o es ep t es1 t2 ho hd
  refine wpAny_ite_split (fun _=>?_) (fun _=>wpAny_pure (q _ es1 (ep + 1) t2 (Heap.SameBut.update ..) h1 (List.Perm.refl _) hf rfl hp))
  have pm:=relayAll_perm t2 es1 (SetTable.grown es1.size)
  have sz:(relayAll t2 es1 (SetTable.grown es1.size)).1.size = es1.size:=by rw [← Array.length_toList,pm.length_eq,Array.length_toList]
  refine wpAny_bind (hg _ _ _ (wpAny_bind (wpAny_storeSet_of h1 rfl ?_ (fits_of_scanBound (by rw [sz]; exact hb)))))
  exact wpAny_pure (q _ _ (ep + 1 + 1) _ ((Heap.SameBut.update ..).trans (Heap.SameBut.update ..)) (put _ { o with data:=.set es1 (ep + 1) t2 } es1 (ep + 1) t2 _ _ h1 rfl) pm (relayAll_fits ..) (relay_led ..) (relay_plain _ _ _ hp))
theorem set_add_txt {a:Addr} {ks:List Str} {k:Str} {tk:Tok} {Q:Bool→Shared→Prop} (S:TxtSet prog w s.heap a ks) (room:ks.length + 1 < scanBound)
    (q:∀ b h',Heap.SameBut a s.heap h'→TxtSet prog w h' a (if k∈ks then ks else ks ++ [k])→Q b { s with heap:=h',toks:=s.toks + 1 }):wpAny (model prog w) A (setAdd a (.str k tk)) Q E s:=by
  obtain ⟨o,es,ep,t,ss,ho,hex,hd,hel0,hf,hl,hp,hs,pm⟩:=S
  have hel:ElemsOf (PySem.strKind prog w) es.toList:=hel0
  have hkey:(PySem.strKind prog w).is k (.str k tk) = true:=by show Value.isStrOf k (.str k tk) = true; simp [Value.isStrOf]
  have ln:es.size = ks.length:=by rw [← pm.length_eq,← hs.length,List.length_map,Array.length_toList]
  have hb:es.size < scanBound:=by omega
  unfold setAdd
  refine wpAny_holding (wpAny_bind ((PySem.strKind prog w).pyHash hkey ?_))
  unfold setAddHashed
  unfold setAddHashedIn
  refine wpAny_holding (wpAny_bind (wpAny_setState_of (s:={ s with toks:=s.toks + 1 }) ho hd hf ?_))
  dsimp only
  rw [byScan_of rfl hb hel]
  simp only [↓reduceIte]
  unfold setAddByScan
  refine wpAny_bind (wpAny_bind (wpAny_rule (wpAny_bind (wpAny_setScan_of hkey ho hd hf hel ?_))))
  cases hr:List.findIdx? (fun e=>(PySem.strKind prog w).is k e.2) es.toList with
  | some j=>
    dsimp only
    obtain ⟨hj,hpj,_⟩:=List.findIdx?_eq_some_iff_getElem.mp hr
    have hm:k∈ks:=pm.mem_iff.mp ((mem_strs hs).mpr ⟨_,List.getElem_mem hj,hpj⟩)
    refine wpAny_pure (wpAny_pure (q false s.heap (Heap.SameBut.refl a s.heap) ?_))
    rw [if_pos hm]
    exact ⟨o,es,ep,t,ss,ho,hex,hd,hel,hf,hl,hp,hs,pm⟩
  | none=>
    dsimp only
    have hm:k ∉ ks:=fun z=>by
      obtain ⟨e,he,hk⟩:=(mem_strs hs).mp (pm.mem_iff.mpr z)
      have:=List.findIdx?_eq_none_iff.mp hr e he
      exact absurd (hk.symm.trans this) (by decide)
    rw [if_neg hm] at q
    have gw:∀ (b:Bool) (s₁:Shared) (Q':Unit→Shared→Prop),Q' () s₁→wpAny (model prog w) A (match b with | true=>rule "set.scan.the-table-gave-way" | false=>pure ()) Q' E s₁:=fun b s₁ Q' hq=>by
      cases b
      · exact wpAny_pure hq
      · exact wpAny_rule hq
    have lp:=layNew_perm t es ((PySem.strKind prog w).hash k) (.str k tk)
    have lf:=layNew_fits t es ((PySem.strKind prog w).hash k) (.str k tk)
    have ll:=lay_led t es ((PySem.strKind prog w).hash k) (.str k tk)
    generalize layNew t es ((PySem.strKind prog w).hash k) (.str k tk) = L at lp lf ll
    obtain ⟨es1,t1,wd,gave⟩:=L
    dsimp only at lp lf ll ⊢
    rw [Array.toList_push] at lp
    have hel1:ElemsOf (PySem.strKind prog w) es1.toList:=(hel.push hkey rfl).perm lp
    have sz1:es1.size = es.size + 1:=by rw [← Array.length_toList,lp.length_eq,List.length_append,Array.length_toList]; rfl
    have str1:∃ ts,StrsAre (es1.toList.map (·.2)) ts∧ts.Perm (ks ++ [k]):=by
      have h0:StrsAre ((es.toList ++ [((PySem.strKind prog w).hash k,Value.str k tk)]).map (·.2)) (ss ++ [k]):=by
        rw [List.map_append]
        exact strs_app hs (.cons k tk .nil)
      obtain ⟨ts,y1,y2⟩:=strs_perm h0 (lp.map (·.2))
      exact ⟨ts,y1,y2.trans (pm.append_right _)⟩
    have fin:∀ h' es' ep' t',Heap.SameBut a s.heap h'→h'.get? a = some { o with data:=.set es' ep' t' }→es'.toList.Perm es1.toList→t'.fits es'.size = true→t'.led = t.led→t'.plain = false→TxtSet prog w h' a (ks ++ [k]):=fun h' es' ep' t' _ e pe fe le pl=>by
      obtain ⟨ts,y1,y2⟩:=str1
      obtain ⟨us,z1,z2⟩:=strs_perm y1 (pe.map (·.2))
      exact ⟨_,es',ep',t',us,e,hex,rfl,hel1.perm pe,fe,le.trans hl,fun _=>pl,z1,z2.trans y2⟩
    refine wpAny_bind (gw _ _ _ ?_)
    refine wpAny_ite_split (fun c=>?_) (fun c=>?_)
    · rw [hashByValue_scannable 8 rfl]
      refine wpAny_bind (wpAny_pure ?_)
      refine add_tail gw ho hd (by rw [sz1,ln]; exact room) (SetTable.fits_plain_off lf) rfl fun h' es' ep' t' sb e pe fe le pl=>wpAny_pure (q true h' sb (fin h' es' ep' t' sb e pe fe (le.trans ll) pl))
    · refine wpAny_bind (wpAny_pure ?_)
      have pl1:t1.plain = false:=by simpa using c
      refine add_tail gw ho hd (by rw [sz1,ln]; exact room) lf pl1 fun h' es' ep' t' sb e pe fe le pl=>wpAny_pure (q true h' sb (fin h' es' ep' t' sb e pe fe (le.trans ll) pl))
def onceS (ss:List Str):List Str:=ss.foldl (fun ks k=>if k∈ks then ks else ks ++ [k]) []
theorem once_len (ss:List Str):(onceS ss).length≤ss.length:=by
  have z:∀ (l ks:List Str),(l.foldl (fun ks k=>if k∈ks then ks else ks ++ [k]) ks).length≤ks.length + l.length:=fun l=>by
    induction l with
    | nil=>intro ks; exact Nat.le_refl _
    | cons k r ih=>
      intro ks
      refine Nat.le_trans (ih _) ?_
      rw [List.length_cons]
      dsimp only
      split
      · omega
      · rw [List.length_append,List.length_singleton]; omega
  have:=z ss []
  rw [List.length_nil,Nat.zero_add] at this
  exact this
theorem once_step {ss:List Str} {i:Nat} {k:Str} (h:ss[i]? = some k):onceS (ss.take (i + 1)) = if k∈onceS (ss.take i) then onceS (ss.take i) else onceS (ss.take i) ++ [k]:=by
  have e:ss.take (i + 1) = ss.take i ++ [k]:=by rw [List.take_add_one,h]; rfl
  unfold onceS
  rw [e,List.foldl_append]
  rfl
theorem TxtSet.keep {h h':Heap} {a:Addr} {ks:List Str} (S:TxtSet prog w h a ks) (k:∀ o,h.get? a = some o→h'.get? a = some o):TxtSet prog w h' a ks:=let ⟨o,es,ep,t,ss,e,r⟩:=S; ⟨o,es,ep,t,ss,k o e,r⟩
theorem strs_at:∀ {vs:List Value} {ss:List Str},StrsAre vs ss→∀ (i:Nat) (v:Value),vs[i]? = some v→∃ k t,v = .str k t∧ss[i]? = some k
  | _,_,.nil,i,v,h=>by simp at h
  | _,_,.cons x t r,0,v,h=>⟨x,t,by simpa using h.symm,rfl⟩
  | _,_,.cons x t r,i + 1,v,h=>strs_at r i v h
theorem fill_loop {R:Result→Shared→Prop} {I S:Addr} {fp:List Addr} {vs:List Value} {ss:List Str} {St:Nat→Heap→Prop} (W:Walks prog w A.in1 I fp [I] vs.length (fun i v=>vs[i]? = some v) St) (nS:S ∉ fp) (hs:StrsAre vs ss) (hb:vs.length + 1 < scanBound) :
    ∀ (k i:Nat) (s:Shared),vs.length - i = k→i≤vs.length→St i s.heap→TxtSet prog w s.heap S (onceS (ss.take i))→
      (∀ h' tk,(∀ b o,b ∉ [S,I]→s.heap.get? b = some o→h'.get? b = some o)→TxtSet prog w h' S (onceS ss)→R (.ok (.ret .none)) { s with heap:=h',toks:=tk })→codeAny (model prog w) A (.builtin "set.update.loop" ⟨[.ref S,.ref I],[]⟩) R s:=by
  have nI:S ∉ [I]:=fun z=>nS (W.sub _ z)
  have ln:vs.length = ss.length:=hs.length
  intro k
  induction k with
  | zero=>
    intro i s hk hi st T q
    have e:i = vs.length:=by omega
    subst e
    refine codeAny_builtin PyProof.Rows.F.entry_set_update_loop ?_
    rw [Around.under_plainId PyProof.Rows.F.plain_set_update_loop _]
    refine wpAny_bind (m:=pyNext (.ref I)) (W.done s _ _ st fun h' tk k'=>?_)
    rw [ln,List.take_length] at T
    exact wpAny_pure (q h' tk (fun b o n e=>k' b o (fun z=>n (List.mem_cons_of_mem _ z)) e) (T.keep fun o e=>k' S o nI e))
  | succ k ih=>
    intro i s hk hi st T q
    have lt:i < vs.length:=by omega
    refine codeAny_builtin PyProof.Rows.F.entry_set_update_loop ?_
    rw [Around.under_plainId PyProof.Rows.F.plain_set_update_loop _]
    refine wpAny_bind (m:=pyNext (.ref I)) (W.item i s _ _ lt st fun v h' tk hv st' k'=>?_)
    obtain ⟨x,t,rfl,hx⟩:=strs_at hs i v hv
    refine wpAny_bind (m:=holding [Value.str x t] (setAdd S (.str x t))) (wpAny_holding (set_add_txt (T.keep fun o e=>k' S o nI e) ?_ fun b h2 sb T2=>?_))
    · have:=once_len (ss.take i)
      rw [List.length_take] at this
      omega
    rw [← once_step hx] at T2
    refine wpAny_pure ⟨plainId_quiet PyProof.Rows.F.plain_set_update_loop _,ih (i + 1) _ (by omega) lt (W.frame _ _ _ st' fun b hb o e=>?_) T2 fun h3 tk3 k3 T3=>?_⟩
    · rw [sb.2 b (fun z=>nS (z ▸ hb))]; exact e
    · refine q h3 tk3 (fun b o n e=>k3 b o n ?_) T3
      rw [sb.2 b (fun z=>n (by simp [z]))]
      exact k' b o (fun z=>n (List.mem_cons_of_mem _ z)) e
theorem set_made (x:Value) {Q₁:Value→Shared→Prop} (q:Q₁ (.ref s.heap.objs.size) { s with heap:=s.heap.push { cls:=.type "set",dict:=none,data:=.set #[] 0 (.fresh 0 0 (!ByText w)) } }) :
    codeAny (model prog w) A (.call (.builtin "set.__new__") ⟨[.type "set",x],[]⟩) (wants Q₁ E) s:=by
  refine codeAny_of_tree ?_
  refine wpAny_bind (m:=checkBuiltinCall "set.__new__" ⟨[.type "set",x],[]⟩) (wpAny_of_eq (PySem.F.newCall_set_1 x) (wpAny_pure ⟨plainId_quiet PySem.F.plain_set_new _,codeAny_builtin PySem.F.entry_set_new ?_⟩))
  rw [Around.under_plainId PySem.F.plain_set_new _]
  unfold Builtin.«set.__new__»
  unfold Builtin.Frozenset.newClass
  have hsub:=sub_set_self
  obtain ⟨hp,g,d,tk,os⟩:=s
  dsimp only
  wp_walk
  refine wpAny_askSetting (wpAny_pure ?_)
  dsimp only
  simp only [newObj]
  exact wpAny_bind (wpAny_alloc (wpAny_pure (wpAny_pure q)))
end
end L2
namespace L2
section
open PySem PySem.Calls PyProof.Rows
variable {prog:Program} {w:World} {A:Around} {E:Value→Shared→Prop} {s:Shared}
theorem set_call {lq:Addr} {vs:List Value} {ss:List Str} {Q:Value→Shared→Prop} (hh:A.handled = none) (hl:s.heap.IsList lq vs.toArray) (hs:StrsAre vs ss) (hb:vs.length + 1 < scanBound)
    (q:∀ h' tk,(∀ b o,s.heap.get? b = some o→h'.get? b = some o)→TxtSet prog w h' s.heap.objs.size (onceS ss)→Q (.ref s.heap.objs.size) { s with heap:=h',toks:=tk }):wpAny (model prog w) A (call (.type "set") [.ref lq]) Q E s:=by
  obtain ⟨c,tl,hmro⟩:=PySem.F.called_set.mro
  have hmade:=PySem.F.called_set.made
  have hsub:=PySem.F.called_set.sub
  refine wpAny_call (codeAny_of_tree (wpAny_pure ⟨Code.quiet_builtin _ (by decide +kernel),codeAny_builtin PySem.F.entry_type_call ?_⟩))
  rw [Around.under_plain (weight_type_call_type "set" [.ref lq] []) rfl]
  have h1:=PySem.F.called_set.notType
  have h2:=PySem.F.called_set.canCreate
  have hct:=PySem.F.typeCall_set_1 (.ref lq)
  repeat (any_goals (first | assumption | wp_step))
  refine codeAny_mono (set_made (.ref lq) (E:=E) (Q₁:=fun obj s₁=>obj = .ref s.heap.objs.size∧s₁ = { s with heap:=s.heap.push { cls:=.type "set",dict:=none,data:=.set #[] 0 (.fresh 0 0 (!ByText w)) } }) ⟨rfl,rfl⟩) fun r s₁ hr=>?_
  match r,hr with
  | .error e,hr=>exact hr
  | .ok (.ret obj),hr=>
    obtain ⟨rfl,rfl⟩:=hr
    have hS:(s.heap.push { cls:=.type "set",dict:=none,data:=.set #[] 0 (.fresh 0 0 (!ByText w)) }).get? s.heap.objs.size = some { cls:=.type "set",dict:=none,data:=.set #[] 0 (.fresh 0 0 (!ByText w)) }:=Heap.get?_push_size _ rfl
    have hT:Shared.TypeIs { s with heap:=s.heap.push { cls:=.type "set",dict:=none,data:=.set #[] 0 (.fresh 0 0 (!ByText w)) } } (.ref s.heap.objs.size) "set":=⟨_,hS,rfl⟩
    have hli:=PySem.F.called_set.init.lookup
    have hbi:=PySem.F.called_set.init.bind (.ref s.heap.objs.size)
    repeat (any_goals (first | assumption | wp_step))
    refine codeAny_mono (codeAny_call_builtin (R:=wants (fun r s₂=>r = .none∧∃ h' tk,s₂ = { s with heap:=h',toks:=tk }∧(∀ b o,s.heap.get? b = some o→h'.get? b = some o)∧TxtSet prog w h' s.heap.objs.size (onceS ss)) E) PySem.F.called_set.init.plain PySem.F.entry_set_init (check_set_init_1 hT ?_)) fun r₂ s₂ hr₂=>?_
    · obtain ⟨⟨cl,dl,tl,sl⟩,el,hcl,nl,hdl⟩:=hl
      simp only at hcl hdl
      subst hcl; subst hdl
      have el':=Heap.get?_push_of_some ({ cls:=.type "set",dict:=none,data:=.set #[] 0 (.fresh 0 0 (!ByText w)) }:Obj) el
      have lt:lq < s.heap.objs.size:=Heap.lt_size el
      have l1:(s.heap.push { cls:=.type "set",dict:=none,data:=.set #[] 0 (.fresh 0 0 (!ByText w)) }).IsList lq vs.toArray:=⟨_,el',rfl,nl,rfl⟩
      have n1:=PySem.F.sub_list_set
      have n2:=PySem.F.sub_list_frozenset
      have n3:(Value.type "list" == Value.type "dict") = false:=by decide
      unfold Builtin.«set.__init__» Builtin.Frozenset.updateFrom noKeywords
      generalize ePI:pyIter = PI
      wp_walk
      subst ePI
      refine wpAny_pyIter_list l1 (wpAny_bind (wpAny_runValue ?_))
      have nI:lq≠(s.heap.push { cls:=.type "set",dict:=none,data:=.set #[] 0 (.fresh 0 0 (!ByText w)) }).objs.size:=by rw [Heap.size_push]; exact Nat.ne_of_lt (Nat.lt_succ_of_lt lt)
      have nS:s.heap.objs.size ∉ [(s.heap.push { cls:=.type "set",dict:=none,data:=.set #[] 0 (.fresh 0 0 (!ByText w)) }).objs.size,lq]:=by
        rw [Heap.size_push]
        simp only [List.mem_cons,List.not_mem_nil,or_false,not_or]
        exact ⟨Nat.ne_of_lt (Nat.lt_succ_self _),Nat.ne_of_gt lt⟩
      have hA:A.in1.in1.in1.handled = none:=by simp [hh]
      have W:=Walks.list (prog:=prog) (w:=w) hA (s.heap.push { cls:=.type "set",dict:=none,data:=.set #[] 0 (.fresh 0 0 (!ByText w)) }).objs.size lq nI vs.toArray
      have W2:Walks prog w A.in1.in1.in1 (s.heap.push { cls:=.type "set",dict:=none,data:=.set #[] 0 (.fresh 0 0 (!ByText w)) }).objs.size [(s.heap.push { cls:=.type "set",dict:=none,data:=.set #[] 0 (.fresh 0 0 (!ByText w)) }).objs.size,lq] [(s.heap.push { cls:=.type "set",dict:=none,data:=.set #[] 0 (.fresh 0 0 (!ByText w)) }).objs.size] vs.length (fun i v=>vs[i]? = some v) (fun i h=>h.IsListIter (s.heap.push { cls:=.type "set",dict:=none,data:=.set #[] 0 (.fresh 0 0 (!ByText w)) }).objs.size lq i∧h.IsList lq vs.toArray):=by
        simpa only [List.size_toArray,List.getElem?_toArray] using W
      refine fill_loop W2 nS hs hb vs.length 0 _ (by omega) (Nat.zero_le _) ⟨⟨_,Heap.get?_push_size _ rfl,rfl,rfl⟩,l1.push _⟩ (txt_new (!ByText w) rfl (Heap.get?_push_of_some _ hS)) fun h' tk k' T=>?_
      refine wpAny_pure (wpAny_pure ⟨rfl,h',tk,rfl,fun b o e=>k' b o (fun z=>?_) (Heap.get?_push_of_some _ (Heap.get?_push_of_some _ e)),T⟩)
      have lb:=Heap.lt_size e
      rw [Heap.size_push] at z
      simp only [List.mem_cons,List.not_mem_nil,or_false] at z
      rcases z with rfl | rfl
      · exact absurd lb (Nat.lt_irrefl _)
      · exact absurd lb (Nat.not_lt.mpr (Nat.le_succ _))
    · match r₂,hr₂ with
      | .error e,hr₂=>exact hr₂
      | .ok (.ret r),hr₂=>
        obtain ⟨rfl,h',tk,rfl,k',T⟩:=hr₂
        repeat (any_goals (first | assumption | wp_step))
        exact q _ _ k' T
      | .ok .next,hr₂=>exact hr₂.elim
end
end L2
namespace L2
section
open PySem PySem.Calls PyProof.Rows
variable {X:Cx} {pins:List (Addr×Obj)} {σ:St} {H:Hp} {s:Shared}
theorem Inv.drew {d':Drawn} (I:Inv X pins σ H s):Inv X pins σ H { s with drawn:=d' }:=⟨I.ok,I.os,I.bare,I.base,I.loc,I.cell,I.free,I.freeC,I.pin,I.hok,I.len⟩
theorem strs_of_vals:∀ {ss:List Str} {its:List Value},Vals (ss.map V.str) its→StrsAre its ss
  | [],_,.nil=>.nil
  | x :: r,_,.cons h t=>by
    obtain ⟨k,rfl⟩:=h
    exact .cons x k (strs_of_vals t)
theorem vals_of_strs:∀ {ss:List Str} {its:List Value},StrsAre its ss→Vals (ss.map V.str) its
  | _,_,.nil=>.nil
  | _,_,.cons x t h=>.cons ⟨t,rfl⟩ (vals_of_strs h)
def SetT (P:Program) (w:World) (p:Addr) (ks:List Str):HO:=.ext fun h=>TxtSet P w h p ks
def rSetT (P:Program) (w:World) (K:PySem.W.Frag):List V→Hp→VK→Prop:=fun xs H Q=>∃ (a:Addr) (ss:List Str),xs = [.ref a]∧SqL K H a (ss.map V.str)∧ss.length≤1000∧∀ p,H p = none→Q (.ref p) (upd H p (SetT P w p (onceS ss)))
theorem call_setT {P:Program} {w:World} {K:PySem.W.Frag} (hP:X.prog = P) (hw:X.w = w) (hK:X.K = K) (hc:X.calm = true):CallR X (.type "set") (rSetT P w K):=by
  subst hP hw hK
  intro pins s σ H xs us Q I r h
  obtain ⟨a,ss,rfl,h1,few,q⟩:=h
  obtain ⟨u,rfl,ru⟩:=vals1 r
  cases ru
  obtain ⟨its,r1,p1,_⟩:=I.list h1
  have hs:=strs_of_vals r1
  have ln:=hs.length
  refine set_call (I.ok.hd hc) p1.isList hs (by rw [ln]; unfold scanBound; omega) fun h' tk k T=>⟨.ref s.heap.objs.size,_,I.laid (t':=tk) k (Nat.le_refl _) (?_:ObjOk X.prog X.w _ h' _ (SetT X.prog X.w s.heap.objs.size (onceS ss))),rfl,q _ (I.hok.fresh (Nat.le_refl _))⟩
  exact ⟨T,let ⟨o,_,_,_,_,e,_⟩:=T; ⟨o,e⟩,fun h1 h2 T1 kk=>T1.keep kk⟩
def GivesS (H:Hp) (ks:List Str) (Q:VK):Prop:=∀ ts p,ts.Perm ks→sortedS ts = true→H p = none→Q (.ref p) (upd H p (.lst (ts.map V.str)))
theorem sorts_to {Q:VK} {ks:List Str} {d':Drawn} {tk:Nat} {h1:Heap} {vs:List Value} {ss:List Str} (I:Inv X pins σ H s) (k:∀ b o,s.heap.get? b = some o→h1.get? b = some o) (hs:StrsAre vs ss) (pm:ss.Perm ks) (few:ks.length < 64) (q:GivesS H ks Q) :
    SortsTo (EP X pins σ Q) vs { s with heap:=h1,drawn:=d',toks:=tk }:=by
  have I1:Inv X pins σ H { s with heap:=h1,drawn:=d',toks:=tk }:=(I.drew (d':=d')).kept (t':=tk) k
  refine ⟨ss,hs,by rw [hs.length,pm.length_eq]; exact few,fun h' p out ss' c ho pe so lp k' e=>⟨.ref p,_,I1.laid (t':=tk) k' lp (?_:ObjOk X.prog X.w _ h' p (.lst (ss'.map V.str))),rfl,q ss' p (pe.trans pm) so (I1.hok.fresh lp)⟩⟩
  refine ⟨?_,out,c,vals_of_strs ho,e⟩
  rw [List.length_map,pe.length_eq,pm.length_eq,sizeLine_eq]
  omega
def rSortT (P:Program) (w:World):List V→Hp→VK→Prop:=fun xs H Q=>∃ (a:Addr) (ks:List Str),xs = [.ref a]∧H a = some (SetT P w a ks)∧ks.length < 64∧GivesS H ks Q
theorem call_sortT {P:Program} {w:World} (hP:X.prog = P) (hw:X.w = w) (hc:X.calm = true):CallR X (.builtin "sorted") (rSortT P w):=by
  subst hP hw
  intro pins s σ H xs us Q I r h
  obtain ⟨a,ks,rfl,h1,few,q⟩:=h
  obtain ⟨u,rfl,ru⟩:=vals1 r
  cases ru
  obtain ⟨T,_⟩:ObjOk X.prog X.w H s.heap a (SetT X.prog X.w a ks):=I.hok a _ h1
  obtain ⟨o,es,ep,t,ss,e,ex,d,el,f,hl,hp,hs,pm⟩:=T
  have ln:es.size = ks.length:=by rw [← pm.length_eq,← hs.length,List.length_map,Array.length_toList]
  refine sorted_walked (collect_set (by simpa using I.ok.hd hc) ⟨o,e,ex.1,d⟩ f hl hp (by rw [ln]; unfold scanBound; omega) fun h' d' tk vs k pv=>?_)
  obtain ⟨ts,y1,y2⟩:=strs_perm hs pv
  exact sorts_to I k y1 (y2.trans pm) few q
end
end L2
namespace L2
open PySem
end L2
namespace L2
open PySem PySem.Spec PyProof.Rows
section
variable {X:Cx} {els:List Expr} {kk:Nat} {pp:Pos}
end
end L2
namespace L2
open PySem PySem.Spec PyProof.Rows
section
variable {X:Cx}
end
end L2
namespace L2
open PySem PySem.Spec PyProof.Rows
section
variable {X:Cx}
theorem op_neE (hu:X.A.units + 1 < cLine):OpR X (compareOp .NotEq) (rEqE X.K true):=by
  intro pins s σ H x y v u Q I rx ry h
  obtain ⟨a,b,xs,rfl,rfl,h1,h2,q⟩:=h
  cases rx
  cases ry
  obtain ⟨its,r1,p1,_⟩:=I.list h1
  obtain ⟨its2,r2,p2,_⟩:=I.list h2
  cases r2
  cases r1 with
  | nil=>
    exact SeqAt.RcNeAt.lists (A:=X.A) (s:=s) (e:=fun _=>true) p1.isList p2.isList rfl (by omega) (fun j g1 g2=>absurd g1 (by simp)) _ _ _ _ ⟨.bl _,H,I,rfl,q⟩
  | cons r rr=>
    exact SeqAt.RcNeAt.lists_lengths p1.isList p2.isList (by simp) (by omega) _ _ _ _ ⟨.bl _,H,I,rfl,q⟩
end
end L2
namespace L2
section
open PySem PySem.Calls PyProof.Rows
variable {prog:Program} {w:World} {A:Around} {E:Value→Shared→Prop} {s:Shared} {it d:Addr} {i ep:Nat} {es:Array DictEntry}
def Ents (h:Heap) (d:Addr) (es:Array DictEntry) (ep:Nat):Prop:=∃ o,h.get? d = some o∧o.ExactDict∧o.data = .dict es ep
theorem Ents.ty (x:Ents s.heap d es ep):s.TypeIs (.ref d) "dict":=let ⟨o,ho,hc,_⟩:=x; ⟨o,ho,hc.1⟩
theorem Ents.at {h h':Heap} (x:Ents h d es ep) (k:∀ o,h.get? d = some o→h'.get? d = some o):Ents h' d es ep:=let ⟨o,ho,r⟩:=x; ⟨o,k o ho,r⟩
end
section
open PySem PySem.Spec PyProof.Rows
variable {X:Cx} {tg:Expr}
end
end L2
namespace L2
section
open PySem PySem.Calls PyProof.Rows
variable {prog:Program} {w:World} {A:Around} {E:Value→Shared→Prop} {s:Shared}
end
section
open PySem PySem.Spec PyProof.Rows
variable {X:Cx}
end
section
open PySem PySem.Calls PyProof.Rows
variable {prog:Program} {w:World} {A:Around} {E:Value→Shared→Prop} {I S:Addr} {fp wr:List Addr} {n:Nat} {P:Nat→Value→Prop} {St:Nat→Heap→Prop} {bt:Nat→Nat→Bool} {d:Value} {R:Result→Shared→Prop}
theorem cw_fn_kw {M:Model} {A:Around} {E:Value→Shared→Prop} {s:Shared} {pos:Pos} {id:String} {args:List (Bool×Sem Value)} {kws:List (Option Str×Sem Value)} {Q:Value→Shared→Prop} (hp:args.any (·.1) = false) (hk:kws.any (·.1.isNone) = false)
    (h:wpAny M A (evalArgs (.builtin id) true args kws) (fun z sz=>wpAny M A (call (.builtin id) z.pos z.kw) Q E sz) E s):wpAny M A (callWith pos (.builtin id) [] args kws) Q E s:=by
  unfold callWith
  refine wpAny_bind (wpAny_holding (wpAny_mono h (fun z sz hz=>wpAny_bind (wpAny_standAt ?_)) fun _ _ y=>y))
  simp only [hp,hk,Bool.or_false]
  refine wpAny_bind (wpAny_pure (wpAny_bind (wpAny_mono hz (fun v sv hv=>wpAny_bind (wpAny_holding (wpAny_point (wpAny_pure hv)))) fun _ _ y=>y)))
end
section
open PySem PySem.Spec PyProof.Rows PySem.Calls
variable {X:Cx}
end
end L2
namespace L2
section
open PySem PySem.Calls PyProof.Rows
variable {prog:Program} {w:World} {A:Around} {E:Value→Shared→Prop} {s:Shared}
theorem du_entry:entryFor table "dict.update.loop" = some Builtin.«dict.update.loop»:=entryFor_of_tree (by kernel_rfl)
theorem du_plain:plainId "dict.update.loop" = true:=by decide +kernel
theorem keys_miss:typeLookup (.type "list") "keys" = pure none:=by rw [typeLookup_type,builtinLookup_eq_fast]; kernel_rfl
theorem list_no_keys {a:Addr} {xs:Array Value} {k:Nat} {sl:Array (Option Value)} {Q:Option Value→Shared→Prop} (hx:s.heap.get? a = some { cls:=.type "list",dict:=none,data:=.seq xs k,slots:=sl }) (hA:A.handled = none)
    (h:∀ h' tk,(∀ b o,s.heap.get? b = some o→h'.get? b = some o)→Q none { s with heap:=h',toks:=tk }):wpAny (model prog w) A (getAttr? (.ref a) "keys") Q E s:=by
  obtain ⟨hp,g,d,tk,os⟩:=s
  have hT:∀ tk',(⟨hp,g,d,tk',os⟩:Shared).TypeIs (.ref a) "list":=fun _=>⟨_,hx,rfl⟩
  have f1:=sub_AttributeError
  have f3:=F.slot_list_getattribute.lookup
  have f4:=F.slot_list_getattribute.bind (.ref a)
  have f5:=am_list_getattr_none
  unfold getAttr? getAttrBy? getAttrBy
  repeat (any_goals (first | assumption | exact hT _ | ((with_reducible show wpAny _ _ (call (Value.builtin "list.__getattribute__") _ _) _ _ _); refine call_meets F.slot_list_getattribute (hT _) am_entry_list_getattribute (F.args_list_getattribute_2 _ _) (meets_getattribute_miss_list a xs k sl "keys" _ keys_miss (by decide +kernel) (by decide +kernel)) ⟨hx,hA,fun h' tk' e hx'=>?_⟩) | wp_step))
  obtain ⟨t',u',he⟩:=hx'.there
  show wpAny _ _ (getattributeRaised _ _ _ _ _ _ _) _ _ _
  unfold getattributeRaised
  repeat (any_goals (first | assumption | wp_step))
  exact h _ _ fun b o e=>hx'.keeps b o e
theorem pair_items {t:Addr} {k v:Value} {Q:List Value→Shared→Prop} (ht:IsTup s.heap t #[k,v]) (h:Q [k,v] s):wpAny (model prog w) A (Builtin.Dict.pairItems (.ref t)) Q E s:=by
  obtain ⟨o,ho,hc,n,hd⟩:=ht
  have hT:s.TypeIs (.ref t) "tuple":=⟨o,ho,hc⟩
  unfold Builtin.Dict.pairItems
  refine wpAny_bind (wpAny_typeOf hT ?_)
  rw [if_pos (by decide)]
  refine wpAny_bind (m:=seqItems? (.ref t)) ?_
  unfold seqItems?
  refine wpAny_bind (wpAny_load ho ?_)
  rw [hd]
  exact wpAny_pure (wpAny_pure h)
theorem dict_loop {R:Result→Shared→Prop} {I d:Addr} {fp:List Addr} {vs:List Value} {St:Nat→Heap→Prop} {D:Nat→Heap→Prop} {h0:Heap} (W:Walks prog w A.in1 I fp [I] vs.length (fun i v=>vs[i]? = some v) St) (nd:d ∉ fp)
    (hI:h0.get? I = none) (hd0:h0.get? d = none) (keep:∀ i h h',D i h→(∀ o,h.get? d = some o→h'.get? d = some o)→D i h')
    (pr:∀ i v,vs[i]? = some v→∃ t x y,v = .ref t∧IsTup h0 t #[x,y]∧∀ (s:Shared) (Q:Unit→Shared→Prop) (E:Value→Shared→Prop),(∀ b o,h0.get? b = some o→s.heap.get? b = some o)→D i s.heap→(∀ h' tk,D (i + 1) h'→Heap.SameBut d s.heap h'→Q () { s with heap:=h',toks:=tk })→wpAny (model prog w) A.in1 (dictSet d x y) Q E s) :
    ∀ (k i:Nat) (s:Shared),vs.length - i = k→i≤vs.length→(∀ b o,h0.get? b = some o→s.heap.get? b = some o)→St i s.heap→D i s.heap→
      (∀ h' tk,(∀ b o,b ∉ [d,I]→s.heap.get? b = some o→h'.get? b = some o)→D vs.length h'→R (.ok (.ret .none)) { s with heap:=h',toks:=tk })→codeAny (model prog w) A (.builtin "dict.update.loop" ⟨[.ref d,.ref I,rawInt i,.none],[]⟩) R s:=by
  have nI:d ∉ [I]:=fun z=>nd (W.sub _ z)
  intro k
  induction k with
  | zero=>
    intro i s hk hi old st T q
    have e:i = vs.length:=by omega
    subst e
    refine codeAny_builtin du_entry ?_
    rw [Around.under_plainId du_plain _]
    refine wpAny_bind (m:=pyNext (.ref I)) (W.done s _ _ st fun h' tk k'=>?_)
    refine wpAny_bind (m:=Builtin.Dict.addKeywords d []) (wpAny_pure (wpAny_pure ?_))
    exact q h' tk (fun b o n e=>k' b o (fun z=>n (List.mem_cons_of_mem _ z)) e) (keep _ _ _ T fun o e=>k' d o nI e)
  | succ k ih=>
    intro i s hk hi old st T q
    have lt:i < vs.length:=by omega
    refine codeAny_builtin du_entry ?_
    rw [Around.under_plainId du_plain _]
    refine wpAny_bind (m:=pyNext (.ref I)) (W.item i s _ _ lt st fun v h' tk hv st' k'=>?_)
    obtain ⟨t,x,y,rfl,ht,step⟩:=pr i v hv
    have old':∀ b o,h0.get? b = some o→h'.get? b = some o:=fun b o e=>k' b o (fun z=>by rw [List.mem_singleton.mp z,hI] at e; cases e) (old b o e)
    refine wpAny_bind (wpAny_holding (wpAny_bind (wpAny_tryCatch (pair_items (s:={ s with heap:=h',toks:=tk }) (ht.keeps old') ?_))))
    refine wpAny_holding (step _ _ _ old' (keep _ _ _ T fun o e=>k' d o nI e) fun h2 tk2 T2 sb=>?_)
    refine wpAny_pure ⟨plainId_quiet du_plain _,ih (i + 1) _ (by omega) lt (fun b o e=>?_) (W.frame _ _ _ st' fun b hb o e=>?_) T2 fun h3 tk3 k3 T3=>?_⟩
    · rw [sb.2 b (fun z=>by rw [z,hd0] at e; cases e)]; exact old' b o e
    · rw [sb.2 b (fun z=>nd (z ▸ hb))]; exact e
    · refine q h3 tk3 (fun b o n e=>k3 b o n ?_) T3
      rw [sb.2 b (fun z=>n (by simp [z]))]
      exact k' b o (fun z=>n (List.mem_cons_of_mem _ z)) e
theorem dict_call {l:Addr} {vs:List Value} {D:Nat→Heap→Prop} {Q:Value→Shared→Prop} (hh:A.handled = none) (hl:∃ n sl,s.heap.get? l = some { cls:=.type "list",dict:=none,data:=.seq vs.toArray n,slots:=sl })
    (keep:∀ i h h',D i h→(∀ o,h.get? s.heap.objs.size = some o→h'.get? s.heap.objs.size = some o)→D i h')
    (d0:∀ h:Heap,h.get? s.heap.objs.size = some { cls:=.type "dict",data:=.dict #[] }→D 0 h)
    (pr:∀ i v,vs[i]? = some v→∃ t x y,v = .ref t∧IsTup s.heap t #[x,y]∧∀ (s1:Shared) (Q:Unit→Shared→Prop) (E:Value→Shared→Prop),(∀ b o,s.heap.get? b = some o→s1.heap.get? b = some o)→D i s1.heap→(∀ h' tk,D (i + 1) h'→Heap.SameBut s.heap.objs.size s1.heap h'→Q () { s1 with heap:=h',toks:=tk })→wpAny (model prog w) A.in1.in1 (dictSet s.heap.objs.size x y) Q E s1)
    (q:∀ h' tk,(∀ b o,s.heap.get? b = some o→h'.get? b = some o)→D vs.length h'→Q (.ref s.heap.objs.size) { s with heap:=h',toks:=tk }):wpAny (model prog w) A (call (.type "dict") [.ref l]) Q E s:=by
  obtain ⟨n,sl,el⟩:=hl
  have lt:l < s.heap.objs.size:=Heap.lt_size el
  refine callType_codes (Q₁:=fun obj s₁=>obj = .ref s.heap.objs.size∧s₁ = { s with heap:=s.heap.push { cls:=.type "dict",data:=.dict #[] } }) PySem.F.kt_called_dict (PySem.F.kt_typeCall_dict_1 _) PySem.F.entry_dict_init (kt_code_dict_new _ ⟨rfl,rfl⟩) ?_
  rintro obj s₁ ⟨rfl,rfl⟩
  have hS:(s.heap.push { cls:=.type "dict",data:=.dict #[] }).get? s.heap.objs.size = some { cls:=.type "dict",data:=.dict #[] }:=Heap.get?_push_size _ rfl
  have hT:Shared.TypeIs { s with heap:=s.heap.push { cls:=.type "dict",data:=.dict #[] } } (.ref s.heap.objs.size) "dict":=⟨_,hS,rfl⟩
  have el':=Heap.get?_push_of_some ({ cls:=.type "dict",data:=.dict #[] }:Obj) el
  refine ⟨hT,PySem.F.args_dict_init_2 _ _,?_⟩
  unfold Builtin.«dict.__init__»
  refine wpAny_bind ?_
  unfold Builtin.Dict.selfAndRest
  refine wpAny_bind (wpAny_notOrdered_dict hT ?_)
  show wpAny _ _ (pure (s.heap.objs.size,[Value.ref l])) _ _ _
  refine wpAny_pure ?_
  show wpAny _ _ (Builtin.Dict.updateFrom "dict.__init__" s.heap.objs.size (.ref l) [] .none) _ _ _
  unfold Builtin.Dict.updateFrom
  refine wpAny_bind (wpAny_typeOf (T:="list") ⟨_,el',rfl⟩ ?_)
  rw [if_pos (by decide)]
  refine wpAny_bind (list_no_keys (s:={ s with heap:=s.heap.push { cls:=.type "dict",data:=.dict #[] } }) el' (by simp [hh]) fun h1 tk1 k1=>?_)
  rw [if_pos (show (none:Option Value).isNone = true from rfl)]
  refine wpAny_bind (wpAny_rule ?_)
  have el1:=k1 _ _ el'
  have l1:h1.IsList l vs.toArray:=⟨_,el1,rfl,_,rfl⟩
  refine wpAny_bind (wpAny_pyIter_list (s:={ s with heap:=h1,toks:=tk1 }) l1 ?_)
  have g1:s.heap.objs.size + 1≤h1.objs.size:=Heap.lt_size (k1 _ _ hS)
  have nI:l≠h1.objs.size:=Nat.ne_of_lt (Nat.lt_of_lt_of_le lt (Nat.le_of_succ_le g1))
  have W:=Walks.list (prog:=prog) (w:=w) (A:=A.in1.in1) (by simp [hh]) h1.objs.size l nI vs.toArray
  have W2:Walks prog w A.in1.in1 h1.objs.size [h1.objs.size,l] [h1.objs.size] vs.length (fun i v=>vs[i]? = some v) (fun i h=>h.IsListIter h1.objs.size l i∧h.IsList l vs.toArray):=by
    simpa only [List.size_toArray,List.getElem?_toArray] using W
  have old1:∀ b o,s.heap.get? b = some o→h1.get? b = some o:=fun b o e=>k1 b o (Heap.get?_push_of_some _ e)
  refine wpAny_pure ⟨plainId_quiet du_plain _,dict_loop (h0:=s.heap) (D:=D) W2 ?_ (Heap.get?_none_of_le (by omega)) (Heap.get?_none_of_le (Nat.le_refl _)) keep pr vs.length 0 _ (by omega) (Nat.zero_le _) (fun b o e=>Heap.get?_push_of_some _ (old1 b o e)) ⟨⟨_,Heap.get?_push_size _ rfl,rfl,rfl⟩,l1.push _⟩ (d0 _ (Heap.get?_push_of_some _ (k1 _ _ hS))) fun h' tk k' T=>⟨rfl,q h' tk (fun b o e=>k' b o (fun z=>?_) (Heap.get?_push_of_some _ (old1 b o e))) T⟩⟩
  · simp only [List.mem_cons,List.not_mem_nil,or_false,not_or]
    exact ⟨Nat.ne_of_lt (by omega),Nat.ne_of_gt lt⟩
  · have lb:=Heap.lt_size e
    simp only [List.mem_cons,List.not_mem_nil,or_false] at z
    rcases z with rfl | rfl
    · exact absurd lb (Nat.lt_irrefl _)
    · exact absurd lb (Nat.not_lt.mpr (Nat.le_of_succ_le g1))
open PySem.Spec
theorem refs_at:∀ {ps:List Addr} {its:List Value},Vals (ps.map V.ref) its→∀ (i:Nat) v,its[i]? = some v→∃ t,ps[i]? = some t∧v = .ref t
  | [],_,.nil,i,v,e=>by simp at e
  | t :: ps,_,.cons r h,0,v,e=>⟨t,rfl,by cases r; simpa using e.symm⟩
  | t :: ps,_,.cons r h,i + 1,v,e=>by
    obtain ⟨t',a,b⟩:=refs_at h i v (by simpa using e)
    exact ⟨t',by simpa using a,b⟩
theorem paired_mem {α β:Type} {F:α→β→Prop}:∀ {l:List α} {m:List β},Paired F l m→∀ {y:β},y∈m→∃ x,x∈l∧F x y
  | _,_,.nil,_,h=>nomatch h
  | _,_,.cons r t,y,h=>by
    rcases List.mem_cons.mp h with rfl | h
    · exact ⟨_,List.mem_cons_self,r⟩
    · obtain ⟨x,a,b⟩:=paired_mem t h
      exact ⟨x,List.mem_cons_of_mem _ a,b⟩
end
end L2
namespace L2
section
open PySem PySem.W PyProof.Rows
variable {n:Nat} {lt:Nat→Nat→Bool} {cmp:Nat→Nat→(Bool→Shared→Prop)→Shared→Prop} {s:Shared}
structure Ordr (n:Nat) (lt:Nat→Nat→Bool) (cmp:Nat→Nat→(Bool→Shared→Prop)→Shared→Prop) (s:Shared):Prop where
  ask:∀ (i j:Nat) (C:Bool→Shared→Prop),i < n→j < n→i≠j→C (lt i j) s→cmp i j C s
  tr:∀ i j k,i < n→j < n→k < n→lt i j = true→lt j k = true→lt i k = true
  tot:∀ i j,i < n→j < n→i≠j→lt i j = false→lt j i = true
def Pmn (n:Nat) (p:Array Nat):Prop:=p.size = n∧p.toList.Perm (List.range n)
theorem Pmn.lo {p:Array Nat} (h:Pmn n p) {i:Nat} (hi:i < n):p.getD i 0 < n:=by
  have hs:i < p.size:=by rw [h.1]; exact hi
  have e:p.getD i 0 = p[i]:=by simp [Array.getD,hs]
  rw [e]
  exact List.mem_range.mp (h.2.mem_iff.mp (by simp))
theorem Pmn.ne {p:Array Nat} (h:Pmn n p) {i j:Nat} (hi:i < n) (hj:j < n) (hij:i≠j):p.getD i 0≠p.getD j 0:=by
  have hs:i < p.size:=by rw [h.1]; exact hi
  have ht:j < p.size:=by rw [h.1]; exact hj
  have nd:p.toList.Nodup:=h.2.nodup_iff.mpr List.nodup_range
  have e1:p.getD i 0 = p.toList[i]'(by simpa using hs):=by simp [Array.getD,hs]
  have e2:p.getD j 0 = p.toList[j]'(by simpa using ht):=by simp [Array.getD,ht]
  rw [e1,e2]
  intro z
  have pw:=List.pairwise_iff_getElem.mp nd
  rcases Nat.lt_or_gt_of_ne hij with g | g
  · exact pw i j (by simpa using hs) (by simpa using ht) g z
  · exact pw j i (by simpa using ht) (by simpa using hs) g z.symm
def UpTo (lt:Nat→Nat→Bool) (p:Array Nat) (k:Nat):Prop:=∀ i j,i < j→j < k→lt (p.getD i 0) (p.getD j 0) = true
def DnTo (lt:Nat→Nat→Bool) (p:Array Nat) (k:Nat):Prop:=∀ i j,i < j→j < k→lt (p.getD j 0) (p.getD i 0) = true
theorem asc_wp (O:Ordr n lt cmp s) {p:Array Nat} (hp:Pmn n p) {G:Nat→Shared→Prop}:∀ (f m:Nat),1≤m→m + f≤n→UpTo lt p m→
    (∀ m',m≤m'→m'≤m + f→UpTo lt p m'→(m' = m + f∨lt (p.getD m' 0) (p.getD (m' - 1) 0) = true)→G m' s)→(kas_asc p f m).kasWp cmp G s
  | 0,m,_,_,up,h=>h m (Nat.le_refl _) (Nat.le_refl _) up (.inl rfl)
  | f + 1,m,h1,h2,up,h=>by
    refine O.ask _ _ _ (hp.lo (by omega)) (hp.lo (by omega)) (hp.ne (by omega) (by omega) (by omega)) ?_
    cases hl:lt (p.getD m 0) (p.getD (m - 1) 0) with
    | true=>exact h m (Nat.le_refl _) (by omega) up (.inr hl)
    | false=>
      have hl':=O.tot _ _ (hp.lo (by omega)) (hp.lo (by omega)) (hp.ne (by omega) (by omega) (by omega)) hl
      show (kas_asc p f (m + 1)).kasWp cmp G s
      refine asc_wp O hp f (m + 1) (by omega) (by omega) (fun i j hij hj=>?_) fun m' a b c d=>h m' (by omega) (by omega) c (d.imp (by omega) id)
      by_cases e:j = m
      · subst e
        by_cases e2:i = j - 1
        · rw [e2]; exact hl'
        · exact O.tr _ _ _ (hp.lo (by omega)) (hp.lo (by omega)) (hp.lo (by omega)) (up i (j - 1) (by omega) (by omega)) hl'
      · exact up i j hij (by omega)
theorem desc_wp (O:Ordr n lt cmp s) {p:Array Nat} (hp:Pmn n p) {G:Array Nat×Nat×Nat→Shared→Prop}:∀ (f m:Nat),1≤m→m + f≤n→DnTo lt p m→
    (∀ m',m≤m'→m'≤m + f→DnTo lt p m'→G (p,m',0) s)→(kas_desc f p m 0).kasWp cmp G s
  | 0,m,_,_,dn,h=>h m (Nat.le_refl _) (Nat.le_refl _) dn
  | f + 1,m,h1,h2,dn,h=>by
    refine O.ask _ _ _ (hp.lo (by omega)) (hp.lo (by omega)) (hp.ne (by omega) (by omega) (by omega)) ?_
    cases hl:lt (p.getD m 0) (p.getD (m - 1) 0) with
    | true=>
      show (kas_desc f p (m + 1) 0).kasWp cmp G s
      refine desc_wp O hp f (m + 1) (by omega) (by omega) (fun i j hij hj=>?_) fun m' a b c=>h m' (by omega) (by omega) c
      by_cases e:j = m
      · subst e
        by_cases e2:i = j - 1
        · rw [e2]; exact hl
        · exact O.tr _ _ _ (hp.lo (by omega)) (hp.lo (by omega)) (hp.lo (by omega)) hl (dn i (j - 1) (by omega) (by omega))
      · exact dn i j hij (by omega)
    | false=>
      have hl':=O.tot _ _ (hp.lo (by omega)) (hp.lo (by omega)) (hp.ne (by omega) (by omega) (by omega)) hl
      refine O.ask _ _ _ (hp.lo (by omega)) (hp.lo (by omega)) (hp.ne (by omega) (by omega) (by omega)) ?_
      rw [hl']
      exact h m (Nat.le_refl _) (by omega) dn
theorem getD_opt (p:Array Nat) (i:Nat):p.getD i 0 = (p[i]?).getD 0:=by
  by_cases h:i < p.size
  · simp [Array.getD,h]
  · simp [Array.getD,h]
theorem rev_at {p:Array Nat} {m:Nat} (hm:m≤p.size) (k:Nat):(kas_rev p 0 m).getD k 0 = if k < m then p.getD (m - 1 - k) 0 else p.getD k 0:=by
  rw [getD_opt]
  unfold kas_rev
  rw [getElem?_mirror_all hm]
  by_cases h:k < m
  · rw [if_pos ⟨Nat.zero_le _,h⟩,if_pos h,getD_opt,Nat.zero_add]
  · rw [if_neg (fun z=>h z.2),if_neg h,getD_opt]
theorem rev_pmn {p:Array Nat} (hp:Pmn n p) (m:Nat):Pmn n (kas_rev p 0 m):=⟨(mirror_size ..).trans hp.1,(Array.perm_iff_toList_perm.mp (mirror_perm ..)).trans hp.2⟩
theorem tail3_wp (O:Ordr n lt cmp s) {p:Array Nat} (hp:Pmn n p) {m:Nat} (h1:1≤m) (hm:m≤n) (dn:DnTo lt p m) {G:Nat×Array Nat→Shared→Prop}
    (h:∀ m' p',Pmn n p'→UpTo lt p' m'→1≤m'→m'≤n→G (m',p') s):(kas_tail3 m n p).kasWp cmp G s:=by
  unfold kas_tail3
  rw [KasT.kasWp_bind]
  have hr:=rev_pmn hp m
  refine asc_wp O hr (n - m) m h1 (by omega) (fun i j hij hj=>?_) fun m' a b c _=>h m' _ hr c (by omega) (by omega)
  rw [rev_at (by rw [hp.1]; exact hm),rev_at (by rw [hp.1]; exact hm),if_pos (by omega),if_pos hj]
  exact dn _ _ (by omega) (by omega)
theorem count_wp (O:Ordr n lt cmp s) (hn:1≤n) {p:Array Nat} (hp:Pmn n p) {G:Nat×Array Nat→Shared→Prop}
    (h:∀ m' p',Pmn n p'→UpTo lt p' m'→1≤m'→m'≤n→G (m',p') s):(kas_count n p).kasWp cmp G s:=by
  unfold kas_count
  rw [KasT.kasWp_bind]
  refine asc_wp O hp (n - 1) 1 (Nat.le_refl _) (by omega) (fun i j hij hj=>by omega) fun m a b up d=>?_
  by_cases e:m = n
  · subst e
    rw [if_pos (by simp)]
    exact h _ _ hp up a (Nat.le_refl _)
  · rw [if_neg (by simpa using e)]
    by_cases g:m > 1
    · rw [if_pos g]
      refine O.ask _ _ _ (hp.lo (by omega)) (hp.lo (by omega)) (hp.ne (by omega) (by omega) (by omega)) ?_
      rw [up 0 (m - 1) (by omega) (by omega)]
      exact h _ _ hp up a (by omega)
    · rw [if_neg g]
      have e1:m = 1:=by omega
      subst e1
      have hl:=d.resolve_left (by omega)
      unfold kas_descPart
      rw [KasT.kasWp_bind]
      refine desc_wp O hp (n - (1 + 1)) (1 + 1) (by omega) (by omega) (fun i j hij hj=>?_) fun m' a' b' dn=>?_
      · obtain ⟨rfl,rfl⟩:i = 0∧j = 1:=by omega
        exact hl
      · rw [if_neg (by simp)]
        exact tail3_wp O hp (by omega) (by omega) dn h
theorem place_wp (O:Ordr n lt cmp s) {p:Array Nat} (hp:Pmn n p) {k:Nat} (hk:k < n) (up:UpTo lt p k) {G:Nat→Shared→Prop}
    (h:∀ l,l≤k→(∀ i,i < l→lt (p.getD i 0) (p.getD k 0) = true)→(∀ i,l≤i→i < k→lt (p.getD k 0) (p.getD i 0) = true)→G l s) :
    ∀ (f l r:Nat),l≤r→r≤k→r - l≤f→(∀ i,i < l→lt (p.getD i 0) (p.getD k 0) = true)→(∀ i,r≤i→i < k→lt (p.getD k 0) (p.getD i 0) = true)→(kas_place p k f l r).kasWp cmp G s
  | 0,l,r,h1,h2,h3,a,b=>h l (by omega) a fun i hi=>b i (by omega)
  | f + 1,l,r,h1,h2,h3,a,b=>by
    unfold kas_place
    by_cases g:l ≥ r
    · rw [if_pos g]
      exact h l (by omega) a fun i hi=>b i (by omega)
    · rw [if_neg g]
      refine O.ask _ _ _ (hp.lo hk) (hp.lo (by omega)) (hp.ne hk (by omega) (by omega)) ?_
      cases hl:lt (p.getD k 0) (p.getD ((l + r) / 2) 0) with
      | true=>
        show (kas_place p k f l ((l + r) / 2)).kasWp cmp G s
        refine place_wp O hp hk up h f l ((l + r) / 2) (by omega) (by omega) (by omega) a fun i hi hik=>?_
        by_cases e:i = (l + r) / 2
        · rw [e]; exact hl
        · exact O.tr _ _ _ (hp.lo hk) (hp.lo (by omega)) (hp.lo (by omega)) hl (up _ _ (by omega) hik)
      | false=>
        have hl':=O.tot _ _ (hp.lo hk) (hp.lo (by omega)) (hp.ne hk (by omega) (by omega)) hl
        show (kas_place p k f ((l + r) / 2 + 1) r).kasWp cmp G s
        refine place_wp O hp hk up h f ((l + r) / 2 + 1) r (by omega) (by omega) (by omega) (fun i hi=>?_) b
        by_cases e:i = (l + r) / 2
        · rw [e]; exact hl'
        · exact O.tr _ _ _ (hp.lo (by omega)) (hp.lo (by omega)) (hp.lo hk) (up _ _ (by omega) (by omega)) hl'
theorem bub_at {p:Array Nat} {k l:Nat} (hk:k < p.size) (hl:l≤k) (i:Nat):(bubble p k (k - l)).getD i 0 = if i = l then p.getD k 0 else if l < i∧i≤k then p.getD (i - 1) 0 else p.getD i 0:=by
  rw [getD_opt,getElem?_bubble hk _ (by omega),show k - (k - l) = l by omega]
  by_cases h:i = l
  · rw [if_pos h,if_pos h,getD_opt]
  · rw [if_neg h,if_neg h]
    by_cases g:l < i∧i≤k
    · rw [if_pos g,if_pos g,getD_opt]
    · rw [if_neg g,if_neg g,getD_opt]
theorem bin_wp (O:Ordr n lt cmp s) {G:Array Nat→Shared→Prop} (h:∀ p,Pmn n p→UpTo lt p n→G p s):∀ (f:Nat) (p:Array Nat) (k:Nat),k + f = n→Pmn n p→UpTo lt p k→(kas_bin f p k).kasWp cmp G s
  | 0,p,k,e,hp,up=>h p hp (by rw [← e]; exact up)
  | f + 1,p,k,e,hp,up=>by
    unfold kas_bin
    rw [KasT.kasWp_bind]
    refine place_wp O hp (by omega) up (fun l hl a b=>?_) k 0 k (Nat.zero_le _) (Nat.le_refl _) (by omega) (fun i hi=>by omega) (fun i h1 h2=>by omega)
    have hs:k < p.size:=by rw [hp.1]; omega
    refine bin_wp O h f _ (k + 1) (by omega) ⟨(bubble_size ..).trans hp.1,(Array.perm_iff_toList_perm.mp (bubble_perm ..)).trans hp.2⟩ fun i j hij hj=>?_
    rw [bub_at hs hl,bub_at hs hl]
    by_cases i1:i = l
    · rw [if_pos i1,if_neg (by omega),if_pos (by omega)]
      exact b _ (by omega) (by omega)
    · rw [if_neg i1]
      by_cases j1:j = l
      · rw [if_neg (by omega),if_pos j1]
        exact a _ (by omega)
      · rw [if_neg j1]
        by_cases i2:l < i∧i≤k
        · rw [if_pos i2,if_pos (by omega)]
          exact up _ _ (by omega) (by omega)
        · rw [if_neg i2]
          by_cases j2:l < j∧j≤k
          · rw [if_pos j2]
            exact up _ _ (by omega) (by omega)
          · rw [if_neg j2]
            exact up _ _ (by omega) (by omega)
theorem sort_wp (O:Ordr n lt cmp s) (hn:1≤n) {G:Array Nat→Shared→Prop} (h:∀ p,Pmn n p→UpTo lt p n→G p s):(kas_sort n).kasWp cmp G s:=by
  unfold kas_sort
  rw [KasT.kasWp_bind]
  refine count_wp O hn ⟨by simp,by simp⟩ fun m p hp up h1 h2=>?_
  by_cases e:m < n
  · rw [if_pos e]
    exact bin_wp O h _ _ _ (by omega) hp (by rw [show max m 1 = m by omega]; exact up)
  · rw [if_neg e]
    obtain rfl:m = n:=by omega
    exact h p hp up
end
end L2
namespace L2
section
open PySem PySem.W PySem.Calls PyProof.Rows
variable {prog:Program} {w:World} {A:Around} {E:Value→Shared→Prop} {s:Shared}
def outBy (vs:List Value) (p:Array Nat):List Value:=p.toList.map fun i=>vs.getD i Value.none
theorem outBy_range (vs:List Value):outBy vs (List.range vs.length).toArray = vs:=by
  unfold outBy
  refine List.ext_getElem? fun i=>?_
  rw [List.getElem?_map]
  by_cases h:i < vs.length
  · simp [h]
  · simp [h]
theorem sort_by {a:Addr} {vs:List Value} {n:Nat} {lt:Nat→Nat→Bool} {P:PySem.Fin→Shared→Prop} (ho:s.heap.get? a = some (seqObj "list" vs.toArray n)) (few:vs.length < 64)
    (hk:∀ h',(∀ b o,b≠a→s.heap.get? b = some o→h'.get? b = some o)→2≤vs.length→wpAny (model prog w) A (keyKind' vs.toArray) (fun κ s'=>s' = { s with heap:=h' }∧Ordr vs.length lt (kas_ask prog w A κ vs) s') (fun _ _=>False) { s with heap:=h' })
    (h:∀ p,Pmn vs.length p→UpTo lt p vs.length→P (.done (.ret .none)) { s with heap:=sortedHeap s.heap a vs (outBy vs p).toArray }) :
    wpAny (model prog w) A (Builtin.«list.sort» ⟨[.ref a],[]⟩) P E s:=by
  rw [list_sort_plain]
  have ha:a < s.heap.objs.size:=Heap.lt_size ho
  refine wpAny_bind (listItems_at ho rfl (wpAny_bind (listUpdate_at ho rfl ?_)))
  obtain ⟨e1,h1⟩:∃ e,(s.heap.update a (Obj.mapSeq fun _=>#[])).get? a = some (seqObj "list" #[] e):=⟨_,get?_update_seq ho (fun _=>#[])⟩
  refine wpAny_bind (seqEpoch_at h1 rfl (wpAny_bind (wpAny_newTuple (wpAny_bind (wpAny_newList (wpAny_holding ?_))))))
  have n1:a≠(s.heap.update a (Obj.mapSeq fun _=>#[])).objs.size:=by rw [Heap.size_update]; exact Nat.ne_of_lt ha
  have n2:a≠((s.heap.update a (Obj.mapSeq fun _=>#[])).push (seqObj "tuple" vs.toArray 0)).objs.size:=by rw [Heap.size_push,Heap.size_update]; exact Nat.ne_of_lt (Nat.lt_succ_of_lt ha)
  have h2:(((s.heap.update a (Obj.mapSeq fun _=>#[])).push (seqObj "tuple" vs.toArray 0)).push (seqObj "list" #[] 0)).get? a = some (seqObj "list" #[] e1):=by
    rw [Heap.get?_push_ne _ _ _ n2,Heap.get?_push_ne _ _ _ n1]; exact h1
  have old:∀ b o,b≠a→s.heap.get? b = some o→(((s.heap.update a (Obj.mapSeq fun _=>#[])).push (seqObj "tuple" vs.toArray 0)).push (seqObj "list" #[] 0)).get? b = some o:=fun b o nb e=>
    Heap.get?_push_of_some _ (Heap.get?_push_of_some _ ((Heap.get?_update_other _ _ (Ne.symm nb)).trans e))
  show wpAny (model prog w) A _ P E { s with heap:=((s.heap.update a (Obj.mapSeq fun _=>#[])).push (seqObj "tuple" vs.toArray 0)).push (seqObj "list" #[] 0) }
  dsimp only
  have ez:vs.toArray.size = vs.length:=by simp
  by_cases hs2:vs.toArray.size < 2
  · rw [if_pos hs2,if_pos hs2]
    refine wpAny_bind (wpAny_pure ?_)
    rw [StateT.run_pure]
    refine wpAny_bind (wpAny_pure ?_)
    dsimp only
    refine wpAny_bind (seqEpoch_at h2 rfl (wpAny_bind (listUpdate_at h2 rfl ?_ (hsz2:=?_))))
    · simp only [bne_self_eq_false,Bool.false_eq_true,if_false]
      have hq:=h (List.range vs.length).toArray ⟨by simp,by simp⟩ (fun i j hij hj=>by omega)
      rw [outBy_range] at hq
      have e:(vs.toArray.zip vs.toArray).map (·.2) = vs.toArray:=by
        apply Array.toList_inj.mp
        simp
        exact List.map_snd_zip (Nat.le_refl _)
      refine wpAny_pure ?_
      show P _ { s with heap:=sortedHeap s.heap a vs ((vs.toArray.zip vs.toArray).map (·.2)) }
      rw [e]
      exact hq
    · show ((vs.toArray.zip vs.toArray).map (·.2)).size≤_
      rw [Array.size_map]
      simp
      rw [sizeLine_eq]
      omega
  · rw [if_neg hs2,if_neg hs2]
    refine wpAny_bind (wpAny_mono (hk _ old (by omega)) (fun κ s' hs'=>?_) fun _ _ z=>z.elim)
    obtain ⟨rfl,O⟩:=hs'
    refine wpAny_bind (wpAny_mono (kat_run (ks:=vs) (E:=E) (Q:=fun st' s'=>s' = { s with heap:=((s.heap.update a (Obj.mapSeq fun _=>#[])).push (seqObj "tuple" vs.toArray 0)).push (seqObj "list" #[] 0) }∧∃ p,Pmn vs.length p∧UpTo lt p vs.length∧(arrOf st').map (·.2) = (outBy vs p).toArray∧failedOf st' = none)
      (G:=fun p s'=>s' = { s with heap:=((s.heap.update a (Obj.mapSeq fun _=>#[])).push (seqObj "tuple" vs.toArray 0)).push (seqObj "list" #[] 0) }∧Pmn vs.length p∧UpTo lt p vs.length) rfl (by omega) few
      (fun p st' s' _ ea ef hg=>⟨hg.1,p,hg.2.1,hg.2.2,kat_snds rfl ea,ef⟩) (sort_wp O (by omega) fun p hp up=>⟨rfl,hp,up⟩)) (fun r s' hr=>?_) fun _ _ z=>z)
    obtain ⟨⟨⟩,st'⟩:=r
    obtain ⟨rfl,p,hp,up,ea,ef⟩:=hr
    dsimp only
    refine wpAny_bind (seqEpoch_at h2 rfl (wpAny_bind (listUpdate_at h2 rfl ?_ (hsz2:=?_))))
    · rw [ef]
      simp only [bne_self_eq_false,Bool.false_eq_true,if_false]
      rw [ea]
      exact wpAny_pure (h p hp up)
    · rw [ea]
      unfold outBy
      simp only [List.size_toArray,List.length_map,Array.length_toList,hp.1]
      rw [sizeLine_eq]
      omega
theorem ordr_texts {vs:List Value} {ss:List Str} (nd:ss.Nodup) (hl:vs.length = ss.length) (hv:∀ (i:Nat) x,ss[i]? = some x→∃ (a:Addr) (o:Obj) (t:Tok) (xs:Array Value) (n:Nat),vs[i]? = some (.ref a)∧s.heap.get? a = some o∧o.data = .seq xs n∧xs[0]? = some (.str x t)) :
    Ordr vs.length (fun i j=>decide ((ss.getD i ⟨#[]⟩).cps.toList < (ss.getD j ⟨#[]⟩).cps.toList)) (kas_ask prog w A (tuples' true) vs) s:=by
  have get:∀ i,i < vs.length→ss[i]? = some (ss.getD i ⟨#[]⟩):=fun i hi=>by
    rw [hl] at hi
    simp [hi]
  refine ⟨fun i j C hi hj hij hC=>?_,fun i j k _ _ _ h1 h2=>?_,fun i j hi hj hij h1=>?_⟩
  · obtain ⟨a,o,t,xs,n,e1,e2,e3,e4⟩:=hv i _ (get i hi)
    obtain ⟨a',o',t',xs',n',f1,f2,f3,f4⟩:=hv j _ (get j hj)
    have g1:vs.getD i Value.none = .ref a:=by simp [e1]
    have g2:vs.getD j Value.none = .ref a':=by simp [f1]
    unfold kas_ask
    rw [g1,g2]
    have z1:0 < xs.size:=(Array.getElem?_eq_some_iff.mp e4).1
    have z2:0 < xs'.size:=(Array.getElem?_eq_some_iff.mp f4).1
    obtain ⟨r,er⟩:∃ r,xs.toList = .str (ss.getD i ⟨#[]⟩) t :: r:=by
      cases hx:xs.toList with
      | nil=>rw [← Array.length_toList,hx] at z1; exact absurd z1 (by simp)
      | cons y r=>
        have:=e4
        rw [← Array.getElem?_toList,hx] at this
        exact ⟨r,by rw [show y = _ from Option.some.inj this]⟩
    obtain ⟨r',er'⟩:∃ r,xs'.toList = .str (ss.getD j ⟨#[]⟩) t' :: r:=by
      cases hx:xs'.toList with
      | nil=>rw [← Array.length_toList,hx] at z2; exact absurd z2 (by simp)
      | cons y r=>
        have:=f4
        rw [← Array.getElem?_toList,hx] at this
        exact ⟨r,by rw [show y = _ from Option.some.inj this]⟩
    refine kat_lt e2 e3 f2 f3 ?_
    rw [er,er',List.zip_cons_cons]
    refine kat_cons (eqBool_str ?_)
    have ne:((ss.getD i ⟨#[]⟩) == (ss.getD j ⟨#[]⟩)) = false:=by
      rw [beq_eq_false_iff_ne]
      intro z
      have hi':i < ss.length:=by omega
      have hj':j < ss.length:=by omega
      have pw:=List.pairwise_iff_getElem.mp nd
      have z':ss[i] = ss[j]:=by simpa [hi',hj'] using z
      rcases Nat.lt_or_gt_of_ne hij with q | q
      · exact pw i j hi' hj' q z'
      · exact pw j i hj' hi' q z'.symm
    rw [ne]
    exact kat_no (oneLt_str hC)
  · rw [decide_eq_true_eq] at *
    exact List.lt_trans h1 h2
  · rw [decide_eq_false_iff_not] at h1
    rw [decide_eq_true_eq]
    have hle:=List.not_lt.mp h1
    rcases Classical.em ((ss.getD j ⟨#[]⟩).cps.toList < (ss.getD i ⟨#[]⟩).cps.toList) with h | h
    · exact h
    · exfalso
      have e:=List.le_antisymm hle (List.not_lt.mp h)
      have e2:ss.getD j ⟨#[]⟩ = ss.getD i ⟨#[]⟩:=by
        cases hx:ss.getD j ⟨#[]⟩ with
        | mk c1=>
          cases hy:ss.getD i ⟨#[]⟩ with
          | mk c2=>
            rw [hx,hy] at e
            have e3:c1 = c2:=Array.toList_inj.mp e
            rw [e3]
      have hi':i < ss.length:=by omega
      have hj':j < ss.length:=by omega
      have pw:=List.pairwise_iff_getElem.mp nd
      have z':ss[j] = ss[i]:=by simpa [hi',hj'] using e2
      rcases Nat.lt_or_gt_of_ne hij with q | q
      · exact pw i j hi' hj' q z'.symm
      · exact pw j i hj' hi' q z'
end
end L2
namespace L2
section
open PySem PySem.W PySem.Calls PyProof.Rows
variable {prog:Program} {w:World} {A:Around} {E:Value→Shared→Prop} {s:Shared}
def SortsBy (prog:Program) (w:World) (Q:Value→Shared→Prop) (vs:List Value) (s1:Shared):Prop:=∃ lt,vs.length < 64∧
  (∀ (A':Around) h',(∀ b o,s1.heap.get? b = some o→h'.get? b = some o)→2≤vs.length→wpAny (model prog w) A' (keyKind' vs.toArray) (fun κ s'=>s' = { s1 with heap:=h' }∧Ordr vs.length lt (kas_ask prog w A' κ vs) s') (fun _ _=>False) { s1 with heap:=h' })∧
  ∀ h' p idx c,Pmn vs.length idx→UpTo lt idx vs.length→s1.heap.objs.size≤p→(∀ b o,s1.heap.get? b = some o→h'.get? b = some o)→h'.get? p = some (seqObj "list" (outBy vs idx).toArray c)→Q (.ref p) { s1 with heap:=h' }
theorem sorted_by {x:Value} {Q:Value→Shared→Prop} (hc:wpAny (model prog w) A.in1 (collect x) (SortsBy prog w Q) E s):wpAny (model prog w) A (call (.builtin "sorted") [x]) Q E s:=by
  refine Calls.call_function_entry kind_sorted plain_sorted entry_sorted (args_sorted1 x) ?_
  unfold Builtin.«sorted»
  refine wpAny_bind (m:=checkCount "sorted" 1 1 _) (wpAny_pure (wpAny_bind (wpAny_mono hc (fun vs s1 z=>?_) fun _ _ e=>e)))
  obtain ⟨lt,few,hk,q⟩:=z
  refine wpAny_bind (wpAny_newList ?_)
  have there:(s1.heap.push (seqObj "list" vs.toArray 0)).get? s1.heap.objs.size = some (seqObj "list" vs.toArray 0):=Heap.get?_push_size _ rfl
  refine wpAny_bind (wpAny_holding (wpAny_call_entry slot_list_sort ⟨_,there,rfl⟩ entry_list_sort (sort_by (lt:=lt) there few (fun h' old h2=>?_) fun idx hp up=>⟨_,rfl,?_⟩) (args_list_sort _)))
  · have k':∀ b o,s1.heap.get? b = some o→h'.get? b = some o:=fun b o e=>old b o (Nat.ne_of_lt (Heap.lt_size e)) (Heap.get?_push_of_some _ e)
    exact hk _ h' k' h2
  · obtain ⟨c,hp'⟩:=sortedHeap_at (out:=(outBy vs idx).toArray) there
    refine wpAny_pure ⟨_,rfl,q _ _ idx c hp up (Nat.le_refl _) (fun b o e=>?_) hp'⟩
    have lt:=Heap.lt_size e
    show Heap.get? _ b = some o
    rw [sortedHeap_old (Nat.ne_of_lt lt) (by rw [Heap.size_push]; exact Nat.lt_succ_of_lt lt)]
    exact Heap.get?_push_of_some _ e
end
end L2
namespace L2
section
open PySem PySem.W PySem.Calls PyProof.Rows
variable {X:Cx}
def GivesTT (H:Hp) (ts:List (Addr×Str)) (Q:VK):Prop:=∀ (us:List (Addr×Str)) (p:Addr),us.Perm ts→sortedS (us.map (·.2)) = true→H p = none→Q (.ref p) (upd H p (.lst (us.map fun t=>V.ref t.1)))
def rSortTT (K:PySem.W.Frag):List V→Hp→VK→Prop:=fun xs H Q=>∃ (a:Addr) (ts:List (Addr×Str)),xs = [.ref a]∧SqL K H a (ts.map fun t=>V.ref t.1)∧ts.length < 64∧(∀ t∈ts,∃ r,SqT K H t.1 (.str t.2 :: r))∧(ts.map (·.2)).Nodup∧GivesTT H ts Q
theorem refs_get:∀ {ts:List (Addr×Str)} {its:List Value},Vals (ts.map fun t=>V.ref t.1) its→its = ts.map fun t=>Value.ref t.1
  | [],_,.nil=>rfl
  | t :: ts,_,.cons r h=>by
    cases r
    rw [List.map_cons,refs_get h]
theorem vals_refs_of:∀ (ts:List (Addr×Str)),Vals (ts.map fun t=>V.ref t.1) (ts.map fun t=>Value.ref t.1)
  | []=>.nil
  | t :: ts=>.cons rfl (vals_refs_of ts)
theorem call_sortTT {K:PySem.W.Frag} (hK:X.K = K):CallR X (.builtin "sorted") (rSortTT K):=by
  subst hK
  intro pins s σ H xs us Q I r h
  obtain ⟨a,ts,rfl,h1,few,ht,nd,q⟩:=h
  obtain ⟨u,rfl,ru⟩:=vals1 r
  cases ru
  obtain ⟨its,r1,p1,_⟩:=I.list h1
  have ei:=refs_get r1
  have li:its.length = ts.length:=by rw [ei,List.length_map]
  refine sorted_by (collect_list p1.isList ?_ (by rw [li,sizeLine_eq]; omega))
  have old:∀ b o,s.heap.get? b = some o→((s.heap.push (seqObj "list" #[] 0)).update s.heap.objs.size (Obj.mapSeq fun x=>x ++ its.toArray)).get? b = some o:=fun b o e=>(Heap.get?_update_other _ _ (Nat.ne_of_gt (Heap.lt_size e))).trans (Heap.get?_push_of_some _ e)
  have hsz:s.heap.objs.size≤((s.heap.push (seqObj "list" #[] 0)).update s.heap.objs.size (Obj.mapSeq fun x=>x ++ its.toArray)).objs.size:=by rw [Heap.size_update,Heap.size_push]; exact Nat.le_succ _
  generalize (s.heap.push (seqObj "list" #[] 0)).update s.heap.objs.size (Obj.mapSeq fun x=>x ++ its.toArray) = h1 at old hsz ⊢
  have tup:∀ (i:Nat) x,(ts.map fun t=>t.2)[i]? = some x→∃ (b:Addr) (o:Obj) (t:Tok) (xs:Array Value) (n:Nat),its[i]? = some (.ref b)∧s.heap.get? b = some o∧o.cls = .type "tuple"∧o.data = .seq xs n∧xs[0]? = some (.str x t):=fun i x hx=>by
    rw [List.getElem?_map] at hx
    cases hi:ts[i]? with
    | none=>rw [hi] at hx; cases hx
    | some y=>
      rw [hi] at hx
      cases hx
      obtain ⟨r,hr⟩:=ht y (List.mem_of_getElem? hi)
      obtain ⟨ys,rv,⟨o,e1,e2,n,e3⟩,_⟩:=I.tuple hr
      cases rv with
      | cons rv _=>
        obtain ⟨t,rfl⟩:=rv
        exact ⟨y.1,o,t,_,n,by rw [ei,List.getElem?_map,hi]; rfl,e1,e2,e3,by simp⟩
  refine ⟨fun i j=>decide (((ts.map fun t:Addr×Str=>t.2).getD i (⟨#[]⟩:Str)).cps.toList < ((ts.map fun t:Addr×Str=>t.2).getD j (⟨#[]⟩:Str)).cps.toList),by rw [li]; exact few,fun A' h' k h2=>?_,fun h' p idx c hp up lp k e=>?_⟩
  · obtain ⟨fs,kt,kf⟩:∃ fs,KatTups h' its fs∧fs.length = its.length∧∀ v∈fs,∃ x t,v = Value.str x t:=by
      have go:∀ (l:List Value),(∀ v∈l,∃ (b:Addr) (o:Obj) (x:Str) (t:Tok) (xs:Array Value) (n:Nat),v = .ref b∧h'.get? b = some o∧o.cls = .type "tuple"∧o.data = .seq xs n∧xs[0]? = some (.str x t))→∃ fs,KatTups h' l fs∧fs.length = l.length∧∀ v∈fs,∃ x t,v = Value.str x t:=by
        intro l
        induction l with
        | nil=>exact fun _=>⟨[],.nil,rfl,fun _ h=>nomatch h⟩
        | cons v l ih=>
          intro hl
          obtain ⟨fs,a1,a2,a3⟩:=ih fun u hu=>hl u (List.mem_cons_of_mem _ hu)
          obtain ⟨b,o,x,t,xs,n,rfl,e1,e2,e3,e4⟩:=hl v List.mem_cons_self
          refine ⟨.str x t :: fs,.cons e1 e2 e3 e4 a1,by rw [List.length_cons,List.length_cons,a2],fun u hu=>?_⟩
          rcases List.mem_cons.mp hu with rfl | hu
          · exact ⟨x,t,rfl⟩
          · exact a3 u hu
      refine go its fun v hv=>?_
      obtain ⟨i,hi⟩:=List.getElem?_of_mem hv
      have lt:i < ts.length:=by rw [← li]; exact (List.getElem?_eq_some_iff.mp hi).1
      obtain ⟨b,o,t,xs,n,e1,e2,e3,e4,e5⟩:=tup i _ (List.getElem?_eq_getElem (by rw [List.length_map]; exact lt))
      rw [hi] at e1
      cases e1
      exact ⟨b,o,_,t,xs,n,rfl,k _ _ (old _ _ e2),e3,e4,e5⟩
    refine kat_kind (T:=.type "str") kt (by rw [kf.1]; omega) (fun v hv=>?_) (by decide) ?_
    · obtain ⟨x,t,rfl⟩:=kf.2 v hv
      exact .now
    · refine ⟨rfl,?_⟩
      refine ordr_texts nd (by rw [li,List.length_map]) fun i x hx=>?_
      obtain ⟨b,o,t,xs,n,e1,e2,_,e4,e5⟩:=tup i x hx
      exact ⟨b,o,t,xs,n,e1,k _ _ (old _ _ e2),e4,e5⟩
  · have I1:Inv X pins σ H { s with heap:=h' }:=I.kept (t':=s.toks) fun b o e=>k b o (old b o e)
    have ln:∀ i,i < ts.length→∃ t,ts[i]? = some t:=fun i hi=>⟨_,List.getElem?_eq_getElem hi⟩
    have g0:(0:Nat) < ts.length∨ts = []:=by
      cases ts with
      | nil=>exact .inr rfl
      | cons _ _=>exact .inl (by simp)
    obtain ⟨d,ed⟩:∃ d:Addr×Str,True:=⟨(0,⟨#[]⟩),trivial⟩
    have lt:∀ i∈idx.toList,i < ts.length:=fun i hi=>by
      have:=List.mem_range.mp (hp.2.mem_iff.mp hi)
      omega
    have eo:outBy its idx = (idx.toList.map fun i=>ts.getD i d).map fun t=>Value.ref t.1:=by
      unfold outBy
      rw [List.map_map]
      refine List.map_congr_left fun i hi=>?_
      have hl:=lt i hi
      rw [ei]
      simp [hl]
    have pm:(idx.toList.map fun i=>ts.getD i d).Perm ts:=by
      have h3:=hp.2.map fun i=>ts.getD i d
      have e3:(List.range its.length).map (fun i=>ts.getD i d) = ts:=by
        refine List.ext_getElem? fun i=>?_
        rw [List.getElem?_map,li]
        by_cases hi:i < ts.length
        · simp [hi]
        · simp [hi]
      rw [e3] at h3
      exact h3
    have so:sortedS ((idx.toList.map fun i=>ts.getD i d).map (·.2)) = true:=by
      apply sortedS_of_pairwise
      rw [List.pairwise_iff_getElem]
      intro i j hi hj hij
      have hi':i < idx.size:=by simpa using hi
      have hj':j < idx.size:=by simpa using hj
      have h4:=up i j hij (by rw [← hp.1]; exact hj')
      have li':=lt idx[i] (by simp)
      have lj':=lt idx[j] (by simp)
      simp only [List.getElem_map,Array.getElem_toList]
      rw [ltCps_eq]
      have e5:idx.getD i 0 = idx[i]:=by simp [Array.getD,hi']
      have e6:idx.getD j 0 = idx[j]:=by simp [Array.getD,hj']
      rw [e5,e6,decide_eq_true_eq] at h4
      have e7:(ts.map fun t:Addr×Str=>t.2).getD idx[i] (⟨#[]⟩:Str) = (ts.getD idx[i] d).2:=by simp [li']
      have e8:(ts.map fun t:Addr×Str=>t.2).getD idx[j] (⟨#[]⟩:Str) = (ts.getD idx[j] d).2:=by simp [lj']
      rw [e7,e8] at h4
      exact decide_eq_false fun z=>absurd (List.lt_trans h4 z) (List.lt_irrefl _)
    rw [eo] at e
    have lp':s.heap.objs.size≤p:=Nat.le_trans (by
      rcases Nat.lt_or_ge s.heap.objs.size h1.objs.size with g | g
      · exact Nat.le_of_lt g
      · exact Nat.le_of_eq (Nat.le_antisymm hsz g)) lp
    refine ⟨.ref p,_,I.laid (t':=s.toks) (o:=.lst ((idx.toList.map fun i=>ts.getD i d).map fun t=>V.ref t.1)) (fun b o e=>k b o (old b o e)) lp' ?_,rfl,q _ _ pm so (I.hok.fresh lp')⟩
    refine ⟨?_,_,c,vals_refs_of _,e⟩
    rw [List.length_map,pm.length_eq,sizeLine_eq]
    omega
end
end L2
namespace L2
section
open PySem PySem.Calls PyProof.Rows
variable {prog:Program} {w:World} {A:Around} {E:Value→Shared→Prop} {s:Shared}
theorem ints_at:∀ {vs:List Value} {ns:List Int},IntsAre vs ns→∀ (i:Nat) (v:Value),vs[i]? = some v→∃ n t,v = .int n t∧ns[i]? = some n
  | _,_,.nil,i,v,h=>by simp at h
  | _,_,.cons n t h,0,v,e=>by
    simp at e
    exact ⟨n,t,e.symm,rfl⟩
  | _,_,.cons n t h,i + 1,v,e=>by
    obtain ⟨m,u,h1,h2⟩:=ints_at h i v (by simpa using e)
    exact ⟨m,u,h1,by simpa using h2⟩
theorem ints_new {led:Bool} {h:Heap} {a:Addr} {ns:List Int} (e:h.get? a = some { cls:=.type "set",dict:=none,data:=.set #[] 0 (.fresh 0 0 led) }):h.SetOf (intKind prog w) a (fun k=>decide (k∈ns.take 0)) 0:=
  ⟨_,#[],0,_,e,⟨rfl,rfl,rfl⟩,rfl,(fun _ hx=>nomatch hx),fun k=>by simp,by unfold scanBound; decide,rfl,rfl⟩
theorem take_new {ns:List Int} (nd:ns.Nodup) {i:Nat} {n:Int} (h:ns[i]? = some n):n ∉ ns.take i:=fun hm=>by
  obtain ⟨j,hj,e⟩:=List.getElem_of_mem hm
  have hi:=(List.getElem?_eq_some_iff.mp h).1
  rw [List.length_take] at hj
  rw [List.getElem_take] at e
  have e2:ns[i] = n:=(List.getElem?_eq_some_iff.mp h).2
  exact List.pairwise_iff_getElem.mp nd j i (by omega) hi (by omega) (e.trans e2.symm)
theorem fill_ints {R:Result→Shared→Prop} {I S:Addr} {fp:List Addr} {vs:List Value} {ns:List Int} {St:Nat→Heap→Prop} (W:Walks prog w A.in1 I fp [I] vs.length (fun i v=>vs[i]? = some v) St) (nS:S ∉ fp) (hs:IntsAre vs ns) (nd:ns.Nodup) (hb:vs.length + 1 < scanBound) :
    ∀ (k i:Nat) (s:Shared),vs.length - i = k→i≤vs.length→St i s.heap→s.heap.SetOf (intKind prog w) S (fun k=>decide (k∈ns.take i)) i→
      (∀ h' tk,(∀ b o,b ∉ [S,I]→s.heap.get? b = some o→h'.get? b = some o)→h'.SetOf (intKind prog w) S (fun k=>decide (k∈ns)) ns.length→R (.ok (.ret .none)) { s with heap:=h',toks:=tk })→codeAny (model prog w) A (.builtin "set.update.loop" ⟨[.ref S,.ref I],[]⟩) R s:=by
  have nI:S ∉ [I]:=fun z=>nS (W.sub _ z)
  have ln:vs.length = ns.length:=IntsAre.length hs
  have keep:∀ {f:Int→Bool} {n:Nat} {h h':Heap},h.SetOf (intKind prog w) S f n→(∀ o,h.get? S = some o→h'.get? S = some o)→h'.SetOf (intKind prog w) S f n:=fun {f n h h'} ⟨o,es,ep,t,ho,r⟩ k=>⟨o,es,ep,t,k o ho,r⟩
  intro k
  induction k with
  | zero=>
    intro i s hk hi st T q
    have e:i = vs.length:=by omega
    subst e
    refine codeAny_builtin PyProof.Rows.F.entry_set_update_loop ?_
    rw [Around.under_plainId PyProof.Rows.F.plain_set_update_loop _]
    refine wpAny_bind (m:=pyNext (.ref I)) (W.done s _ _ st fun h' tk k'=>?_)
    rw [ln,List.take_length] at T
    exact wpAny_pure (q h' tk (fun b o n e=>k' b o (fun z=>n (List.mem_cons_of_mem _ z)) e) (keep T fun o e=>k' S o nI e))
  | succ k ih=>
    intro i s hk hi st T q
    have lt:i < vs.length:=by omega
    refine codeAny_builtin PyProof.Rows.F.entry_set_update_loop ?_
    rw [Around.under_plainId PyProof.Rows.F.plain_set_update_loop _]
    refine wpAny_bind (m:=pyNext (.ref I)) (W.item i s _ _ lt st fun v h' tk hv st' k'=>?_)
    obtain ⟨x,t,rfl,hx⟩:=ints_at hs i v hv
    have hkey:(intKind prog w).is x (.int x t) = true:=by show Value.isInt x (.int x t) = true; simp [Value.isInt]
    refine wpAny_bind (m:=holding [Value.int x t] (setAdd S (.int x t))) (wpAny_holding ?_)
    unfold setAdd
    refine wpAny_holding (wpAny_bind ((intKind prog w).pyHash hkey ?_))
    refine wpAny_setAddHashed_of hkey rfl (keep T fun o e=>k' S o nI e) (by omega) fun h2 sb T2=>?_
    have new:=take_new nd hx
    have e1:(if decide (x∈ns.take i) = true then i else i + 1) = i + 1:=by rw [if_neg (by simpa using new)]
    rw [e1] at T2
    have e2:(fun k'=>decide (k'∈ns.take i) || decide (k' = x)) = fun k'=>decide (k'∈ns.take (i + 1)):=by
      funext k'
      rw [List.take_add_one,hx,Bool.eq_iff_iff]
      simp
    rw [e2] at T2
    refine wpAny_pure ⟨plainId_quiet PyProof.Rows.F.plain_set_update_loop _,ih (i + 1) _ (by omega) lt (W.frame _ _ _ st' fun b hb o e=>?_) T2 fun h3 tk3 k3 T3=>?_⟩
    · rw [sb.2 b (fun z=>nS (z ▸ hb))]; exact e
    · refine q h3 tk3 (fun b o n e=>k3 b o n ?_) T3
      rw [sb.2 b (fun z=>n (by simp [z]))]
      exact k' b o (fun z=>n (List.mem_cons_of_mem _ z)) e
theorem set_ints {lq:Addr} {vs:List Value} {ns:List Int} {Q:Value→Shared→Prop} (hh:A.handled = none) (hl:s.heap.IsList lq vs.toArray) (hs:IntsAre vs ns) (nd:ns.Nodup) (hb:vs.length + 1 < scanBound)
    (q:∀ h' tk,(∀ b o,s.heap.get? b = some o→h'.get? b = some o)→h'.SetOf (intKind prog w) s.heap.objs.size (fun k=>decide (k∈ns)) ns.length→Q (.ref s.heap.objs.size) { s with heap:=h',toks:=tk }):wpAny (model prog w) A (call (.type "set") [.ref lq]) Q E s:=by
  obtain ⟨c,tl,hmro⟩:=PySem.F.called_set.mro
  have hmade:=PySem.F.called_set.made
  have hsub:=PySem.F.called_set.sub
  refine wpAny_call (codeAny_of_tree (wpAny_pure ⟨Code.quiet_builtin _ (by decide +kernel),codeAny_builtin PySem.F.entry_type_call ?_⟩))
  rw [Around.under_plain (weight_type_call_type "set" [.ref lq] []) rfl]
  have h1:=PySem.F.called_set.notType
  have h2:=PySem.F.called_set.canCreate
  have hct:=PySem.F.typeCall_set_1 (.ref lq)
  repeat (any_goals (first | assumption | wp_step))
  refine codeAny_mono (set_made (.ref lq) (E:=E) (Q₁:=fun obj s₁=>obj = .ref s.heap.objs.size∧s₁ = { s with heap:=s.heap.push { cls:=.type "set",dict:=none,data:=.set #[] 0 (.fresh 0 0 (!ByText w)) } }) ⟨rfl,rfl⟩) fun r s₁ hr=>?_
  match r,hr with
  | .error e,hr=>exact hr
  | .ok (.ret obj),hr=>
    obtain ⟨rfl,rfl⟩:=hr
    have hS:(s.heap.push { cls:=.type "set",dict:=none,data:=.set #[] 0 (.fresh 0 0 (!ByText w)) }).get? s.heap.objs.size = some { cls:=.type "set",dict:=none,data:=.set #[] 0 (.fresh 0 0 (!ByText w)) }:=Heap.get?_push_size _ rfl
    have hT:Shared.TypeIs { s with heap:=s.heap.push { cls:=.type "set",dict:=none,data:=.set #[] 0 (.fresh 0 0 (!ByText w)) } } (.ref s.heap.objs.size) "set":=⟨_,hS,rfl⟩
    have hli:=PySem.F.called_set.init.lookup
    have hbi:=PySem.F.called_set.init.bind (.ref s.heap.objs.size)
    repeat (any_goals (first | assumption | wp_step))
    refine codeAny_mono (codeAny_call_builtin (R:=wants (fun r s₂=>r = .none∧∃ h' tk,s₂ = { s with heap:=h',toks:=tk }∧(∀ b o,s.heap.get? b = some o→h'.get? b = some o)∧h'.SetOf (intKind prog w) s.heap.objs.size (fun k=>decide (k∈ns)) ns.length) E) PySem.F.called_set.init.plain PySem.F.entry_set_init (check_set_init_1 hT ?_)) fun r₂ s₂ hr₂=>?_
    · obtain ⟨⟨cl,dl,tl,sl⟩,el,hcl,nl,hdl⟩:=hl
      simp only at hcl hdl
      subst hcl; subst hdl
      have el':=Heap.get?_push_of_some ({ cls:=.type "set",dict:=none,data:=.set #[] 0 (.fresh 0 0 (!ByText w)) }:Obj) el
      have lt:lq < s.heap.objs.size:=Heap.lt_size el
      have l1:(s.heap.push { cls:=.type "set",dict:=none,data:=.set #[] 0 (.fresh 0 0 (!ByText w)) }).IsList lq vs.toArray:=⟨_,el',rfl,nl,rfl⟩
      have n1:=PySem.F.sub_list_set
      have n2:=PySem.F.sub_list_frozenset
      have n3:(Value.type "list" == Value.type "dict") = false:=by decide
      unfold Builtin.«set.__init__» Builtin.Frozenset.updateFrom noKeywords
      generalize ePI:pyIter = PI
      wp_walk
      subst ePI
      refine wpAny_pyIter_list l1 (wpAny_bind (wpAny_runValue ?_))
      have nI:lq≠(s.heap.push { cls:=.type "set",dict:=none,data:=.set #[] 0 (.fresh 0 0 (!ByText w)) }).objs.size:=by rw [Heap.size_push]; exact Nat.ne_of_lt (Nat.lt_succ_of_lt lt)
      have nS:s.heap.objs.size ∉ [(s.heap.push { cls:=.type "set",dict:=none,data:=.set #[] 0 (.fresh 0 0 (!ByText w)) }).objs.size,lq]:=by
        rw [Heap.size_push]
        simp only [List.mem_cons,List.not_mem_nil,or_false,not_or]
        exact ⟨Nat.ne_of_lt (Nat.lt_succ_self _),Nat.ne_of_gt lt⟩
      have hA:A.in1.in1.in1.handled = none:=by simp [hh]
      have W:=Walks.list (prog:=prog) (w:=w) hA (s.heap.push { cls:=.type "set",dict:=none,data:=.set #[] 0 (.fresh 0 0 (!ByText w)) }).objs.size lq nI vs.toArray
      have W2:Walks prog w A.in1.in1.in1 (s.heap.push { cls:=.type "set",dict:=none,data:=.set #[] 0 (.fresh 0 0 (!ByText w)) }).objs.size [(s.heap.push { cls:=.type "set",dict:=none,data:=.set #[] 0 (.fresh 0 0 (!ByText w)) }).objs.size,lq] [(s.heap.push { cls:=.type "set",dict:=none,data:=.set #[] 0 (.fresh 0 0 (!ByText w)) }).objs.size] vs.length (fun i v=>vs[i]? = some v) (fun i h=>h.IsListIter (s.heap.push { cls:=.type "set",dict:=none,data:=.set #[] 0 (.fresh 0 0 (!ByText w)) }).objs.size lq i∧h.IsList lq vs.toArray):=by
        simpa only [List.size_toArray,List.getElem?_toArray] using W
      refine fill_ints W2 nS hs nd hb vs.length 0 _ (by omega) (Nat.zero_le _) ⟨⟨_,Heap.get?_push_size _ rfl,rfl,rfl⟩,l1.push _⟩ (ints_new (Heap.get?_push_of_some _ hS)) fun h' tk k' T=>?_
      refine wpAny_pure (wpAny_pure ⟨rfl,h',tk,rfl,fun b o e=>k' b o (fun z=>?_) (Heap.get?_push_of_some _ (Heap.get?_push_of_some _ e)),T⟩)
      have lb:=Heap.lt_size e
      rw [Heap.size_push] at z
      simp only [List.mem_cons,List.not_mem_nil,or_false] at z
      rcases z with rfl | rfl
      · exact absurd lb (Nat.lt_irrefl _)
      · exact absurd lb (Nat.not_lt.mpr (Nat.le_succ _))
    · match r₂,hr₂ with
      | .error e,hr₂=>exact hr₂
      | .ok (.ret r),hr₂=>
        obtain ⟨rfl,h',tk,rfl,k',T⟩:=hr₂
        repeat (any_goals (first | assumption | wp_step))
        exact q _ _ k' T
      | .ok .next,hr₂=>exact hr₂.elim
end
section
open PySem PySem.Calls PySem.Spec PyProof.Rows
variable {X:Cx}
def rSetI (K:PySem.W.Frag):List V→Hp→VK→Prop:=fun xs H Q=>∃ (a:Addr) (ns:List Int),xs = [.ref a]∧SqL K H a (ns.map V.int)∧ns.length≤1000∧ns.Nodup∧∀ p,H p = none→Q (.ref p) (upd H p (.set (fun k=>decide (k∈ns)) ns.length))
theorem call_setI {K:PySem.W.Frag} (hK:X.K = K) (hc:X.calm = true):CallR X (.type "set") (rSetI K):=by
  subst hK
  intro pins s σ H xs us Q I r h
  obtain ⟨a,ns,rfl,h1,few,nd,q⟩:=h
  obtain ⟨u,rfl,ru⟩:=vals1 r
  cases ru
  obtain ⟨its,r1,p1,_⟩:=I.list h1
  have hs:=intsAre_of r1
  have ln:=IntsAre.length hs
  refine set_ints (I.ok.hd hc) p1.isList hs nd (by rw [ln]; unfold scanBound; omega) fun h' tk k T=>⟨.ref s.heap.objs.size,_,I.laid (t':=tk) k (Nat.le_refl _) (?_:ObjOk X.prog X.w _ h' _ (.set (fun k=>decide (k∈ns)) ns.length)),rfl,q _ (I.hok.fresh (Nat.le_refl _))⟩
  exact T
theorem call_lenSet:CallR X (.builtin "len") (fun xs H Q=>∃ (a:Addr) (f:Int→Bool) (n:Nat),xs = [.ref a]∧H a = some (.set f n)∧Q (.int n) H):=by
  intro pins s σ H xs us Q I r h
  obtain ⟨a,f,n,rfl,h1,q⟩:=h
  obtain ⟨u,rfl,ru⟩:=vals1 r
  cases ru
  obtain ⟨o,es,ep,t,ho,hex,hd,_,_,hb,hf,hn⟩:=(show ObjOk X.prog X.w H s.heap a (.set f n) from I.hok a _ h1)
  have hb':es.size < 4096:=hb
  refine Calls.call_function_entry kind_len plain_len entry_len (args_len1 _) (wpAny_len_body_set ho hex hd hf (by omega) ?_)
  rw [hn]
  exact ⟨.int n,H,(I.tok _),⟨_,rfl⟩,q⟩
end
end L2
namespace L2
section
open PySem PySem.Calls PySem.Spec PyProof.Rows PySem.Builtin.Str
variable {X:Cx}
def rStrI:List V→Hp→VK→Prop:=fun xs H Q=>∃ n:Int,xs = [.int n]∧0≤n∧n < 10 ^ 10∧Q (.str (PySem.Str.ofString (toString n))) H
theorem call_strI:CallR X (.type "str") rStrI:=by
  intro pins s σ H xs us Q I r h
  obtain ⟨n,rfl,h0,h1,q⟩:=h
  obtain ⟨u,rfl,ru⟩:=vals1 r
  obtain ⟨t,rfl⟩:=ru
  refine PySem.P.str_of_int ?_ ⟨.str _,H,I.tok _,⟨_,rfl⟩,q⟩
  have h2:n.natAbs < 2 ^ 34:=by omega
  by_cases hz:n.natAbs = 0
  · rw [hz]; decide
  · exact Nat.lt_trans ((Nat.log2_lt hz).mpr h2) (by decide)
def rEqRT:R2:=fun x y H Q=>∃ ts F G,Tr.deps ts≤99∧Rep F H (.tup ts) x∧Rep G H (.tup ts) y∧Q (.bl true) H
theorem op_eqRT (hu:X.A.units + 150 < cLine):OpR X (compareOp .Eq) rEqRT:=by
  intro pins s σ H x y v u Q I rx ry h
  obtain ⟨ts,F,G,hd,⟨a,vs,rfl,ha,hr1⟩,⟨b,us,rfl,hb,hr2⟩,q⟩:=h
  cases rx; cases ry
  obtain ⟨its,rv1,p1,_⟩:=I.tuple (SqT.of (K:=X.K) ha)
  obtain ⟨its2,rv2,p2,_⟩:=I.tuple (SqT.of (K:=X.K) hb)
  have l1:=rv1.length.symm.trans (Reps.len ts vs hr1)
  have l2:=rv2.length.symm.trans (Reps.len ts us hr2)
  have q2:=SeqAt.RcAt.tuples (A:=X.A) (s:=s) (e:=fun _=>true) p1 p2 (by omega) (fun j g1 g2=>reps_eq I ts X.A.in1 vs us its its2 (by show X.A.units + 1 + Tr.deps ts < cLine; omega) hr1 hr2 rv1 rv2 j (by simpa using g1) (by simpa using g2))
  have e:((List.range (min its.toArray.size its2.toArray.size)).all (fun _=>true) && its.toArray.size == its2.toArray.size) = true:=by
    simp [l1,l2]
  rw [e] at q2
  exact q2 _ _ _ _ ⟨.bl _,H,I,rfl,q⟩
end
end L2
namespace L2
open PySem PySem.Spec PyProof.Rows
section
variable {prog:Program} {w:World} {A:Around} {E:Value→Shared→Prop} {s:Shared} {it:Addr} {fp:List Addr} {n i:Nat} {P:Nat→Value→Prop} {St:Nat→Heap→Prop}
end
section
variable {prog:Program} {w:World} {A:Around} {E:Value→Shared→Prop} {s:Shared} {z TI TO i1 i2:Addr} {f1 f2:List Addr} {n i:Nat} {P1 P2:Nat→Value→Prop} {St1 St2:Nat→Heap→Prop} {a b:Value}
end
section
variable {prog:Program} {w:World} {A:Around} {E:Value→Shared→Prop} {s:Shared} {z TI TO i1 i2:Addr} {f1 f2:List Addr} {n i:Nat} {P1 P2:Nat→Value→Prop} {St1 St2:Nat→Heap→Prop} {a b:Value}
end
def itCls:Bool→String
  | true=>"list_iterator"
  | false=>"tuple_iterator"
def SrcIt (k:Bool) (h:Heap) (it a:Addr) (i:Nat):Prop:=∃ o,h.get? it = some o∧o.cls = .type (itCls k)∧o.data = .fields #[.ref a,.int i 0]
def Src:Bool→Heap→Addr→Array Value→Prop
  | true,h,a,its=>h.IsList a its
  | false,h,a,its=>h.IsTuple a its
def SqS (K:PySem.W.Frag):Bool→Hp→Addr→List V→Prop
  | true,H,a,xs=>SqL K H a xs
  | false,H,a,xs=>SqT K H a xs
theorem Src.push {h:Heap} {a:Addr} {its:Array Value} (o:Obj):(k:Bool)→Src k h a its→Src k (h.push o) a its
  | true,⟨x,e,r⟩=>⟨x,Heap.get?_push_of_some _ e,r⟩
  | false,⟨x,e,r⟩=>⟨x,Heap.get?_push_of_some _ e,r⟩
section
variable {prog:Program} {w:World} {A:Around} {E:Value→Shared→Prop} {s:Shared}
end
section
variable {X:Cx} {pins:List (Addr×Obj)} {σ:St} {H:Hp} {s:Shared} {a:Addr} {xs ys:List V}
theorem Inv.src (I:Inv X pins σ H s):(k:Bool)→SqS X.K k H a xs→∃ its:List Value,Vals xs its∧Src k s.heap a its.toArray
  | true,h=>let ⟨its,r,p,_⟩:=I.list h; ⟨its,r,p.isList⟩
  | false,h=>let ⟨its,r,p,_⟩:=I.tuple h; ⟨its,r,p⟩
theorem Same.src {K:PySem.W.Frag} {H H':Hp} (e:Same H H'):(k:Bool)→SqS K k H a xs→SqS K k H' a xs
  | true,h=>e.seq h
  | false,h=>by
    rcases h with (h | ⟨o,h⟩) | h
    · exact .inl (.inl (e _ _ h))
    · exact .inl (.inr ⟨o,e _ _ h⟩)
    · exact .inr h
end
theorem SrcIt.extBut {k:Bool} {h h':Heap} {a b l:Addr} {i:Nat} (x:SrcIt k h a l i) (hs:Heap.ExtBut b h h') (hab:a≠b):SrcIt k h' a l i:=let ⟨o,e,r⟩:=x; ⟨o,hs _ _ hab e,r⟩
section
variable {X:Cx} {els:List Expr} {kk:Nat} {pp:Pos}
end
end L2
namespace L2
section
open PySem PySem.Calls PySem.Spec PyProof.Rows
def TupK (K:PySem.W.Frag) (a:Addr) (ks:List Str):Prop:=∃ (o:Obj) (its:Array Value) (n:Nat),K.lookup a = some o∧o.cls = .type "tuple"∧o.data = .seq its n∧its.size≤sizeLine∧Vals (ks.map V.str) its.toList
inductive TabRows (w:World) (K:PySem.W.Frag):List (Str×List Str)→List DictEntry→Prop
  | nil:TabRows w K [] []
  | cons {x:Str} {ks:List Str} {t:Tok} {hv:Int} {a:Addr} {tb:List (Str×List Str)} {es:List DictEntry}:hv = keyH w (.inr x)→TupK K a ks→TabRows w K tb es→TabRows w K ((x,ks) :: tb) (⟨hv,.str x t,.ref a⟩ :: es)
variable {X:Cx}
end
end L2
namespace L2
section
open PySem PySem.Builtin.Str
end
end L2
namespace L2
section
open PySem PySem.Calls PySem.Spec PyProof.Rows PySem.Builtin.Str
variable {X:Cx}
end
section
open PySem PySem.Spec PyProof.Rows
end
section
open PySem PySem.Calls PySem.Spec PyProof.Rows
variable {X:Cx}
end
end L2
namespace L2
section
open PySem PySem.W PySem.Calls PyProof.Rows
variable {prog:Program} {w:World} {A:Around} {E:Value→Shared→Prop} {s:Shared} {a kS:Addr} {vs ks:List Value} {P:PySem.Fin→Shared→Prop}
def Kp2 (a b:Addr) (h h':Heap):Prop:=∀ c o,c≠a→c≠b→h.get? c = some o→h'.get? c = some o
theorem key_tail {st:SortSt} {keys:Array Value} {e e1:Nat} {out:List Value} (hk:s.heap.get? kS = some (seqObj "list" keys e)) (ha:s.heap.get? a = some (seqObj "list" #[] e1)) (ne:kS≠a) (zk:keys.size≤sizeLine) (hout:(arrOf st).map (·.2) = out.toArray) (zo:out.length≤sizeLine) (hf:failedOf st = none)
    (h:∀ h' c,Kp2 a kS s.heap h'→h'.get? a = some (seqObj "list" out.toArray c)→P (.done (.ret .none)) { s with heap:=h' }):wpAny (model prog w) A (ksk_tail a false e1 (.ref kS) st) P E s:=by
  have a1:(s.heap.update kS (Obj.mapSeq fun _=>(#[]:Array Value))).get? a = some (seqObj "list" #[] e1):=(Heap.get?_update_other _ _ ne).trans ha
  unfold ksk_tail
  dsimp only
  refine wpAny_bind (listUpdate_at hk rfl ?_ zk (Nat.zero_le _))
  refine wpAny_bind (wpAny_letGo (wpAny_bind (seqEpoch_at a1 rfl (wpAny_bind (listUpdate_at a1 rfl ?_ (Nat.zero_le _) ?_)))))
  · rw [hf]
    simp only [bne_self_eq_false,Bool.false_eq_true,if_false]
    refine wpAny_pure ?_
    rw [hout]
    refine h _ _ (fun c o h1 h2 q=>?_) (get?_update_seq a1 fun _=>out.toArray)
    exact (Heap.get?_update_other _ _ (Ne.symm h1)).trans ((Heap.get?_update_other _ _ (Ne.symm h2)).trans q)
  · rw [if_neg Bool.false_ne_true,hout,List.size_toArray]
    exact Nat.le_succ_of_le zo
theorem key_end {lt:Nat→Nat→Bool} {e e1:Nat} (hk:s.heap.get? kS = some (seqObj "list" ks.toArray e)) (ha:s.heap.get? a = some (seqObj "list" #[] e1)) (ne:kS≠a) (hl:ks.length = vs.length) (few:vs.length < 64)
    (kind:2≤vs.length→wpAny (model prog w) A (keyKind' ks.toArray) (fun κ s'=>s' = s∧Ordr vs.length lt (kas_ask prog w A κ ks) s') (fun _ _=>False) s)
    (h:∀ p h' c,Pmn vs.length p→UpTo lt p vs.length→Kp2 a kS s.heap h'→h'.get? a = some (seqObj "list" (outBy vs p).toArray c)→P (.done (.ret .none)) { s with heap:=h' }) :
    wpAny (model prog w) A (ksk_end a false vs.toArray e1 (.ref kS) ks.toArray) P E s:=by
  have zk:ks.toArray.size≤sizeLine:=by rw [List.size_toArray,sizeLine_eq]; omega
  unfold ksk_end
  dsimp only
  rw [if_neg Bool.false_ne_true,if_neg Bool.false_ne_true]
  by_cases h2:vs.toArray.size < 2
  · rw [if_pos h2,if_pos h2]
    refine wpAny_bind (wpAny_pure ?_)
    rw [StateT.run_pure]
    refine wpAny_bind (wpAny_pure ?_)
    dsimp only
    rw [List.size_toArray] at h2
    refine key_tail (out:=vs) hk ha ne zk ?_ (by rw [sizeLine_eq]; omega) rfl fun h' c k hc=>h (List.range vs.length).toArray h' c ⟨by simp,by simp⟩ (fun i j hij hj=>by omega) k (by rw [outBy_range]; exact hc)
    show (ks.toArray.zip vs.toArray).map (·.2) = vs.toArray
    apply Array.toList_inj.mp
    simp
    exact List.map_snd_zip (by omega)
  · rw [if_neg h2,if_neg h2]
    rw [List.size_toArray] at h2
    refine wpAny_bind (wpAny_mono (kind (by omega)) (fun κ s' hs'=>?_) fun _ _ z=>z.elim)
    obtain ⟨rfl,O⟩:=hs'
    refine wpAny_bind (wpAny_mono (kat_run (E:=E) (Q:=fun st' s2=>s2 = s'∧∃ p,Pmn vs.length p∧UpTo lt p vs.length∧(arrOf st').map (·.2) = (outBy vs p).toArray∧failedOf st' = none) (G:=fun p s2=>s2 = s'∧Pmn vs.length p∧UpTo lt p vs.length) hl (by omega) few
      (fun p st' s2 _ ea ef hg=>⟨hg.1,p,hg.2.1,hg.2.2,kat_snds hl ea,ef⟩) (sort_wp O (by omega) fun p hp up=>⟨rfl,hp,up⟩)) (fun r s2 hr=>?_) fun _ _ z=>z)
    obtain ⟨⟨⟩,st'⟩:=r
    obtain ⟨rfl,p,hp,up,ea,ef⟩:=hr
    dsimp only
    refine key_tail hk ha ne zk ea ?_ ef fun h' c k hc=>h p h' c hp up k hc
    unfold outBy
    rw [List.length_map,Array.length_toList,hp.1,sizeLine_eq]
    omega
def KeyTurn (prog:Program) (w:World) (A:Around) (f:Value) (vs:List Value) (Ky:Nat→Value→Prop) (s:Shared) (a:Addr):Prop:=∀ (i:Nat) (v:Value),vs[i]? = some v→∀ (h:Heap) (tk:Nat),(∀ b o,b≠a→s.heap.get? b = some o→h.get? b = some o)→
  wpAny (model prog w) A (call f [v]) (fun k s'=>Ky i k∧∃ h' tk',s' = { s with heap:=h',toks:=tk' }∧∀ b o,h.get? b = some o→h'.get? b = some o) (fun _ _=>False) { s with heap:=h,toks:=tk }
theorem key_rest {f:Value} {lt:Nat→Nat→Bool} {Ky:Nat→Value→Prop} {e1:Nat} (hk:s.heap.get? kS = some (seqObj "list" #[] 0)) (ha:s.heap.get? a = some (seqObj "list" #[] e1)) (ne:kS≠a) (few:vs.length < 64)
    (turn:KeyTurn prog w A f vs Ky s kS)
    (kind:∀ (ks:List Value) (h':Heap) (tk:Nat),ks.length = vs.length→(∀ i k,ks[i]? = some k→Ky i k)→(∀ b o,b≠kS→s.heap.get? b = some o→h'.get? b = some o)→2≤vs.length→
      wpAny (model prog w) A (keyKind' ks.toArray) (fun κ s'=>s' = { s with heap:=h',toks:=tk }∧Ordr vs.length lt (kas_ask prog w A κ ks) s') (fun _ _=>False) { s with heap:=h',toks:=tk })
    (h:∀ p h' tk c,Pmn vs.length p→UpTo lt p vs.length→Kp2 a kS s.heap h'→h'.get? a = some (seqObj "list" (outBy vs p).toArray c)→P (.done (.ret .none)) { s with heap:=h',toks:=tk }) :
    wpAny (model prog w) A (ksk_rest a f false vs.toArray e1 (.ref kS)) P E s:=by
  unfold ksk_rest
  refine wpAny_bind (wpAny_rule ?_)
  rw [List.forIn_toArray]
  refine wpAny_bind (ksk_fold (fun i s'=>∃ h' tk ks e,s' = { s with heap:=h',toks:=tk }∧(∀ b o,b≠kS→s.heap.get? b = some o→h'.get? b = some o)∧h'.get? kS = some (seqObj "list" (List.toArray ks) e)∧ks.length = i∧∀ j k,ks[j]? = some k→Ky j k) vs 0 s ⟨s.heap,s.toks,[],0,rfl,fun _ _ _ q=>q,hk,rfl,fun j k q=>by simp at q⟩ ?_ ?_)
  · rintro j x s' hx ⟨h',tk,ks,e,rfl,k1,k2,hl,hK⟩
    rw [Nat.zero_add] at hl ⊢
    have hj:j < vs.length:=(List.getElem?_eq_some_iff.mp hx).1
    refine wpAny_bind (wpAny_attempt (wpAny_mono (turn j x hx h' tk k1) (fun v s2 hv=>?_) fun _ _ z=>z.elim))
    obtain ⟨ky,h2,tk2,rfl,k3⟩:=hv
    dsimp only
    refine wpAny_bind (listUpdate_at (k3 _ _ k2) rfl ?_ (by rw [List.size_toArray,sizeLine_eq]; omega) (by rw [Array.size_push,List.size_toArray,sizeLine_eq]; omega))
    obtain ⟨c9,e9⟩:∃ c9,(h2.update kS (Obj.mapSeq (·.push v))).get? kS = some (seqObj "list" (ks.toArray.push v) c9):=⟨_,get?_update_seq (k3 _ _ k2) (·.push v)⟩
    refine wpAny_pure ⟨rfl,_,tk2,ks ++ [v],c9,rfl,fun b o nb q=>(Heap.get?_update_other _ _ (Ne.symm nb)).trans (k3 b o (k1 b o nb q)),?_,by rw [List.length_append,hl]; rfl,fun i k q=>?_⟩
    · rw [e9,List.push_toArray]
    · by_cases hi:i < ks.length
      · rw [List.getElem?_append_left hi] at q
        exact hK i k q
      · rw [List.getElem?_append_right (by omega)] at q
        have hi2:i - ks.length = 0:=by
          have:=(List.getElem?_eq_some_iff.mp q).1
          simp at this
          omega
        rw [hi2] at q
        cases q
        rw [show i = j by omega]
        exact ky
  · rintro s' ⟨h',tk,ks,e,rfl,k1,k2,hl,hK⟩
    rw [Nat.zero_add] at hl
    refine wpAny_bind (listItems_at k2 rfl ?_)
    refine key_end (s:={ s with heap:=h',toks:=tk }) k2 (k1 _ _ (Ne.symm ne) ha) ne hl few (kind ks h' tk hl hK k1) fun p h3 c hp up k3 hc=>h p h3 tk c hp up (fun b o n1 n2 q=>k3 b o n1 n2 (k1 b o n2 q)) hc
theorem key_sort {f:Value} {lt:Nat→Nat→Bool} {Ky:Nat→Value→Prop} {n:Nat} (ho:s.heap.get? a = some (seqObj "list" vs.toArray n)) (few:vs.length < 64)
    (turn:KeyTurn prog w A f vs Ky s a)
    (kind:∀ (ks:List Value) (h':Heap) (tk:Nat),ks.length = vs.length→(∀ i k,ks[i]? = some k→Ky i k)→(∀ b o,b≠a→s.heap.get? b = some o→h'.get? b = some o)→2≤vs.length→
      wpAny (model prog w) A (keyKind' ks.toArray) (fun κ s'=>s' = { s with heap:=h',toks:=tk }∧Ordr vs.length lt (kas_ask prog w A κ ks) s') (fun _ _=>False) { s with heap:=h',toks:=tk })
    (h:∀ p h' tk c,Pmn vs.length p→UpTo lt p vs.length→(∀ b o,b≠a→s.heap.get? b = some o→h'.get? b = some o)→h'.get? a = some (seqObj "list" (outBy vs p).toArray c)→P (.done (.ret .none)) { s with heap:=h',toks:=tk }) :
    wpAny (model prog w) A (ksk_tree a f false) P E s:=by
  have ha:a < s.heap.objs.size:=Heap.lt_size ho
  unfold ksk_tree
  refine wpAny_bind (listItems_at ho rfl (wpAny_bind (listUpdate_at ho rfl ?_ (by rw [List.size_toArray,sizeLine_eq]; omega) (Nat.zero_le _))))
  obtain ⟨e1,h1⟩:∃ e,(s.heap.update a (Obj.mapSeq fun _=>#[])).get? a = some (seqObj "list" #[] e):=⟨_,get?_update_seq ho (fun _=>#[])⟩
  refine wpAny_bind (seqEpoch_at h1 rfl (wpAny_bind (wpAny_newTuple (wpAny_bind (wpAny_newList (wpAny_holding ?_) (Nat.zero_le _))) (by show vs.length≤_; rw [sizeLine_eq]; omega))))
  have old:∀ b o,b≠a→s.heap.get? b = some o→(((s.heap.update a (Obj.mapSeq fun _=>#[])).push (seqObj "tuple" vs.toArray 0)).push (seqObj "list" #[] 0)).get? b = some o:=fun b o nb e=>
    Heap.get?_push_of_some _ (Heap.get?_push_of_some _ ((Heap.get?_update_other _ _ (Ne.symm nb)).trans e))
  have sz:((s.heap.update a (Obj.mapSeq fun _=>#[])).push (seqObj "tuple" vs.toArray 0)).objs.size = s.heap.objs.size + 1:=by rw [Heap.size_push,Heap.size_update]
  have hk:(((s.heap.update a (Obj.mapSeq fun _=>#[])).push (seqObj "tuple" vs.toArray 0)).push (seqObj "list" #[] 0)).get? ((s.heap.update a (Obj.mapSeq fun _=>#[])).push (seqObj "tuple" vs.toArray 0)).objs.size = some (seqObj "list" #[] 0):=Heap.get?_push_size _ rfl
  have h2:(((s.heap.update a (Obj.mapSeq fun _=>#[])).push (seqObj "tuple" vs.toArray 0)).push (seqObj "list" #[] 0)).get? a = some (seqObj "list" #[] e1):=Heap.get?_push_of_some _ (Heap.get?_push_of_some _ h1)
  rw [sz] at hk
  show wpAny (model prog w) A (ksk_rest a f false vs.toArray e1 (.ref ((s.heap.update a (Obj.mapSeq fun _=>#[])).push (seqObj "tuple" vs.toArray 0)).objs.size)) P E { s with heap:=((s.heap.update a (Obj.mapSeq fun _=>#[])).push (seqObj "tuple" vs.toArray 0)).push (seqObj "list" #[] 0) }
  rw [sz]
  generalize ((s.heap.update a (Obj.mapSeq fun _=>#[])).push (seqObj "tuple" vs.toArray 0)).push (seqObj "list" #[] 0) = h0 at old hk h2
  have nk:∀ b o,s.heap.get? b = some o→b≠s.heap.objs.size + 1:=fun b o q=>Nat.ne_of_lt (Nat.lt_succ_of_lt (Heap.lt_size q))
  refine key_rest (s:={ s with heap:=h0 }) (Ky:=Ky) (lt:=lt) hk h2 (Nat.ne_of_gt (Nat.lt_succ_of_lt ha)) few (fun i v hv h3 tk k3=>?_) (fun ks h3 tk hl hK k3 l2=>?_) fun p h3 tk c hp up k3 hc=>?_
  · exact turn i v hv h3 tk fun b o nb q=>k3 b o (nk b o q) (old b o nb q)
  · exact kind ks h3 tk hl hK (fun b o nb q=>k3 b o (nk b o q) (old b o nb q)) l2
  · exact h p h3 tk c hp up (fun b o nb q=>k3 b o nb (nk b o q) (old b o nb q)) hc
theorem sorted_key {l f:Addr} {lt:Nat→Nat→Bool} {Ky:Nat→Value→Prop} {Q:Value→Shared→Prop} (hl:s.heap.IsList l vs.toArray) (few:vs.length < 64)
    (turn:∀ (i:Nat) (v:Value),vs[i]? = some v→∀ (h:Heap) (tk:Nat),(∀ b o,s.heap.get? b = some o→h.get? b = some o)→
      wpAny (model prog w) A.in1.in1 (call (.ref f) [v]) (fun k s'=>Ky i k∧∃ h' tk',s' = { s with heap:=h',toks:=tk' }∧∀ b o,h.get? b = some o→h'.get? b = some o) (fun _ _=>False) { s with heap:=h,toks:=tk })
    (kind:∀ (ks:List Value) (h':Heap) (tk:Nat),ks.length = vs.length→(∀ i k,ks[i]? = some k→Ky i k)→(∀ b o,s.heap.get? b = some o→h'.get? b = some o)→2≤vs.length→
      wpAny (model prog w) A.in1.in1 (keyKind' ks.toArray) (fun κ s'=>s' = { s with heap:=h',toks:=tk }∧Ordr vs.length lt (kas_ask prog w A.in1.in1 κ ks) s') (fun _ _=>False) { s with heap:=h',toks:=tk })
    (q:∀ h' tk p idx c,Pmn vs.length idx→UpTo lt idx vs.length→s.heap.objs.size≤p→(∀ b o,s.heap.get? b = some o→h'.get? b = some o)→h'.get? p = some (seqObj "list" (outBy vs idx).toArray c)→Q (.ref p) { s with heap:=h',toks:=tk }) :
    wpAny (model prog w) A (call (.builtin "sorted") [.ref l] [(Str.ofString "key",.ref f)]) Q E s:=by
  refine call_function_entry_kw kind_sorted plain_sorted entry_sorted (ksk_s1 _ _) ?_
  unfold Builtin.«sorted»
  refine wpAny_bind (m:=checkCount "sorted" 1 1 _) (wpAny_pure (wpAny_bind (collect_list hl ?_ (by rw [sizeLine_eq]; omega))))
  refine wpAny_bind (wpAny_newList ?_ (by rw [sizeLine_eq]; omega))
  have old:∀ b o,s.heap.get? b = some o→((s.heap.push (seqObj "list" #[] 0)).update s.heap.objs.size (Obj.mapSeq fun x=>x ++ vs.toArray)).get? b = some o:=fun b o e=>(Heap.get?_update_other _ _ (Nat.ne_of_gt (Heap.lt_size e))).trans (Heap.get?_push_of_some _ e)
  have hsz:s.heap.objs.size≤((s.heap.push (seqObj "list" #[] 0)).update s.heap.objs.size (Obj.mapSeq fun x=>x ++ vs.toArray)).objs.size:=by rw [Heap.size_update,Heap.size_push]; exact Nat.le_succ _
  generalize (s.heap.push (seqObj "list" #[] 0)).update s.heap.objs.size (Obj.mapSeq fun x=>x ++ vs.toArray) = h1 at old hsz ⊢
  have there:(h1.push (seqObj "list" vs.toArray 0)).get? h1.objs.size = some (seqObj "list" vs.toArray 0):=Heap.get?_push_size _ rfl
  have old2:∀ b o,s.heap.get? b = some o→b≠h1.objs.size∧(h1.push (seqObj "list" vs.toArray 0)).get? b = some o:=fun b o e=>⟨Nat.ne_of_lt (Nat.lt_of_lt_of_le (Heap.lt_size e) hsz),Heap.get?_push_of_some _ (old b o e)⟩
  generalize h1.push (seqObj "list" vs.toArray 0) = h2 at there old2 ⊢
  refine wpAny_bind (wpAny_holding (wpAny_call_entry_kw (s:={ s with heap:=h2 }) slot_list_sort ⟨_,there,rfl⟩ entry_list_sort ?_ (ksk_l1 _ _)))
  rw [ksk_t1]
  refine key_sort (s:={ s with heap:=h2 }) (lt:=lt) (Ky:=Ky) there few (fun i v hv h3 tk k3=>?_) (fun ks h3 tk hl hK k3 l2=>?_) fun p h3 tk c hp up k3 hc=>?_
  · exact turn i v hv h3 tk fun b o e=>k3 b o (old2 b o e).1 (old2 b o e).2
  · exact kind ks h3 tk hl hK (fun b o e=>k3 b o (old2 b o e).1 (old2 b o e).2) l2
  · refine ⟨_,rfl,?_⟩
    exact wpAny_pure ⟨_,rfl,q h3 tk _ p c hp up hsz (fun b o e=>k3 b o (old2 b o e).1 (old2 b o e).2) hc⟩
end
end L2
namespace L2
section
open PySem PySem.W PySem.Calls PyProof.Rows
variable {prog:Program} {w:World} {A:Around} {s:Shared}
abbrev lamObj (qual:Str) (params:Arguments) (body:Expr) (scope:Scope) (pm cv ctv:Value):Obj:={ cls:=.type "function",data:=.func (kla_fn "<lambda>" qual params body scope [] pm cv ctv) }
theorem lam_item {f a c':Addr} {qual x:Str} {params:Arguments} {scope:Scope} {pm ctv:Value} {j:Nat} {p1 p2 p3:Pos} {items:Array Value} {v:Value} (ho:s.heap.get? f = some (lamObj qual params (.Subscript (.Name x p1) (.Constant (.int j) 0 p2) p3) scope pm (.ref c') ctv)) (hcd:s.heap.CodeRec (.ref c') qual) (nl:s.heap.NoLimit) (room:A.depth < recursionLimit)
    (hb:∀ u,bindArgs (kla_fn "<lambda>" qual params (.Subscript (.Name x p1) (.Constant (.int j) 0 p2) p3) scope [] pm (.ref c') ctv) ⟨[u],[]⟩ = pure [(x,u)]) (hx:scope.names.lookup x = some .local) (hk:scope.kind = .function) (hco:scope.isCoroutine = false) (hge:scope.isGenerator = false) (hce:∀ y∈scope.names,y.2≠.cell)
    (hd:(x == ("__debug__":Str)) = false) (hj:j < 1000) (ht:IsTup s.heap a items) (hi:items[j]? = some v) :
    wpAny (model prog w) A (call (.ref f) [.ref a]) (fun k s'=>k = v∧∃ h' tk',s' = { s with heap:=h',toks:=tk' }∧∀ b o,s.heap.get? b = some o→h'.get? b = some o) (fun _ _=>False) s:=by
  refine wpAny_call (kla_callFunE room ho rfl hco hge rfl hcd ?_)
  rw [hb]
  refine wpAny_pure (wpAny_newFunctionEnv hce (fun y hy=>by rw [List.mem_singleton.mp hy]; exact hx) (fun h₁ hns hsb=>⟨nl.fresh _ hsb,?_⟩) hk)
  have k1:∀ b o,s.heap.get? b = some o→h₁.get? b = some o:=fun b o e=>hsb.extBut b o (Nat.ne_of_lt (Heap.lt_size e)) (Heap.get?_push_of_some _ e)
  show codeAny _ _ (.expr _ (envX qual scope s.heap.objs.size f (.ref c') [])) _ _
  have hv:[(x,Value.ref a)].reverse.lookup x = some (.ref a):=by simp
  have ht':=ht.keeps k1
  have l1:j < items.size:=(Array.getElem?_eq_some_iff.mp hi).1
  refine kla_codeExpr (Subscript_ (wpAny_Name (wpAny_loadName_local (v:=.ref a) (m:=fun y=>[(x,Value.ref a)].reverse.lookup y) hk hx hns hv ?_) hd))
  refine wpAny_Constant_int ?_
  exact subscriptTail_builtinR (x:=v) ht'.typeIs slot_tuple_getitem.lookup (getItem_tuple (j:=j) ht' (by omega) (by omega) (by rw [seqIndex_of (by omega) (by omega)]; simp) hi ⟨rfl,rfl,_,_,rfl,k1⟩)
end
end L2
namespace L2
section
open PySem PySem.Spec PyProof.Rows
variable {X:Cx} {pins:List (Addr×Obj)} {σ:St} {H:Hp} {s:Shared}
def codeX (c:Addr) (qual:Str):HO:=.ext fun h=>h.CodeRec (.ref c) qual
theorem codeX_ok {P:Program} {w:World} {h:Heap} {c:Addr} {qual:Str} (e:h.CodeRec (.ref c) qual):ObjOk P w H h c (codeX c qual):=by
  obtain ⟨c2,o,vs,t,e1,e2,e3⟩:=id e
  cases e1
  exact ⟨e,⟨o,e2⟩,fun h1 h2 ⟨c3,o3,vs3,t3,z1,z2,z3⟩ k=>by cases z1; exact ⟨_,o3,vs3,t3,rfl,k o3 z2,z3⟩⟩
def TabH (P:Addr) (qual:Str) (pos:Pos) (H:Hp):Prop:=H P = some (.tbl #[])∨∃ c,H P = some (.tbl #[rawInt pos.line,rawInt pos.col,.ref c])∧H c = some (codeX c qual)
def SameT (P:Addr) (H H':Hp):Prop:=∀ b o,b≠P→H b = some o→H' b = some o
theorem SameT.refl (P:Addr) (H:Hp):SameT P H H:=fun _ _ _ h=>h
theorem SameT.trans {P:Addr} {H H1 H2:Hp} (a:SameT P H H1) (b:SameT P H1 H2):SameT P H H2:=fun c o n h=>b c o n (a c o n h)
theorem Same.t {H H':Hp} (a:Same H H') (P:Addr):SameT P H H':=fun b o _ h=>a b o h
theorem TabH.some {P:Addr} {qual:Str} {pos:Pos} {H:Hp} (t:TabH P qual pos H):∃ ps,H P = some (.tbl ps):=by
  rcases t with h | ⟨c,h,_⟩
  · exact ⟨_,h⟩
  · exact ⟨_,h⟩
theorem TabH.same {P:Addr} {qual:Str} {pos:Pos} {H H':Hp} (t:TabH P qual pos H) (e:Same H H'):TabH P qual pos H':=by
  rcases t with h | ⟨c,h,h2⟩
  · exact .inl (e _ _ h)
  · exact .inr ⟨c,e _ _ h,e _ _ h2⟩
theorem SameT.free {P:Addr} {qual:Str} {pos:Pos} {H H':Hp} (e:SameT P H H') (t:TabH P qual pos H') {l:Addr} (h:H' l = none):H l = none:=by
  cases q:H l with
  | none=>rfl
  | some o=>
    by_cases z:l = P
    · obtain ⟨ps,hp⟩:=t.some
      rw [z,hp] at h; cases h
    · rw [e l o z q] at h; cases h
theorem SameT.get {P:Addr} {qual:Str} {pos:Pos} {H H':Hp} (e:SameT P H H') (t:TabH P qual pos H) {b:Addr} {o:HO} (h:H b = some o) (n:∀ ps,o≠.tbl ps):H' b = some o:=by
  refine e b o (fun z=>?_) h
  obtain ⟨ps,hp⟩:=t.some
  rw [z,hp] at h
  exact n ps (Option.some.inj h).symm
theorem SameT.sqT {P:Addr} {qual:Str} {pos:Pos} {K:PySem.W.Frag} {H H':Hp} {a:Addr} {xs:List V} (e:SameT P H H') (t:TabH P qual pos H) (h:SqT K H a xs):SqT K H' a xs:=by
  rcases h with (h | ⟨o,h⟩) | h
  · exact .inl (.inl (e.get t h (by intro _ z; cases z)))
  · exact .inl (.inr ⟨o,e.get t h (by intro _ z; cases z)⟩)
  · exact .inr h
theorem SameT.sqL {P:Addr} {qual:Str} {pos:Pos} {K:PySem.W.Frag} {H H':Hp} {a:Addr} {xs:List V} (e:SameT P H H') (t:TabH P qual pos H) (h:SqL K H a xs):SqL K H' a xs:=by
  rcases h with (h | ⟨o,h⟩) | h
  · exact .inl (.inl (e.get t h (by intro _ z; cases z)))
  · exact .inl (.inr ⟨o,e.get t h (by intro _ z; cases z)⟩)
  · exact .inr h
theorem Inv.tabled {P:Addr} {ps more:Array Value} {h':Heap} {t':Nat} (I:Inv X pins σ H s) (hP:H P = some (.tbl ps)) (k:∀ b o,b≠P→s.heap.get? b = some o→h'.get? b = some o) (hP':h'.get? P = some { cls:=.none,data:=.fields (ps ++ more) }) :
    Inv X pins σ (upd H P (.tbl (ps ++ more))) { s with heap:=h',toks:=t' }:=by
  have nP:∀ b,H b = none→b≠P:=fun b e z=>by rw [z,hP] at e; cases e
  have nt:∀ {b:Addr} {u:HO},H b = some u→(∀ ps,u≠.tbl ps)→upd H P (.tbl (ps ++ more)) b = some u:=fun {b u} e n=>by
    rw [upd_ne fun z=>by rw [z,hP] at e; exact n _ (Option.some.inj e).symm]; exact e
  refine I.step (g':=s.gens) (d':=s.drawn) (ch:=[]) (fun _ z=>nomatch z) (fun b o _ _ _ e n=>k b o (nP b n) e) (fun b o _ _ _ e n=>⟨o.slots,k b o (nP b n) e⟩) (fun b o _ _ n=>by rw [upd_ne (nP b n)]; exact n) (fun b o _ e=>?_)
    (fun b xs e=>nt e (by intro _ z; cases z)) (fun b o u e=>nt e (by intro _ z; cases z)) (fun b qs e=>?_) (fun m hm=>?_) (fun b u e=>?_) I.bare
  · by_cases z:b = P
    · exact ⟨_,by rw [z]; exact hP'⟩
    · exact ⟨o,k b o z e⟩
  · by_cases z:b = P
    · rw [z,hP] at e
      cases e
      exact ⟨more,by rw [z,upd_same]⟩
    · exact ⟨#[],by rw [upd_ne z,e]; simp⟩
  · obtain ⟨o,es,ep,ho,r⟩:=hm
    exact ⟨o,es,ep,k _ o (nP _ I.free) ho,r⟩
  · by_cases z:b = P
    · rw [z,upd_same] at e
      cases e
      rw [z]
      exact hP'
    · rw [upd_ne z] at e
      refine (I.hok b u e).stay (fun c v hc q=>k c v ?_ q) (fun c q=>nt q (by intro _ z; cases z)) fun c xs q=>nt q (by intro _ z; cases z)
      rcases hc with rfl | hc
      · exact z
      · intro y
        rw [y,hP] at hc
        cases hc
theorem refs_getA {α:Type}:∀ {ts:List (Addr×α)} {its:List Value},Vals (ts.map fun t=>V.ref t.1) its→its = ts.map fun t=>Value.ref t.1
  | [],_,.nil=>rfl
  | t :: ts,_,.cons r h=>by
    cases r
    rw [List.map_cons,refs_getA h]
theorem vals_refsA {α:Type}:∀ (ts:List (Addr×α)),Vals (ts.map fun t=>V.ref t.1) (ts.map fun t=>Value.ref t.1)
  | []=>.nil
  | t :: ts=>.cons rfl (vals_refsA ts)
theorem out_by {α:Type} (d:α) (ts:List (Addr×α)) {idx:Array Nat} {lt:Nat→Nat→Bool} {R:α→α→Prop} (hp:Pmn ts.length idx) (up:UpTo lt idx ts.length) (hR:∀ i j,i < ts.length→j < ts.length→lt i j = true→R (ts.getD i (0,d)).2 (ts.getD j (0,d)).2) :
    ∃ us:List (Addr×α),us.Perm ts∧outBy (ts.map fun t=>Value.ref t.1) idx = us.map (fun t=>Value.ref t.1)∧us.Pairwise fun x y=>R x.2 y.2:=by
  have lt':∀ i∈idx.toList,i < ts.length:=fun i hi=>List.mem_range.mp (hp.2.mem_iff.mp hi)
  refine ⟨idx.toList.map fun i=>ts.getD i (0,d),?_,?_,?_⟩
  · have h3:=hp.2.map fun i=>ts.getD i (0,d)
    have e3:(List.range ts.length).map (fun i=>ts.getD i (0,d)) = ts:=by
      refine List.ext_getElem? fun i=>?_
      rw [List.getElem?_map]
      by_cases hi:i < ts.length
      · simp [hi]
      · simp [hi]
    rw [e3] at h3
    exact h3
  · unfold outBy
    rw [List.map_map]
    refine List.map_congr_left fun i hi=>?_
    have hl:=lt' i hi
    simp [hl]
  · rw [List.pairwise_iff_getElem]
    intro i j hi hj hij
    have hi':i < idx.size:=by simpa using hi
    have hj':j < idx.size:=by simpa using hj
    have h4:=up i j hij (by rw [← hp.1]; exact hj')
    have e5:idx.getD i 0 = idx[i]:=by simp [Array.getD,hi']
    have e6:idx.getD j 0 = idx[j]:=by simp [Array.getD,hj']
    rw [e5,e6] at h4
    simp only [List.getElem_map,Array.getElem_toList]
    exact hR _ _ (lt' _ (by simp)) (lt' _ (by simp)) h4
theorem nodup_getD {α:Type} {d:α} {l:List α} (nd:l.Nodup) {i j:Nat} (hi:i < l.length) (hj:j < l.length) (hij:i≠j):l.getD i d≠l.getD j d:=by
  have e1:l.getD i d = l[i]:=by simp [hi]
  have e2:l.getD j d = l[j]:=by simp [hj]
  rw [e1,e2]
  have pw:=List.pairwise_iff_getElem.mp nd
  intro z
  rcases Nat.lt_or_gt_of_ne hij with q | q
  · exact pw i j hi hj q z
  · exact pw j i hj hi q z.symm
theorem ints_are:∀ {ks:List Value} {kz:List Int},ks.length = kz.length→(∀ (i:Nat) k,ks[i]? = some k→∃ t,k = .int (kz.getD i 0) t)→IntsAre ks kz
  | [],[],_,_=>.nil
  | [],_ :: _,h,_=>by cases h
  | _ :: _,[],h,_=>by cases h
  | k :: ks,z :: kz,h,hk=>by
    obtain ⟨t,e⟩:=hk 0 k rfl
    rw [show k = Value.int z t from e]
    exact .cons z t (ints_are (by simpa using h) fun i k' q=>by
      have:=hk (i + 1) k' (by simpa using q)
      simpa using this)
theorem ordr_intk {prog:Program} {w:World} {A:Around} {ks:List Value} {kz:List Int} (nd:kz.Nodup) (hl:ks.length = kz.length) (hk:∀ (i:Nat) k,ks[i]? = some k→∃ t,k = .int (kz.getD i 0) t) :
    Ordr ks.length (fun i j=>decide (kz.getD i 0 < kz.getD j 0)) (PySem.W.kas_ask prog w A oneType' ks) s:=by
  refine ⟨fun i j C hi hj hij hC=>?_,fun i j k _ _ _ h1 h2=>?_,fun i j hi hj hij h1=>?_⟩
  · obtain ⟨t,e⟩:=hk i _ (List.getElem?_eq_getElem hi)
    obtain ⟨u,e'⟩:=hk j _ (List.getElem?_eq_getElem hj)
    unfold PySem.W.kas_ask
    rw [show ks.getD i Value.none = .int (kz.getD i 0) t by rw [← e]; simp [hi],show ks.getD j Value.none = .int (kz.getD j 0) u by rw [← e']; simp [hj]]
    exact PySem.W.kat_lt_int hC
  · rw [decide_eq_true_eq] at *
    omega
  · rw [decide_eq_false_iff_not] at h1
    rw [decide_eq_true_eq]
    have:=nodup_getD (d:=0) nd (by omega:i < kz.length) (by omega:j < kz.length) hij
    omega
end
end L2
namespace L2
section
open PySem PySem.Spec PyProof.Rows PySem.Calls
variable {X:Cx}
structure LamAt (K:PySem.W.Frag) (mg:Str→Option Value) (base:Heap) (cdv:Value) (P:Addr):Prop where
  code:∃ c,cdv = .ref c∧PySem.W.codeHdIn K c P = true
  bm:∃ bm ob,mg "__builtins__" = some (.ref bm)∧bm≠builtinsNs∧bm≠mainGlobals∧base.get? bm = some ob∧ob.cls = .type "module"∧ob.dict = some builtinsNs∧ob.data = .plain
structure LamTx (x:Str) (params:Arguments) (scope:Scope):Prop where
  bind:∀ (qual:Str) (body:Expr) (pm cv ctv u:Value),bindArgs (PySem.W.kla_fn "<lambda>" qual params body scope [] pm cv ctv) ⟨[u],[]⟩ = pure [(x,u)]
  dflt:∀ env,defaultsOf params env = ([],[])
  clos:∀ env,closureFor scope env = pure []
  loc:scope.names.lookup x = some .local
  kind:scope.kind = .function
  co:scope.isCoroutine = false
  ge:scope.isGenerator = false
  ce:∀ y∈scope.names,y.2≠.cell
  db:(x == ("__debug__":Str)) = false
theorem lam_make {x:Str} {params:Arguments} {body:Expr} {scope:Scope} {lp:Pos} {P:Addr} {pins:List (Addr×Obj)} {σ:St} {H:Hp} {s:Shared} {Q:Value→Shared→Prop} {E:Value→Shared→Prop} (L:LamTx x params scope) (at_:LamAt X.K X.mg X.base X.env.code P) (I:Inv X pins σ H s) (tb:TabH P (X.env.qual ++ "<lambda>") lp H)
    (h:∀ f c' pm ctv H2 s2,Inv X pins σ H2 s2→SameT P H H2→TabH P (X.env.qual ++ "<lambda>") lp H2→s2.heap.get? f = some (lamObj (X.env.qual ++ "<lambda>") params body scope pm (.ref c') ctv)→s2.heap.CodeRec (.ref c') (X.env.qual ++ "<lambda>")→Q (.ref f) s2) :
    wpAny (model X.prog X.w) X.A (eval (.Lambda params body scope lp) X.env) Q E s:=by
  obtain ⟨⟨c,hc,hcd⟩,bm,ob,b1,b2,b3,b4,b5,b6,b7⟩:=at_
  have C:=PySem.W.codeHd_of_K I.kIn hcd
  have hg:s.heap.Ns mainGlobals X.mg:=I.mod.glob.keeps I.bk
  have atP:∀ {ps:Array Value},H P = some (.tbl ps)→s.heap.get? P = some (PySem.W.tabObj ps):=fun {ps} e=>I.hok P _ e
  have hgP:∀ {ps:Array Value},H P = some (.tbl ps)→mainGlobals≠P:=fun {ps} e q=>by
    obtain ⟨o,es,ep,e1,hd,_⟩:=hg
    rw [q,atP e] at e1; cases e1; cases hd
  have bb:∀ {ps:Array Value},H P = some (.tbl ps)→s.heap.BuiltinsAt X.mg P:=fun {ps} e=>⟨bm,ob,b1,b2,b3,(fun q=>by
    have e1:=I.bk _ _ b4
    rw [q,atP e] at e1; cases e1; cases b5),I.bk _ _ b4,b5,b6,b7⟩
  refine PySem.W.kla_eval (L.dflt _) ?_
  rcases tb with e | ⟨c',e,e2⟩
  · refine PySem.W.kla_makeFunction (ps:=#[]) (mg:=X.mg) (L.clos _) I.ok.glob hg hc C (atP e) trivial rfl (hgP e) (bb e) fun c' ctv h' tk hx hge hlt hrec htb=>?_
    have k1:∀ b o,b≠P→s.heap.get? b = some o→(h'.push (PySem.W.kla_obj "<lambda>" (X.env.qual ++ "<lambda>") params body scope [] ((X.mg "__name__").getD .none) c' ctv)).get? b = some o:=fun b o nb q=>Heap.get?_push_of_some _ (hx b o nb q)
    have I2:=I.tabled (t':=tk) (more:=#[rawInt lp.line,rawInt lp.col,.ref c']) e k1 (Heap.get?_push_of_some _ htb)
    have hr2:(h'.push (PySem.W.kla_obj "<lambda>" (X.env.qual ++ "<lambda>") params body scope [] ((X.mg "__name__").getD .none) c' ctv)).CodeRec (.ref c') (X.env.qual ++ "<lambda>"):=by
      obtain ⟨c2,o,vs,t,z1,z2,z3⟩:=hrec
      exact ⟨c2,o,vs,t,z1,Heap.get?_push_of_some _ z2,z3⟩
    have n0:s.heap.get? c' = none:=Heap.get?_none_of_le hge
    have nP:c'≠P:=fun z=>by rw [z,atP e] at n0; cases n0
    have nH:H c' = none:=I.hok.fresh hge
    have n2:upd H P (.tbl (#[] ++ #[rawInt lp.line,rawInt lp.col,.ref c'])) c' = none:=by rw [upd_ne nP]; exact nH
    obtain ⟨m,hn,_⟩:=id I.loc
    obtain ⟨oL,_,_,hoL,_⟩:=id hn
    have I3:=I2.know (e:=c') (o:=codeX c' (X.env.qual ++ "<lambda>")) (fun xx=>by
      cases q:X.s₀.heap.get? c' with
      | none=>rfl
      | some o=>
        obtain ⟨o',z⟩:=I.base.there c' o q xx
        rw [n0] at z; cases z) (fun z=>by rw [← z,n0] at hoL; cases hoL) (fun x c q z=>by
        obtain ⟨w',oc,e1,_⟩:=I.cell x c q
        rw [z,n0] at e1; cases e1) (fun p hp z=>by
        have:=(I.pin p hp).1
        rw [z,n0] at this; cases this) n2 (codeX_ok hr2)
    refine h _ c' _ ctv _ _ I3 (fun b o nb q=>?_) (.inr ⟨c',?_,upd_same⟩) (Heap.get?_push_size _ rfl) hr2
    · rw [upd_ne (fun z=>by rw [z,nH] at q; cases q),upd_ne nb]; exact q
    · rw [upd_ne (Ne.symm nP),upd_same]; rfl
  · obtain ⟨hr,_,_⟩:ObjOk X.prog X.w H s.heap c' (codeX c' (X.env.qual ++ "<lambda>")):=I.hok c' _ e2
    refine PySem.W.kla_makeFunctionHit (cv:=.ref c') (mg:=X.mg) (L.clos _) I.ok.glob hg hc C (atP e) ?_ ?_ (bb e) fun ctv h' tk k hsz=>?_
    · exact (TriplesOk_snoc lp.line lp.col (.ref c') [] trivial:TriplesOk ([] ++ [rawInt lp.line,rawInt lp.col,.ref c']))
    · exact (codeAmong_snoc (pos:=lp) (c:=.ref c') [] trivial rfl:codeAmong lp ([] ++ [rawInt lp.line,rawInt lp.col,.ref c']) = some (.ref c'))
    · have k1:∀ b o,s.heap.get? b = some o→(h'.push (lamObj (X.env.qual ++ "<lambda>") params body scope ((X.mg "__name__").getD .none) (.ref c') ctv)).get? b = some o:=fun b o q=>Heap.get?_push_of_some _ (k b o q)
      refine h _ c' _ ctv H _ (I.kept (t':=tk) k1) (.refl P H) (.inr ⟨c',e,e2⟩) (Heap.get?_push_size _ rfl) ?_
      obtain ⟨c2,o,vs,t,z1,z2,z3⟩:=hr
      exact ⟨c2,o,vs,t,z1,k1 _ _ z2,z3⟩
end
end L2
namespace L2
section
open PySem PySem.Spec PyProof.Rows PySem.Calls
variable {X:Cx}
def tSortK (K:PySem.W.Frag) (P:Addr) (qual:Str) (lp:Pos) (j:Nat) (ta:TA):TE:=fun σ H Q=>ta σ H fun vs H1=>∃ (a:Addr) (ts:List (Addr×Int)),vs = [.ref a]∧SqL K H1 a (ts.map fun t=>V.ref t.1)∧ts.length < 64∧(∀ t∈ts,∃ xs,SqT K H1 t.1 xs∧xs[j]? = some (.int t.2))∧(ts.map (·.2)).Nodup∧TabH P qual lp H1∧
  ∀ (us:List (Addr×Int)) p H2,us.Perm ts→us.Pairwise (fun x y=>x.2 < y.2)→SameT P H1 H2→TabH P qual lp H2→H2 p = none→Q (.ref p) (upd H2 p (.lst (us.map fun t=>V.ref t.1)))
theorem pe_sortK {e:Expr} {ta:TA} {x:Str} {params:Arguments} {scope:Scope} {j:Nat} {P:Addr} {k:Nat} {p pos kp lp p1 p2 p3:Pos} {qual:Str} (hr:Room k X.A) (L:LamTx x params scope) (at_:LamAt X.K X.mg X.base X.env.code P) (hj:j < 1000) (hq:X.env.qual ++ "<lambda>" = qual) (hg:Gl X "sorted") (hm:X.mg "sorted" = none) (ha:PA X [e] ta)
    (he:backTo pos (starEach [e] X.env) = (false,eval e X.env) :: backTo pos (starEach [] X.env):=by rfl)
    (hpl:(backTo pos (starEach [e] X.env)).any (·.1) = false:=by rfl) :
    PE X (.Call (.Name "sorted" p) [e] [⟨some "key",.Lambda params (.Subscript (.Name x p1) (.Constant (.int j) 0 p2) p3) scope lp,kp⟩] pos) (tSortK X.K P qual lp j ta):=by
  subst hq
  intro pins s σ H Q I h
  refine wpAny_Call_Name_kw (ld_blt I hg hm bt_sorted (cw_fn_kw hpl rfl ?_))
  have hsp:=ha pos pins s σ H _ I h
  rw [he] at hsp ⊢
  refine evalArgs_kwB rfl (thn hsp fun us s1 ⟨vs,H1,I1,r1,q1⟩=>?_)
  obtain ⟨a,ts,rfl,hl,few,ht,nd,tb,q⟩:=q1
  obtain ⟨u,rfl,ru⟩:=vals1 r1
  cases ru
  refine kws_cons (lam_make L at_ I1 tb fun f c' pm ctv H2 s2 I2 st tb2 hf hcr=>kws_nil ?_)
  obtain ⟨its,rv,p1',hz⟩:=I2.list (st.sqL tb hl)
  have ei:=refs_getA rv
  have li:its.length = ts.length:=by rw [ei,List.length_map]
  have gk:∀ i,i < ts.length→(ts.map (·.2)).getD i 0 = (ts.getD i (0,0)).2:=fun i hi=>by simp [hi]
  refine sorted_key (vs:=its) (Ky:=fun i k=>∃ t,k = Value.int ((ts.map (·.2)).getD i 0) t) (lt:=fun i j=>decide ((ts.map (·.2)).getD i 0 < (ts.map (·.2)).getD j 0)) p1'.isList (by rw [li]; exact few) (fun i v hv h' tk k=>?_) (fun ks h' tk hlk hK k l2=>?_) fun h' tk pp idx c hp up lp' k hc=>?_
  · have il:i < ts.length:=by rw [← li]; exact (List.getElem?_eq_some_iff.mp hv).1
    have ev:v = .ref (ts[i]).1:=by
      rw [ei,List.getElem?_map,List.getElem?_eq_getElem il] at hv
      exact (Option.some.inj hv).symm
    subst ev
    obtain ⟨xs,hx,hxj⟩:=ht _ (List.getElem_mem il)
    obtain ⟨ys,r2,hy,_⟩:=I2.tuple (st.sqT tb hx)
    obtain ⟨y,hyj,ry⟩:=r2.get hxj
    obtain ⟨t,rfl⟩:=ry
    have cr:h'.CodeRec (.ref c') (X.env.qual ++ "<lambda>"):=by
      obtain ⟨c2,o,vs,t,z1,z2,z3⟩:=hcr
      exact ⟨c2,o,vs,t,z1,k _ _ z2,z3⟩
    refine wpAny_mono (lam_item (s:={ s2 with heap:=h',toks:=tk }) (A:=X.A.in1.in1) (items:=ys.toArray) (j:=j) (v:=.int (ts[i]).2 t) (k _ _ hf) cr (I2.nolimit.keeps k) hr.depth (fun u=>L.bind _ _ _ _ _ u) L.loc L.kind L.co L.ge L.ce L.db hj (hy.keeps k) (by simpa using hyj)) (fun kv s' z=>?_) fun _ _ z=>z
    obtain ⟨rfl,h3,tk3,rfl,k3⟩:=z
    exact ⟨⟨t,by rw [gk i il]; simp [il]⟩,h3,tk3,rfl,k3⟩
  · have hl2:ks.length = (ts.map (·.2)).length:=by rw [hlk,li,List.length_map]
    rw [ksk_kind (kz:=ts.map (·.2)) (by simpa using ints_are hl2 hK) (by rw [List.size_toArray]; omega)]
    refine wpAny_pure ⟨rfl,?_⟩
    have:=ordr_intk (prog:=X.prog) (w:=X.w) (A:=X.A.in1.in1) (s:={ s2 with heap:=h',toks:=tk }) nd hl2 hK
    rw [hlk] at this
    exact this
  · rw [li] at hp up
    obtain ⟨us,u1,u2,u3⟩:=out_by (0:Int) ts (R:=fun a b=>a < b) hp up fun i j hi hj hlt=>by
      rw [decide_eq_true_eq,gk i hi,gk j hj] at hlt
      exact hlt
    rw [ei,u2] at hc
    refine ⟨.ref pp,_,I2.laid (t':=tk) (o:=.lst (us.map fun t=>V.ref t.1)) k lp' ?_,rfl,q us pp H2 u1 u3 st tb2 (I2.hok.fresh lp')⟩
    refine ⟨?_,_,c,vals_refsA us,hc⟩
    rw [List.length_map,u1.length_eq,sizeLine_eq]
    omega
end
end L2
namespace L2
section
open PySem PySem.Spec PyProof.Rows
def BmAt (mg:Str→Option Value) (base:Heap):Prop:=∃ bm ob,mg "__builtins__" = some (.ref bm)∧bm≠builtinsNs∧bm≠mainGlobals∧base.get? bm = some ob∧ob.cls = .type "module"∧ob.dict = some builtinsNs∧ob.data = .plain
def OnlyT (Ts:List Addr) (H:Hp):Prop:=(∀ P∈Ts,H P = some (.tbl #[]))∧∀ b,H b = none∨(∃ o xs,H b = some (.frz o (.lst xs)))∨(b∈Ts∧H b = some (.tbl #[]))
def startH (own:Hp) (Ts:List Addr):Hp:=fun b=>if b∈Ts then some (.tbl #[]) else own b
theorem law_callT {P:Program} {w:World} {K:PySem.W.Frag} {mg mb:Str→Option Value} {CX:CXT} {k:Nat} {fa a:Addr} {fd:FuncData} {x:Str} {sp:Sp} {s₁:Shared} {vs:List Value} {ns:List Int} {Ts:List Addr}
    (KX:K.In s₁.heap) (hns:s₁.heap.Ns mainGlobals mg) (hb:s₁.heap.Ns builtinsNs mb) (hbb:∀ x:Str,x≠"__name__"→mb x = bootBuiltins x) (hlim:s₁.heap.NoLimit) (hbm:BmAt mg s₁.heap) (hg:s₁.gens = #[])
    (tabs:∀ T∈Ts,s₁.heap.get? T = some (PySem.W.tabObj #[])∧K.lookup T = none∧∃ c,PySem.W.codeHdIn K c T = true)
    (ha:s₁.heap.get? a = some { cls:=.type "list",data:=.seq vs.toArray }) (hi:IntsAre vs ns) (hl:ns.length≤sizeLine) (hr:Room k callerA)
    (F:∀ base:Heap,K.In base→base.Ns mainGlobals mg→BmAt mg base→FnOk P w K mg base CX k fa fd [x] sp) (hbind:∀ (s:Shared) (u:Value),BindsTo s fd ⟨[u],[]⟩ [(x,u)])
    (hsp:∀ H:Hp,OnlyT Ts H→SqL K H a (ns.map V.int)→sp [.ref a] H (fun v _=>v = .bl true) fun _ _ _=>False)
    (hCX:∀ H e s',CX [] H s₁ (fun _ _ _=>False) e s'→False) :
    codeAny (model P w) callerA (.call (.ref fa) ⟨[.ref a],[]⟩) (fun r s'=>r = .ok (.ret (.bool true))∧OldK s₁.heap s'.heap∧s'.os = s₁.os∧AllBare s'.gens) s₁:=by
  have aT:a ∉ Ts:=fun z=>by
    have:=(tabs a z).1
    rw [ha] at this; cases this
  have core:∀ own:Hp,(∀ b,own b = none∨∃ o xs,own b = some (.frz o (.lst xs)))→SqL K own a (ns.map V.int)→HOk P w own s₁.heap→(∀ b,own b≠none→b = a)→(own a≠none→K.lookup a = none)→
      codeAny (model P w) callerA (.call (.ref fa) ⟨[.ref a],[]⟩) (fun r s'=>r = .ok (.ret (.bool true))∧OldK s₁.heap s'.heap∧s'.os = s₁.os∧AllBare s'.gens) s₁:=by
    intro own hO hS hok hA hK
    have inT:∀ {b},b∈Ts→startH own Ts b = some (.tbl #[]):=fun {b} h=>if_pos h
    have notT:∀ {b},b ∉ Ts→startH own Ts b = own b:=fun {b} h=>if_neg h
    have only:OnlyT Ts (startH own Ts):=⟨fun T hT=>inT hT,fun b=>by
      by_cases z:b∈Ts
      · exact .inr (.inr ⟨z,inT z⟩)
      · rw [notT z]
        exact (hO b).imp id .inl⟩
    have hok':HOk P w (startH own Ts) s₁.heap:=fun b u e=>by
      by_cases z:b∈Ts
      · rw [inT z] at e
        cases e
        exact (tabs b z).1
      · rw [notT z] at e
        rcases hO b with q | ⟨o,xs,q⟩
        · rw [q] at e; cases e
        · rw [q] at e
          cases e
          obtain ⟨e1,e2⟩:=hok b _ q
          exact ⟨e1,e2⟩
    have free:∀ {b:Addr} {o:Obj},s₁.heap.get? b = some o→o.cls≠.none→b≠a→startH own Ts b = none:=fun {b o} e hc na=>by
      have z:b ∉ Ts:=fun z=>by
        have:=(tabs b z).1
        rw [e] at this
        cases this
        exact hc rfl
      rw [notT z]
      cases q:own b with
      | none=>rfl
      | some u=>exact absurd (hA b (by rw [q]; simp)) na
    have freeN:∀ {b:Addr} {o:Obj} {es:Array DictEntry} {ep:Nat},s₁.heap.get? b = some o→o.data = .dict es ep→startH own Ts b = none:=fun {b o es ep} e d=>by
      have z:b ∉ Ts:=fun z=>by
        have:=(tabs b z).1
        rw [e] at this
        cases this
        cases d
      rw [notT z]
      cases q:own b with
      | none=>rfl
      | some u=>
        have:=hA b (by rw [q]; simp)
        subst this
        rw [ha] at e; cases e; cases d
    have nsK:∀ {b:Addr} {m:Str→Option Value},s₁.heap.Ns b m→(hidT s₁.heap (startH own Ts)).Ns b m:=fun {b m} ⟨o,es,ep,e,d,r⟩=>⟨o,es,ep,hidT_get e (freeN e d),d,r⟩
    have hKb:K.In (hidT s₁.heap (startH own Ts)):=fun b o e=>hidT_get (KX b o e) (by
      have z:b ∉ Ts:=fun z=>by rw [(tabs b z).2.1] at e; cases e
      rw [notT z]
      cases q:own b with
      | none=>rfl
      | some u=>
        have e':b = a:=hA b (by rw [q]; simp)
        subst e'
        rw [hK (by rw [q]; simp)] at e; cases e)
    have hM:Mod K mg (hidT s₁.heap (startH own Ts)):=⟨hKb,nsK hns,⟨mb,nsK hb,hbb⟩,let ⟨mc,h1,h2⟩:=hlim; ⟨mc,nsK h1,h2⟩⟩
    have hB:BmAt mg (hidT s₁.heap (startH own Ts)):=by
      obtain ⟨bm,ob,b1,b2,b3,b4,b5,b6⟩:=hbm
      refine ⟨bm,ob,b1,b2,b3,hidT_get b4 (free b4 (by rw [b5]; intro z; cases z) fun z=>?_),b5,b6⟩
      rw [z,ha] at b4; cases b4
      exact absurd b5 (by intro y; injection y with y; exact absurd y (by decide))
    have e0:Env0 P w K mg (hidT s₁.heap (startH own Ts)) callerA [] s₁ (startH own Ts):=⟨rfl,hM,fun b o e=>of_hidT e,Nat.le_of_eq (hidT_size _ _),trivial,fun b hb=>absurd (show b∈([]:List Addr) from hb) (by simp),hok',.of_eq hg⟩
    have hS':SqL K (startH own Ts) a (ns.map V.int):=by
      rcases hS with (h | ⟨o,h⟩) | h
      · exact .inl (.inl (by rw [notT aT]; exact h))
      · exact .inl (.inr ⟨o,by rw [notT aT]; exact h⟩)
      · exact .inr h
    refine codeAny_mono ((F _ hKb (nsK hns) hB).run callerA [] s₁ (startH own Ts) ⟨[.ref a],[]⟩ [.ref a] [.ref a] _ _ hr e0 (hbind s₁ (.ref a)) (.cons rfl .nil) (hsp _ only hS')) fun r s' h=>?_
    match r,h with
    | .error e,h=>exact (hCX _ e s' h).elim
    | .ok (.ret u),h=>
      obtain ⟨v,H',os,bare,un,hok2,r',q⟩:=h
      have q':v = .bl true:=q
      subst q'
      obtain rfl:u = Value.bool true:=r'
      refine ⟨rfl,⟨fun b o e=>?_,fun b o e=>?_⟩,os,bare⟩
      · rcases only.2 b with z | ⟨ob,xs,z⟩ | ⟨zT,z⟩
        · exact .inl (un.keep b o e z (by intro y; exact absurd (show b∈([]:List Addr) from y) (by simp)) (by simp))
        · obtain ⟨e1,_⟩:=hok' b _ z
          obtain ⟨e2,_⟩:=hok2 b _ (un.frzs b ob _ z)
          rw [e] at e1; cases e1
          exact .inl e2
        · obtain ⟨t1,_,c,t3⟩:=tabs b zT
          obtain ⟨more,m1⟩:=un.tbls b _ z
          have m2:s'.heap.get? b = some { cls:=.none,data:=.fields (#[] ++ more) }:=hok2 b _ m1
          rw [e] at t1; cases t1
          exact .inr (.inl ⟨((PySem.W.codeHd_of_K KX t3).tab e).isCodeTable,rfl,#[],more,rfl,m2⟩)
      · exact un.there b o e (by simp)
  cases hk:K.lookup a with
  | some o=>
    have e:=KX a o hk
    rw [ha] at e
    cases e
    refine core (fun _=>none) (fun _=>.inl rfl) (.inr ⟨_,vs.toArray,_,hk,rfl,rfl,rfl,by rw [List.size_toArray,hi.length]; exact hl,by simpa using vals_ints hi⟩) (fun b u z=>by cases (show (none:Option HO) = some u from z)) (fun b z=>absurd rfl z) fun z=>absurd rfl z
  | none=>
    refine core (fun b=>if b = a then some (.frz { cls:=.type "list",data:=.seq vs.toArray } (.lst (ns.map V.int))) else none) (fun b=>?_) (.inl (.inr ⟨{ cls:=.type "list",data:=.seq vs.toArray },if_pos rfl⟩)) (fun b u z=>?_) (fun b z=>?_) fun _=>hk
    · by_cases hb:b = a
      · exact .inr ⟨_,_,if_pos hb⟩
      · exact .inl (if_neg hb)
    · by_cases hb:b = a
      · cases (if_pos hb).symm.trans z
        subst hb
        exact ⟨ha,by rw [List.length_map]; exact hl,vs,_,vals_ints hi,ha⟩
      · cases (if_neg hb).symm.trans z
    · by_cases hb:b = a
      · exact hb
      · exact absurd (if_neg hb) z
theorem walk_ofT {l:PySem.W.OpenLaw} {n k:Nat} {q:Program} {loose:List Str} {XP:(Str→Option Value)→Heap→Prop} {YP:World→Heap→Prop} {d:DefRec} {K:Params→PySem.W.Frag} {CX:World→CXT} {sp:World→Sp} {x:Str} {Ts:List Addr}
    (hn:l.most = some n) (hn2:n≤sizeLine) (hdf:d.params.defaults = []) (hr:Room k callerA)
    (hY:∀ (w:World) (h:Heap),YP w h→(K w.params).In h) (hT:∀ (w:World) (h:Heap),YP w h→∀ T∈Ts,h.get? T = some (PySem.W.tabObj #[]))
    (F:∀ (w:World) (mg:Str→Option Value) (fa:Addr) (h:Heap),(K w.params).In h→h.Ns mainGlobals mg→mg d.name = some (.ref fa)→
      ∃ fd:FuncData,(∀ (s:Shared) (u:Value),BindsTo s fd ⟨[u],[]⟩ [(x,u)])∧(∀ T∈Ts,(K w.params).lookup T = none∧∃ c,PySem.W.codeHdIn (K w.params) c T = true)∧
        ∀ base:Heap,(K w.params).In base→base.Ns mainGlobals mg→BmAt mg base→FnOk l.prog w (K w.params) mg base (CX w) k fa fd [x] (sp w))
    (hsp:∀ (w:World) (H:Hp) (a:Addr) (ns:List Int),ns.length≤n→OnlyT Ts H→SqL (K w.params) H a (ns.map V.int)→sp w [.ref a] H (fun v _=>v = .bl true) fun _ _ _=>False)
    (hCX:∀ (w:World) (H:Hp) (s:Shared) (e:Value) (s':Shared),CX w [] H s (fun _ _ _=>False) e s'→False) :
    PySem.W.WalkO q loose XP YP l.row.toRowW d [] (fun f vs=>PySem.call f vs):=by
  refine Att.attach_call hn hdf fun w s₀ s₁ mg mb fa o pm cd doc a vs ns G Y ho hd hcd hmg hobj hints hlen hg=>?_
  have KX:=hY w _ Y
  obtain ⟨fd,hb,ht,hF⟩:=F w mg fa _ KX G.T.g hmg
  have bm:BmAt mg s₁.heap:=by
    obtain ⟨bm,ob,b1,b2,b3,b4,b5,b6⟩:=G.T.bmain
    refine ⟨bm,ob,b1,b2,fun z=>?_,b3,b4,b5,b6⟩
    obtain ⟨o,es,ep,e,hd,_⟩:=G.T.g
    rw [z,e] at b3; cases b3; rw [hd] at b6; cases b6
  exact law_callT KX G.T.g G.T.b G.T.builtins G.T.nolimit bm hg (fun T h=>⟨hT w _ Y T h,ht T h⟩) hobj hints (Nat.le_trans hlen hn2) hr hF hb (fun H hO hS=>hsp w H a ns hlen hO hS) fun H e s'=>hCX w H s₁ e s'
theorem Fun.okC {P:Program} {w:World} {K:PySem.W.Frag} {mg:Str→Option Value} {base:Heap} {x qual:Str} {st:Stmt} {f:Addr} {fd:FuncData} {N ps:List Str} {k:Nat} {sp:Sp} (F:Fun K x qual st f fd) (S:FnScope N ps (defScope st)) (len:∀ vs H Q E,sp vs H Q E→vs.length = ps.length)
    (hbody:∀ (cdv:Value) (A:Around) (outer:List Env) (s:Shared) (H:Hp) (vs:List V) (Q:VK) (E:XK),fd.code = cdv→Room k (A.deeper (PyProof.Rows.envOfC qual (defScope st) s.heap.objs.size f cdv))→sp vs H Q E→
      ∃ t,PSs (cxOf CX0 P w K mg base N qual (defScope st) f cdv A outer s H E).nox (defBody st) t∧t { nx:=fun _ H'=>Q .non H',rt:=Q } (start N vs) H):FnOk P w K mg base CX0 (k + 1) f fd ps sp:=by
  obtain ⟨oc,od,kV,doc,pm,an,cdv,ct,osl,rfl,lk,hcd⟩:=F.ex
  refine fn_of lk hcd S len fun A outer s H vs Q E hr hsp=>?_
  obtain ⟨t,h,q⟩:=hbody cdv A outer s H vs Q E rfl hr hsp
  exact ⟨t,h.nox,q⟩
end
end L2
namespace L2
section
open PySem PySem.W PySem.Calls PyProof.Rows
variable {prog:Program} {w:World} {A:Around} {s:Shared} {X:Cx}
theorem head_of {xs:Array Value} {v:Value} (h:xs[0]? = some v):∃ r,xs.toList = v :: r:=by
  obtain ⟨l⟩:=xs
  cases l with
  | nil=>simp at h
  | cons y r=>exact ⟨r,by simp at h; rw [h]⟩
theorem ordr_ints {vs:List Value} {kz:List Int} (nd:kz.Nodup) (hl:vs.length = kz.length) (hv:∀ (i:Nat) x,kz[i]? = some x→∃ (a:Addr) (o:Obj) (t:Tok) (xs:Array Value) (n:Nat),vs[i]? = some (.ref a)∧s.heap.get? a = some o∧o.data = .seq xs n∧xs[0]? = some (.int x t)) :
    Ordr vs.length (fun i j=>decide (kz.getD i 0 < kz.getD j 0)) (kas_ask prog w A (tuples' true) vs) s:=by
  have get:∀ i,i < vs.length→kz[i]? = some (kz.getD i 0):=fun i hi=>by
    rw [hl] at hi
    simp [hi]
  refine ⟨fun i j C hi hj hij hC=>?_,fun i j k _ _ _ h1 h2=>?_,fun i j hi hj hij h1=>?_⟩
  · obtain ⟨a,o,t,xs,n,e1,e2,e3,e4⟩:=hv i _ (get i hi)
    obtain ⟨a',o',t',xs',n',f1,f2,f3,f4⟩:=hv j _ (get j hj)
    unfold kas_ask
    rw [show vs.getD i Value.none = .ref a by simp [e1],show vs.getD j Value.none = .ref a' by simp [f1]]
    obtain ⟨r,er⟩:=head_of e4
    obtain ⟨r',er'⟩:=head_of f4
    refine kat_lt e2 e3 f2 f3 ?_
    rw [er,er',List.zip_cons_cons]
    refine kat_cons (wpAny_eqBool_int ?_)
    have ne:=nodup_getD (d:=0) nd (by omega:i < kz.length) (by omega:j < kz.length) hij
    rw [show (kz.getD i 0 == kz.getD j 0) = false from beq_eq_false_iff_ne.mpr ne]
    exact kat_no (oneLt_int hC)
  · rw [decide_eq_true_eq] at *
    omega
  · rw [decide_eq_false_iff_not] at h1
    rw [decide_eq_true_eq]
    have:=nodup_getD (d:=0) nd (by omega:i < kz.length) (by omega:j < kz.length) hij
    omega
def rSortTI (K:PySem.W.Frag):List V→Hp→VK→Prop:=fun xs H Q=>∃ (a:Addr) (ts:List (Addr×Int)),xs = [.ref a]∧SqL K H a (ts.map fun t=>V.ref t.1)∧ts.length < 64∧(∀ t∈ts,∃ r,SqT K H t.1 (.int t.2 :: r))∧(ts.map (·.2)).Nodup∧
  ∀ (us:List (Addr×Int)) p,us.Perm ts→us.Pairwise (fun x y=>x.2 < y.2)→H p = none→Q (.ref p) (upd H p (.lst (us.map fun t=>V.ref t.1)))
theorem kat_all {h':Heap} {T:Value→Prop}:∀ (l:List Value),(∀ v∈l,∃ (b:Addr) (o:Obj) (f:Value) (xs:Array Value) (n:Nat),v = .ref b∧h'.get? b = some o∧o.cls = .type "tuple"∧o.data = .seq xs n∧xs[0]? = some f∧T f)→∃ fs,KatTups h' l fs∧fs.length = l.length∧∀ v∈fs,T v
  | [],_=>⟨[],.nil,rfl,fun _ h=>nomatch h⟩
  | v :: l,hl=>by
    obtain ⟨fs,a1,a2,a3⟩:=kat_all l fun u hu=>hl u (List.mem_cons_of_mem _ hu)
    obtain ⟨b,o,f,xs,n,rfl,e1,e2,e3,e4,e5⟩:=hl v List.mem_cons_self
    refine ⟨f :: fs,.cons e1 e2 e3 e4 a1,by rw [List.length_cons,List.length_cons,a2],fun u hu=>?_⟩
    rcases List.mem_cons.mp hu with rfl | hu
    · exact e5
    · exact a3 u hu
theorem call_sortTI {K:PySem.W.Frag} (hK:X.K = K):CallR X (.builtin "sorted") (rSortTI K):=by
  subst hK
  intro pins s σ H xs us Q I r h
  obtain ⟨a,ts,rfl,h1,few,ht,nd,q⟩:=h
  obtain ⟨u,rfl,ru⟩:=vals1 r
  cases ru
  obtain ⟨its,r1,p1,_⟩:=I.list h1
  have ei:=refs_getA r1
  have li:its.length = ts.length:=by rw [ei,List.length_map]
  refine sorted_by (collect_list p1.isList ?_ (by rw [li,sizeLine_eq]; omega))
  have old:∀ b o,s.heap.get? b = some o→((s.heap.push (seqObj "list" #[] 0)).update s.heap.objs.size (Obj.mapSeq fun x=>x ++ its.toArray)).get? b = some o:=fun b o e=>(Heap.get?_update_other _ _ (Nat.ne_of_gt (Heap.lt_size e))).trans (Heap.get?_push_of_some _ e)
  have hsz:s.heap.objs.size≤((s.heap.push (seqObj "list" #[] 0)).update s.heap.objs.size (Obj.mapSeq fun x=>x ++ its.toArray)).objs.size:=by rw [Heap.size_update,Heap.size_push]; exact Nat.le_succ _
  generalize (s.heap.push (seqObj "list" #[] 0)).update s.heap.objs.size (Obj.mapSeq fun x=>x ++ its.toArray) = h1 at old hsz ⊢
  have gk:∀ i,i < ts.length→(ts.map (·.2)).getD i 0 = (ts.getD i (0,0)).2:=fun i hi=>by simp [hi]
  have tup:∀ (i:Nat) x,(ts.map fun t=>t.2)[i]? = some x→∃ (b:Addr) (o:Obj) (t:Tok) (xs:Array Value) (n:Nat),its[i]? = some (.ref b)∧s.heap.get? b = some o∧o.cls = .type "tuple"∧o.data = .seq xs n∧xs[0]? = some (.int x t):=fun i x hx=>by
    rw [List.getElem?_map] at hx
    obtain ⟨y,hi,rfl⟩:=Option.map_eq_some_iff.mp hx
    obtain ⟨r,hr⟩:=ht y (List.mem_of_getElem? hi)
    obtain ⟨ys,rv,⟨o,e1,e2,n,e3⟩,_⟩:=I.tuple hr
    cases rv with
    | cons rv _=>
      obtain ⟨t,rfl⟩:=rv
      exact ⟨y.1,o,t,_,n,by rw [ei,List.getElem?_map,hi]; rfl,e1,e2,e3,by simp⟩
  refine ⟨fun i j=>decide ((ts.map (·.2)).getD i 0 < (ts.map (·.2)).getD j 0),by rw [li]; exact few,fun A' h' k h2=>?_,fun h' p idx c hp up lp k e=>?_⟩
  · obtain ⟨fs,kt,kf⟩:=kat_all (h':=h') (T:=fun v=>∃ x t,v = Value.int x t) its fun v hv=>by
      obtain ⟨i,hi⟩:=List.getElem?_of_mem hv
      have lt:i < ts.length:=by rw [← li]; exact (List.getElem?_eq_some_iff.mp hi).1
      obtain ⟨b,o,t,xs,n,e1,e2,e3,e4,e5⟩:=tup i _ (List.getElem?_eq_getElem (by rw [List.length_map]; exact lt))
      rw [hi] at e1
      cases e1
      exact ⟨b,o,_,xs,n,rfl,k _ _ (old _ _ e2),e3,e4,e5,_,t,rfl⟩
    refine kat_kind (T:=.type "int") kt (by rw [kf.1]; omega) (fun v hv=>?_) (by decide) ⟨rfl,?_⟩
    · obtain ⟨x,t,rfl⟩:=kf.2 v hv
      exact .now
    · refine ordr_ints nd (by rw [li,List.length_map]) fun i x hx=>?_
      obtain ⟨b,o,t,xs,n,e1,e2,_,e4,e5⟩:=tup i x hx
      exact ⟨b,o,t,xs,n,e1,k _ _ (old _ _ e2),e4,e5⟩
  · rw [li] at hp up
    obtain ⟨us,u1,u2,u3⟩:=out_by (0:Int) ts (R:=fun a b=>a < b) hp up fun i j hi hj hlt=>by
      rw [decide_eq_true_eq,gk i hi,gk j hj] at hlt
      exact hlt
    rw [ei,u2] at e
    have lp':s.heap.objs.size≤p:=Nat.le_trans hsz lp
    refine ⟨.ref p,_,I.laid (t':=s.toks) (o:=.lst (us.map fun t=>V.ref t.1)) (fun b o e=>k b o (old b o e)) lp' ?_,rfl,q us p u1 u3 (I.hok.fresh lp')⟩
    refine ⟨?_,_,c,vals_refsA us,e⟩
    rw [List.length_map,u1.length_eq,sizeLine_eq]
    omega
end
end L2
namespace L2
section
open PySem
variable {α:Type}
theorem comp_selN {J:It} {ps:List α} {g:α→V} {fr:List (Option Nat)} {k:Nat} {tt:TT} {te:TE} {Q:VK} {σ:St} {H:Hp} (p:α→Bool) (P:α→V→Hp→Prop) (hP:∀ x y H1 H2,P x y H1→Same H1 H2→P x y H2)
    (hU:∀ x y H1 l us us',P x y H1→H1 l = some (.lst us)→P x y (upd H1 l (.lst us'))) (hJ:ItIs J H (ps.map g)) (hn:ps.length≤1000000)
    (htest:∀ x∈ps,∀ (H':Hp) (R:Bool→Hp→Prop),Same H H'→(∀ H'',Same H' H''→R (p x) H'')→tt ((stC fr σ).set k (some (g x))) H' R)
    (helt:∀ x∈ps,p x = true→∀ (H':Hp) (R:VK),Same H H'→(∀ y H'',Same H' H''→P x y H''→R y H'')→te ((stC fr σ).set k (some (g x))) H' R)
    (hQ:∀ l H' (ys:List (α×V)),H l = none→Same H H'→H' l = some (.lst (ys.map (·.2)))→ys.map (·.1) = ps.filter p→(∀ q∈ys,P q.1 q.2 H')→Q (.ref l) H'):tCompK fr (gName k) tt te σ Q J H:=by
  intro l hl
  refine ⟨fun i m σ' H'=>m = ps.length - i∧i≤ps.length∧(∀ y,σ'.set k y = (stC fr σ).set k y)∧Same H H'∧∃ ys:List (α×V),H' l = some (.lst (ys.map (·.2)))∧ys.map (·.1) = (ps.take i).filter p∧∀ q∈ys,P q.1 q.2 H',
    ⟨ps.length,by simp,Nat.zero_le _,fun _=>rfl,same_new hl _,[],by rw [upd_same]; rfl,rfl,fun _ h=>nomatch h⟩,?_⟩
  rintro i m σ' H' ⟨rfl,hi,hσ,hs,ys,hl',e1,hys⟩
  obtain ⟨h1,h2,h3⟩:=hJ H' hs i
  rw [List.length_map] at h1 h2 h3
  by_cases hlt:i < ps.length
  · refine .inr ⟨h1 hlt,fun x H'' y=>?_⟩
    obtain ⟨rfl,hx⟩:=h2 x H'' y
    have hx:=hx hlt
    rw [List.getElem?_map,List.getElem?_eq_getElem hlt] at hx
    cases hx
    have hm:ps[i]∈ps:=List.getElem_mem hlt
    have et:(ps.take (i + 1)).filter p = (ps.take i).filter p ++ (if p ps[i] = true then [ps[i]] else []):=by
      rw [List.take_add_one,List.getElem?_eq_getElem hlt,List.filter_append]
      cases q:p ps[i] <;> simp [q]
    have le:ys.length≤i:=by
      have a:=congrArg List.length e1
      have b:=List.length_filter_le p (ps.take i)
      rw [List.length_map] at a
      rw [List.length_take] at b
      omega
    show tt (σ'.set k (some (g ps[i]))) H'' _
    rw [hσ]
    refine htest _ hm H'' _ hs fun H0 s0=>?_
    have hs0:=hs.trans s0
    refine ite2 (fun c=>?_) (fun c=>?_)
    · refine helt _ hm c H0 _ hs0 fun v H4 s4' hv=>?_
      have s4:=s0.trans s4'
      have hl4:=s4.get hl'
      refine ⟨_,hl4,smallLt (by rw [List.length_map]; omega),ps.length - (i + 1),by omega,rfl,hlt,fun y=>by rw [List.set_set],same_upd (hs.trans s4) hl _,ys ++ [(ps[i],v)],?_,?_,fun q hq=>?_⟩
      · rw [upd_same,List.map_append]; rfl
      · rw [et,if_pos c,List.map_append,e1]; rfl
      · rcases List.mem_append.mp hq with h | h
        · exact hU _ _ _ _ _ _ (hP _ _ _ _ (hys q h) s4) hl4
        · rw [List.mem_singleton.mp h]
          exact hU _ _ _ _ _ _ hv hl4
    · exact ⟨ps.length - (i + 1),by omega,rfl,hlt,fun y=>by rw [List.set_set],hs0,ys,s0.get hl',by rw [et,if_neg c,List.append_nil]; exact e1,fun q hq=>hP _ _ _ _ (hys q hq) s0⟩
  · have e:i = ps.length:=by omega
    subst e
    exact .inl ⟨h3 (Nat.le_refl _),hQ l H' ys hl hs hl' (by rw [e1,List.take_of_length_le (Nat.le_refl _)]) hys⟩
theorem comp_sel {J:It} {ps:List α} {g:α→V} {fr:List (Option Nat)} {k:Nat} {tt:TT} {te:TE} {Q:VK} {σ:St} {H:Hp} (p:α→Bool) (P:α→V→Hp→Prop) (hP:∀ x y H1 H2,P x y H1→Same H1 H2→P x y H2)
    (hU:∀ x y H1 l us us',P x y H1→H1 l = some (.lst us)→P x y (upd H1 l (.lst us'))) (hJ:ItIs J H (ps.map g)) (hn:ps.length≤1000000)
    (htest:∀ x∈ps,∀ (H':Hp) (R:Bool→Hp→Prop),Same H H'→R (p x) H'→tt ((stC fr σ).set k (some (g x))) H' R)
    (helt:∀ x∈ps,p x = true→∀ (H':Hp) (R:VK),Same H H'→(∀ y H'',Same H' H''→P x y H''→R y H'')→te ((stC fr σ).set k (some (g x))) H' R)
    (hQ:∀ l H' (ys:List (α×V)),H l = none→Same H H'→H' l = some (.lst (ys.map (·.2)))→ys.map (·.1) = ps.filter p→(∀ q∈ys,P q.1 q.2 H')→Q (.ref l) H'):tCompK fr (gName k) tt te σ Q J H:=
  comp_selN p P hP hU hJ hn (fun x hx H' R s' hR=>htest x hx H' R s' (hR H' (Same.refl _))) helt hQ
theorem fst_map {ys:List (α×V)} {f:α→V} (h:∀ q∈ys,q.2 = f q.1):ys.map (·.2) = (ys.map (·.1)).map f:=by
  rw [List.map_map]
  exact List.map_congr_left fun q hq=>h q hq
theorem comp_selG {J:It} {ps:List α} {g:α→V} {fr:List (Option Nat)} {k:Nat} {tt:TT} {te:TE} {Q:VK} {σ:St} {H:Hp} (p:α→Bool) (f:α→V) (hJ:ItIs J H (ps.map g)) (hn:ps.length≤1000000)
    (htest:∀ x∈ps,∀ (H':Hp) (R:Bool→Hp→Prop),Same H H'→(∀ H'',Same H' H''→R (p x) H'')→tt ((stC fr σ).set k (some (g x))) H' R)
    (helt:∀ x∈ps,p x = true→∀ (H':Hp) (R:VK),Same H H'→(∀ H'',Same H' H''→R (f x) H'')→te ((stC fr σ).set k (some (g x))) H' R)
    (hQ:∀ l H',H l = none→Same H H'→H' l = some (.lst ((ps.filter p).map f))→Q (.ref l) H'):tCompK fr (gName k) tt te σ Q J H:=by
  refine comp_selN p (fun x y _=>y = f x) (fun _ _ _ _ h _=>h) (fun _ _ _ _ _ _ h _=>h) hJ hn htest (fun x hx hp H' R s' hR=>helt x hx hp H' R s' fun H'' s''=>hR _ H'' s'' rfl) fun l H' ys nl s' h' e hq=>hQ l H' nl s' ?_
  rw [← e,← fst_map hq]
  exact h'
theorem comp_selF {J:It} {ps:List α} {g:α→V} {fr:List (Option Nat)} {k:Nat} {tt:TT} {te:TE} {Q:VK} {σ:St} {H:Hp} (p:α→Bool) (f:α→V) (hJ:ItIs J H (ps.map g)) (hn:ps.length≤1000000)
    (htest:∀ x∈ps,∀ (H':Hp) (R:Bool→Hp→Prop),Same H H'→R (p x) H'→tt ((stC fr σ).set k (some (g x))) H' R)
    (helt:∀ x∈ps,p x = true→∀ (H':Hp) (R:VK),Same H H'→(∀ H'',Same H' H''→R (f x) H'')→te ((stC fr σ).set k (some (g x))) H' R)
    (hQ:∀ l H',H l = none→Same H H'→H' l = some (.lst ((ps.filter p).map f))→Q (.ref l) H'):tCompK fr (gName k) tt te σ Q J H:=
  comp_selG p f hJ hn (fun x hx H' R s' hR=>htest x hx H' R s' (hR H' (Same.refl _))) helt hQ
theorem comp_sel2 {K:PySem.W.Frag} {J:It} {ps:List α} {g:α→Addr} {A B f:α→V} {fr:List (Option Nat)} {i0 i1 n:Nat} {te:TE} {Q:VK} {σ:St} {H:Hp} (hJ:ItIs J H (ps.map fun x=>V.ref (g x))) (hpr:∀ x∈ps,H (g x) = some (.tup [A x,B x])) (hn:ps.length≤1000000) (h2:n = 2) (hne:i0≠i1)
    (helt:∀ x∈ps,∀ (H':Hp) (R:VK),Same H H'→(∀ H'',Same H' H''→R (f x) H'')→te (((stC fr σ).set i0 (some (A x))).set i1 (some (B x))) H' R)
    (hQ:∀ l H',H l = none→Same H H'→H' l = some (.lst (ps.map f))→Q (.ref l) H'):tCompK fr (gTup K n (gCons (gName i0) (gCons (gName i1) gNil))) tYes te σ Q J H:=by
  subst h2
  intro l hl
  refine ⟨fun i m σ' H'=>m = ps.length - i∧i≤ps.length∧(∀ y z,(σ'.set i0 y).set i1 z = ((stC fr σ).set i0 y).set i1 z)∧Same H H'∧H' l = some (.lst ((ps.take i).map f)),⟨ps.length,by simp,Nat.zero_le _,fun _ _=>rfl,same_new hl _,by rw [upd_same]; rfl⟩,?_⟩
  rintro i m σ' H' ⟨rfl,hi,hσ,hs,hl'⟩
  obtain ⟨h1,h2,h3⟩:=hJ H' hs i
  rw [List.length_map] at h1 h2 h3
  by_cases hlt:i < ps.length
  · refine .inr ⟨h1 hlt,fun x H'' y=>?_⟩
    obtain ⟨rfl,hx⟩:=h2 x H'' y
    have hx:=hx hlt
    rw [List.getElem?_map,List.getElem?_eq_getElem hlt] at hx
    cases hx
    have hm:ps[i]∈ps:=List.getElem_mem hlt
    refine ⟨g ps[i],_,rfl,SqT.of (hs.get (hpr _ hm)),rfl,_,_,rfl,_,_,rfl,rfl,?_⟩
    show te ((σ'.set i0 (some (A ps[i]))).set i1 (some (B ps[i]))) _ _
    rw [hσ]
    refine helt _ hm H'' _ hs fun H4 s4=>?_
    refine ⟨_,s4.get hl',smallLt (by rw [List.length_map,List.length_take]; omega),ps.length - (i + 1),by omega,rfl,hlt,fun y z=>?_,same_upd (hs.trans s4) hl _,?_⟩
    · rw [List.set_comm _ _ (Ne.symm hne),List.set_set,List.set_set]
    · rw [upd_same,List.take_add_one,List.getElem?_eq_getElem hlt,List.map_append]
      rfl
  · have e:i = ps.length:=by omega
    subst e
    exact .inl ⟨h3 (Nat.le_refl _),hQ l H' hl hs (by rw [hl',List.take_of_length_le (Nat.le_refl _)])⟩
end
end L2
namespace L2
section
open PySem
variable {X:Cx} {K:PySem.W.Frag}
theorem op_in_seqK (h:X.K = K):OpR X (compareOp .In) (rIn K false):=by subst h; exact op_in_seq
end
end L2
namespace L2
end L2
namespace L2
section
open PySem PySem.Spec PyProof.Rows
variable {X:Cx}
def rLIdx:V→List V→Hp→VK→Prop:=fun x vs H Q=>∃ (l:Addr) (zs:List Str) (z:Str) (j:Nat),x = .ref l∧vs = [.str z]∧H l = some (.lst (zs.map V.str))∧zs[j]? = some z∧(∀ m,m < j→zs[m]?≠some z)∧Q (.int j) H
theorem strs_of:∀ {zs:List Str} {its:List Value},Vals (zs.map V.str) its→∀ (i:Nat) u,its[i]? = some u→∃ z t,zs[i]? = some z∧u = .str z t
  | [],_,.nil,i,u,h=>by simp at h
  | z :: zs,_,.cons r h,0,u,e=>by
    obtain ⟨t,rfl⟩:=r
    simp at e
    exact ⟨z,t,rfl,e.symm⟩
  | z :: zs,_,.cons r h,i + 1,u,e=>by
    simpa using strs_of h i u (by simpa using e)
theorem mt_lindex:MtM X "list.index" rLIdx:=by
  intro pins s σ H x vs v us Q I rx rv h
  obtain ⟨l,zs,z,j,rfl,rfl,hH,hj,hno,q⟩:=h
  cases rx
  obtain ⟨u,rfl,ru⟩:=rv.one
  obtain ⟨t,rfl⟩:=ru
  obtain ⟨zl,its,n,r,hl,e⟩:=I.lstM hH
  rw [List.length_map] at hl zl
  have jl:=(List.getElem?_eq_some_iff.mp hj).1
  have line:=line63
  have jz:j < its.toArray.size:=by rw [List.size_toArray]; omega
  have at_:∀ (m:Nat) (hm:m < its.toArray.size),∃ y ty,zs[m]? = some y∧its.toArray[m] = .str y ty:=fun m hm=>by
    obtain ⟨y,ty,h1,h2⟩:=strs_of r m its.toArray[m] (by simp)
    exact ⟨y,ty,h1,h2⟩
  refine call_meets F.slot_list_index ⟨_,e,rfl⟩ F.entry_list_index (F.args_list_index_2 _ _)
    (SeqAt.list_indexAt l its.toArray n none #[] (.str z t) (fun y=>match y with | .str a _=>a == z | _=>false) j jz (by omega) ?_ ?_) ⟨e,fun y hy=>?_,?_⟩
  · obtain ⟨y,ty,h1,h2⟩:=at_ j jz
    rw [hj] at h1
    cases h1
    rw [h2]
    simp
  · intro m hm hmj
    obtain ⟨y,ty,h1,h2⟩:=at_ m hm
    rw [h2]
    refine beq_eq_false_iff_ne.mpr fun z1=>hno m hmj ?_
    rw [h1,z1]
  · obtain ⟨m,hm,rfl⟩:=Array.getElem_of_mem hy
    obtain ⟨y,ty,h1,h2⟩:=at_ m hm
    rw [h2]
    exact fun prog w E Q h=>eqBool_str h
  · exact ⟨.int j,H,I.tok _,⟨_,rfl⟩,q⟩
end
end L2
namespace L2
section
open PySem PySem.SeqAt
open AutoSeq1 (wpAny_loadPart')
open MeetsSeq MeetsSeq2 MeetsSeq3 SeqRoads2
theorem tuple_neFst (l b:Addr) (y x:Value) (ys xs:List Value) (n n2:Nat) (dd dd2:Option Addr) (sl sl2:Array (Option Value)) :
    Meets (Builtin.«tuple.__eq__» ⟨[.ref l,.ref b],[]⟩)
      (fun A R s=>s.heap.get? l = some { cls:=.type "tuple",dict:=dd,data:=.seq (y :: ys).toArray n,slots:=sl }∧s.heap.get? b = some { cls:=.type "tuple",dict:=dd2,data:=.seq (x :: xs).toArray n2,slots:=sl2 }∧
        EqAt A.in1 s y x false∧R (.ok (.ret (.bool false))) s):=
  .of_wp fun prog w A R s h=>by
    obtain ⟨hp,g,d,tk,os⟩:=s
    obtain ⟨hl,hb,he,h⟩:=h
    have f2:=AutoSeq1.sub_tuple_tuple
    wp_walk using wpAny_loadPart' hl,wpAny_loadPart' hb,wpAny_forIn_list _ (fun rest b s'=>b.1 = none∧s' = ⟨hp,g,d,tk,os⟩∧rest = (y,x) :: ys.zip xs) _
    case turn=>
      rintro ⟨y',x'⟩ rest b s' ⟨hb',rfl,hz⟩
      cases hz
      refine wpAny_bind (he prog w _ _ ?_)
      wp_walk
      exact ⟨_,rfl,by simpa using h⟩
    case fin=>
      rintro ⟨b1,b2⟩ s' ⟨hb',rfl,hz⟩
      cases hz
    case h=>exact ⟨rfl,rfl,by simp⟩
end
section
open PySem PySem.Spec PyProof.Rows PySem.SeqAt
variable {X:Cx}
theorem rc_neFst {A:Around} {s:Shared} {l b:Addr} {y x:Value} {ys xs:List Value} (hl:IsTup s.heap l (y :: ys).toArray) (hb:IsTup s.heap b (x :: xs).toArray) (hu:A.units < cLine) (he:EqAt A.in1 s y x false):RcAt A s (.ref l) (.ref b) false:=fun prog w E Q h=>by
  obtain ⟨⟨cls,dd,data,sl⟩,ho,hc,n,hd⟩:=id hl
  obtain ⟨⟨cls2,dd2,data2,sl2⟩,ho2,hc2,n2,hd2⟩:=id hb
  simp only at hc hd hc2 hd2
  subst hc hd hc2 hd2
  exact richCompare_meets_room (op:=.Eq) ⟨_,ho,rfl⟩ ⟨_,ho2,rfl⟩ PySem.F.slot_tuple_eq PySem.F.entry_tuple_eq (PySem.F.args_tuple_eq_2 _ _) (tuple_neFst l b y x ys xs n n2 dd dd2 sl sl2)
    ⟨ho,ho2,he,show Value.bool false≠Value.notImplemented∧Q (.bool false) s from ⟨(fun x=>nomatch x),h⟩⟩ hu
end
end L2
namespace L2
section
open PySem PySem.W PySem.Calls PyProof.Rows
variable {s:Shared}
abbrev Slt (a b:Str):Prop:=a.cps.toList < b.cps.toList
theorem slt_of {a b:Str} (h:¬ Slt a b) (ne:a≠b):Slt b a:=by
  rcases Classical.em (Slt b a) with z | z
  · exact z
  · exact absurd (show a = b by
      cases a; cases b
      exact congrArg Str.mk (Array.toList_inj.mp (List.le_antisymm (List.not_lt.mp z) (List.not_lt.mp h)))) ne
theorem strs_are:∀ {ks:List Value} {kz:List Str},ks.length = kz.length→(∀ (i:Nat) k,ks[i]? = some k→∃ t,k = .str (kz.getD i ⟨#[]⟩) t)→StrsAre ks kz
  | [],[],_,_=>.nil
  | [],_ :: _,h,_=>by cases h
  | _ :: _,[],h,_=>by cases h
  | k :: ks,z :: kz,h,hk=>by
    obtain ⟨t,e⟩:=hk 0 k rfl
    rw [show k = Value.str z t from e]
    exact .cons z t (strs_are (by simpa using h) fun i k' q=>by
      have:=hk (i + 1) k' (by simpa using q)
      simpa using this)
theorem kind_strs {ks:List Value} {kz:List Str} (h:StrsAre ks kz) (h2:2≤ks.length):keyKind' ks.toArray = pure oneType':=by
  match ks,h,h2 with
  | _ :: _ :: _,h,_=>exact keyKind_strs h
theorem ordr_strk {prog:Program} {w:World} {A:Around} {ks:List Value} {kz:List Str} (nd:kz.Nodup) (hl:ks.length = kz.length) (hk:∀ (i:Nat) k,ks[i]? = some k→∃ t,k = .str (kz.getD i ⟨#[]⟩) t) :
    Ordr ks.length (fun i j=>decide (Slt (kz.getD i ⟨#[]⟩) (kz.getD j ⟨#[]⟩))) (PySem.W.kas_ask prog w A oneType' ks) s:=by
  refine ⟨fun i j C hi hj hij hC=>?_,fun i j k _ _ _ h1 h2=>?_,fun i j hi hj hij h1=>?_⟩
  · obtain ⟨t,e⟩:=hk i _ (List.getElem?_eq_getElem hi)
    obtain ⟨u,e'⟩:=hk j _ (List.getElem?_eq_getElem hj)
    unfold PySem.W.kas_ask
    rw [show ks.getD i Value.none = .str (kz.getD i ⟨#[]⟩) t by rw [← e]; simp [hi],show ks.getD j Value.none = .str (kz.getD j ⟨#[]⟩) u by rw [← e']; simp [hj]]
    exact PySem.W.kas_lt_str hC
  · rw [decide_eq_true_eq] at *
    exact List.lt_trans h1 h2
  · exact decide_eq_true (slt_of (of_decide_eq_false h1) (nodup_getD nd (by omega) (by omega) hij))
end
end L2
namespace L2
section
open PySem PySem.Spec PyProof.Rows PySem.Calls
variable {X:Cx}
def tSortKS (K:PySem.W.Frag) (P:Addr) (qual:Str) (lp:Pos) (j:Nat) (ta:TA):TE:=fun σ H Q=>ta σ H fun vs H1=>∃ (a:Addr) (ts:List (Addr×Str)),vs = [.ref a]∧SqL K H1 a (ts.map fun t=>V.ref t.1)∧ts.length < 64∧(∀ t∈ts,∃ xs,SqT K H1 t.1 xs∧xs[j]? = some (.str t.2))∧(ts.map (·.2)).Nodup∧TabH P qual lp H1∧
  ∀ (us:List (Addr×Str)) p H2,us.Perm ts→us.Pairwise (fun x y=>Slt x.2 y.2)→SameT P H1 H2→TabH P qual lp H2→H2 p = none→Q (.ref p) (upd H2 p (.lst (us.map fun t=>V.ref t.1)))
theorem pe_sortKS {e:Expr} {ta:TA} {x:Str} {params:Arguments} {scope:Scope} {j:Nat} {P:Addr} {k:Nat} {p pos kp lp p1 p2 p3:Pos} {qual:Str} (hr:Room k X.A) (L:LamTx x params scope) (at_:LamAt X.K X.mg X.base X.env.code P) (hj:j < 1000) (hq:X.env.qual ++ "<lambda>" = qual) (hg:Gl X "sorted") (hm:X.mg "sorted" = none) (ha:PA X [e] ta)
    (he:backTo pos (starEach [e] X.env) = (false,eval e X.env) :: backTo pos (starEach [] X.env):=by rfl)
    (hpl:(backTo pos (starEach [e] X.env)).any (·.1) = false:=by rfl) :
    PE X (.Call (.Name "sorted" p) [e] [⟨some "key",.Lambda params (.Subscript (.Name x p1) (.Constant (.int j) 0 p2) p3) scope lp,kp⟩] pos) (tSortKS X.K P qual lp j ta):=by
  subst hq
  intro pins s σ H Q I h
  refine wpAny_Call_Name_kw (ld_blt I hg hm bt_sorted (cw_fn_kw hpl rfl ?_))
  have hsp:=ha pos pins s σ H _ I h
  rw [he] at hsp ⊢
  refine evalArgs_kwB rfl (thn hsp fun us s1 ⟨vs,H1,I1,r1,q1⟩=>?_)
  obtain ⟨a,ts,rfl,hl,few,ht,nd,tb,q⟩:=q1
  obtain ⟨u,rfl,ru⟩:=vals1 r1
  cases ru
  refine kws_cons (lam_make L at_ I1 tb fun f c' pm ctv H2 s2 I2 st tb2 hf hcr=>kws_nil ?_)
  obtain ⟨its,rv,p1',hz⟩:=I2.list (st.sqL tb hl)
  have ei:=refs_getA rv
  have li:its.length = ts.length:=by rw [ei,List.length_map]
  have gk:∀ i,i < ts.length→(ts.map (·.2)).getD i ⟨#[]⟩ = (ts.getD i (0,⟨#[]⟩)).2:=fun i hi=>by simp [hi]
  refine sorted_key (vs:=its) (Ky:=fun i k=>∃ t,k = Value.str ((ts.map (·.2)).getD i ⟨#[]⟩) t) (lt:=fun i j=>decide (Slt ((ts.map (·.2)).getD i ⟨#[]⟩) ((ts.map (·.2)).getD j ⟨#[]⟩))) p1'.isList (by rw [li]; exact few) (fun i v hv h' tk k=>?_) (fun ks h' tk hlk hK k l2=>?_) fun h' tk pp idx c hp up lp' k hc=>?_
  · have il:i < ts.length:=by rw [← li]; exact (List.getElem?_eq_some_iff.mp hv).1
    have ev:v = .ref (ts[i]).1:=by
      rw [ei,List.getElem?_map,List.getElem?_eq_getElem il] at hv
      exact (Option.some.inj hv).symm
    subst ev
    obtain ⟨xs,hx,hxj⟩:=ht _ (List.getElem_mem il)
    obtain ⟨ys,r2,hy,_⟩:=I2.tuple (st.sqT tb hx)
    obtain ⟨y,hyj,ry⟩:=r2.get hxj
    obtain ⟨t,rfl⟩:=ry
    have cr:h'.CodeRec (.ref c') (X.env.qual ++ "<lambda>"):=by
      obtain ⟨c2,o,vs,t,z1,z2,z3⟩:=hcr
      exact ⟨c2,o,vs,t,z1,k _ _ z2,z3⟩
    refine wpAny_mono (lam_item (s:={ s2 with heap:=h',toks:=tk }) (A:=X.A.in1.in1) (items:=ys.toArray) (j:=j) (v:=.str (ts[i]).2 t) (k _ _ hf) cr (I2.nolimit.keeps k) hr.depth (fun u=>L.bind _ _ _ _ _ u) L.loc L.kind L.co L.ge L.ce L.db hj (hy.keeps k) (by simpa using hyj)) (fun kv s' z=>?_) fun _ _ z=>z
    obtain ⟨rfl,h3,tk3,rfl,k3⟩:=z
    exact ⟨⟨t,by rw [gk i il]; simp [il]⟩,h3,tk3,rfl,k3⟩
  · have hl2:ks.length = (ts.map (·.2)).length:=by rw [hlk,li,List.length_map]
    rw [kind_strs (strs_are hl2 hK) (by omega)]
    refine wpAny_pure ⟨rfl,?_⟩
    have:=ordr_strk (prog:=X.prog) (w:=X.w) (A:=X.A.in1.in1) (s:={ s2 with heap:=h',toks:=tk }) nd hl2 hK
    rw [hlk] at this
    exact this
  · rw [li] at hp up
    obtain ⟨us,u1,u2,u3⟩:=out_by (⟨#[]⟩:Str) ts (R:=Slt) hp up fun i j hi hj hlt=>by
      rw [decide_eq_true_eq,gk i hi,gk j hj] at hlt
      exact hlt
    rw [ei,u2] at hc
    refine ⟨.ref pp,_,I2.laid (t':=tk) (o:=.lst (us.map fun t=>V.ref t.1)) k lp' ?_,rfl,q us pp H2 u1 u3 st tb2 (I2.hok.fresh lp')⟩
    refine ⟨?_,_,c,vals_refsA us,hc⟩
    rw [List.length_map,u1.length_eq,sizeLine_eq]
    omega
end
end L2
namespace L2
section
open PySem PySem.Spec PyProof.Rows PySem.SeqAt
variable {X:Cx}
def rEqEn:R2:=fun x y H Q=>rEqRT x y H Q∨∃ (a b:Addr) (z z':Str) (r r':List V),x = .ref a∧y = .ref b∧H a = some (.tup (.str z :: r))∧H b = some (.tup (.str z' :: r'))∧z≠z'∧Q (.bl false) H
theorem op_eqEn (hu:X.A.units + 150 < cLine):OpR X (compareOp .Eq) rEqEn:=by
  intro pins s σ H x y v u Q I rx ry h
  rcases h with h | ⟨a,b,z,z',r,r',rfl,rfl,ha,hb,ne,q⟩
  · exact op_eqRT hu pins s σ H x y v u Q I rx ry h
  cases rx; cases ry
  obtain ⟨ys1,rv1,t1,_⟩:=I.tuple (SqT.of (K:=X.K) ha)
  obtain ⟨ys2,rv2,t2,_⟩:=I.tuple (SqT.of (K:=X.K) hb)
  cases rv1 with
  | cons r1 _=>
    cases rv2 with
    | cons q1 _=>
      obtain ⟨t,rfl⟩:=r1
      obtain ⟨t',rfl⟩:=q1
      have:=rc_neFst t1 t2 (show X.A.units < cLine by omega) (show EqAt X.A.in1 s (.str z t) (.str z' t') false from fun prog w E Q h=>by
        refine eqBool_str ?_
        rw [show (z == z') = false from beq_eq_false_iff_ne.mpr ne]
        exact h)
      exact this _ _ _ _ ⟨.bl _,H,I,rfl,q⟩
end
end L2
namespace L2
section
open PySem PySem.Calls PyProof.Rows PySem.Spec
def rDictK (K:PySem.W.Frag):List V→Hp→VK→Prop:=fun xs H Q=>∃ (a:Addr) (ps:List Addr) (kvs:List (Key×V)),xs = [.ref a]∧SqL K H a (ps.map V.ref)∧ps.length = kvs.length∧kvs.length≤100000∧(kvs.map (·.1)).Nodup∧
  (∀ (i:Nat) t k v,ps[i]? = some t→kvs[i]? = some (k,v)→H t = some (.tup [kV k,v]))∧∀ d,H d = none→Q (.ref d) (upd H d (.dK kvs))
abbrev PrK (p:Key×V) (q:Key×Value×Value):Prop:=p.1 = q.1∧RelV (kV p.1) q.2.1∧RelV p.2 q.2.2
theorem pairs_exK {X:Cx} {pins:List (Addr×Obj)} {σ:St} {H:Hp} {s:Shared} (I:Inv X pins σ H s):∀ (ps:List Addr) (kvs:List (Key×V)),ps.length = kvs.length→(∀ (i:Nat) t k v,ps[i]? = some t→kvs[i]? = some (k,v)→H t = some (.tup [kV k,v]))→
    ∃ xs:List (Key×Value×Value),Paired PrK kvs xs∧∀ (i:Nat) t,ps[i]? = some t→∃ q,xs[i]? = some q∧IsTup s.heap t #[q.2.1,q.2.2]
  | [],[],_,_=>⟨[],.nil,fun i t h=>by simp at h⟩
  | [],_ :: _,h,_=>by cases h
  | _ :: _,[],h,_=>by cases h
  | t :: ps,(k,v) :: kvs,ln,hp=>by
    obtain ⟨xs,r,a⟩:=pairs_exK I ps kvs (by simpa using ln) fun i t k v e1 e2=>hp (i + 1) t k v (by simpa using e1) (by simpa using e2)
    obtain ⟨_,its,rv,it⟩:=(show ObjOk X.prog X.w H s.heap t (.tup [kV k,v]) from I.hok t _ (hp 0 t k v rfl rfl))
    cases rv with
    | @cons _ wk _ _ ra rb=>
      cases rb with
      | @cons _ wv _ _ rb rc=>
        cases rc
        refine ⟨(k,wk,wv) :: xs,.cons ⟨rfl,ra,rb⟩ r,fun i t' e=>?_⟩
        cases i with
        | zero=>simp only [List.getElem?_cons_zero,Option.some.injEq] at e; subst e; exact ⟨_,rfl,it⟩
        | succ i=>exact a i t' (by simpa using e)
theorem kv_of {kvs:List (Key×V)} {xs:List (Key×Value×Value)} (h:Paired PrK kvs xs):KV kvs (xs.map fun q=>(q.1,q.2.2)):=by
  induction h with
  | nil=>exact .nil
  | cons r _ ih=>exact .cons ⟨r.1,r.2.2⟩ ih
theorem keys_of {kvs:List (Key×V)} {xs:List (Key×Value×Value)} (h:Paired PrK kvs xs):xs.map (·.1) = kvs.map (·.1):=by
  induction h with
  | nil=>rfl
  | cons r _ ih=>rw [List.map_cons,List.map_cons,ih,r.1]
theorem call_dictK {X:Cx} {K:PySem.W.Frag} (hK:X.K = K) (hc:X.calm = true):CallR X (.type "dict") (rDictK K):=by
  subst hK
  intro pins s σ H xs us Q I r h
  obtain ⟨a,ps,kvs,rfl,h1,ln,hz,nd,hp,q⟩:=h
  obtain ⟨u,rfl,ru⟩:=vals1 r
  cases ru
  obtain ⟨its,r1,⟨o1,n1,e1,c1,d1,s1⟩,_⟩:=I.list h1
  obtain ⟨xs,rx,tx⟩:=pairs_exK I ps kvs ln hp
  have lx:xs.length = kvs.length:=(Paired.length rx).symm
  have ndx:(xs.map (·.1)).Nodup:=by rw [keys_of rx]; exact nd
  have li:its.length = ps.length:=by have:=r1.length; rw [List.length_map] at this; exact this.symm
  obtain ⟨c,dd,da,sl⟩:=o1
  simp only at c1 d1 s1
  subst c1 d1 s1
  refine dict_call (A:=X.A) (I.ok.hd hc) ⟨n1,_,e1⟩ (D:=fun i h=>h.DictOf (mixKind X.prog X.w) s.heap.objs.size ((xs.take i).map fun q:Key×Value×Value=>(q.1,q.2.2))) (fun i h h' ⟨o,es,ep,z1,z2⟩ k=>⟨o,es,ep,k o z1,z2⟩) (fun h e=>?_) (fun i v e=>?_) fun h' tk k' z=>?_
  · obtain ⟨o,es,ep,z1,z2⟩:=(Heap.DictOf.new (knd:=mixKind X.prog X.w) s.heap)
    have e2:(s.heap.push { cls:=.type "dict",data:=.dict #[] }).get? s.heap.objs.size = some { cls:=.type "dict",data:=.dict #[] }:=Heap.get?_push_size _ rfl
    rw [e2] at z1
    cases z1
    exact ⟨_,es,ep,e,z2⟩
  · obtain ⟨t,et,rfl⟩:=refs_at r1 i v e
    obtain ⟨⟨k,wk,wv⟩,eq,ht⟩:=tx i t et
    refine ⟨t,wk,wv,rfl,ht,fun s2 Q2 E2 old hm hQ=>?_⟩
    have rk:RelV (kV k) wk:=by
      obtain ⟨p,_,e1,e2,_⟩:=paired_mem rx (List.mem_of_getElem? eq)
      rw [e1] at e2
      exact e2
    have ts:xs.take (i + 1) = xs.take i ++ [(k,wk,wv)]:=by rw [List.take_add_one,eq]; rfl
    have no:valueAt ((xs.take i).map fun q:Key×Value×Value=>(q.1,q.2.2)) k = none:=by
      unfold valueAt
      rw [Option.map_eq_none_iff,List.find?_eq_none]
      intro x hx z
      have e:=of_decide_eq_true z
      obtain ⟨y,hy,rfl⟩:=List.mem_map.mp hx
      have:=ndx.sublist ((List.take_sublist (i + 1) xs).map _)
      rw [ts,List.map_append,List.nodup_append] at this
      exact this.2.2 _ (List.mem_map.mpr ⟨y,hy,rfl⟩) k (by simp) e
    refine wpAny_dictSet_pairs (hsz:=?_) (k:=k) (kV_is rk) hm fun h' hm' sb=>hQ _ _ ?_ sb
    · rw [stored_absent no] at hm'
      rw [ts,List.map_append]
      exact hm'
    · rw [List.length_map,List.length_take,sizeLine_eq]; omega
  · have hb:=I.big
    rw [li,ln,← lx,List.take_length] at z
    refine ⟨.ref s.heap.objs.size,_,I.laid (o:=.dK kvs) k' (Nat.le_refl _) (dk_new (by rw [sizeLine_eq]; omega) ?_ (kv_of rx) z),rfl,q _ I.fresh⟩
    rw [beq_eq_false_iff_ne]
    exact Nat.ne_of_gt hb
end
end L2
set_option maxHeartbeats 4000000
namespace K59
open PySem L2
def top (i:Nat):Stmt:=PySem.Challenge.pw_stemshelf_k59_grafts.main.body.getD i (.Pass ⟨0,0,0,0⟩)
abbrev s_is_whole:Stmt:=top 1
theorem sc_is_whole:FnScope ["thing"] ["thing"] (defScope s_is_whole):=⟨rfl,rfl,rfl,by decide +kernel,rfl,by decide +kernel,by decide +kernel⟩
abbrev s_is_between:Stmt:=top 2
theorem sc_is_between:FnScope ["thing","least","most"] ["thing","least","most"] (defScope s_is_between):=⟨rfl,rfl,rfl,by decide +kernel,rfl,by decide +kernel,by decide +kernel⟩
abbrev s_is_tuple_of:Stmt:=top 3
theorem sc_is_tuple_of:FnScope ["thing","many"] ["thing","many"] (defScope s_is_tuple_of):=⟨rfl,rfl,rfl,by decide +kernel,rfl,by decide +kernel,by decide +kernel⟩
abbrev s_is_text:Stmt:=top 6
theorem sc_is_text:FnScope ["thing","least","most"] ["thing","least","most"] (defScope s_is_text):=⟨rfl,rfl,rfl,by decide +kernel,rfl,by decide +kernel,by decide +kernel⟩
abbrev s_is_name:Stmt:=top 17
theorem sc_is_name:FnScope ["thing"] ["thing"] (defScope s_is_name):=⟨rfl,rfl,rfl,by decide +kernel,rfl,by decide +kernel,by decide +kernel⟩
abbrev s_is_tag:Stmt:=top 18
theorem sc_is_tag:FnScope ["thing"] ["thing"] (defScope s_is_tag):=⟨rfl,rfl,rfl,by decide +kernel,rfl,by decide +kernel,by decide +kernel⟩
abbrev s_is_head:Stmt:=top 24
theorem sc_is_head:FnScope ["thing"] ["thing"] (defScope s_is_head):=⟨rfl,rfl,rfl,by decide +kernel,rfl,by decide +kernel,by decide +kernel⟩
abbrev s_are_keepers:Stmt:=top 25
theorem sc_are_keepers:FnScope ["thing"] ["thing"] (defScope s_are_keepers):=⟨rfl,rfl,rfl,by decide +kernel,rfl,by decide +kernel,by decide +kernel⟩
abbrev s_is_keeper:Stmt:=top 26
theorem sc_is_keeper:FnScope ["thing"] ["thing"] (defScope s_is_keeper):=⟨rfl,rfl,rfl,by decide +kernel,rfl,by decide +kernel,by decide +kernel⟩
abbrev s_are_rising:Stmt:=top 27
theorem sc_are_rising:FnScope ["named","names"] ["named"] (defScope s_are_rising):=⟨rfl,rfl,rfl,by decide +kernel,rfl,by decide +kernel,by decide +kernel⟩
abbrev s_are_names:Stmt:=top 28
theorem sc_are_names:FnScope ["thing"] ["thing"] (defScope s_are_names):=⟨rfl,rfl,rfl,by decide +kernel,rfl,by decide +kernel,by decide +kernel⟩
abbrev s_is_stem:Stmt:=top 29
theorem sc_is_stem:FnScope ["thing"] ["thing"] (defScope s_is_stem):=⟨rfl,rfl,rfl,by decide +kernel,rfl,by decide +kernel,by decide +kernel⟩
abbrev s_is_seal:Stmt:=top 30
theorem sc_is_seal:FnScope ["thing"] ["thing"] (defScope s_is_seal):=⟨rfl,rfl,rfl,by decide +kernel,rfl,by decide +kernel,by decide +kernel⟩
abbrev s_are_at_one:Stmt:=top 31
theorem sc_are_at_one:FnScope ["keepers","names","stems","seals","called","turns","begins"] ["keepers","names"] (defScope s_are_at_one):=⟨rfl,rfl,rfl,by decide +kernel,rfl,by decide +kernel,by decide +kernel⟩
abbrev s_one_called:Stmt:=top 33
theorem sc_one_called:FnScope ["some","name","one"] ["some","name"] (defScope s_one_called):=⟨rfl,rfl,rfl,by decide +kernel,rfl,by decide +kernel,by decide +kernel⟩
abbrev s_named_so:Stmt:=top 34
theorem sc_named_so:FnScope ["head","name","named"] ["head","name"] (defScope s_named_so):=⟨rfl,rfl,rfl,by decide +kernel,rfl,by decide +kernel,by decide +kernel⟩
abbrev s_stem_called:Stmt:=top 35
theorem sc_stem_called:FnScope ["head","name","stem"] ["head","name"] (defScope s_stem_called):=⟨rfl,rfl,rfl,by decide +kernel,rfl,by decide +kernel,by decide +kernel⟩
abbrev s_seal_called:Stmt:=top 36
theorem sc_seal_called:FnScope ["head","name","seal"] ["head","name"] (defScope s_seal_called):=⟨rfl,rfl,rfl,by decide +kernel,rfl,by decide +kernel,by decide +kernel⟩
abbrev s_seals_of:Stmt:=top 37
theorem sc_seals_of:FnScope ["head","stem","seals"] ["head","stem"] (defScope s_seals_of):=⟨rfl,rfl,rfl,by decide +kernel,rfl,by decide +kernel,by decide +kernel⟩
abbrev s_put_among:Stmt:=top 38
theorem sc_put_among:FnScope ["some","one","others"] ["some","one"] (defScope s_put_among):=⟨rfl,rfl,rfl,by decide +kernel,rfl,by decide +kernel,by decide +kernel⟩
abbrev s_with_named:Stmt:=top 39
theorem sc_with_named:FnScope ["head","named"] ["head","named"] (defScope s_with_named):=⟨rfl,rfl,rfl,by decide +kernel,rfl,by decide +kernel,by decide +kernel⟩
abbrev s_grafted:Stmt:=top 41
theorem sc_grafted:FnScope ["head","stem","graft","origin","parent","seal"] ["head","stem"] (defScope s_grafted):=⟨rfl,rfl,rfl,by decide +kernel,rfl,by decide +kernel,by decide +kernel⟩
abbrev s_with_origin:Stmt:=top 42
theorem sc_with_origin:FnScope ["stem","origin"] ["stem","origin"] (defScope s_with_origin):=⟨rfl,rfl,rfl,by decide +kernel,rfl,by decide +kernel,by decide +kernel⟩
abbrev s__law_cell_at:Stmt:=top 44
theorem sc__law_cell_at:FnScope ["_law_script","_law_k"] ["_law_script","_law_k"] (defScope s__law_cell_at):=⟨rfl,rfl,rfl,by decide +kernel,rfl,by decide +kernel,by decide +kernel⟩
abbrev s__law_row:Stmt:=top 45
theorem sc__law_row:FnScope ["_law_cell","_law_many","_law_found","_law_k","_law_number"] ["_law_cell","_law_many"] (defScope s__law_row):=⟨rfl,rfl,rfl,by decide +kernel,rfl,by decide +kernel,by decide +kernel⟩
abbrev s__law_names:Stmt:=top 46
theorem sc__law_names:FnScope ["_law_row_here","_law_many","_law_signs","_law_word","_law_at","_law_found","_law_k","_law_one"] ["_law_row_here","_law_many"] (defScope s__law_names):=⟨rfl,rfl,rfl,by decide +kernel,rfl,by decide +kernel,by decide +kernel⟩
abbrev s__law_head:Stmt:=top 47
theorem sc__law_head:FnScope ["_law_script","_law_names_here","_law_row_here","_law_stems","_law_seals","_law_k","_law_way","_law_at","_law_tag","_law_origin","_law_stem"] ["_law_script","_law_names_here"] (defScope s__law_head):=⟨rfl,rfl,rfl,by decide +kernel,rfl,by decide +kernel,by decide +kernel⟩
abbrev s__law_history:Stmt:=top 48
theorem sc__law_history:FnScope ["_law_head_here","_law_stem","_law_origin","_law_own","_law_other","_law_ahead"] ["_law_head_here","_law_stem"] (defScope s__law_history):=⟨rfl,rfl,rfl,by decide +kernel,rfl,by decide +kernel,by decide +kernel⟩
abbrev s__law_entry:Stmt:=top 49
theorem sc__law_entry:FnScope ["_law_head_here","_law_name"] ["_law_head_here","_law_name"] (defScope s__law_entry):=⟨rfl,rfl,rfl,by decide +kernel,rfl,by decide +kernel,by decide +kernel⟩
abbrev s__law_due:Stmt:=top 50
theorem sc__law_due:FnScope ["_law_head_here","_law_stem","_law_entry_here","_law_origin","_law_other","_law_found","_law_one"] ["_law_head_here","_law_stem"] (defScope s__law_due):=⟨rfl,rfl,rfl,by decide +kernel,rfl,by decide +kernel,by decide +kernel⟩
abbrev s_law:Stmt:=top 51
theorem sc_law:FnScope ["_law_script","_law_names_here","_law_head_here","_law_handed","_law_stems","_law_stem","_law_found","_law_name"] ["_law_script"] (defScope s_law):=⟨rfl,rfl,rfl,by decide +kernel,rfl,by decide +kernel,by decide +kernel⟩
structure Txt (K:PySem.W.Frag) (mg:Str→Option Value):Prop where
  b_all:mg "all" = none
  b_bool:mg "bool" = none
  b_dict:mg "dict" = none
  b_int:mg "int" = none
  b_isinstance:mg "isinstance" = none
  b_len:mg "len" = none
  b_list:mg "list" = none
  b_range:mg "range" = none
  b_set:mg "set" = none
  b_sorted:mg "sorted" = none
  b_str:mg "str" = none
  b_tuple:mg "tuple" = none
  c_SIGNS:∃ t,mg "SIGNS" = some (.str (PySem.Str.ofString " !\"#$&'()*+,-./0123456789:;<=>?@ABCDEFGHIJKLMNOPQRSTUVWXYZ[\\]^_`abcdefghijklmnopqrstuvwxyz{|}~") t)
  c_MOST_NUMBER:∃ t,mg "MOST_NUMBER" = some (.int 999999999 t)
  c_NAME_SIGNS:∃ t,mg "NAME_SIGNS" = some (.str (PySem.Str.ofString "0123456789abcdefghijklmnopqrstuvwxyz") t)
  c_MOST_NAME_SIGNS:∃ t,mg "MOST_NAME_SIGNS" = some (.int 8 t)
  c_MOST_CELL:∃ t,mg "MOST_CELL" = some (.int 999999 t)
  c_MOST_BIRTH:∃ t,mg "MOST_BIRTH" = some (.int 999999999 t)
  c_SUM_RESTS:∃ t,mg "SUM_RESTS" = some (.int 997 t)
  c_STEM:∃ t,mg "STEM" = some (.int 1 t)
  c_SEAL:∃ t,mg "SEAL" = some (.int 2 t)
  c_MOST_KEEPERS:∃ t,mg "MOST_KEEPERS" = some (.int 8 t)
  c_MOST_NAMES:∃ t,mg "MOST_NAMES" = some (.int 24 t)
abbrev EM:Str:=PySem.Str.ofString ""
inductive En where
  | st (nm kp og:Str) (t:Int×Int×Int)
  | sl (nm sm:Str) (tn:Int) (t:Int×Int×Int)
def En.nm:En→Str
  | .st nm _ _ _=>nm
  | .sl nm _ _ _=>nm
def En.tg:En→Int×Int×Int
  | .st _ _ _ t=>t
  | .sl _ _ _ t=>t
def En.turn:En→Int
  | .sl _ _ tn _=>tn
  | _=>0
def En.isS:En→Bool
  | .st _ _ _ _=>true
  | _=>false
def En.isSl (sm:Str):En→Bool
  | .sl _ s _ _=>decide (s = sm)
  | _=>false
def En.items (ta:Addr):En→List V
  | .st nm kp og _=>[.str nm,.int 1,.str kp,.str og,.ref ta]
  | .sl nm sm tn _=>[.str nm,.int 2,.str sm,.int tn,.ref ta]
def tgV (t:Int×Int×Int):List V:=[.int t.1,.int t.2.1,.int t.2.2]
def EnAt (H:Hp) (p:Addr×En):Prop:=∃ ta,H ta = some (.tup (tgV p.2.tg))∧H p.1 = some (.tup (p.2.items ta))
theorem EnAt.get {H H':Hp} {p:Addr×En} (h:EnAt H p) (k:∀ b xs,H b = some (.tup xs)→H' b = some (.tup xs)):EnAt H' p:=by
  obtain ⟨ta,h1,h2⟩:=h
  exact ⟨ta,k _ _ h1,k _ _ h2⟩
theorem EnAt.same {H H':Hp} {p:Addr×En} (h:EnAt H p) (s:Same H H'):EnAt H' p:=h.get fun _ _ e=>s.get e
theorem EnAt.fst {H:Hp} {p:Addr×En} (h:EnAt H p):∃ r,H p.1 = some (.tup (.str p.2.nm :: r)):=by
  obtain ⟨ta,_,h2⟩:=h
  obtain ⟨a,e⟩:=p
  cases e <;> exact ⟨_,h2⟩
structure HeadAt (H:Hp) (h:Addr) (ag:Int) (k n:Addr) (ps:List (Addr×En)):Prop where
  at_:H h = some (.tup [.int ag,.ref k,.ref n])
  nm:H n = some (.tup (ps.map fun p=>V.ref p.1))
  en:∀ p∈ps,EnAt H p
theorem HeadAt.get {H H':Hp} {h:Addr} {ag:Int} {k n:Addr} {ps:List (Addr×En)} (x:HeadAt H h ag k n ps) (g:∀ b xs,H b = some (.tup xs)→H' b = some (.tup xs)):HeadAt H' h ag k n ps:=
  ⟨g _ _ x.at_,g _ _ x.nm,fun p hp=>(x.en p hp).get g⟩
theorem HeadAt.same {H H':Hp} {h:Addr} {ag:Int} {k n:Addr} {ps:List (Addr×En)} (x:HeadAt H h ag k n ps) (s:Same H H'):HeadAt H' h ag k n ps:=x.get fun _ _ e=>s.get e
abbrev Nms (ps:List (Addr×En)):Prop:=(ps.map fun p=>p.2.nm).Nodup
theorem nd_inj {α β:Type} {f:α→β}:∀ {l:List α},(l.map f).Nodup→∀ {x y:α},x∈l→y∈l→f x = f y→x = y
  | [],_,x,_,hx,_,_=>nomatch hx
  | a :: l,nd,x,y,hx,hy,e=>by
    rw [List.map_cons,List.nodup_cons] at nd
    rcases List.mem_cons.mp hx with e1 | h1
    · rcases List.mem_cons.mp hy with e2 | h2
      · rw [e1,e2]
      · exact absurd (List.mem_map.mpr ⟨y,h2,by rw [← e,e1]⟩) nd.1
    · rcases List.mem_cons.mp hy with e2 | h2
      · exact absurd (List.mem_map.mpr ⟨x,h1,by rw [e,e2]⟩) nd.1
      · exact nd_inj nd.2 h1 h2 e
theorem perm_lift {α β:Type} {f:α→β} {us vs:List β} (h:us.Perm vs):∀ {qs:List α},vs = qs.map f→∃ us':List α,us'.Perm qs∧us'.map f = us:=by
  induction h with
  | nil=>intro qs e; exact ⟨[],by rw [List.map_eq_nil_iff.mp e.symm],rfl⟩
  | cons x _ ih=>
    intro qs e
    cases qs with
    | nil=>cases e
    | cons q qs=>
      rw [List.map_cons] at e
      injection e with e1 e2
      obtain ⟨us',h1,h2⟩:=ih e2
      exact ⟨q :: us',h1.cons q,by rw [List.map_cons,h2,e1]⟩
  | swap x y l=>
    intro qs e
    cases qs with
    | nil=>cases e
    | cons q qs=>
      cases qs with
      | nil=>cases e
      | cons q' qs=>
        rw [List.map_cons,List.map_cons] at e
        injection e with e1 e2
        injection e2 with e2 e3
        exact ⟨q' :: q :: qs,List.Perm.swap _ _ _,by rw [List.map_cons,List.map_cons,e1,e2,e3]⟩
  | trans _ _ ih1 ih2=>
    intro qs e
    obtain ⟨a,h1,h2⟩:=ih2 e
    obtain ⟨b,h3,h4⟩:=ih1 h2.symm
    exact ⟨b,h3.trans h1,h4⟩
section
variable {P:Program} {w:World} {K:PySem.W.Frag} {mg:Str→Option Value} {base:Heap} {f:Addr} {fd:FuncData} {PT:Addr}
def sp_one_called (K:PySem.W.Frag):Sp:=fun vs H Q _=>∃ (n:Addr) (ps:List (Addr×En)) (p:Addr×En),vs = [.ref n,.str p.2.nm]∧H n = some (.tup (ps.map fun p=>V.ref p.1))∧(∀ p∈ps,EnAt H p)∧Nms ps∧p∈ps∧Q (.ref p.1) H
theorem ok_one_called (T:Txt K mg) (F:Fun K "one_called" "one_called" s_one_called f fd):FnOk P w K mg base CX0 1 f fd ["some","name"] (sp_one_called K):=by
  refine F.ok sc_one_called (fun vs H Q E h=>?_) (fun cdv A outer s H vs Q E hr h=>?_)
  · obtain ⟨n,ps,p,rfl,_⟩:=h
    rfl
  obtain ⟨n,ps,p,rfl,hn,he,nd,hp,q⟩:=h
  refine ⟨_,(@pss_cons _ _ _ _ _ (@ps_for _ _ _ _ _ _ _ _ PassesOwn.never rfl (@pi_tup _ _ _ _ (pv 0)) (@pg_name _ _ (2) _ sc_one_called.nd rfl (by first | exact Or.inl rfl | exact Or.inr rfl) (by first | exact .inl rfl | exact .inr rfl | assumption)) (@pss_one _ _ _ (@ps_if _ _ _ _ _ _ _ _ (@pt_cmpR _ _ _ _ _ _ _ _ op_eq (@pe_ix _ _ _ _ _ _ _ ix_tup (pv 2) (@pe_int _ _ _ _) (fun _ _=>rfl)) (pv 1) (nomark _)) (@pss_one _ _ _ (@ps_ret _ _ _ _ (pv 2))) (@pss_nil _))) (by intro _; rfl)) (@pss_one _ _ _ (@ps_ret _ _ _ _ (@pe_non _ _ _)))),?_⟩
  try dsimp only [cxOf,Cx.nox,Cx.wish]
  refine ⟨_,rfl,n,rfl,⟨_,SqT.of hn⟩,for_tup (K:=K) (a:=n) (xs:=ps.map fun p=>V.ref p.1) (fun i σ H2=>H2 = H∧(∃ v,σ = [some (.ref n),some (.str p.2.nm),v])∧∀ j q,j < i→ps[j]? = some q→q≠p) ⟨rfl,⟨none,rfl⟩,fun j q hj=>absurd hj (Nat.not_lt_zero _)⟩ (fun i σ H2 _ ⟨e,_⟩=>by rw [e]; exact SqT.of hn) ?_ ?_⟩
  · rintro i x σ H2 hi ⟨rfl,⟨v,rfl⟩,no⟩
    rw [List.getElem?_map] at hi
    obtain ⟨q',hq,rfl⟩:=Option.map_eq_some_iff.mp hi
    have hm:=List.mem_of_getElem? hq
    obtain ⟨r,hr1⟩:=(he q' hm).fst
    refine ⟨_,rfl,q'.1,_,_,_,rfl,rfl,SqT.of hr1,atI_nat (j:=0) rfl,_,rfl,rfl,_,rfl,ite2 (fun c=>?_) (fun c=>?_)⟩
    · have e:=V.str.inj (dec_true c)
      rw [← nd_inj nd hm hp e] at q
      exact ⟨_,rfl,q⟩
    · refine ⟨rfl,⟨_,rfl⟩,fun j q2 hj hq2 e=>?_⟩
      rcases Nat.lt_succ_iff_lt_or_eq.mp hj with h | rfl
      · exact no j q2 h hq2 e
      · rw [hq] at hq2
        cases hq2
        exact dec_false c (by rw [e])
  · rintro σ H2 ⟨rfl,_,no⟩
    obtain ⟨j,hj⟩:=List.getElem?_of_mem hp
    rw [List.length_map] at no
    exact absurd rfl (no j p (List.getElem?_eq_some_iff.mp hj).1 hj)
def sp_named_so (K:PySem.W.Frag):Sp:=fun vs H Q _=>∃ (h:Addr) (ag:Int) (k n:Addr) (ps:List (Addr×En)) (p:Addr×En),vs = [.ref h,.str p.2.nm]∧HeadAt H h ag k n ps∧Nms ps∧p∈ps∧Q (.ref p.1) H
theorem ok_named_so (T:Txt K mg) (F:Fun K "named_so" "named_so" s_named_so f fd) (D_one_called:Def P w K mg base 1 "one_called" ["some","name"] (sp_one_called K)):FnOk P w K mg base CX0 2 f fd ["head","name"] (sp_named_so K):=by
  refine F.ok sc_named_so (fun vs H Q E h=>?_) (fun cdv A outer s H vs Q E hr h=>?_)
  · obtain ⟨h,ag,k,n,ps,p,rfl,_⟩:=h
    rfl
  obtain ⟨h,ag,k,n,ps,p,rfl,hd,nd,hp,q⟩:=h
  refine ⟨_,(@pss_cons _ _ _ _ _ (@ps_set _ _ (2) _ _ _ _ sc_named_so.nd rfl (by first | exact Or.inl rfl | exact Or.inr rfl) (@pe_fn _ _ _ _ _ _ _ _ _ _ D_one_called (hr.mono (by decide)) rfl (@pa_cons _ _ _ _ _ (@pe_ix _ _ _ _ _ _ _ ix_tup (pv 0) (@pe_int _ _ _ _) (fun _ _=>rfl)) (@pa_cons _ _ _ _ _ (pv 1) (@pa_nil _) (by rfl)) (by rfl)) (by decide) (by rfl) (by rfl)) (by rfl) (by first | exact .inl rfl | exact .inr rfl | assumption)) (@pss_cons _ _ _ _ _ (@ps_if _ _ _ _ _ _ _ _ (@pt_cmp _ _ _ _ _ _ (@pc_isN _ _ _ _ _ (pv 2)) (by first | exact nobehind _ (by decide) (by decide) | rfl)) (@pss_one _ _ _ (@ps_never _ _)) (@pss_nil _)) (@pss_one _ _ _ (@ps_ret _ _ _ _ (pv 2))))),?_⟩
  try dsimp only [cxOf,Cx.nox,Cx.wish]
  refine ⟨_,rfl,h,_,_,_,rfl,rfl,SqT.of hd.at_,atI_nat (j:=2) rfl,_,rfl,n,ps,p,rfl,hd.nm,hd.en,nd,hp,?_⟩
  exact ⟨_,rfl,_,rfl,iteFc (decide_eq_false fun e=>by cases e) ⟨_,rfl,q⟩⟩
def sp_stem_called (K:PySem.W.Frag):Sp:=fun vs H Q _=>∃ (h:Addr) (ag:Int) (k n:Addr) (ps:List (Addr×En)) (a:Addr) (nm kp og:Str) (t:Int×Int×Int),vs = [.ref h,.str nm]∧HeadAt H h ag k n ps∧Nms ps∧(a,En.st nm kp og t)∈ps∧Q (.ref a) H
theorem ok_stem_called (T:Txt K mg) (F:Fun K "stem_called" "stem_called" s_stem_called f fd) (D_named_so:Def P w K mg base 2 "named_so" ["head","name"] (sp_named_so K)):FnOk P w K mg base CX0 3 f fd ["head","name"] (sp_stem_called K):=by
  refine F.ok sc_stem_called (fun vs H Q E h=>?_) (fun cdv A outer s H vs Q E hr h=>?_)
  · obtain ⟨h,ag,k,n,ps,a,nm,kp,og,t,rfl,_⟩:=h
    rfl
  obtain ⟨h,ag,k,n,ps,a,nm,kp,og,t,rfl,hd,nd,hp,q⟩:=h
  refine ⟨_,(@pss_cons _ _ _ _ _ (@ps_set _ _ (2) _ _ _ _ sc_stem_called.nd rfl (by first | exact Or.inl rfl | exact Or.inr rfl) (@pe_fn _ _ _ _ _ _ _ _ _ _ D_named_so (hr.mono (by decide)) rfl (@pa_cons _ _ _ _ _ (pv 0) (@pa_cons _ _ _ _ _ (pv 1) (@pa_nil _) (by rfl)) (by rfl)) (by decide) (by rfl) (by rfl)) (by rfl) (by first | exact .inl rfl | exact .inr rfl | assumption)) (@pss_cons _ _ _ _ _ (@ps_if _ _ _ _ _ _ _ _ (@pt_cmpR _ _ _ _ _ _ _ _ op_ne (@pe_ix _ _ _ _ _ _ _ ix_tup (pv 2) (@pe_int _ _ _ _) (fun _ _=>rfl)) (@pe_globI _ _ _ _ rfl T.c_STEM (by decide)) (nomark _)) (@pss_one _ _ _ (@ps_never _ _)) (@pss_nil _)) (@pss_one _ _ _ (@ps_ret _ _ _ _ (pv 2))))),?_⟩
  try dsimp only [cxOf,Cx.nox,Cx.wish]
  obtain ⟨ta,_,ha⟩:=hd.en _ hp
  refine ⟨_,rfl,_,rfl,h,ag,k,n,ps,_,rfl,hd,nd,hp,?_⟩
  exact ⟨_,rfl,a,_,_,_,rfl,rfl,SqT.of ha,atI_nat (j:=1) rfl,rfl,_,rfl,iteFc rfl ⟨_,rfl,q⟩⟩
def sp_seal_called (K:PySem.W.Frag):Sp:=fun vs H Q _=>∃ (h:Addr) (ag:Int) (k n:Addr) (ps:List (Addr×En)) (a:Addr) (nm sm:Str) (tn:Int) (t:Int×Int×Int),vs = [.ref h,.str nm]∧HeadAt H h ag k n ps∧Nms ps∧(a,En.sl nm sm tn t)∈ps∧Q (.ref a) H
theorem ok_seal_called (T:Txt K mg) (F:Fun K "seal_called" "seal_called" s_seal_called f fd) (D_named_so:Def P w K mg base 2 "named_so" ["head","name"] (sp_named_so K)):FnOk P w K mg base CX0 3 f fd ["head","name"] (sp_seal_called K):=by
  refine F.ok sc_seal_called (fun vs H Q E h=>?_) (fun cdv A outer s H vs Q E hr h=>?_)
  · obtain ⟨h,ag,k,n,ps,a,nm,sm,tn,t,rfl,_⟩:=h
    rfl
  obtain ⟨h,ag,k,n,ps,a,nm,sm,tn,t,rfl,hd,nd,hp,q⟩:=h
  refine ⟨_,(@pss_cons _ _ _ _ _ (@ps_set _ _ (2) _ _ _ _ sc_seal_called.nd rfl (by first | exact Or.inl rfl | exact Or.inr rfl) (@pe_fn _ _ _ _ _ _ _ _ _ _ D_named_so (hr.mono (by decide)) rfl (@pa_cons _ _ _ _ _ (pv 0) (@pa_cons _ _ _ _ _ (pv 1) (@pa_nil _) (by rfl)) (by rfl)) (by decide) (by rfl) (by rfl)) (by rfl) (by first | exact .inl rfl | exact .inr rfl | assumption)) (@pss_cons _ _ _ _ _ (@ps_if _ _ _ _ _ _ _ _ (@pt_cmpR _ _ _ _ _ _ _ _ op_ne (@pe_ix _ _ _ _ _ _ _ ix_tup (pv 2) (@pe_int _ _ _ _) (fun _ _=>rfl)) (@pe_globI _ _ _ _ rfl T.c_SEAL (by decide)) (nomark _)) (@pss_one _ _ _ (@ps_never _ _)) (@pss_nil _)) (@pss_one _ _ _ (@ps_ret _ _ _ _ (pv 2))))),?_⟩
  try dsimp only [cxOf,Cx.nox,Cx.wish]
  obtain ⟨ta,_,ha⟩:=hd.en _ hp
  refine ⟨_,rfl,_,rfl,h,ag,k,n,ps,_,rfl,hd,nd,hp,?_⟩
  exact ⟨_,rfl,a,_,_,_,rfl,rfl,SqT.of ha,atI_nat (j:=1) rfl,rfl,_,rfl,iteFc rfl ⟨_,rfl,q⟩⟩
abbrev LQ:Str:=PySem.Str.ofString "seals_of" ++ PySem.Str.ofString ".<locals>." ++ PySem.Str.ofString "<lambda>"
abbrev LP:Pos:=⟨102,29,102,49⟩
def sp_seals_of (K:PySem.W.Frag) (PT:Addr):Sp:=fun vs H Q _=>∃ (h:Addr) (sm:Str) (ag:Int) (k n:Addr) (ps:List (Addr×En)),vs = [.ref h,.str sm]∧HeadAt H h ag k n ps∧ps.length < 64∧((ps.filter fun p=>p.2.isSl sm).map fun p=>p.2.turn).Nodup∧TabH PT LQ LP H∧
  ∀ (us:List (Addr×En)) l H',us.Perm (ps.filter fun p=>p.2.isSl sm)→us.Pairwise (fun x y=>x.2.turn < y.2.turn)→SameT PT H H'→TabH PT LQ LP H'→H l = none→H' l = some (.lst (us.map fun p=>V.ref p.1))→Q (.ref l) H'
theorem ok_seals_of (T:Txt K mg) (F:Fun K "seals_of" "seals_of" s_seals_of f fd) (LA:LamAt K mg base fd.code PT):FnOk P w K mg base CX0 1 f fd ["head","stem"] (sp_seals_of K PT):=by
  refine F.okC sc_seals_of (fun vs H Q E h=>?_) (fun cdv A outer s H vs Q E hcd hr h=>?_)
  · obtain ⟨h,sm,ag,k,n,ps,rfl,_⟩:=h
    rfl
  subst hcd
  obtain ⟨h,sm,ag,k,n,ps,rfl,hd,few,nd,tb,q⟩:=h
  refine ⟨_,(@pss_cons _ _ _ _ _ (@ps_setC _ ["named","stem"] [none,some 1] (2) _ _ _ _ _ _ _ _ _ _ _ _ _ _ sc_seals_of.nd rfl (by first | exact Or.inl rfl | exact Or.inr rfl) rfl (@pi_tup _ _ _ _ (@pe_ix _ _ _ _ _ _ _ ix_tup (pv 0) (@pe_int _ _ _ _) (fun _ _=>rfl))) (by rfl) rfl (by repeat (first | exact trivial | refine ⟨rfl,?_⟩)) (by repeat (first | exact trivial | refine ⟨fun h=>(by first | exact ⟨_,rfl⟩ | cases h),?_⟩)) (fun C s H fp=>⟨(@pg_name _ _ (0) _ (show (["named","stem"]:List Str).Nodup by decide +kernel) rfl (by first | exact Or.inl rfl | exact Or.inr rfl) (by first | exact .inl rfl | exact .inr rfl | assumption)),(@pifs_one _ _ _ (@PW.pt _ _ _ (@pw_and _ _ _ _ _ _ _ (@pt_cmpR _ _ _ _ _ _ _ _ op_eq (@pe_ix _ _ _ _ _ _ _ (ix_tupK (K:=K) (by rfl)) (pv 0) (@pe_int _ _ _ _) (fun _ _=>rfl)) (@pe_globI _ _ _ _ rfl T.c_SEAL (by decide)) (nomark _)) (@pw_and1 _ _ _ _ (@pt_cmpR _ _ _ _ _ _ _ _ op_eq (@pe_ix _ _ _ _ _ _ _ (ix_tupK (K:=K) (by rfl)) (pv 0) (@pe_int _ _ _ _) (fun _ _=>rfl)) (pv 1) (nomark _)))))),(pv 0)⟩) (by intro _; rfl) (by rfl) (by first | exact .inl rfl | exact .inr rfl | assumption)) (@pss_one _ _ _ (@ps_ret _ _ _ _ (@pe_sortK _ _ _ _ _ _ (3) _ _ _ _ _ _ _ _ _ _ (hr.mono (Nat.le_refl _)) ⟨fun _ _ _ _ _ _=>rfl,fun _=>rfl,fun _=>rfl,rfl,rfl,rfl,rfl,by decide,by decide⟩ LA (by decide) rfl rfl T.b_sorted (@pa_cons _ _ _ _ _ (pv 2) (@pa_nil _) (by rfl)) (by rfl) (by rfl))))),?_⟩
  try dsimp only [cxOf,Cx.nox,Cx.wish]
  refine ⟨_,rfl,h,_,_,_,rfl,rfl,SqT.of hd.at_,atI_nat (j:=2) rfl,n,rfl,⟨_,SqT.of hd.nm⟩,?_⟩
  refine comp_selF (ps:=ps) (g:=fun p=>V.ref p.1) (fun p=>p.2.isSl sm) (fun p=>V.ref p.1) (itIs_tup hd.nm) (by omega) (fun p hp H' R s' hR=>?_) (fun p hp hs H' R s' hR=>⟨_,rfl,hR H' (Same.refl _)⟩) fun l H7 n7 s7 h7=>?_
  · obtain ⟨a,e⟩:=p
    obtain ⟨ta,_,ha⟩:=hd.en _ hp
    have ha':=s'.get ha
    cases e with
    | st nm kp og t=>exact ⟨_,rfl,a,_,_,_,rfl,rfl,SqT.of ha',atI_nat (j:=1) rfl,rfl,_,rfl,iteFc rfl hR⟩
    | sl nm sm' tn t=>exact ⟨_,rfl,a,_,_,_,rfl,rfl,SqT.of ha',atI_nat (j:=1) rfl,rfl,_,rfl,iteTc rfl ⟨_,rfl,a,_,_,_,rfl,rfl,SqT.of ha',atI_nat (j:=2) rfl,_,rfl,rfl,_,rfl,by
        have e:decide (V.str sm' = V.str sm) = (En.sl nm sm' tn t).isSl sm:=by
          show _ = decide (sm' = sm)
          by_cases z:sm' = sm
          · rw [decide_eq_true z,decide_eq_true (by rw [z])]
          · rw [decide_eq_false z,decide_eq_false fun y=>z (V.str.inj y)]
        rw [e]
        exact hR⟩⟩
  have lf:=List.length_filter_le (fun p:Addr×En=>p.2.isSl sm) ps
  have sl_of:∀ p∈ps.filter (fun p=>p.2.isSl sm),p∈ps∧∃ nm tn t,p.2 = .sl nm sm tn t:=fun p hp=>by
    obtain ⟨h1,h2⟩:=List.mem_filter.mp hp
    refine ⟨h1,?_⟩
    cases e:p.2 with
    | st nm kp og t=>rw [e] at h2; cases h2
    | sl nm sm' tn t=>
      rw [e] at h2
      rw [of_decide_eq_true h2]
      exact ⟨_,_,_,rfl⟩
  generalize ps.filter (fun p=>p.2.isSl sm) = qs at h7 nd q lf sl_of
  refine ⟨_,rfl,l,qs.map fun p=>(p.1,p.2.turn),rfl,SqL.of (by rw [List.map_map]; exact h7),by rw [List.length_map]; omega,fun t ht=>?_,by rw [List.map_map]; exact nd,tb.same s7,fun us p H2 up us2 st tb2 np=>?_⟩
  · obtain ⟨p,hp,rfl⟩:=List.mem_map.mp ht
    obtain ⟨h1,nm,tn,t,e⟩:=sl_of p hp
    obtain ⟨ta,_,ha⟩:=hd.en _ h1
    refine ⟨_,SqT.of (s7.get ha),?_⟩
    rw [e]
    rfl
  · obtain ⟨us',p1,rfl⟩:=perm_lift up rfl
    rw [List.map_map]
    refine q us' p _ p1 (by rw [List.pairwise_map] at us2; exact us2) (((s7.t PT).trans st).trans ((same_new np _).t PT)) (tb2.same (same_new np _)) ?_ upd_same
    exact ((s7.t PT).trans st).free tb2 np
end
theorem uniq_sorted:∀ {l1 l2:List En},l1.Perm l2→l1.Pairwise (fun x y=>x.turn < y.turn)→l2.Pairwise (fun x y=>x.turn < y.turn)→l1 = l2
  | [],l2,h,_,_=>(List.nil_perm.mp h).symm
  | a :: r1,[],h,_,_=>by have:=h.length_eq; cases this
  | a :: r1,b :: r2,h,p1,p2=>by
    rw [List.pairwise_cons] at p1 p2
    by_cases e:a = b
    · subst e
      rw [uniq_sorted (List.Perm.cons_inv h) p1.2 p2.2]
    · have ha:a∈b :: r2:=h.mem_iff.mp List.mem_cons_self
      have hb:b∈a :: r1:=h.mem_iff.mpr List.mem_cons_self
      have h1:=(List.mem_cons.mp ha).resolve_left e
      have h2:=(List.mem_cons.mp hb).resolve_left fun z=>e z.symm
      have:=p1.1 b h2
      have:=p2.1 a h1
      omega
theorem ins_sorted (x:En):∀ (l:List En),l.Pairwise (fun x y=>x.turn < y.turn)→(∀ y∈l,x.turn≠y.turn)→∃ l':List En,l'.Perm (x :: l)∧l'.Pairwise (fun x y=>x.turn < y.turn)
  | [],_,_=>⟨[x],List.Perm.refl _,List.pairwise_singleton _ _⟩
  | a :: r,p,hx=>by
    rw [List.pairwise_cons] at p
    by_cases c:x.turn < a.turn
    · refine ⟨x :: a :: r,List.Perm.refl _,List.pairwise_cons.mpr ⟨fun y hy=>?_,List.pairwise_cons.mpr p⟩⟩
      rcases List.mem_cons.mp hy with rfl | hy
      · exact c
      · have:=p.1 y hy
        omega
    · obtain ⟨l',h1,h2⟩:=ins_sorted x r p.2 fun y hy=>hx y (List.mem_cons_of_mem _ hy)
      refine ⟨a :: l',(h1.cons a).trans (List.Perm.swap _ _ _),List.pairwise_cons.mpr ⟨fun y hy=>?_,h2⟩⟩
      rcases List.mem_cons.mp (h1.mem_iff.mp hy) with rfl | hy
      · have:=hx a List.mem_cons_self
        omega
      · exact p.1 y hy
theorem ex_sorted:∀ (l:List En),(l.map En.turn).Nodup→∃ l':List En,l'.Perm l∧l'.Pairwise (fun x y=>x.turn < y.turn)
  | [],_=>⟨[],List.Perm.refl _,List.Pairwise.nil⟩
  | x :: l,nd=>by
    rw [List.map_cons,List.nodup_cons] at nd
    obtain ⟨l',h1,h2⟩:=ex_sorted l nd.2
    obtain ⟨l2,h3,h4⟩:=ins_sorted x l' h2 fun y hy e=>nd.1 (List.mem_map.mpr ⟨y,h1.mem_iff.mp hy,e.symm⟩)
    exact ⟨l2,h3.trans (h1.cons x),h4⟩
open Classical in
noncomputable def own (es:List En) (nm:Str):List Str:=if h:∃ us:List En,us.Perm (es.filter fun e=>e.isSl nm)∧us.Pairwise (fun x y=>x.turn < y.turn) then (choose h).map En.nm else []
theorem own_eq {es us:List En} {nm:Str} (h1:us.Perm (es.filter fun e=>e.isSl nm)) (h2:us.Pairwise (fun x y=>x.turn < y.turn)):us.map En.nm = own es nm:=by
  have h:∃ us:List En,us.Perm (es.filter fun e=>e.isSl nm)∧us.Pairwise (fun x y=>x.turn < y.turn):=⟨us,h1,h2⟩
  unfold own
  rw [dif_pos h]
  obtain ⟨g1,g2⟩:=Classical.choose_spec h
  rw [uniq_sorted (h1.trans g1.symm) h2 g2]
def cutTo (og:Str):List Str→List Str
  | []=>[]
  | x :: r=>if x = og then [x] else x :: cutTo og r
theorem cut_at {og:Str}:∀ {h:List Str},og∈h→∃ j:Nat,h[j]? = some og∧(∀ m,m < j→h[m]?≠some og)∧h.take (j + 1) = cutTo og h
  | [],hm=>nomatch hm
  | x :: r,hm=>by
    by_cases e:x = og
    · exact ⟨0,by rw [e]; rfl,fun m hm=>absurd hm (Nat.not_lt_zero _),by show [x] = if x = og then [x] else _; rw [if_pos e]⟩
    · obtain ⟨j,h1,h2,h3⟩:=cut_at (h:=r) ((List.mem_cons.mp hm).resolve_left fun z=>e z.symm)
      refine ⟨j + 1,h1,fun m hm=>?_,?_⟩
      · cases m with
        | zero=>exact fun z=>e (Option.some.inj z)
        | succ m=>exact h2 m (by omega)
      · show x :: r.take (j + 1) = if x = og then [x] else x :: cutTo og r
        rw [if_neg e,h3]
inductive Hist (es:List En):Str→List Str→Nat→Prop
  | root {nm kp:Str} {t:Int×Int×Int} {n:Nat}:En.st nm kp EM t∈es→Hist es nm (own es nm) n
  | up {nm kp og sm:Str} {t t':Int×Int×Int} {tn:Int} {h:List Str} {n:Nat}:En.st nm kp og t∈es→og≠EM→En.sl og sm tn t'∈es→Hist es sm h n→og∈h→Hist es nm (cutTo og h ++ own es nm) (n + 1)
theorem Hist.mono {es:List En} {nm:Str} {h:List Str} {n:Nat} (x:Hist es nm h n):∀ {m:Nat},n≤m→Hist es nm h m:=by
  induction x with
  | root h=>intro m _; exact .root h
  | up h1 h2 h3 _ h5 ih=>
    intro m hm
    obtain ⟨k,rfl⟩:∃ k,m = k + 1:=⟨m - 1,by omega⟩
    exact .up h1 h2 h3 (ih (by omega)) h5
theorem Hist.own {es:List En} {nm:Str} {h:List Str} {n:Nat} (x:Hist es nm h n):∃ pre,h = pre ++ own es nm:=by
  cases x with
  | root h=>exact ⟨[],rfl⟩
  | up h1 h2 h3 _ h5=>exact ⟨_,rfl⟩
structure Good (es:List En):Prop where
  nms:(es.map En.nm).Nodup
  tns:((es.filter fun e=>!e.isS).map En.turn).Nodup
  rk:∃ rk:Str→Nat,∀ nm kp og t,En.st nm kp og t∈es→rk nm≤20∧(og = EM∨∃ sm tn t' kp' og' t'',En.sl og sm tn t'∈es∧En.st sm kp' og' t''∈es∧rk sm < rk nm)
theorem slOf_sub {es:List En} {nm:Str} (nd:((es.filter fun e=>!e.isS).map En.turn).Nodup):((es.filter fun e=>e.isSl nm).map En.turn).Nodup:=by
  refine List.Nodup.sublist (List.Sublist.map _ ?_) nd
  induction es with
  | nil=>exact List.Sublist.refl _
  | cons e es ih=>
    have ih:=ih (by
      rw [List.filter_cons] at nd
      split at nd
      · exact (List.nodup_cons.mp nd).2
      · exact nd)
    rw [List.filter_cons,List.filter_cons]
    cases e with
    | st a b c d=>exact ih
    | sl a b c d=>
      show List.Sublist (if (decide (b = nm)) = true then _ else _) (_ :: _)
      split
      · exact ih.cons_cons _
      · exact ih.cons _
theorem Good.hist {es:List En} (g:Good es):∀ {nm kp og:Str} {t:Int×Int×Int},En.st nm kp og t∈es→∃ h,Hist es nm h 20:=by
  obtain ⟨rk,hrk⟩:=g.rk
  have all:∀ (k:Nat) {nm kp og:Str} {t:Int×Int×Int},rk nm≤k→En.st nm kp og t∈es→∃ h,Hist es nm h (rk nm):=by
    intro k
    induction k with
    | zero=>
      intro nm kp og t hk hm
      rcases (hrk _ _ _ _ hm).2 with rfl | ⟨_,_,_,_,_,_,_,_,h⟩
      · exact ⟨_,.root hm⟩
      · omega
    | succ k ih=>
      intro nm kp og t hk hm
      rcases (hrk _ _ _ _ hm).2 with rfl | ⟨sm,tn,t',kp',og',t'',h1,h2,h3⟩
      · exact ⟨_,.root hm⟩
      · by_cases e:og = EM
        · subst e
          exact ⟨_,.root hm⟩
        obtain ⟨h,hh⟩:=ih (by omega) h2
        obtain ⟨us,u1,u2⟩:=ex_sorted _ (slOf_sub (nm:=sm) g.tns)
        have mo:og∈own es sm:=by
          rw [← own_eq u1 u2]
          exact List.mem_map.mpr ⟨_,u1.mem_iff.mpr (List.mem_filter.mpr ⟨h1,decide_eq_true rfl⟩),rfl⟩
        obtain ⟨pre,ep⟩:=hh.own
        refine ⟨_,Hist.mono (.up hm e h1 hh (by rw [ep]; exact List.mem_append_right _ mo)) (by omega)⟩
  intro nm kp og t hm
  obtain ⟨h,hh⟩:=all _ (Nat.le_refl _) hm
  exact ⟨h,hh.mono (hrk _ _ _ _ hm).1⟩
theorem Good.perm {es es':List En} (g:Good es) (p:es'.Perm es):Good es':=by
  refine ⟨(p.map En.nm).nodup_iff.mpr g.nms,((p.filter _).map En.turn).nodup_iff.mpr g.tns,?_⟩
  obtain ⟨rk,h⟩:=g.rk
  refine ⟨rk,fun nm kp og t hm=>?_⟩
  obtain ⟨h1,h2⟩:=h nm kp og t (p.mem_iff.mp hm)
  refine ⟨h1,h2.imp id ?_⟩
  rintro ⟨sm,tn,t',kp',og',t'',a,b,c⟩
  exact ⟨sm,tn,t',kp',og',t'',p.mem_iff.mpr a,p.mem_iff.mpr b,c⟩
structure Full (es:List En):Prop where
  nms:(es.map En.nm).Nodup
  tns:((es.filter fun e=>!e.isS).map En.turn).Nodup
  nem:∀ e∈es,e.nm≠EM
  pos:∀ nm sm tn t,En.sl nm sm tn t∈es→0 < tn
  stm:∀ nm sm tn t,En.sl nm sm tn t∈es→∃ kp og t',En.st sm kp og t'∈es
  org:∀ nm kp og t,En.st nm kp og t∈es→og = EM∨∃ sm tn t',En.sl og sm tn t'∈es
  beg:∀ nm kp og t sm tg t' x tn t'',En.st nm kp og t∈es→En.sl og sm tg t'∈es→En.sl x nm tn t''∈es→tg < tn
theorem Full.one {es:List En} (f:Full es) {e e':En} (h:e∈es) (h':e'∈es) (q:e.nm = e'.nm):e = e':=nd_inj f.nms h h' q
theorem cnt_lt {α:Type} {P Q:α→Bool}:∀ {l:List α},(∀ x∈l,P x = true→Q x = true)→(∃ x∈l,Q x = true∧P x = false)→l.countP P < l.countP Q
  | [],_,⟨_,h,_⟩=>nomatch h
  | a :: l,hs,⟨x,hx,h1,h2⟩=>by
    have le:l.countP P≤l.countP Q:=List.countP_mono_left fun y hy=>hs y (List.mem_cons_of_mem _ hy)
    rw [List.countP_cons,List.countP_cons]
    rcases List.mem_cons.mp hx with rfl | hx
    · rw [h1,h2]
      simp only [Bool.false_eq_true,if_false,if_true]
      omega
    · have:=cnt_lt (fun y hy=>hs y (List.mem_cons_of_mem _ hy)) ⟨x,hx,h1,h2⟩
      have ha:=hs a List.mem_cons_self
      cases hp:P a with
      | false=>simp only [Bool.false_eq_true,if_false]; split <;> omega
      | true=>rw [ha hp]; simp only [if_true]; omega
def turnOf (es:List En) (x:Str):Int:=((es.find? fun e=>decide (e.nm = x)).map En.turn).getD 0
def begOf (es:List En) (x:Str):Int:=match es.find? fun e=>decide (e.nm = x) with | some (.st _ _ og _)=>turnOf es og | _=>0
theorem find_nm {es:List En} (nd:(es.map En.nm).Nodup) {e:En} (h:e∈es):(es.find? fun x=>decide (x.nm = e.nm)) = some e:=by
  cases q:es.find? fun x=>decide (x.nm = e.nm) with
  | none=>exact absurd (decide_eq_true rfl) (List.find?_eq_none.mp q e h)
  | some x=>
    have q2:decide (x.nm = e.nm) = true:=List.find?_some (p:=fun x:En=>decide (x.nm = e.nm)) q
    rw [nd_inj nd (List.mem_of_find?_eq_some q) h (of_decide_eq_true q2)]
theorem Full.turn {es:List En} (f:Full es) {e:En} (h:e∈es):turnOf es e.nm = e.turn:=by unfold turnOf; rw [find_nm f.nms h]; rfl
theorem Full.begin {es:List En} (f:Full es) {nm kp og:Str} {t:Int×Int×Int} (h:En.st nm kp og t∈es):begOf es nm = turnOf es og:=by
  have:=find_nm f.nms h
  unfold begOf
  rw [show (fun e:En=>decide (e.nm = nm)) = fun x=>decide (x.nm = (En.st nm kp og t).nm) from rfl,this]
theorem Full.none {es:List En} (f:Full es):turnOf es EM = 0:=by
  unfold turnOf
  rw [List.find?_eq_none.mpr fun e he z=>f.nem e he (of_decide_eq_true z)]
  rfl
theorem Full.good {es:List En} (f:Full es) (len:es.length≤20):Good es:=by
  refine ⟨f.nms,f.tns,fun nm=>es.countP fun e=>e.isS && decide (begOf es e.nm < begOf es nm),fun nm kp og t h=>⟨Nat.le_trans List.countP_le_length len,?_⟩⟩
  rcases f.org _ _ _ _ h with e | ⟨sm,tg,t',hs⟩
  · exact .inl e
  obtain ⟨kp',og',t'',hm⟩:=f.stm _ _ _ _ hs
  have b1:begOf es nm = tg:=by rw [f.begin h]; exact f.turn hs
  have b2:begOf es sm < tg:=by
    rw [f.begin hm]
    rcases f.org _ _ _ _ hm with e | ⟨sm2,tg2,t2,hs2⟩
    · rw [e,f.none]; exact f.pos _ _ _ _ hs
    · rw [show turnOf es og' = tg2 from f.turn hs2]
      exact f.beg _ _ _ _ _ _ _ _ _ _ hm hs2 hs
  refine .inr ⟨sm,tg,t',kp',og',t'',hs,hm,cnt_lt (fun e _ he=>?_) ⟨_,hm,?_,?_⟩⟩
  · rw [Bool.and_eq_true,decide_eq_true_eq] at he ⊢
    exact ⟨he.1,by omega⟩
  · show (true && decide (begOf es sm < begOf es nm)) = true
    rw [decide_eq_true (by omega)]; rfl
  · show (true && decide (begOf es sm < begOf es sm)) = false
    rw [decide_eq_false (by omega)]; rfl
def gr (s p og ogp:Str) (tn:Int):En→En
  | .st nm k o t=>if nm = s then .st nm k ogp t else if nm = p then .st nm k og t else .st nm k o t
  | .sl nm sm n t=>if sm = p∧n≤tn then .sl nm s n t else .sl nm sm n t
structure Gr (es:List En) (s p og ogp:Str) (tn:Int):Prop where
  a:∃ k t,En.st s k og t∈es
  b:∃ t,En.sl og p tn t∈es
  c:∃ k t,En.st p k ogp t∈es
section
variable {es:List En} {s p og ogp:Str} {tn:Int}
theorem Gr.ne (f:Full es) (g:Gr es s p og ogp tn):s≠p:=fun e=>by
  obtain ⟨k,t,h1⟩:=g.a
  obtain ⟨t',h2⟩:=g.b
  have:=f.beg _ _ _ _ _ _ _ _ _ _ h1 h2 (e ▸ h2)
  omega
theorem gr_nm (e:En):(gr s p og ogp tn e).nm = e.nm:=by
  cases e <;> simp only [gr] <;> (repeat' split) <;> rfl
theorem gr_turn (e:En):(gr s p og ogp tn e).turn = e.turn:=by
  cases e <;> simp only [gr] <;> (repeat' split) <;> rfl
theorem gr_isS (e:En):(gr s p og ogp tn e).isS = e.isS:=by
  cases e <;> simp only [gr] <;> (repeat' split) <;> rfl
theorem gr_sl {nm sm:Str} {n:Int} {t:Int×Int×Int}:En.sl nm sm n t∈es.map (gr s p og ogp tn)↔∃ sm0,En.sl nm sm0 n t∈es∧((sm0 = p∧n≤tn∧sm = s)∨(¬(sm0 = p∧n≤tn)∧sm = sm0)):=by
  constructor
  · intro h
    obtain ⟨e,he,q⟩:=List.mem_map.mp h
    cases e with
    | st a b c d=>simp only [gr] at q; (repeat' split at q) <;> cases q
    | sl a b c d=>
      simp only [gr] at q
      split at q
      · next z=>cases q; exact ⟨b,he,.inl ⟨z.1,z.2,rfl⟩⟩
      · next z=>cases q; exact ⟨_,he,.inr ⟨z,rfl⟩⟩
  · rintro ⟨sm0,h,⟨e1,e2,e3⟩ | ⟨e1,e2⟩⟩
    · exact List.mem_map.mpr ⟨_,h,by simp only [gr]; rw [if_pos ⟨e1,e2⟩,e3]⟩
    · exact List.mem_map.mpr ⟨_,h,by simp only [gr]; rw [if_neg e1,e2]⟩
theorem gr_st {nm k o:Str} {t:Int×Int×Int}:En.st nm k o t∈es.map (gr s p og ogp tn)↔∃ o0,En.st nm k o0 t∈es∧((nm = s∧o = ogp)∨(nm≠s∧nm = p∧o = og)∨(nm≠s∧nm≠p∧o = o0)):=by
  constructor
  · intro h
    obtain ⟨e,he,q⟩:=List.mem_map.mp h
    cases e with
    | sl a b c d=>simp only [gr] at q; (repeat' split at q) <;> cases q
    | st a b c d=>
      simp only [gr] at q
      split at q
      · next z=>cases q; exact ⟨_,he,.inl ⟨z,rfl⟩⟩
      · next z=>
        split at q
        · next y=>cases q; exact ⟨_,he,.inr (.inl ⟨z,y,rfl⟩)⟩
        · next y=>cases q; exact ⟨_,he,.inr (.inr ⟨z,y,rfl⟩)⟩
  · rintro ⟨o0,h,⟨e1,e2⟩ | ⟨e1,e2,e3⟩ | ⟨e1,e2,e3⟩⟩
    · exact List.mem_map.mpr ⟨_,h,by simp only [gr]; rw [if_pos e1,e2]⟩
    · exact List.mem_map.mpr ⟨_,h,by simp only [gr]; rw [if_neg e1,if_pos e2,e3]⟩
    · exact List.mem_map.mpr ⟨_,h,by simp only [gr]; rw [if_neg e1,if_neg e2,e3]⟩
theorem Gr.st_s (f:Full es) (g:Gr es s p og ogp tn) {k o:Str} {t:Int×Int×Int} (h:En.st s k o t∈es):o = og:=by
  obtain ⟨k',t',h1⟩:=g.a
  have:=f.one h h1 rfl
  cases this
  rfl
theorem Gr.st_p (f:Full es) (g:Gr es s p og ogp tn) {k o:Str} {t:Int×Int×Int} (h:En.st p k o t∈es):o = ogp:=by
  obtain ⟨k',t',h1⟩:=g.c
  have:=f.one h h1 rfl
  cases this
  rfl
theorem Gr.sl_og (f:Full es) (g:Gr es s p og ogp tn) {sm:Str} {n:Int} {t:Int×Int×Int} (h:En.sl og sm n t∈es):sm = p∧n = tn:=by
  obtain ⟨t',h1⟩:=g.b
  have:=f.one h h1 rfl
  cases this
  exact ⟨rfl,rfl⟩
theorem Gr.late (f:Full es) (g:Gr es s p og ogp tn) {x:Str} {n:Int} {t:Int×Int×Int} (h:En.sl x s n t∈es):tn < n:=by
  obtain ⟨k,t1,h1⟩:=g.a
  obtain ⟨t2,h2⟩:=g.b
  exact f.beg _ _ _ _ _ _ _ _ _ _ h1 h2 h
theorem Gr.early (f:Full es) (g:Gr es s p og ogp tn) {sm:Str} {n:Int} {t:Int×Int×Int} (h:En.sl ogp sm n t∈es):n < tn∧sm≠p:=by
  obtain ⟨k,t1,h1⟩:=g.c
  obtain ⟨t2,h2⟩:=g.b
  refine ⟨f.beg _ _ _ _ _ _ _ _ _ _ h1 h h2,fun e=>?_⟩
  have:=f.beg _ _ _ _ _ _ _ _ _ _ h1 h (e ▸ h)
  omega
theorem Gr.full (f:Full es) (g:Gr es s p og ogp tn):Full (es.map (gr s p og ogp tn)):=by
  have sl':∀ {nm sm:Str} {n:Int} {t:Int×Int×Int},En.sl nm sm n t∈es→∃ sm',En.sl nm sm' n t∈es.map (gr s p og ogp tn):=fun {nm sm n t} h=>by
    by_cases z:sm = p∧n≤tn
    · exact ⟨s,gr_sl.mpr ⟨sm,h,.inl ⟨z.1,z.2,rfl⟩⟩⟩
    · exact ⟨sm,gr_sl.mpr ⟨sm,h,.inr ⟨z,rfl⟩⟩⟩
  have st':∀ {nm k o:Str} {t:Int×Int×Int},En.st nm k o t∈es→∃ o',En.st nm k o' t∈es.map (gr s p og ogp tn):=fun {nm k o t} h=>by
    by_cases z:nm = s
    · exact ⟨ogp,gr_st.mpr ⟨o,h,.inl ⟨z,rfl⟩⟩⟩
    · by_cases y:nm = p
      · exact ⟨og,gr_st.mpr ⟨o,h,.inr (.inl ⟨z,y,rfl⟩)⟩⟩
      · exact ⟨o,gr_st.mpr ⟨o,h,.inr (.inr ⟨z,y,rfl⟩)⟩⟩
  refine ⟨?_,?_,fun e he=>?_,fun nm sm n t h=>?_,fun nm sm n t h=>?_,fun nm k o t h=>?_,fun nm k o t sm tg t' x n t'' h1 h2 h3=>?_⟩
  · rw [List.map_map,show (En.nm∘gr s p og ogp tn) = En.nm from funext gr_nm]; exact f.nms
  · rw [List.filter_map,List.map_map,show (En.turn∘gr s p og ogp tn) = En.turn from funext gr_turn,show ((fun e:En=>!e.isS)∘gr s p og ogp tn) = fun e=>!e.isS from funext fun e=>by show (!(gr s p og ogp tn e).isS) = _; rw [gr_isS]]
    exact f.tns
  · obtain ⟨x,hx,rfl⟩:=List.mem_map.mp he
    rw [gr_nm]; exact f.nem x hx
  · obtain ⟨sm0,h0,_⟩:=gr_sl.mp h
    exact f.pos _ _ _ _ h0
  · obtain ⟨sm0,h0,⟨_,_,rfl⟩ | ⟨_,rfl⟩⟩:=gr_sl.mp h
    · obtain ⟨k,t1,h1⟩:=g.a
      obtain ⟨o',h2⟩:=st' h1
      exact ⟨_,_,_,h2⟩
    · obtain ⟨k,o,t1,h1⟩:=f.stm _ _ _ _ h0
      obtain ⟨o',h2⟩:=st' h1
      exact ⟨_,_,_,h2⟩
  · obtain ⟨o0,h0,⟨_,rfl⟩ | ⟨_,_,rfl⟩ | ⟨_,_,rfl⟩⟩:=gr_st.mp h
    · obtain ⟨k,t1,h1⟩:=g.c
      refine (f.org _ _ _ _ h1).imp id ?_
      rintro ⟨sm,n,t',h2⟩
      obtain ⟨sm',h3⟩:=sl' h2
      exact ⟨_,_,_,h3⟩
    · obtain ⟨t',h2⟩:=g.b
      obtain ⟨sm',h3⟩:=sl' h2
      exact .inr ⟨_,_,_,h3⟩
    · refine (f.org _ _ _ _ h0).imp id ?_
      rintro ⟨sm,n,t',h2⟩
      obtain ⟨sm',h3⟩:=sl' h2
      exact ⟨_,_,_,h3⟩
  · obtain ⟨o0,h0,alt⟩:=gr_st.mp h1
    obtain ⟨sm2,g2,_⟩:=gr_sl.mp h2
    obtain ⟨sm3,g3,alt3⟩:=gr_sl.mp h3
    obtain ⟨kc,tc,hc⟩:=g.c
    rcases alt with ⟨rfl,rfl⟩ | ⟨ns,rfl,rfl⟩ | ⟨ns,np,rfl⟩
    · have e1:=(g.early f g2).1
      rcases alt3 with ⟨rfl,_,_⟩ | ⟨_,rfl⟩
      · exact f.beg _ _ _ _ _ _ _ _ _ _ hc g2 g3
      · have:=g.late f g3
        omega
    · have e2:=(g.sl_og f g2).2
      rcases alt3 with ⟨rfl,_,z⟩ | ⟨z,rfl⟩
      · exact absurd z ns
      · have:¬ n≤tn:=fun y=>z ⟨rfl,y⟩
        omega
    · rcases alt3 with ⟨rfl,_,z⟩ | ⟨z,rfl⟩
      · exact absurd z ns
      · exact f.beg _ _ _ _ _ _ _ _ _ _ h0 g2 g3
theorem Gr.back (f:Full es) (g:Gr es s p og ogp tn):Gr (es.map (gr s p og ogp tn)) p s og ogp tn:=by
  have ne:=g.ne f
  obtain ⟨k,t,h1⟩:=g.a
  obtain ⟨t2,h2⟩:=g.b
  obtain ⟨k3,t3,h3⟩:=g.c
  exact ⟨⟨k3,t3,gr_st.mpr ⟨_,h3,.inr (.inl ⟨Ne.symm ne,rfl,rfl⟩)⟩⟩,⟨t2,gr_sl.mpr ⟨_,h2,.inl ⟨rfl,Int.le_refl _,rfl⟩⟩⟩,⟨k,t,gr_st.mpr ⟨_,h1,.inl ⟨rfl,rfl⟩⟩⟩⟩
theorem Gr.again (f:Full es) (g:Gr es s p og ogp tn):(es.map (gr s p og ogp tn)).map (gr p s og ogp tn) = es:=by
  have ne:=g.ne f
  rw [List.map_map]
  conv=>rhs; rw [← List.map_id es]
  refine List.map_congr_left fun e he=>?_
  show gr p s og ogp tn (gr s p og ogp tn e) = e
  cases e with
  | st nm k o t=>
    by_cases z:nm = s
    · subst z
      rw [g.st_s f he]
      simp only [gr,if_true,if_neg ne]
    · by_cases y:nm = p
      · subst y
        rw [g.st_p f he]
        simp only [gr,if_true,if_neg z]
      · simp only [gr,if_neg z,if_neg y]
  | sl nm sm n t=>
    by_cases z:sm = p∧n≤tn
    · simp only [gr,if_pos z]
      rw [z.1]
      exact if_pos ⟨trivial,z.2⟩
    · have:¬ (sm = s∧n≤tn):=fun ⟨e,y⟩=>by
        subst e
        have:=g.late f he
        omega
      simp only [gr,if_neg z,if_neg this]
inductive Inn (es:List En):Str→Str→Int→Prop
  | own {z nm:Str} {n:Int} {t:Int×Int×Int}:En.sl nm z n t∈es→Inn es z nm n
  | up {z k o sm nm:Str} {t t':Int×Int×Int} {tg n:Int}:En.st z k o t∈es→En.sl o sm tg t'∈es→n≤tg→Inn es sm nm n→Inn es z nm n
theorem Inn.is {z nm:Str} {n:Int} (h:Inn es z nm n):∃ sm t,En.sl nm sm n t∈es:=by
  induction h with
  | own h=>exact ⟨_,_,h⟩
  | up _ _ _ _ ih=>exact ih
theorem Inn.graft (f:Full es) (g:Gr es s p og ogp tn) {z nm:Str} {n:Int} (h:Inn es z nm n):Inn (es.map (gr s p og ogp tn)) z nm n:=by
  have ne:=g.ne f
  have b:=g.back f
  have f':=g.full f
  obtain ⟨k1,t1,a1⟩:=b.a
  obtain ⟨t2,a2⟩:=b.b
  obtain ⟨k3,t3,a3⟩:=b.c
  have down:∀ {nm:Str} {n:Int},n≤tn→Inn (es.map (gr s p og ogp tn)) p nm n→Inn (es.map (gr s p og ogp tn)) s nm n:=fun {nm n} hn h=>by
    cases h with
    | own h=>
      have:=b.late f' h
      omega
    | up h1 h2 h3 h4=>
      have:=b.st_s f' h1
      subst this
      obtain ⟨rfl,rfl⟩:=b.sl_og f' h2
      exact h4
  induction h with
  | @own z nm n t h=>
    by_cases c:z = p∧n≤tn
    · rw [c.1]
      exact .up a1 a2 c.2 (.own (gr_sl.mpr ⟨_,h,.inl ⟨c.1,c.2,rfl⟩⟩))
    · exact .own (gr_sl.mpr ⟨_,h,.inr ⟨c,rfl⟩⟩)
  | @up z k o sm nm t t' tg n h1 h2 h3 h4 ih=>
    by_cases zs:z = s
    · subst zs
      have:=g.st_s f h1
      subst this
      obtain ⟨rfl,rfl⟩:=g.sl_og f h2
      exact down h3 ih
    · by_cases zp:z = p
      · subst zp
        have:=g.st_p f h1
        subst this
        obtain ⟨e1,e2⟩:=g.early f h2
        exact .up a1 a2 (by omega) (.up a3 (gr_sl.mpr ⟨_,h2,.inr ⟨fun y=>e2 y.1,rfl⟩⟩) h3 ih)
      · have h1':=(gr_st (s:=s) (p:=p) (og:=og) (ogp:=ogp) (tn:=tn)).mpr ⟨_,h1,.inr (.inr ⟨zs,zp,rfl⟩)⟩
        by_cases c:sm = p∧tg≤tn
        · obtain ⟨rfl,c2⟩:=c
          exact .up h1' (gr_sl.mpr ⟨_,h2,.inl ⟨rfl,c2,rfl⟩⟩) h3 (down (by omega) ih)
        · exact .up h1' (gr_sl.mpr ⟨_,h2,.inr ⟨c,rfl⟩⟩) h3 ih
theorem uniq_told:∀ {l1 l2:List (Str×Int)},(∀ x,x∈l1↔x∈l2)→l1.Pairwise (fun a b=>a.2 < b.2)→l2.Pairwise (fun a b=>a.2 < b.2)→l1 = l2
  | [],[],_,_,_=>rfl
  | [],b :: r,h,_,_=>nomatch (h b).mpr List.mem_cons_self
  | a :: r,[],h,_,_=>nomatch (h a).mp List.mem_cons_self
  | a :: r1,b :: r2,h,p1,p2=>by
    rw [List.pairwise_cons] at p1 p2
    have e:a = b:=by
      rcases List.mem_cons.mp ((h a).mp List.mem_cons_self) with e | m
      · exact e
      rcases List.mem_cons.mp ((h b).mpr List.mem_cons_self) with e | m2
      · exact e.symm
      have:=p1.1 b m2
      have:=p2.1 a m
      omega
    subst e
    rw [uniq_told (fun x=>?_) p1.2 p2.2]
    constructor
    · intro hx
      refine (List.mem_cons.mp ((h x).mp (List.mem_cons_of_mem _ hx))).resolve_left fun e=>?_
      have:=p1.1 x hx
      rw [e] at this
      omega
    · intro hx
      refine (List.mem_cons.mp ((h x).mpr (List.mem_cons_of_mem _ hx))).resolve_left fun e=>?_
      have:=p2.1 x hx
      rw [e] at this
      omega
theorem cut_told {o:Str} {tg:Int}:∀ {us:List (Str×Int)},us.Pairwise (fun a b=>a.2 < b.2)→(o,tg)∈us→(∀ x,(o,x)∈us→x = tg)→cutTo o (us.map (·.1)) = (us.filter fun a=>decide (a.2≤tg)).map (·.1)
  | [],_,h,_=>nomatch h
  | a :: r,p,h,u=>by
    rw [List.pairwise_cons] at p
    show (if a.1 = o then [a.1] else a.1 :: cutTo o (r.map (·.1))) = _
    by_cases e:a.1 = o
    · have e2:a.2 = tg:=u a.2 (by rw [← e]; exact List.mem_cons_self)
      rw [if_pos e,List.filter_cons,if_pos (decide_eq_true (by omega)),List.filter_eq_nil_iff.mpr fun b hb z=>by
        have:=p.1 b hb
        have:=of_decide_eq_true z
        omega]
      rfl
    · have h':=(List.mem_cons.mp h).resolve_left fun z=>e (by rw [← z])
      have:=p.1 _ h'
      rw [if_neg e,List.filter_cons,if_pos (decide_eq_true (by show a.2≤tg; have:a.2 < tg:=this; omega)),List.map_cons,cut_told p.2 h' fun x hx=>u x (List.mem_cons_of_mem _ hx)]
theorem Full.ownL (f:Full es) (z:Str):∃ us:List (Str×Int),own es z = us.map (·.1)∧us.Pairwise (fun a b=>a.2 < b.2)∧∀ nm n,(nm,n)∈us↔∃ t,En.sl nm z n t∈es:=by
  obtain ⟨vs,v1,v2⟩:=ex_sorted _ (slOf_sub (nm:=z) f.tns)
  refine ⟨vs.map fun e=>(e.nm,e.turn),?_,?_,fun nm n=>⟨fun h=>?_,fun ⟨t,h⟩=>?_⟩⟩
  · rw [← own_eq v1 v2,List.map_map]; rfl
  · rw [List.pairwise_map]; exact v2
  · obtain ⟨e,he,q⟩:=List.mem_map.mp h
    obtain ⟨h1,h2⟩:=List.mem_filter.mp (v1.mem_iff.mp he)
    cases e with
    | st a b c d=>cases h2
    | sl a b c d=>
      have:=of_decide_eq_true h2
      subst this
      cases q
      exact ⟨_,h1⟩
  · exact List.mem_map.mpr ⟨_,v1.mem_iff.mpr (List.mem_filter.mpr ⟨h,decide_eq_true rfl⟩),rfl⟩
theorem Hist.told (f:Full es) {z:Str} {h:List Str} {m:Nat} (x:Hist es z h m):∃ us:List (Str×Int),h = us.map (·.1)∧us.Pairwise (fun a b=>a.2 < b.2)∧∀ nm n,(nm,n)∈us↔Inn es z nm n:=by
  induction x with
  | @root z kp t n h1=>
    obtain ⟨us,u1,u2,u3⟩:=f.ownL z
    refine ⟨us,u1,u2,fun nm n=>⟨fun h=>?_,fun h=>?_⟩⟩
    · obtain ⟨t,h⟩:=(u3 nm n).mp h
      exact .own h
    · cases h with
      | own h=>exact (u3 nm n).mpr ⟨_,h⟩
      | up g1 g2 _ _=>
        have:=f.one h1 g1 rfl
        cases this
        exact absurd rfl (f.nem _ g2)
  | @up z kp o sm t t' tg h n h1 h2 h3 h4 h5 ih=>
    obtain ⟨us,u1,u2,u3⟩:=ih
    obtain ⟨vs,v1,v2,v3⟩:=f.ownL z
    have un:∀ x,(o,x)∈us→x = tg:=fun x hx=>by
      obtain ⟨sm2,t2,g2⟩:=((u3 o x).mp hx).is
      have:=f.one g2 h3 rfl
      cases this
      rfl
    have mo:(o,tg)∈us:=by
      rw [u1] at h5
      obtain ⟨⟨a,b⟩,hab,e⟩:=List.mem_map.mp h5
      have e:a = o:=e
      subst e
      rw [un b hab] at hab
      exact hab
    refine ⟨(us.filter fun a=>decide (a.2≤tg)) ++ vs,?_,?_,fun nm n=>⟨fun h=>?_,fun h=>?_⟩⟩
    · rw [List.map_append,← v1,u1,cut_told u2 mo un]
    · refine List.pairwise_append.mpr ⟨u2.filter _,v2,fun a ha b hb=>?_⟩
      have l1:=of_decide_eq_true (List.mem_filter.mp ha).2
      obtain ⟨t3,g3⟩:=(v3 b.1 b.2).mp hb
      have:=f.beg _ _ _ _ _ _ _ _ _ _ h1 h3 g3
      omega
    · rcases List.mem_append.mp h with h | h
      · obtain ⟨g1,g2⟩:=List.mem_filter.mp h
        exact .up h1 h3 (of_decide_eq_true g2) ((u3 nm n).mp g1)
      · obtain ⟨t3,g3⟩:=(v3 nm n).mp h
        exact .own g3
    · cases h with
      | own h=>exact List.mem_append_right _ ((v3 nm n).mpr ⟨_,h⟩)
      | up g1 g2 g3 g4=>
        have:=f.one h1 g1 rfl
        cases this
        have:=f.one h3 g2 rfl
        cases this
        exact List.mem_append_left _ (List.mem_filter.mpr ⟨(u3 nm n).mpr g4,decide_eq_true g3⟩)
theorem Gr.hist (f:Full es) (g:Gr es s p og ogp tn) {z:Str} {h h':List Str} {m m':Nat} (x:Hist es z h m) (x':Hist (es.map (gr s p og ogp tn)) z h' m'):h' = h:=by
  obtain ⟨us,u1,u2,u3⟩:=x.told f
  obtain ⟨vs,v1,v2,v3⟩:=x'.told (g.full f)
  rw [u1,v1,uniq_told (l1:=vs) (l2:=us) (fun ⟨nm,n⟩=>?_) v2 u2]
  rw [u3,v3]
  constructor
  · intro y
    have:=y.graft (g.full f) (g.back f)
    rw [g.again f] at this
    exact this
  · exact fun y=>y.graft f g
end
section
variable {P:Program} {w:World} {K:PySem.W.Frag} {mg:Str→Option Value} {base:Heap} {f:Addr} {fd:FuncData} {PT PU:Addr}
abbrev MQ:Str:=PySem.Str.ofString "put_among" ++ PySem.Str.ofString ".<locals>." ++ PySem.Str.ofString "<lambda>"
abbrev MP:Pos:=⟨105,44,105,66⟩
structure Tb (PT PU:Addr) (H:Hp):Prop where
  ne:PT≠PU
  a:TabH PT LQ LP H
  b:TabH PU MQ MP H
def SameU (PT PU:Addr) (H H':Hp):Prop:=∀ b o,b≠PT→b≠PU→H b = some o→H' b = some o
theorem SameU.refl (H:Hp):SameU PT PU H H:=fun _ _ _ _ h=>h
theorem SameU.trans {H H1 H2:Hp} (a:SameU PT PU H H1) (b:SameU PT PU H1 H2):SameU PT PU H H2:=fun c o n m h=>b c o n m (a c o n m h)
theorem same_u {H H':Hp} (a:Same H H'):SameU PT PU H H':=fun b o _ _ h=>a b o h
theorem sameT_l {H H':Hp} (a:SameT PT H H'):SameU PT PU H H':=fun b o n _ h=>a b o n h
theorem sameT_r {H H':Hp} (a:SameT PU H H'):SameU PT PU H H':=fun b o _ n h=>a b o n h
theorem SameU.get {H H':Hp} (e:SameU PT PU H H') (t:Tb PT PU H) {b:Addr} {o:HO} (h:H b = some o) (n:∀ ps,o≠.tbl ps):H' b = some o:=by
  refine e b o (fun z=>?_) (fun z=>?_) h
  · obtain ⟨ps,hp⟩:=t.a.some
    rw [z,hp] at h
    exact n ps (Option.some.inj h).symm
  · obtain ⟨ps,hp⟩:=t.b.some
    rw [z,hp] at h
    exact n ps (Option.some.inj h).symm
theorem SameU.tup {H H':Hp} (e:SameU PT PU H H') (t:Tb PT PU H):∀ b xs,H b = some (.tup xs)→H' b = some (.tup xs):=fun _ _ h=>e.get t h (by intro _ z; cases z)
theorem SameU.lst {H H':Hp} (e:SameU PT PU H H') (t:Tb PT PU H) {b:Addr} {xs:List V} (h:H b = some (.lst xs)):H' b = some (.lst xs):=e.get t h (by intro _ z; cases z)
theorem SameU.free {H H':Hp} (e:SameU PT PU H H') (t:Tb PT PU H') {l:Addr} (h:H' l = none):H l = none:=by
  cases q:H l with
  | none=>rfl
  | some o=>
    obtain ⟨x,hx⟩:=t.a.some
    obtain ⟨y,hy⟩:=t.b.some
    by_cases z:l = PT
    · rw [z,hx] at h; cases h
    · by_cases z2:l = PU
      · rw [z2,hy] at h; cases h
      · rw [e l o z z2 q] at h; cases h
theorem tab_other {P U:Addr} {q q':Str} {lp lp':Pos} {H H':Hp} (ne:P≠U) (t:TabH P q lp H) (u:TabH U q' lp' H) (s:SameT U H H'):TabH P q lp H':=by
  rcases t with h | ⟨c,h,h2⟩
  · exact .inl (s _ _ ne h)
  · exact .inr ⟨c,s _ _ ne h,s.get u h2 (by intro _ z; cases z)⟩
theorem Tb.same {H H':Hp} (t:Tb PT PU H) (s:Same H H'):Tb PT PU H':=⟨t.ne,t.a.same s,t.b.same s⟩
theorem Tb.l {H H':Hp} (t:Tb PT PU H) (s:SameT PT H H') (x:TabH PT LQ LP H'):Tb PT PU H':=⟨t.ne,x,tab_other (Ne.symm t.ne) t.b t.a s⟩
theorem Tb.r {H H':Hp} (t:Tb PT PU H) (s:SameT PU H H') (x:TabH PU MQ MP H'):Tb PT PU H':=⟨t.ne,tab_other t.ne t.a t.b s,x⟩
abbrev Rise (ps:List (Addr×En)):Prop:=(ps.map fun p=>p.2.nm).Pairwise Slt
theorem Rise.nd {ps:List (Addr×En)} (r:Rise ps):Nms ps:=List.Pairwise.imp (fun {a b} h e=>by subst e; exact List.lt_irrefl _ h) r
def rp (a:Addr) (e:En) (ps:List (Addr×En)):List (Addr×En):=ps.map fun p=>if p.2.nm = e.nm then (a,e) else p
theorem rp_nm (a:Addr) (e:En) (ps:List (Addr×En)):(rp a e ps).map (fun p=>p.2.nm) = ps.map fun p=>p.2.nm:=by
  unfold rp
  rw [List.map_map]
  refine List.map_congr_left fun p _=>?_
  show (if p.2.nm = e.nm then (a,e) else p).2.nm = p.2.nm
  split
  · next z=>exact z.symm
  · rfl
theorem rp_perm {a:Addr} {e:En}:∀ {ps:List (Addr×En)},Nms ps→(∃ p∈ps,p.2.nm = e.nm)→(rp a e ps).Perm ((ps.filter fun p=>!decide (p.2.nm = e.nm)) ++ [(a,e)])
  | [],_,⟨_,h,_⟩=>nomatch h
  | x :: r,nd,⟨p,hp,q⟩=>by
    have nd':x.2.nm ∉ r.map (fun p=>p.2.nm)∧Nms r:=List.nodup_cons.mp nd
    show ((if x.2.nm = e.nm then (a,e) else x) :: rp a e r).Perm _
    by_cases z:x.2.nm = e.nm
    · have no:∀ y∈r,y.2.nm≠e.nm:=fun y hy q=>nd'.1 (List.mem_map.mpr ⟨y,hy,q.trans z.symm⟩)
      have e1:rp a e r = r:=by
        unfold rp
        conv=>rhs; rw [← List.map_id r]
        exact List.map_congr_left fun y hy=>if_neg (no y hy)
      rw [if_pos z,List.filter_cons,if_neg (by rw [decide_eq_true z]; exact Bool.false_ne_true),e1,List.filter_eq_self.mpr fun y hy=>by rw [decide_eq_false (no y hy)]; rfl]
      exact (List.perm_append_singleton _ _).symm
    · have hp':p∈r:=(List.mem_cons.mp hp).resolve_left fun y=>z (by rw [← y]; exact q)
      rw [if_neg z,List.filter_cons,if_pos (by rw [decide_eq_false z]; rfl)]
      exact (rp_perm nd'.2 ⟨p,hp',q⟩).cons _
theorem uniq_by {α:Type} {key:α→Str}:∀ {l1 l2:List α},l1.Perm l2→l1.Pairwise (fun x y=>Slt (key x) (key y))→l2.Pairwise (fun x y=>Slt (key x) (key y))→l1 = l2
  | [],l2,h,_,_=>(List.nil_perm.mp h).symm
  | a :: r1,[],h,_,_=>by have:=h.length_eq; cases this
  | a :: r1,b :: r2,h,p1,p2=>by
    rw [List.pairwise_cons] at p1 p2
    rcases Classical.em (a = b) with e | e
    · subst e
      rw [uniq_by (List.Perm.cons_inv h) p1.2 p2.2]
    · have ha:a∈b :: r2:=h.mem_iff.mp List.mem_cons_self
      have hb:b∈a :: r1:=h.mem_iff.mpr List.mem_cons_self
      have h1:=(List.mem_cons.mp ha).resolve_left e
      have h2:=(List.mem_cons.mp hb).resolve_left fun z=>e z.symm
      exact absurd (List.lt_trans (p1.1 b h2) (p2.1 a h1)) (List.lt_irrefl _)
def sp_put_among (K:PySem.W.Frag) (PU:Addr):Sp:=fun vs H Q _=>∃ (n a:Addr) (e:En) (ps:List (Addr×En)),vs = [.ref n,.ref a]∧H n = some (.tup (ps.map fun p=>V.ref p.1))∧(∀ p∈ps,EnAt H p)∧EnAt H (a,e)∧Rise ps∧(∃ p∈ps,p.2.nm = e.nm)∧ps.length≤20∧TabH PU MQ MP H∧
  ∀ n' H',SameT PU H H'→TabH PU MQ MP H'→H n' = none→H' n' = some (.tup ((rp a e ps).map fun p=>V.ref p.1))→Q (.ref n') H'
theorem ok_put_among (T:Txt K mg) (F:Fun K "put_among" "put_among" s_put_among f fd) (LA:LamAt K mg base fd.code PU):FnOk P w K mg base CX0 1 f fd ["some","one"] (sp_put_among K PU):=by
  refine F.okC sc_put_among (fun vs H Q E h=>?_) (fun cdv A outer s H vs Q E hcd hr h=>?_)
  · obtain ⟨n,a,e,ps,rfl,_⟩:=h
    rfl
  subst hcd
  obtain ⟨n,a,e,ps,rfl,hn,hen,ha,ri,ex,few,tb,q⟩:=h
  refine ⟨_,(@pss_cons _ _ _ _ _ (@ps_setC _ ["other","one"] [none,some 1] (2) _ _ _ _ _ _ _ _ _ _ _ _ _ _ sc_put_among.nd rfl (by first | exact Or.inl rfl | exact Or.inr rfl) rfl (@pi_tup _ _ _ _ (pv 0)) (by rfl) rfl (by repeat (first | exact trivial | refine ⟨rfl,?_⟩)) (by repeat (first | exact trivial | refine ⟨fun h=>(by first | exact ⟨_,rfl⟩ | cases h),?_⟩)) (fun C s H fp=>⟨(@pg_name _ _ (0) _ (show (["other","one"]:List Str).Nodup by decide +kernel) rfl (by first | exact Or.inl rfl | exact Or.inr rfl) (by first | exact .inl rfl | exact .inr rfl | assumption)),(@pifs_one _ _ _ (@pt_cmpR _ _ _ _ _ _ _ _ op_ne (@pe_ix _ _ _ _ _ _ _ (ix_tupK (K:=K) (by rfl)) (pv 0) (@pe_int _ _ _ _) (fun _ _=>rfl)) (@pe_ix _ _ _ _ _ _ _ (ix_tupK (K:=K) (by rfl)) (pv 1) (@pe_int _ _ _ _) (fun _ _=>rfl)) (nomark _))),(pv 0)⟩) (by intro _; rfl) (by rfl) (by first | exact .inl rfl | exact .inr rfl | assumption)) (@pss_one _ _ _ (@ps_ret _ _ _ _ (@pe_callTy _ _ _ _ _ _ _ _ _ call_tuple_of (by rfl) T.b_tuple bt_tuple (@pa_cons _ _ _ _ _ (@pe_sortKS _ _ _ _ _ _ (0) _ _ _ _ _ _ _ _ _ _ (hr.mono (Nat.le_refl _)) ⟨fun _ _ _ _ _ _=>rfl,fun _=>rfl,fun _=>rfl,rfl,rfl,rfl,rfl,by decide,by decide⟩ LA (by decide) rfl rfl T.b_sorted (@pa_cons _ _ _ _ _ (@pe_op _ _ _ _ _ _ _ _ op_catS (pv 2) (@pe_lst _ _ _ _ (@pa_cons _ _ _ _ _ (pv 1) (@pa_nil _) (by rfl)))) (@pa_nil _) (by rfl)) (by rfl) (by rfl)) (@pa_nil _) (by rfl)) (by decide) (by decide) (by rfl) (by rfl))))),?_⟩
  try dsimp only [cxOf,Cx.nox,Cx.wish]
  obtain ⟨ra,hra⟩:=ha.fst
  refine ⟨_,rfl,n,rfl,⟨_,SqT.of hn⟩,?_⟩
  refine comp_selF (ps:=ps) (g:=fun p=>V.ref p.1) (fun p=>!decide (p.2.nm = e.nm)) (fun p=>V.ref p.1) (itIs_tup hn) (by omega) (fun p hp H' R s' hR=>?_) (fun p hp hs H' R s' hR=>⟨_,rfl,hR H' (Same.refl _)⟩) fun l H7 n7 s7 h7=>?_
  · obtain ⟨r,hr'⟩:=(hen p hp).fst
    refine ⟨_,rfl,p.1,_,_,_,rfl,rfl,SqT.of (s'.get hr'),atI_nat (j:=0) rfl,_,rfl,a,_,_,_,rfl,rfl,SqT.of (s'.get hra),atI_nat (j:=0) rfl,rfl,_,rfl,?_⟩
    have e1:decide (V.str p.2.nm = V.str e.nm) = decide (p.2.nm = e.nm):=by
      by_cases z:p.2.nm = e.nm
      · rw [decide_eq_true z,decide_eq_true (by rw [z])]
      · rw [decide_eq_false z,decide_eq_false fun y=>z (V.str.inj y)]
    rw [e1]
    exact hR
  have lf:=List.length_filter_le (fun p:Addr×En=>!decide (p.2.nm = e.nm)) ps
  have pm:=rp_perm (a:=a) (e:=e) ri.nd ex
  have enf:∀ p∈(ps.filter fun p=>!decide (p.2.nm = e.nm)) ++ [(a,e)],EnAt H p:=fun p hp=>by
    rcases List.mem_append.mp hp with hp | hp
    · exact hen p (List.mem_filter.mp hp).1
    · rw [List.mem_singleton.mp hp]; exact ha
  generalize (ps.filter fun p=>!decide (p.2.nm = e.nm)) = qs at h7 lf pm enf
  refine ⟨_,rfl,_,rfl,small (by show 1≤1000000; decide),fun p1 np1=>?_⟩
  have s8:=same_new np1 (.lst [V.ref a])
  have h8:(upd H7 p1 (.lst [V.ref a])) p1 = some (.lst [V.ref a]):=upd_same
  generalize upd H7 p1 (.lst [V.ref a]) = H8 at s8 h8
  refine ⟨l,p1,_,_,rfl,rfl,SqL.of (s8.get h7),SqL.of h8,small (by rw [List.length_map]; show _ + 1≤1000000; omega),fun p2 np2=>?_⟩
  have s9:=same_new np2 (.lst ((qs.map fun p=>V.ref p.1) ++ [V.ref a]))
  have h9:(upd H8 p2 (.lst ((qs.map fun p=>V.ref p.1) ++ [V.ref a]))) p2 = some (.lst ((qs ++ [(a,e)]).map fun p=>V.ref p.1)):=by rw [upd_same,List.map_append]; rfl
  generalize upd H8 p2 (.lst ((qs.map fun p=>V.ref p.1) ++ [V.ref a])) = H9 at s9 h9
  have s79:=(s7.trans s8).trans s9
  refine ⟨p2,(qs ++ [(a,e)]).map fun p=>(p.1,p.2.nm),rfl,SqL.of (by rw [List.map_map]; exact h9),by rw [List.length_map,List.length_append]; show _ + 1 < 64; omega,fun t ht=>?_,?_,tb.same s79,fun us p H2 up us2 st tb2 np=>?_⟩
  · obtain ⟨p,hp,rfl⟩:=List.mem_map.mp ht
    obtain ⟨r,hr'⟩:=(enf p hp).fst
    exact ⟨_,SqT.of (s79.get hr'),rfl⟩
  · rw [List.map_map]
    show ((qs ++ [(a,e)]).map fun p=>p.2.nm).Nodup
    rw [← (pm.map fun p=>p.2.nm).nodup_iff,rp_nm]
    exact ri.nd
  · obtain ⟨us',q1,rfl⟩:=perm_lift up rfl
    have eq:us' = rp a e ps:=uniq_by (key:=fun p:Addr×En=>p.2.nm) (q1.trans pm.symm) (by rw [List.pairwise_map] at us2; exact us2) (by
      have:=ri
      unfold Rise at this
      rw [← rp_nm a e ps,List.pairwise_map] at this
      exact this)
    subst eq
    rw [List.map_map]
    have s10:=same_new np (.lst ((rp a e ps).map ((fun t:Addr×Str=>V.ref t.1)∘fun p:Addr×En=>(p.1,p.2.nm))))
    have h10:(upd H2 p (.lst ((rp a e ps).map ((fun t:Addr×Str=>V.ref t.1)∘fun p:Addr×En=>(p.1,p.2.nm))))) p = some (.lst ((rp a e ps).map fun p=>V.ref p.1)):=upd_same
    generalize upd H2 p (.lst ((rp a e ps).map ((fun t:Addr×Str=>V.ref t.1)∘fun p:Addr×En=>(p.1,p.2.nm)))) = H10 at s10 h10
    refine ⟨p,_,rfl,.inl ⟨SqL.of h10,fun nn nnn=>?_⟩⟩
    have s11:=same_new nnn (.tup ((rp a e ps).map fun p=>V.ref p.1))
    have tb10:=tb2.same s10
    have st10:SameT PU H H10:=((s79.t PU).trans st).trans (s10.t PU)
    exact q nn _ (st10.trans (s11.t PU)) (tb10.same s11) (st10.free tb10 nnn) upd_same
def sp_with_named (K:PySem.W.Frag) (PU:Addr):Sp:=fun vs H Q _=>∃ (h a:Addr) (e:En) (ag:Int) (k n:Addr) (ps:List (Addr×En)),vs = [.ref h,.ref a]∧HeadAt H h ag k n ps∧EnAt H (a,e)∧Rise ps∧(∃ p∈ps,p.2.nm = e.nm)∧ps.length≤20∧TabH PU MQ MP H∧
  ∀ h' n' H',SameT PU H H'→TabH PU MQ MP H'→H h' = none→HeadAt H' h' ag k n' (rp a e ps)→Q (.ref h') H'
theorem ok_with_named (T:Txt K mg) (F:Fun K "with_named" "with_named" s_with_named f fd) (D_put_among:Def P w K mg base 1 "put_among" ["some","one"] (sp_put_among K PU)):FnOk P w K mg base CX0 2 f fd ["head","named"] (sp_with_named K PU):=by
  refine F.ok sc_with_named (fun vs H Q E h=>?_) (fun cdv A outer s H vs Q E hr h=>?_)
  · obtain ⟨h,a,e,ag,k,n,ps,rfl,_⟩:=h
    rfl
  obtain ⟨h,a,e,ag,k,n,ps,rfl,hd,ha,ri,ex,few,tb,q⟩:=h
  refine ⟨_,(@pss_one _ _ _ (@ps_ret _ _ _ _ (@pe_tup _ _ _ _ _ (@pa_cons _ _ _ _ _ (@pe_ix _ _ _ _ _ _ _ ix_tup (pv 0) (@pe_int _ _ _ _) (fun _ _=>rfl)) (@pa_cons _ _ _ _ _ (@pe_ix _ _ _ _ _ _ _ ix_tup (pv 0) (@pe_int _ _ _ _) (fun _ _=>rfl)) (@pa_cons _ _ _ _ _ (@pe_fn _ _ _ _ _ _ _ _ _ _ D_put_among (hr.mono (by decide)) rfl (@pa_cons _ _ _ _ _ (@pe_ix _ _ _ _ _ _ _ ix_tup (pv 0) (@pe_int _ _ _ _) (fun _ _=>rfl)) (@pa_cons _ _ _ _ _ (pv 1) (@pa_nil _) (by rfl)) (by rfl)) (by decide) (by rfl) (by rfl)) (@pa_nil _) (by rfl)) (by rfl)) (by rfl))))),?_⟩
  try dsimp only [cxOf,Cx.nox,Cx.wish]
  refine ⟨_,rfl,h,_,_,_,rfl,rfl,SqT.of hd.at_,atI_nat (j:=0) rfl,_,rfl,h,_,_,_,rfl,rfl,SqT.of hd.at_,atI_nat (j:=1) rfl,_,rfl,h,_,_,_,rfl,rfl,SqT.of hd.at_,atI_nat (j:=2) rfl,_,rfl,n,a,e,ps,rfl,hd.nm,hd.en,ha,ri,ex,few,tb,fun n' H1 st1 tb1 nn1 h1=>⟨small (by show 3≤1000000; decide),fun h' nh=>?_⟩⟩
  have s2:=same_new nh (.tup [V.int ag,V.ref k,V.ref n'])
  have nt:∀ xs ps,HO.tup xs≠.tbl ps:=by intro _ _ z; cases z
  refine q h' n' _ (st1.trans (s2.t PU)) (tb1.same s2) (st1.free tb1 nh) ⟨upd_same,s2.get h1,fun p hp=>?_⟩
  have keep:∀ b xs,H b = some (.tup xs)→(upd H1 h' (.tup [V.int ag,V.ref k,V.ref n'])) b = some (.tup xs):=fun b xs z=>s2.get (st1.get tb z (nt _))
  obtain ⟨p0,hp0,rfl⟩:=List.mem_map.mp hp
  split
  · exact ha.get keep
  · exact (hd.en p0 hp0).get keep
def sp_with_origin (K:PySem.W.Frag):Sp:=fun vs H Q _=>∃ (a:Addr) (o nm kp og:Str) (t:Int×Int×Int),vs = [.ref a,.str o]∧EnAt H (a,.st nm kp og t)∧
  ∀ a' H',Same H H'→EnAt H' (a',.st nm kp o t)→Q (.ref a') H'
theorem ok_with_origin (T:Txt K mg) (F:Fun K "with_origin" "with_origin" s_with_origin f fd):FnOk P w K mg base CX0 1 f fd ["stem","origin"] (sp_with_origin K):=by
  refine F.ok sc_with_origin (fun vs H Q E h=>?_) (fun cdv A outer s H vs Q E hr h=>?_)
  · obtain ⟨a,o,nm,kp,og,t,rfl,_⟩:=h
    rfl
  obtain ⟨a,o,nm,kp,og,t,rfl,⟨ta,hta,ha⟩,q⟩:=h
  refine ⟨_,(@pss_one _ _ _ (@ps_ret _ _ _ _ (@pe_op _ _ _ _ _ _ _ _ op_catT3 (@pe_slice _ _ _ _ _ _ _ _ _ _ sl_tup (pv 0) (@po_none _) (@po_some _ _ _ (@pe_int _ _ _ _))) (@pe_tup _ _ _ _ _ (@pa_cons _ _ _ _ _ (pv 1) (@pa_cons _ _ _ _ _ (@pe_ix _ _ _ _ _ _ _ ix_tup (pv 0) (@pe_int _ _ _ _) (fun _ _=>rfl)) (@pa_nil _) (by rfl)) (by rfl)))))),?_⟩
  try dsimp only [cxOf,Cx.nox,Cx.wish]
  refine ⟨_,rfl,_,rfl,a,_,rfl,SqT.of ha,(fun z=>absurd z.2 (show ¬ (HT.sIx 5 5 (some 3) = 5) by decide)),fun p1 n1=>?_⟩
  rw [cut_hi (by decide)]
  have s1:=same_new n1 (.tup [V.str nm,V.int 1,V.str kp])
  have h1:(upd H p1 (.tup [V.str nm,V.int 1,V.str kp])) p1 = some (.tup [V.str nm,V.int 1,V.str kp]):=upd_same
  change tTup _ _ (upd H p1 (.tup [V.str nm,V.int 1,V.str kp])) _
  generalize upd H p1 (.tup [V.str nm,V.int 1,V.str kp]) = H1 at s1 h1
  refine ⟨_,rfl,_,rfl,a,_,_,_,rfl,rfl,SqT.of (s1.get ha),atI_nat (j:=4) rfl,small (by show 2≤1000000; decide),fun p2 n2=>?_⟩
  have s2:=same_new n2 (.tup [V.str o,V.ref ta])
  have h2:(upd H1 p2 (.tup [V.str o,V.ref ta])) p2 = some (.tup [V.str o,V.ref ta]):=upd_same
  generalize upd H1 p2 (.tup [V.str o,V.ref ta]) = H2 at s2 h2
  refine ⟨p1,p2,_,_,rfl,rfl,SqT.of (s2.get h1),SqT.of h2,small (by show 5≤1000000; decide),(fun z=>by cases z),(fun _ z=>by cases z),fun _ _ p3 n3=>?_⟩
  have s3:=same_new n3 (.tup ([V.str nm,V.int 1,V.str kp] ++ [V.str o,V.ref ta]))
  exact q p3 _ ((s1.trans s2).trans s3) ⟨ta,s3.get (s2.get (s1.get hta)),upd_same⟩
end
def reh (s:Str):En→En
  | .sl nm _ n t=>.sl nm s n t
  | .st nm k o t=>.st nm k o t
def hung (s:Str) (D:List Str) (e:En):En:=if e.nm∈D then reh s e else e
def rpE (e':En) (es:List En):List En:=es.map fun x=>if x.nm = e'.nm then e' else x
theorem rp_en (a:Addr) (e:En) (ps:List (Addr×En)):(rp a e ps).map (·.2) = rpE e (ps.map (·.2)):=by
  unfold rp rpE
  rw [List.map_map,List.map_map]
  refine List.map_congr_left fun p _=>?_
  show (if p.2.nm = e.nm then (a,e) else p).2 = if p.2.nm = e.nm then e else p.2
  split <;> rfl
theorem nm_st (nm k o:Str) (t:Int×Int×Int):(En.st nm k o t).nm = nm:=rfl
theorem nm_sl (nm k:Str) (n:Int) (t:Int×Int×Int):(En.sl nm k n t).nm = nm:=rfl
theorem reh_nm (s:Str) (e:En):(reh s e).nm = e.nm:=by cases e <;> rfl
theorem hung_nm (s:Str) (D:List Str) (e:En):(hung s D e).nm = e.nm:=by
  unfold hung
  split
  · exact reh_nm _ _
  · rfl
theorem hung_step {es:List En} {s p nm:Str} {D:List Str} {n:Int} {t:Int×Int×Int} (nd:(es.map En.nm).Nodup) (h:En.sl nm p n t∈es):rpE (.sl nm s n t) (es.map (hung s D)) = es.map (hung s (D ++ [nm])):=by
  unfold rpE
  rw [List.map_map]
  refine List.map_congr_left fun e he=>?_
  show (if (hung s D e).nm = nm then En.sl nm s n t else hung s D e) = hung s (D ++ [nm]) e
  rw [hung_nm]
  by_cases z:e.nm = nm
  · have:=nd_inj nd he h z
    subst this
    rw [if_pos z]
    unfold hung
    rw [if_pos (List.mem_append_right _ (by rw [z]; exact List.mem_cons_self))]
    rfl
  · rw [if_neg z]
    unfold hung
    by_cases y:e.nm∈D
    · rw [if_pos y,if_pos (List.mem_append_left _ y)]
    · rw [if_neg y,if_neg fun q=>(List.mem_append.mp q).elim y fun q=>z (List.mem_singleton.mp q)]
theorem hung_end {es:List En} {s p og ogp k kp:Str} {tn:Int} {t tp:Int×Int×Int} {D:List Str} (f:Full es) (g:Gr es s p og ogp tn) (hs:En.st s k og t∈es) (hp:En.st p kp ogp tp∈es) (hD:∀ nm,nm∈D↔∃ n t,En.sl nm p n t∈es∧n≤tn) :
    rpE (.st s k ogp t) (rpE (.st p kp og tp) (es.map (hung s D))) = es.map (gr s p og ogp tn):=by
  have ne:=g.ne f
  unfold rpE
  rw [List.map_map,List.map_map]
  refine List.map_congr_left fun e he=>?_
  show (if (if (hung s D e).nm = p then En.st p kp og tp else hung s D e).nm = s then En.st s k ogp t else (if (hung s D e).nm = p then En.st p kp og tp else hung s D e)) = gr s p og ogp tn e
  rw [hung_nm]
  cases e with
  | st nm k' o t'=>
    have nD:nm ∉ D:=fun z=>by
      obtain ⟨n,t2,h2,_⟩:=(hD nm).mp z
      have:=f.one he h2 rfl
      cases this
    have eh:hung s D (.st nm k' o t') = .st nm k' o t':=if_neg nD
    rw [eh]
    show (if (if nm = p then En.st p kp og tp else En.st nm k' o t').nm = s then _ else _) = if nm = s then _ else if nm = p then _ else _
    by_cases zp:nm = p
    · subst zp
      have:=f.one he hp rfl
      cases this
      simp only [nm_st,if_true,if_neg (Ne.symm ne)]
    · by_cases zs:nm = s
      · subst zs
        have:=f.one he hs rfl
        cases this
        simp only [nm_st,if_true,if_neg zp]
      · simp only [nm_st,if_neg zs,if_neg zp]
        exact if_neg zp
  | sl nm sm n t'=>
    have zp:nm≠p:=fun z=>by
      have:=f.one he hp z
      cases this
    have zs:nm≠s:=fun z=>by
      have:=f.one he hs z
      cases this
    show (if (if nm = p then En.st p kp og tp else hung s D (.sl nm sm n t')).nm = s then _ else (if nm = p then En.st p kp og tp else hung s D (.sl nm sm n t'))) = if sm = p∧n≤tn then _ else _
    simp only [nm_sl,if_neg zp,hung_nm,if_neg zs]
    by_cases c:sm = p∧n≤tn
    · rw [if_pos c]
      show (if nm∈D then reh s (En.sl nm sm n t') else En.sl nm sm n t') = _
      rw [if_pos ((hD nm).mpr ⟨n,t',c.1 ▸ he,c.2⟩)]
      rfl
    · rw [if_neg c]
      refine if_neg (show ¬ nm∈D from fun z=>?_)
      obtain ⟨n2,t2,h2,h3⟩:=(hD nm).mp z
      have:=f.one he h2 rfl
      cases this
      exact c ⟨rfl,h3⟩
section
variable {P:Program} {w:World} {K:PySem.W.Frag} {mg:Str→Option Value} {base:Heap} {f:Addr} {fd:FuncData} {PT PU:Addr}
theorem full_nd {ps:List (Addr×En)} (f:Full (ps.map (·.2))) (sm:Str):((ps.filter fun p=>p.2.isSl sm).map fun p=>p.2.turn).Nodup:=by
  have:=slOf_sub (nm:=sm) f.tns
  rw [List.filter_map,List.map_map] at this
  exact this
theorem mem_en {ps:List (Addr×En)} {e:En} (h:e∈ps.map (·.2)):∃ a,(a,e)∈ps:=by
  obtain ⟨⟨a,e'⟩,hp,rfl⟩:=List.mem_map.mp h
  exact ⟨a,hp⟩
def sp_grafted (K:PySem.W.Frag) (PT PU:Addr):Sp:=fun vs H Q _=>∃ (h:Addr) (s:Str) (ag:Int) (k n:Addr) (ps:List (Addr×En)) (p og ogp:Str) (tn:Int),vs = [.ref h,.str s]∧HeadAt H h ag k n ps∧ps.length≤20∧Rise ps∧Full (ps.map (·.2))∧Gr (ps.map (·.2)) s p og ogp tn∧Tb PT PU H∧
  ∀ h' n' ps' H',SameU PT PU H H'→Tb PT PU H'→HeadAt H' h' ag k n' ps'→ps'.map (·.2) = (ps.map (·.2)).map (gr s p og ogp tn)→Q (.ref h') H'
theorem ok_grafted (T:Txt K mg) (F:Fun K "grafted" "grafted" s_grafted f fd) (D_stem_called:Def P w K mg base 3 "stem_called" ["head","name"] (sp_stem_called K)) (D_seal_called:Def P w K mg base 3 "seal_called" ["head","name"] (sp_seal_called K)) (D_seals_of:Def P w K mg base 1 "seals_of" ["head","stem"] (sp_seals_of K PT)) (D_with_named:Def P w K mg base 2 "with_named" ["head","named"] (sp_with_named K PU)) (D_with_origin:Def P w K mg base 1 "with_origin" ["stem","origin"] (sp_with_origin K)):FnOk P w K mg base CX0 4 f fd ["head","stem"] (sp_grafted K PT PU):=by
  refine F.ok sc_grafted (fun vs H Q E h=>?_) (fun cdv A outer s H vs Q E hr h=>?_)
  · obtain ⟨h,s,ag,k,n,ps,p,og,ogp,tn,rfl,_⟩:=h
    rfl
  obtain ⟨h,sn,ag,k,n,ps,p,og,ogp,tn,rfl,hd,few,ri,full,g,tb,q⟩:=h
  refine ⟨_,(@pss_cons _ _ _ _ _ (@ps_set _ _ (2) _ _ _ _ sc_grafted.nd rfl (by first | exact Or.inl rfl | exact Or.inr rfl) (@pe_fn _ _ _ _ _ _ _ _ _ _ D_stem_called (hr.mono (by decide)) rfl (@pa_cons _ _ _ _ _ (pv 0) (@pa_cons _ _ _ _ _ (pv 1) (@pa_nil _) (by rfl)) (by rfl)) (by decide) (by rfl) (by rfl)) (by rfl) (by first | exact .inl rfl | exact .inr rfl | assumption)) (@pss_cons _ _ _ _ _ (@ps_set _ _ (3) _ _ _ _ sc_grafted.nd rfl (by first | exact Or.inl rfl | exact Or.inr rfl) (@pe_fn _ _ _ _ _ _ _ _ _ _ D_seal_called (hr.mono (by decide)) rfl (@pa_cons _ _ _ _ _ (pv 0) (@pa_cons _ _ _ _ _ (@pe_ix _ _ _ _ _ _ _ ix_tup (pv 2) (@pe_int _ _ _ _) (fun _ _=>rfl)) (@pa_nil _) (by rfl)) (by rfl)) (by decide) (by rfl) (by rfl)) (by rfl) (by first | exact .inl rfl | exact .inr rfl | assumption)) (@pss_cons _ _ _ _ _ (@ps_set _ _ (4) _ _ _ _ sc_grafted.nd rfl (by first | exact Or.inl rfl | exact Or.inr rfl) (@pe_fn _ _ _ _ _ _ _ _ _ _ D_stem_called (hr.mono (by decide)) rfl (@pa_cons _ _ _ _ _ (pv 0) (@pa_cons _ _ _ _ _ (@pe_ix _ _ _ _ _ _ _ ix_tup (pv 3) (@pe_int _ _ _ _) (fun _ _=>rfl)) (@pa_nil _) (by rfl)) (by rfl)) (by decide) (by rfl) (by rfl)) (by rfl) (by first | exact .inl rfl | exact .inr rfl | assumption)) (@pss_cons _ _ _ _ _ (@ps_for _ _ _ _ _ _ _ _ PassesOwn.never rfl (@pi_list _ _ _ _ (@pe_fn _ _ _ _ _ _ _ _ _ _ D_seals_of (hr.mono (by decide)) rfl (@pa_cons _ _ _ _ _ (pv 0) (@pa_cons _ _ _ _ _ (@pe_ix _ _ _ _ _ _ _ ix_tup (pv 4) (@pe_int _ _ _ _) (fun _ _=>rfl)) (@pa_nil _) (by rfl)) (by rfl)) (by decide) (by rfl) (by rfl))) (@pg_name _ _ (5) _ sc_grafted.nd rfl (by first | exact Or.inl rfl | exact Or.inr rfl) (by first | exact .inl rfl | exact .inr rfl | assumption)) (@pss_one _ _ _ (@ps_if _ _ _ _ _ _ _ _ (@pt_cmpR _ _ _ _ _ _ _ _ op_le (@pe_ix _ _ _ _ _ _ _ ix_tup (pv 5) (@pe_int _ _ _ _) (fun _ _=>rfl)) (@pe_ix _ _ _ _ _ _ _ ix_tup (pv 3) (@pe_int _ _ _ _) (fun _ _=>rfl)) (nomark _)) (@pss_one _ _ _ (@ps_set _ _ (0) _ _ _ _ sc_grafted.nd rfl (by first | exact Or.inl rfl | exact Or.inr rfl) (@pe_fn _ _ _ _ _ _ _ _ _ _ D_with_named (hr.mono (by decide)) rfl (@pa_cons _ _ _ _ _ (pv 0) (@pa_cons _ _ _ _ _ (@pe_tup _ _ _ _ _ (@pa_cons _ _ _ _ _ (@pe_ix _ _ _ _ _ _ _ ix_tup (pv 5) (@pe_int _ _ _ _) (fun _ _=>rfl)) (@pa_cons _ _ _ _ _ (@pe_globI _ _ _ _ rfl T.c_SEAL (by decide)) (@pa_cons _ _ _ _ _ (pv 1) (@pa_cons _ _ _ _ _ (@pe_ix _ _ _ _ _ _ _ ix_tup (pv 5) (@pe_int _ _ _ _) (fun _ _=>rfl)) (@pa_cons _ _ _ _ _ (@pe_ix _ _ _ _ _ _ _ ix_tup (pv 5) (@pe_int _ _ _ _) (fun _ _=>rfl)) (@pa_nil _) (by rfl)) (by rfl)) (by rfl)) (by rfl)) (by rfl))) (@pa_nil _) (by rfl)) (by rfl)) (by decide) (by rfl) (by rfl)) (by rfl) (by first | exact .inl rfl | exact .inr rfl | assumption))) (@pss_nil _))) (by intro _; rfl)) (@pss_cons _ _ _ _ _ (@ps_set _ _ (0) _ _ _ _ sc_grafted.nd rfl (by first | exact Or.inl rfl | exact Or.inr rfl) (@pe_fn _ _ _ _ _ _ _ _ _ _ D_with_named (hr.mono (by decide)) rfl (@pa_cons _ _ _ _ _ (pv 0) (@pa_cons _ _ _ _ _ (@pe_fn _ _ _ _ _ _ _ _ _ _ D_with_origin (hr.mono (by decide)) rfl (@pa_cons _ _ _ _ _ (pv 4) (@pa_cons _ _ _ _ _ (@pe_ix _ _ _ _ _ _ _ ix_tup (pv 3) (@pe_int _ _ _ _) (fun _ _=>rfl)) (@pa_nil _) (by rfl)) (by rfl)) (by decide) (by rfl) (by rfl)) (@pa_nil _) (by rfl)) (by rfl)) (by decide) (by rfl) (by rfl)) (by rfl) (by first | exact .inl rfl | exact .inr rfl | assumption)) (@pss_one _ _ _ (@ps_ret _ _ _ _ (@pe_fn _ _ _ _ _ _ _ _ _ _ D_with_named (hr.mono (by decide)) rfl (@pa_cons _ _ _ _ _ (pv 0) (@pa_cons _ _ _ _ _ (@pe_fn _ _ _ _ _ _ _ _ _ _ D_with_origin (hr.mono (by decide)) rfl (@pa_cons _ _ _ _ _ (pv 2) (@pa_cons _ _ _ _ _ (@pe_ix _ _ _ _ _ _ _ ix_tup (pv 4) (@pe_int _ _ _ _) (fun _ _=>rfl)) (@pa_nil _) (by rfl)) (by rfl)) (by decide) (by rfl) (by rfl)) (@pa_nil _) (by rfl)) (by rfl)) (by decide) (by rfl) (by rfl))))))))),?_⟩
  try dsimp only [cxOf,Cx.nox,Cx.wish]
  have nd:=ri.nd
  obtain ⟨k1,t1,m1⟩:=g.a
  obtain ⟨t2,m2⟩:=g.b
  obtain ⟨k3,t3,m3⟩:=g.c
  obtain ⟨a1,p1⟩:=mem_en m1
  obtain ⟨a2,p2⟩:=mem_en m2
  obtain ⟨a3,p3⟩:=mem_en m3
  have e1:=hd.en _ p1
  have e2:=hd.en _ p2
  have e3:=hd.en _ p3
  obtain ⟨x1,_,y1⟩:=id e1
  obtain ⟨x2,_,y2⟩:=id e2
  obtain ⟨x3,_,y3⟩:=id e3
  refine ⟨_,rfl,_,rfl,h,ag,k,n,ps,a1,sn,k1,og,t1,rfl,hd,nd,p1,?_⟩
  refine ⟨_,rfl,_,rfl,a1,_,_,_,rfl,rfl,SqT.of y1,atI_nat (j:=3) rfl,h,ag,k,n,ps,a2,og,p,tn,t2,rfl,hd,nd,p2,?_⟩
  refine ⟨_,rfl,_,rfl,a2,_,_,_,rfl,rfl,SqT.of y2,atI_nat (j:=2) rfl,h,ag,k,n,ps,a3,p,k3,ogp,t3,rfl,hd,nd,p3,?_⟩
  refine ⟨_,rfl,_,rfl,a3,_,_,_,rfl,rfl,SqT.of y3,atI_nat (j:=0) rfl,h,p,ag,k,n,ps,rfl,hd,by omega,full_nd full p,tb.a,fun us l H1 up us2 st1 tb1 nl hl=>?_⟩
  have u1:SameU PT PU H H1:=sameT_l st1
  have T1:=tb.l st1 tb1
  have inps:∀ q∈us,q∈ps∧∃ nm n t,q.2 = .sl nm p n t:=fun q hq=>by
    obtain ⟨g1,g2⟩:=List.mem_filter.mp (up.mem_iff.mp hq)
    refine ⟨g1,?_⟩
    cases e:q.2 with
    | st nm kp og t=>rw [e] at g2; cases g2
    | sl nm sm' tn t=>
      rw [e] at g2
      rw [of_decide_eq_true g2]
      exact ⟨_,_,_,rfl⟩
  have lps:∀ {psi:List (Addr×En)} {D:List Str},psi.map (·.2) = (ps.map (·.2)).map (hung sn D)→(psi.map fun q=>q.2.nm) = ps.map fun q=>q.2.nm:=fun {psi D} z=>by
    have:=congrArg (List.map En.nm) z
    rw [List.map_map,List.map_map,List.map_map] at this
    refine this.trans (List.map_congr_left fun q _=>?_)
    exact hung_nm _ _ _
  have exn:∀ {psi:List (Addr×En)},(psi.map fun q=>q.2.nm) = (ps.map fun q=>q.2.nm)→∀ {q:Addr×En},q∈ps→∃ q'∈psi,q'.2.nm = q.2.nm:=fun {psi} z {q} hq=>by
    have:q.2.nm∈psi.map fun q=>q.2.nm:=by rw [z]; exact List.mem_map.mpr ⟨q,hq,rfl⟩
    obtain ⟨q',h1,h2⟩:=List.mem_map.mp this
    exact ⟨q',h1,h2⟩
  refine ⟨l,rfl,⟨_,SqL.of hl⟩,for_list (K:=K) (a:=l) (xs:=us.map fun q=>V.ref q.1) (fun i σ H2=>∃ hi ni psi v,σ = [some (.ref hi),some (.str sn),some (.ref a1),some (.ref a2),some (.ref a3),v]∧SameU PT PU H1 H2∧Tb PT PU H2∧HeadAt H2 hi ag k ni psi∧psi.map (·.2) = (ps.map (·.2)).map (hung sn (((us.take i).filter fun q=>decide (q.2.turn≤tn)).map fun q=>q.2.nm)))
    ⟨h,n,ps,none,rfl,.refl _,T1,hd.get (u1.tup tb),?_⟩ (fun i σ H2 _ ⟨_,_,_,_,_,u,_⟩=>SqL.of (u.lst T1 hl)) ?_ ?_⟩
  · conv=>lhs; rw [← List.map_id (ps.map (·.2))]
    exact List.map_congr_left fun e _=>rfl
  · rintro i x σ H2 hi ⟨hh,nn,psi,v,rfl,u2,T2,hd2,ep⟩
    rw [List.getElem?_map] at hi
    obtain ⟨⟨qa,qe⟩,hq,rfl⟩:=Option.map_eq_some_iff.mp hi
    obtain ⟨qp,nm,n0,t0,rfl⟩:=inps _ (List.mem_of_getElem? hq)
    have u02:=u1.trans u2
    obtain ⟨xq,zq,yq⟩:=(hd.en _ qp).get (u02.tup tb)
    have y2':=u02.tup tb _ _ y2
    have tk:us.take (i + 1) = us.take i ++ [(qa,En.sl nm p n0 t0)]:=by rw [List.take_add_one,hq]; rfl
    have nme:=lps ep
    refine ⟨_,rfl,qa,_,_,_,rfl,rfl,SqT.of yq,atI_nat (j:=3) rfl,_,rfl,a2,_,_,_,rfl,rfl,SqT.of y2',atI_nat (j:=3) rfl,_,_,rfl,rfl,_,rfl,ite2 (fun c=>?_) (fun c=>?_)⟩
    · have c':=of_decide_eq_true c
      refine ⟨_,rfl,_,rfl,qa,_,_,_,rfl,rfl,SqT.of yq,atI_nat (j:=0) rfl,_,rfl,_,rfl,qa,_,_,_,rfl,rfl,SqT.of yq,atI_nat (j:=3) rfl,_,rfl,qa,_,_,_,rfl,rfl,SqT.of yq,atI_nat (j:=4) rfl,small (by show 5≤1000000; decide),fun pn np=>?_⟩
      have s3:=same_new np (.tup ((En.sl nm sn n0 t0).items xq))
      have h3:(upd H2 pn (.tup ((En.sl nm sn n0 t0).items xq))) pn = some (.tup ((En.sl nm sn n0 t0).items xq)):=upd_same
      have z3:=s3.get zq
      have T3:=T2.same s3
      have ri2:Rise psi:=by unfold Rise; rw [nme]; exact ri
      refine ⟨hh,pn,En.sl nm sn n0 t0,ag,k,nn,psi,rfl,hd2.same s3,⟨xq,z3,h3⟩,ri2,exn nme qp,?_,T3.b,fun h4 n4 H4 st4 tb4 nh4 hd4=>?_⟩
      · have:=congrArg List.length nme
        rw [List.length_map,List.length_map] at this
        omega
      · refine ⟨h4,n4,_,_,rfl,(u2.trans (same_u s3)).trans (sameT_r st4),T3.r st4 tb4,hd4,?_⟩
        rw [rp_en,ep,tk,List.filter_append,List.map_append,hung_step full.nms (List.mem_map.mpr ⟨_,qp,rfl⟩)]
        rw [show List.filter (fun q:Addr×En=>decide (q.2.turn≤tn)) [(qa,En.sl nm p n0 t0)] = [(qa,En.sl nm p n0 t0)] by rw [List.filter_cons,if_pos (show decide ((qa,En.sl nm p n0 t0).snd.turn≤tn) = true from decide_eq_true c')]; rfl]
        rfl
    · refine ⟨hh,nn,psi,_,rfl,u2,T2,hd2,?_⟩
      rw [ep,tk,List.filter_append]
      rw [show List.filter (fun q:Addr×En=>decide (q.2.turn≤tn)) [(qa,En.sl nm p n0 t0)] = [] by rw [List.filter_cons,if_neg (show ¬ decide ((qa,En.sl nm p n0 t0).snd.turn≤tn) = true from fun z=>by rw [show decide (n0≤tn) = true from z] at c; exact c rfl)]; rfl,List.append_nil]
  · rintro σ H2 ⟨hh,nn,psi,v,rfl,u2,T2,hd2,ep⟩
    rw [List.length_map,List.take_length] at ep
    have u02:=u1.trans u2
    have y2':=u02.tup tb _ _ y2
    have nme:=lps ep
    have hD:∀ nm,nm∈((us.filter fun q=>decide (q.2.turn≤tn)).map fun q=>q.2.nm)↔∃ n t,En.sl nm p n t∈ps.map (·.2)∧n≤tn:=fun nm=>by
      constructor
      · intro z
        obtain ⟨⟨qa,qe⟩,hq,rfl⟩:=List.mem_map.mp z
        obtain ⟨g1,g2⟩:=List.mem_filter.mp hq
        obtain ⟨qp,nm,n0,t0,e⟩:=inps _ g1
        have e:qe = En.sl nm p n0 t0:=e
        subst e
        exact ⟨n0,t0,List.mem_map.mpr ⟨_,qp,rfl⟩,of_decide_eq_true g2⟩
      · rintro ⟨n0,t0,z,le⟩
        obtain ⟨qa,qp⟩:=mem_en z
        exact List.mem_map.mpr ⟨_,List.mem_filter.mpr ⟨up.mem_iff.mpr (List.mem_filter.mpr ⟨qp,decide_eq_true rfl⟩),decide_eq_true le⟩,rfl⟩
    have ln:psi.length≤20:=by
      have:=congrArg List.length nme
      rw [List.length_map,List.length_map] at this
      omega
    have ri2:Rise psi:=by unfold Rise; rw [nme]; exact ri
    refine ⟨_,rfl,_,rfl,_,rfl,a2,_,_,_,rfl,rfl,SqT.of y2',atI_nat (j:=0) rfl,a3,og,p,k3,ogp,t3,rfl,e3.get (u02.tup tb),fun a4 H3 s3 en3=>?_⟩
    have T3:=T2.same s3
    refine ⟨hh,a4,En.st p k3 og t3,ag,k,nn,psi,rfl,hd2.same s3,en3,ri2,exn nme p3,ln,T3.b,fun h4 n4 H4 st4 tb4 nh4 hd4=>?_⟩
    have T4:=T3.r st4 tb4
    have u4:=(u02.trans (same_u s3)).trans (sameT_r st4)
    have nme4:((rp a4 (En.st p k3 og t3) psi).map fun q=>q.2.nm) = ps.map fun q=>q.2.nm:=by rw [rp_nm]; exact nme
    have ri4:Rise (rp a4 (En.st p k3 og t3) psi):=by unfold Rise; rw [nme4]; exact ri
    refine ⟨_,rfl,_,rfl,_,rfl,a3,_,_,_,rfl,rfl,SqT.of (u4.tup tb _ _ y3),atI_nat (j:=3) rfl,a1,ogp,sn,k1,og,t1,rfl,e1.get (u4.tup tb),fun a5 H5 s5 en5=>?_⟩
    have T5:=T4.same s5
    refine ⟨h4,a5,En.st sn k1 ogp t1,ag,k,n4,_,rfl,hd4.same s5,en5,ri4,exn nme4 p1,by unfold rp; rw [List.length_map]; exact ln,T5.b,fun h6 n6 H6 st6 tb6 nh6 hd6=>?_⟩
    refine q h6 n6 _ H6 ((u4.trans (same_u s5)).trans (sameT_r st6)) (T5.r st6 tb6) hd6 ?_
    rw [rp_en,rp_en,ep]
    exact hung_end full g m1 m3 hD
end
section
variable {P:Program} {w:World} {K:PySem.W.Frag} {mg:Str→Option Value} {base:Heap} {f:Addr} {XC:Nat→Addr} {fd:FuncData}
def sp__law_row (K:PySem.W.Frag):Sp:=fun vs H Q _=>∃ (c m:Int),vs = [.int c,.int m]∧0≤m∧m≤1000∧
  ∀ (r:Addr) (H':Hp) (ns:List Int),Same H H'→H r = none→H' r = some (.lst (ns.map V.int))→ns.length = m.toNat→(∀ x∈ns,0≤x∧x < 60)→Q (.ref r) H'
theorem ok__law_row (T:Txt K mg) (F:Fun K "_law_row" "_law_row" s__law_row f fd):FnOk P w K mg base CX0 1 f fd ["_law_cell","_law_many"] (sp__law_row K):=by
  refine F.ok sc__law_row (fun vs H Q E h=>?_) (fun cdv A outer s H vs Q E hr h=>?_)
  · obtain ⟨c,m,rfl,_⟩:=h
    rfl
  obtain ⟨c,m,rfl,hm0,hm1,q⟩:=h
  refine ⟨_,(@pss_cons _ _ _ _ _ (@ps_set _ _ (2) _ _ _ _ sc__law_row.nd rfl (by first | exact Or.inl rfl | exact Or.inr rfl) (@pe_lst _ _ _ _ (@pa_nil _)) (by rfl) (by first | exact .inl rfl | exact .inr rfl | assumption)) (@pss_cons _ _ _ _ _ (@ps_for _ _ _ _ _ _ _ _ PassesOwn.never rfl (@pi_range1 _ _ _ _ _ _ rfl T.b_range (@pa_cons _ _ _ _ _ (pv 1) (@pa_nil _) (by rfl)) (by rfl)) (@pg_name _ _ (3) _ sc__law_row.nd rfl (by first | exact Or.inl rfl | exact Or.inr rfl) (by first | exact .inl rfl | exact .inr rfl | assumption)) (@pss_one _ _ _ (@ps_if _ _ _ _ _ _ _ _ (@pt_chain _ _ _ _ _ _ _ _ _ _ _ _ op_le op_lt (@pe_int _ _ _ _) (pv 0) (@pe_op _ _ _ _ _ _ _ _ op_pow (@pe_int _ _ _ _) (@pe_int _ _ _ _)) (by with_unfolding_all rfl)) (@pss_cons _ _ _ _ _ (@ps_set _ _ (4) _ _ _ _ sc__law_row.nd rfl (by first | exact Or.inl rfl | exact Or.inr rfl) (@pe_op _ _ _ _ _ _ _ _ op_mod (@pe_op _ _ _ _ _ _ _ _ op_add (@pe_op _ _ _ _ _ _ _ _ op_add (@pe_op _ _ _ _ _ _ _ _ op_mul (@pe_op _ _ _ _ _ _ _ _ op_mod (pv 0) (@pe_int _ _ _ _)) (@pe_int _ _ _ _)) (@pe_op _ _ _ _ _ _ _ _ op_mul (@pe_op _ _ _ _ _ _ _ _ op_mul (pv 3) (pv 3)) (@pe_int _ _ _ _))) (@pe_int _ _ _ _)) (@pe_int _ _ _ _)) (by rfl) (by first | exact .inl rfl | exact .inr rfl | assumption)) (@pss_one _ _ _ (@ps_expr _ _ _ _ (@pe_bm _ _ _ _ _ _ _ _ _ _ _ _ PySem.F.plainAttrs_list PySem.F.slot_list_append PySem.F.type_list_append mt_append (pv 2) (@pa_cons _ _ _ _ _ (@pe_op _ _ _ _ _ _ _ _ op_mod (@pe_op _ _ _ _ _ _ _ _ op_fdiv (@pe_op _ _ _ _ _ _ _ _ op_mod (@pe_op _ _ _ _ _ _ _ _ op_mul (pv 4) (@pe_op _ _ _ _ _ _ _ _ op_add (@pe_op _ _ _ _ _ _ _ _ op_mod (pv 4) (@pe_int _ _ _ _)) (@pe_int _ _ _ _))) (@pe_int _ _ _ _)) (@pe_int _ _ _ _)) (@pe_int _ _ _ _)) (@pa_nil _) (by rfl)) (by rfl) (by rfl) (by rfl) (by rfl) (by rfl)) (by rfl)))) (@pss_cons _ _ _ _ _ (@ps_expr _ _ _ _ (@pe_bm _ _ _ _ _ _ _ _ _ _ _ _ PySem.F.plainAttrs_list PySem.F.slot_list_append PySem.F.type_list_append mt_append (pv 2) (@pa_cons _ _ _ _ _ (@pe_op _ _ _ _ _ _ _ _ op_mod (pv 0) (@pe_int _ _ _ _)) (@pa_nil _) (by rfl)) (by rfl) (by rfl) (by rfl) (by rfl) (by rfl)) (by rfl)) (@pss_one _ _ _ (@ps_set _ _ (0) _ _ _ _ sc__law_row.nd rfl (by first | exact Or.inl rfl | exact Or.inr rfl) (@pe_op _ _ _ _ _ _ _ _ op_fdiv (pv 0) (@pe_int _ _ _ _)) (by rfl) (by first | exact .inl rfl | exact .inr rfl | assumption)))))) (by intro _; rfl)) (@pss_one _ _ _ (@ps_ret _ _ _ _ (pv 2))))),?_⟩
  try dsimp only [cxOf,Cx.nox,Cx.wish]
  refine ⟨small (by show 0≤1000000; decide),fun g hg=>?_⟩
  refine ⟨_,rfl,m,rfl,by omega,by omega,for_range (lo:=0) (n:=m.toNat) (fun i σ H2=>∃ (ns:List Int) (z:Int) (v u:Option V),σ = [some (.int z),some (.int m),some (.ref g),v,u]∧Same H H2∧H2 g = some (.lst (ns.map V.int))∧ns.length = i∧∀ x∈ns,0≤x∧x < 60)
    ⟨[],c,none,none,rfl,same_new hg _,upd_same,rfl,fun _ h=>nomatch h⟩ ?_ ?_⟩
  · rintro i σ H2 hi ⟨ns,z,v,u,rfl,s2,hg2,hl,hb⟩
    have app:∀ x:Int,0≤x→x < 60→∀ (z:Int) (v u:Option V),∃ (ns':List Int) (z':Int) (v' u':Option V),[some (.int z),some (.int m),some (.ref g),v,u] = [some (.int z'),some (.int m),some (.ref g),v',u']∧Same H (upd H2 g (.lst (ns.map V.int ++ [.int x])))∧(upd H2 g (.lst (ns.map V.int ++ [.int x]))) g = some (.lst (ns'.map V.int))∧ns'.length = i + 1∧∀ x∈ns',0≤x∧x < 60:=fun x h0 h1 z v u=>
      ⟨ns ++ [x],z,v,u,rfl,same_upd s2 hg _,by rw [upd_same,List.map_append]; rfl,by rw [List.length_append,hl]; rfl,fun y hy=>by
        rcases List.mem_append.mp hy with hy | hy
        · exact hb y hy
        · rw [List.mem_singleton.mp hy]
          exact ⟨h0,h1⟩⟩
    have few:(ns.map V.int).length < sizeLine:=smallLt (by rw [List.length_map]; omega)
    refine ⟨_,rfl,_,_,rfl,rfl,_,rfl,ite2 (fun c1=>?_) (fun c1=>?_)⟩
    · refine ⟨_,_,rfl,rfl,⟨by decide,by decide,by decide⟩,_,_,rfl,rfl,_,rfl,ite2 (fun c2=>?_) (fun c2=>?_)⟩
      · refine ⟨_,rfl,_,_,rfl,rfl,(by show (0:Int) < 2147483629; decide),_,_,rfl,rfl,.inr ⟨by decide,by decide⟩,_,rfl,_,rfl,_,_,rfl,rfl,.inl ⟨by omega,by omega⟩,_,_,rfl,rfl,.inr ⟨by decide,by decide⟩,_,_,rfl,rfl,_,_,rfl,rfl,_,_,rfl,rfl,(by show (0:Int) < 2147483647; decide),?_⟩
        have b0:=Int.emod_nonneg (z % 2147483629 * 48271 + (0 + (i:Int)) * (0 + (i:Int)) * 69621 + 7) (show (2147483647:Int)≠0 by decide)
        have b1:=Int.emod_lt_of_pos (z % 2147483629 * 48271 + (0 + (i:Int)) * (0 + (i:Int)) * 69621 + 7) (show (0:Int) < 2147483647 by decide)
        dsimp only
        generalize (z % 2147483629 * 48271 + (0 + (i:Int)) * (0 + (i:Int)) * 69621 + 7) % 2147483647 = y at b0 b1
        refine ⟨_,rfl,.inl ⟨rfl,_,SqL.of hg2⟩,_,rfl,_,rfl,_,_,rfl,rfl,(by show (0:Int) < 65521; decide),_,_,rfl,rfl,_,_,rfl,rfl,.inl ⟨by omega,by omega⟩,_,_,rfl,rfl,(by show (0:Int) < 2147483629; decide),_,_,rfl,rfl,⟨by decide,by decide⟩,_,_,rfl,rfl,(by show (0:Int) < 60; decide),g,_,_,rfl,rfl,hg2,few,?_⟩
        exact app _ (Int.emod_nonneg _ (by decide)) (Int.emod_lt_of_pos _ (by decide)) _ _ _
      · refine ⟨_,rfl,.inl ⟨rfl,_,SqL.of hg2⟩,_,rfl,_,_,rfl,rfl,(by show (0:Int) < 60; decide),g,_,_,rfl,rfl,hg2,few,?_⟩
        refine ⟨_,rfl,_,_,rfl,rfl,⟨by decide,by decide⟩,?_⟩
        exact app _ (Int.emod_nonneg _ (by decide)) (Int.emod_lt_of_pos _ (by decide)) _ _ _
    · refine ⟨_,rfl,iteFc rfl ?_⟩
      refine ⟨_,rfl,.inl ⟨rfl,_,SqL.of hg2⟩,_,rfl,_,_,rfl,rfl,(by show (0:Int) < 60; decide),g,_,_,rfl,rfl,hg2,few,?_⟩
      refine ⟨_,rfl,_,_,rfl,rfl,⟨by decide,by decide⟩,?_⟩
      exact app _ (Int.emod_nonneg _ (by decide)) (Int.emod_lt_of_pos _ (by decide)) _ _ _
  · rintro σ H2 ⟨ns,z,v,u,rfl,s2,hg2,hl,hb⟩
    exact ⟨_,rfl,q g _ ns s2 hg hg2 hl hb⟩
end
theorem len_app (a b:Str):(a ++ b).length = a.length + b.length:=by rw [← cod_len,cod_app,List.length_append,cod_len,cod_len]
section
variable {P:Program} {w:World} {K:PySem.W.Frag} {mg:Str→Option Value} {base:Heap} {f:Addr} {fd:FuncData}
def sp__law_cell_at (K:PySem.W.Frag):Sp:=fun vs H Q _=>∃ (a:Addr) (ns:List Int) (k:Int),vs = [.ref a,.int k]∧0≤k∧SqL K H a (ns.map V.int)∧∀ z:Int,Q (.int z) H
theorem ok__law_cell_at (T:Txt K mg) (F:Fun K "_law_cell_at" "_law_cell_at" s__law_cell_at f fd):FnOk P w K mg base CX0 1 f fd ["_law_script","_law_k"] (sp__law_cell_at K):=by
  refine F.ok sc__law_cell_at (fun vs H Q E h=>?_) (fun cdv A outer s H vs Q E hr h=>?_)
  · obtain ⟨a,ns,k,rfl,_⟩:=h
    rfl
  obtain ⟨a,ns,k,rfl,hk,hS,q⟩:=h
  refine ⟨_,(@pss_cons _ _ _ _ _ (@ps_if _ _ _ _ _ _ _ _ (@pt_cmpR _ _ _ _ _ _ _ _ op_lt (pv 1) (@pe_callB _ _ _ _ _ _ _ _ _ call_len_seq (by rfl) T.b_len bt_len (@pa_cons _ _ _ _ _ (pv 0) (@pa_nil _) (by rfl)) (by decide) (by decide) (by rfl) (by rfl)) (nomark _)) (@pss_one _ _ _ (@ps_ret _ _ _ _ (@pe_ix _ _ _ _ _ _ _ ix_list (pv 0) (pv 1) (fun _ _=>rfl)))) (@pss_nil _)) (@pss_one _ _ _ (@ps_ret _ _ _ _ (@pe_int _ _ _ _)))),?_⟩
  refine ⟨_,rfl,_,rfl,a,_,rfl,.inl hS,_,_,rfl,rfl,_,rfl,ite2 (fun c=>?_) (fun c=>q 0)⟩
  have c':=dec_true c
  rw [List.length_map] at c'
  exact ⟨_,rfl,_,rfl,a,_,_,_,rfl,rfl,hS,at_int hk c',q _⟩
end
section
variable {P:Program} {w:World} {K:PySem.W.Frag} {mg:Str→Option Value} {base:Heap} {f:Addr} {XC:Nat→Addr} {fd:FuncData}
abbrev LN:Str:=PySem.Str.ofString "abcdefghijklmnopqrstuvwxyz0123456789"
theorem ln_len:(cod LN).length = 36:=by decide +kernel
theorem ln_nd:(cod LN).Nodup:=by decide +kernel
def lnC (i:Int):Nat:=(cod LN).getD (i % 36).toNat 0
theorem lnC_inj {i j:Int} (h:lnC i = lnC j):i % 36 = j % 36:=by
  have i0:=Int.emod_nonneg i (show (36:Int)≠0 by decide)
  have i1:=Int.emod_lt_of_pos i (show (0:Int) < 36 by decide)
  have j0:=Int.emod_nonneg j (show (36:Int)≠0 by decide)
  have j1:=Int.emod_lt_of_pos j (show (0:Int) < 36 by decide)
  by_cases e:(i % 36).toNat = (j % 36).toNat
  · omega
  · exact absurd h (nodup_getD ln_nd (by rw [ln_len]; omega) (by rw [ln_len]; omega) e)
theorem at_ln (i:Int):atI LN.cps.toList (i % 36) = some (lnC i)∧lnC i∈cod LN:=by
  have i0:=Int.emod_nonneg i (show (36:Int)≠0 by decide)
  have i1:=Int.emod_lt_of_pos i (show (0:Int) < 36 by decide)
  have hk:(i % 36).toNat < (cod LN).length:=by rw [ln_len]; omega
  have e:lnC i = (cod LN)[(i % 36).toNat]:=by
    show (cod LN).getD (i % 36).toNat 0 = _
    rw [List.getD_eq_getElem?_getD,List.getElem?_eq_getElem hk]
    rfl
  have:=atI_nat (xs:=cod LN) (j:=(i % 36).toNat) (List.getElem?_eq_getElem hk)
  rw [show (((i % 36).toNat:Nat):Int) = i % 36 by omega] at this
  exact ⟨by rw [e]; exact this,by rw [e]; exact List.getElem_mem hk⟩
theorem at_cod {z:Str} {i:Int} (h0:0≤i) (h1:i < (cod z).length):∃ c,atI z.cps.toList i = some c∧c∈cod z:=by
  have hk:i.toNat < (cod z).length:=by omega
  have ek:((i.toNat:Nat):Int) = i:=by omega
  refine ⟨(cod z)[i.toNat],?_,List.getElem_mem hk⟩
  have:=atI_nat (xs:=cod z) (j:=i.toNat) (List.getElem?_eq_getElem hk)
  rw [ek] at this
  exact this
theorem sl_rest (z:Str) {i:Int} (h0:0≤i):∃ n,min i.toNat z.length≤n∧cod (PySem.Txt.slice z (some i) none) = (cod z).drop n:=by
  have hz:=cod_len z
  by_cases h:i≤z.length
  · refine ⟨i.toNat,Nat.min_le_left _ _,?_⟩
    show cod (StrLaws.sliceText z (some i) none) = _
    rw [StrLaws.sliceText_from ⟨h0,by rw [hz]; exact h⟩]
    refine List.take_of_length_le ?_
    rw [List.length_drop]
    show (cod z).length - i.toNat≤(((cod z).length:Int) - i).toNat
    omega
  · refine ⟨z.length,Nat.min_le_right _ _,?_⟩
    have e:PySem.Builtin.Str.strSliceIndices (some i) none 1 z.length = PySem.Builtin.Str.strSliceIndices (some (z.length:Int)) none 1 z.length:=by
      unfold PySem.Builtin.Str.strSliceIndices
      have e1:(if i < 0 then i + (z.length:Int) else i) = i:=if_neg (by omega)
      have e2:(if (z.length:Int) < 0 then (z.length:Int) + (z.length:Int) else (z.length:Int)) = z.length:=if_neg (by omega)
      simp only [e1,e2]
      have e3:max 0 (min i (z.length:Int)) = max 0 (min (z.length:Int) z.length):=by omega
      rw [e3]
      simp only [if_pos (show (1:Int) > 0 by decide)]
    show cod (StrLaws.sliceText z (some i) none) = _
    have e':StrLaws.sliceText z (some i) none = StrLaws.sliceText z (some (z.length:Int)) none:=by
      unfold StrLaws.sliceText
      rw [e]
    rw [e',StrLaws.sliceText_from ⟨by omega,by rw [hz]; omega⟩]
    refine List.take_of_length_le ?_
    rw [List.length_drop]
    show (cod z).length - z.length≤(((cod z).length:Int) - (z.length:Int)).toNat
    omega
theorem signs_of {M:List Nat}:∀ (ys:List V),(∀ y∈ys,∃ c,y = .str ⟨#[c]⟩∧c∈M)→∃ cs:List Nat,ys = (cs.map fun c=>(⟨#[c]⟩:Str)).map V.str∧∀ c∈cs,c∈M
  | [],_=>⟨[],rfl,fun _ h=>nomatch h⟩
  | y :: ys,h=>by
    obtain ⟨c,rfl,hc⟩:=h y List.mem_cons_self
    obtain ⟨cs,rfl,hw⟩:=signs_of ys fun y hy=>h y (List.mem_cons_of_mem _ hy)
    refine ⟨c :: cs,rfl,fun x hx=>?_⟩
    rcases List.mem_cons.mp hx with rfl | hx
    · exact hc
    · exact hw x hx
theorem cod_signs (cs:List Nat):cod (PySem.Txt.join EM (cs.map fun c=>(⟨#[c]⟩:Str))) = cs:=by
  show cod (PySem.Builtin.Str.glued EM _) = _
  rw [StrLaws.glued_eq_join]
  induction cs with
  | nil=>rfl
  | cons c r ih=>
    cases r with
    | nil=>rfl
    | cons d r=>
      show cod (⟨#[c]⟩ ++ EM ++ PySem.Str.join EM (List.map _ (d :: r))) = c :: d :: r
      rw [cod_app,cod_app,ih]
      rfl
def nmP (z:Str):Prop:=cod z≠[]∧z.length≤8∧∀ c∈cod z,c∈cod LN
def sp__law_names (K:PySem.W.Frag):Sp:=fun vs H Q _=>∃ (a:Addr) (ns:List Int) (m:Int),vs = [.ref a,.int m]∧H a = some (.lst (ns.map V.int))∧ns.length = 10∧(∀ x∈ns,0≤x∧x < 60)∧0≤m∧m≤30∧
  ∀ l H' (zs:List Str),Same H H'→H l = none→H' l = some (.lst (zs.map V.str))→zs.length = m.toNat→(∀ z∈zs,nmP z)→zs.Nodup→Q (.ref l) H'
theorem ok__law_names (T:Txt K mg) (F:Fun K "_law_names" "_law_names" s__law_names f fd):FnOk P w K mg base CX0 1 f fd ["_law_row_here","_law_many"] (sp__law_names K):=by
  refine F.ok sc__law_names (fun vs H Q E h=>?_) (fun cdv A outer s H vs Q E hr h=>?_)
  · obtain ⟨a,ns,m,rfl,_⟩:=h
    rfl
  obtain ⟨a,ns,m,rfl,ha,ln,nb,hm0,hm1,q⟩:=h
  refine ⟨_,(@pss_cons _ _ _ _ _ (@ps_set _ _ (2) _ _ _ _ sc__law_names.nd rfl (by first | exact Or.inl rfl | exact Or.inr rfl) (@pe_str _ _ _ _) (by rfl) (by first | exact .inl rfl | exact .inr rfl | assumption)) (@pss_cons _ _ _ _ _ (@ps_set _ _ (3) _ _ _ _ sc__law_names.nd rfl (by first | exact Or.inl rfl | exact Or.inr rfl) (@pe_bm _ _ _ _ _ _ _ _ _ _ _ _ PySem.F.plainAttrs_str PySem.F.slot_str_join PySem.F.type_str_join (mt_join rfl) (@pe_str _ _ _ _) (@pa_cons _ _ _ _ _ (@pe_comp _ ["_law_k","_law_signs","_law_row_here"] [none,some 2,some 0] _ _ _ _ _ _ _ _ _ _ _ rfl (@pi_range1 _ _ _ _ _ _ rfl T.b_range (@pa_cons _ _ _ _ _ (@pe_int _ _ _ _) (@pa_nil _) (by rfl)) (by rfl)) (by rfl) rfl (by repeat (first | exact trivial | refine ⟨rfl,?_⟩)) (by repeat (first | exact trivial | refine ⟨fun h=>(by first | exact ⟨_,rfl⟩ | cases h),?_⟩)) (fun C s H fp=>⟨(@pg_name _ _ (0) _ (show (["_law_k","_law_signs","_law_row_here"]:List Str).Nodup by decide +kernel) rfl (by first | exact Or.inl rfl | exact Or.inr rfl) (by first | exact .inl rfl | exact .inr rfl | assumption)),(@pifs_nil _),(@pe_ix _ _ _ _ _ _ _ ix_str (pv 1) (@pe_op _ _ _ _ _ _ _ _ op_mod (@pe_ix _ _ _ _ _ _ _ (ix_listK (K:=K) (by rfl)) (pv 2) (pv 0) (fun _ _=>rfl)) (@pe_int _ _ _ _)) (fun _ _=>rfl))⟩) (by intro _; rfl)) (@pa_nil _) (by rfl)) (by rfl) (by rfl) (by rfl) (by rfl) (by rfl)) (by rfl) (by first | exact .inl rfl | exact .inr rfl | assumption)) (@pss_cons _ _ _ _ _ (@ps_set _ _ (4) _ _ _ _ sc__law_names.nd rfl (by first | exact Or.inl rfl | exact Or.inr rfl) (@pe_op _ _ _ _ _ _ _ _ op_mod (@pe_ix _ _ _ _ _ _ _ ix_list (pv 0) (@pe_int _ _ _ _) (fun _ _=>rfl)) (@pe_int _ _ _ _)) (by rfl) (by first | exact .inl rfl | exact .inr rfl | assumption)) (@pss_cons _ _ _ _ _ (@ps_set _ _ (5) _ _ _ _ sc__law_names.nd rfl (by first | exact Or.inl rfl | exact Or.inr rfl) (@pe_lst _ _ _ _ (@pa_nil _)) (by rfl) (by first | exact .inl rfl | exact .inr rfl | assumption)) (@pss_cons _ _ _ _ _ (@ps_for _ _ _ _ _ _ _ _ PassesOwn.never rfl (@pi_range1 _ _ _ _ _ _ rfl T.b_range (@pa_cons _ _ _ _ _ (pv 1) (@pa_nil _) (by rfl)) (by rfl)) (@pg_name _ _ (6) _ sc__law_names.nd rfl (by first | exact Or.inl rfl | exact Or.inr rfl) (by first | exact .inl rfl | exact .inr rfl | assumption)) (@pss_cons _ _ _ _ _ (@ps_set _ _ (7) _ _ _ _ sc__law_names.nd rfl (by first | exact Or.inl rfl | exact Or.inr rfl) (@pe_op _ _ _ _ _ _ _ _ op_add_str (@pe_slice _ _ _ _ _ _ _ _ _ _ sl_str (pv 3) (@po_none _) (@po_some _ _ _ (pv 4))) (@pe_ix _ _ _ _ _ _ _ ix_str (pv 2) (@pe_op _ _ _ _ _ _ _ _ op_mod (@pe_op _ _ _ _ _ _ _ _ op_add (@pe_ix _ _ _ _ _ _ _ ix_list (pv 0) (@pe_int _ _ _ _) (fun _ _=>rfl)) (pv 6)) (@pe_int _ _ _ _)) (fun _ _=>rfl))) (by rfl) (by first | exact .inl rfl | exact .inr rfl | assumption)) (@pss_cons _ _ _ _ _ (@ps_set _ _ (7) _ _ _ _ sc__law_names.nd rfl (by first | exact Or.inl rfl | exact Or.inr rfl) (@pe_op _ _ _ _ _ _ _ _ op_add_str (pv 7) (@pe_slice _ _ _ _ _ _ _ _ _ _ sl_str (pv 3) (@po_some _ _ _ (@pe_op _ _ _ _ _ _ _ _ op_add (pv 4) (@pe_int _ _ _ _))) (@po_none _))) (by rfl) (by first | exact .inl rfl | exact .inr rfl | assumption)) (@pss_one _ _ _ (@ps_expr _ _ _ _ (@pe_bm _ _ _ _ _ _ _ _ _ _ _ _ PySem.F.plainAttrs_list PySem.F.slot_list_append PySem.F.type_list_append mt_append (pv 5) (@pa_cons _ _ _ _ _ (@pe_ix _ _ _ _ _ _ _ ix_list (@pe_lst _ _ _ _ (@pa_cons _ _ _ _ _ (pv 7) (@pa_cons _ _ _ _ _ (@pe_slice _ _ _ _ _ _ _ _ _ _ sl_str (pv 7) (@po_none _) (@po_some _ _ _ (@pe_op _ _ _ _ _ _ _ _ op_add (pv 4) (@pe_int _ _ _ _)))) (@pa_cons _ _ _ _ _ (@pe_op _ _ _ _ _ _ _ _ op_add_str (pv 7) (@pe_ix _ _ _ _ _ _ _ ix_str (pv 2) (pv 6) (fun _ _=>rfl))) (@pa_nil _) (by rfl)) (by rfl)) (by rfl))) (@pe_op _ _ _ _ _ _ _ _ op_mod (@pe_op _ _ _ _ _ _ _ _ op_add (@pe_ix _ _ _ _ _ _ _ ix_list (pv 0) (@pe_int _ _ _ _) (fun _ _=>rfl)) (pv 6)) (@pe_int _ _ _ _)) (fun _ _=>rfl)) (@pa_nil _) (by rfl)) (by rfl) (by rfl) (by rfl) (by rfl) (by rfl)) (by rfl))))) (by intro _; rfl)) (@pss_one _ _ _ (@ps_ret _ _ _ _ (pv 5)))))))),?_⟩
  try dsimp only [cxOf,Cx.nox,Cx.wish]
  have nn:∀ k:Nat,k < 10→0≤ns.getD k 0:=fun k hk=>by
    have hk':k < ns.length:=by omega
    simp only [List.getD,List.getElem?_eq_getElem hk',Option.getD_some]
    exact (nb _ (List.getElem_mem hk')).1
  have A7:atI (ns.map V.int) 7 = some (.int (ns.getD 7 0)):=at_int (by decide) (by omega)
  have A8:atI (ns.map V.int) 8 = some (.int (ns.getD 8 0)):=at_int (by decide) (by omega)
  have A9:atI (ns.map V.int) 9 = some (.int (ns.getD 9 0)):=at_int (by decide) (by omega)
  refine ⟨rfl,7,rfl,by decide,by decide,?_⟩
  refine comp_rel (xs:=(List.range (7:Int).toNat).map fun (i:Nat)=>V.int (0 + (i:Int))) (fun _ y _=>∃ c,y = .str ⟨#[c]⟩∧c∈cod LN) (fun _ _ _ _ h _=>h) (fun _ _ _ _ _ _ h _ _=>h) itIs_range (by rw [List.length_map,List.length_range]; decide) (fun x H' R hx s' hR=>?_) fun l H1 ys n1 s1 h1 l1 hy=>?_
  · obtain ⟨i,hi,rfl⟩:=List.mem_map.mp hx
    have hi':i < 7:=List.mem_range.mp hi
    obtain ⟨c,hc,mc⟩:=at_cod (z:=LN) (i:=ns.getD (0 + (i:Int)).toNat 0 % 36) (Int.emod_nonneg _ (by decide)) (by rw [ln_len]; exact Int.emod_lt_of_pos _ (by decide))
    refine ⟨_,rfl,_,rfl,_,rfl,a,_,_,_,rfl,rfl,SqL.of (s'.get ha),at_int (by omega) (by omega),_,_,rfl,rfl,(by show (0:Int) < 36; decide),LN,_,c,rfl,rfl,small (by decide +kernel),hc,?_⟩
    exact hR (.str ⟨#[c]⟩) H' (Same.refl _) (fun _ z=>by cases z) ⟨c,rfl,mc⟩
  obtain ⟨cs,rfl,hcs⟩:=signs_of ys fun y hm=>by
    obtain ⟨i,hi⟩:=List.getElem?_of_mem hm
    have il:=(List.getElem?_eq_some_iff.mp hi).1
    exact (hy i _ y (List.getElem?_eq_getElem (by omega)) hi).1
  have lcs:cs.length = 7:=by
    rw [List.length_map,List.length_map,List.length_map,List.length_range] at l1
    exact l1
  have wl:(cod (PySem.Txt.join EM (cs.map fun c=>(⟨#[c]⟩:Str)))) = cs:=cod_signs cs
  refine ⟨l,EM,cs.map fun c=>(⟨#[c]⟩:Str),rfl,rfl,SqL.of h1,?_,?_⟩
  · have e:((cs.map fun c=>(⟨#[c]⟩:Str)).map (·.length)).sum = cs.length:=by
      rw [List.map_map]
      have:((fun z:Str=>z.length)∘fun c=>(⟨#[c]⟩:Str)) = fun _:Nat=>1:=rfl
      rw [this]
      clear this hcs h1 hy l1 wl lcs
      induction cs with
      | nil=>rfl
      | cons c cs ih=>rw [List.map_cons,List.sum_cons,ih,List.length_cons]; omega
    rw [e,List.length_map,lcs]
    decide +kernel
  dsimp only
  have hwl:(PySem.Txt.join EM (cs.map fun c=>(⟨#[c]⟩:Str))).length = 7:=by rw [← cod_len,wl,lcs]
  have hwc:∀ c∈cod (PySem.Txt.join EM (cs.map fun c=>(⟨#[c]⟩:Str))),c∈cod LN:=by rw [wl]; exact hcs
  generalize PySem.Txt.join EM (cs.map fun c=>(⟨#[c]⟩:Str)) = wd at hwl hwc
  refine ⟨_,rfl,a,_,_,_,rfl,rfl,SqL.of (s1.get ha),A7,_,_,rfl,rfl,(by show (0:Int) < 7; decide),?_⟩
  have t0:=Int.emod_nonneg (ns.getD 7 0) (show (7:Int)≠0 by decide)
  have t1:=Int.emod_lt_of_pos (ns.getD 7 0) (show (0:Int) < 7 by decide)
  dsimp only
  generalize ns.getD 7 0 % 7 = at_ at t0 t1
  refine ⟨small (by show 0≤1000000; decide),fun g hg=>?_⟩
  have hgH:H g = none:=s1.free hg
  refine ⟨_,rfl,m,rfl,by omega,by omega,for_range (lo:=0) (n:=m.toNat) (fun i σ H2=>∃ (zs:List Str) (v u:Option V),σ = [some (.ref a),some (.int m),some (.str LN),some (.str wd),some (.int at_),some (.ref g),v,u]∧Same H H2∧H2 g = some (.lst (zs.map V.str))∧zs.length = i∧(∀ z∈zs,nmP z)∧∀ (j:Nat) z,zs[j]? = some z→(cod z)[at_.toNat]? = some (lnC (ns.getD 8 0 + (0 + (j:Int)))))
    ⟨[],none,none,rfl,s1.trans (same_new hg _),upd_same,rfl,(fun _ h=>nomatch h),(fun j z h=>by simp at h)⟩ ?_ ?_⟩
  · rintro i σ H2 hi ⟨zs,v,u,rfl,s2,hg2,hl,hb,hat⟩
    have ha2:=s2.get ha
    obtain ⟨hc,mc⟩:=at_ln (ns.getD 8 0 + (0 + (i:Int)))
    generalize ec:lnC (ns.getD 8 0 + (0 + (i:Int))) = c at hc mc
    obtain ⟨d,hd,md⟩:=at_cod (z:=LN) (i:=0 + (i:Int)) (by omega) (by rw [ln_len]; omega)
    have e1:=sl_to wd t0
    obtain ⟨k,kk,e2⟩:=sl_rest wd (i:=at_ + 1) (by omega)
    have lwd:=cod_len wd
    have l1:(PySem.Txt.slice wd none (some at_)).length≤at_.toNat:=by rw [← cod_len,e1,List.length_take]; omega
    have l2:(PySem.Txt.slice wd (some (at_ + 1)) none).length≤6 - at_.toNat:=by rw [← cod_len,e2,List.length_drop]; omega
    refine ⟨_,rfl,_,rfl,_,rfl,wd,rfl,small (by omega),_,rfl,_,rfl,a,_,_,_,rfl,rfl,SqL.of ha2,A8,_,rfl,_,_,rfl,rfl,_,_,rfl,rfl,(by show (0:Int) < 36; decide),LN,_,c,rfl,rfl,small (by decide +kernel),hc,_,_,rfl,rfl,small (by show _ + 1≤1000000; omega),?_⟩
    refine ⟨_,rfl,_,rfl,_,rfl,_,_,rfl,rfl,_,rfl,wd,rfl,small (by omega),_,_,rfl,rfl,small (by rw [len_app]; show _ + 1 + _≤1000000; omega),?_⟩
    have oc:cod (PySem.Txt.slice wd none (some at_) ++ ⟨#[c]⟩ ++ PySem.Txt.slice wd (some (at_ + 1)) none) = (cod wd).take at_.toNat ++ c :: (cod wd).drop k:=by
      rw [cod_app,cod_app,e1,e2,List.append_assoc]
      rfl
    have ol:(PySem.Txt.slice wd none (some at_) ++ ⟨#[c]⟩ ++ PySem.Txt.slice wd (some (at_ + 1)) none).length≤7:=by
      rw [len_app,len_app]
      show _ + 1 + _≤7
      omega
    dsimp only
    generalize PySem.Txt.slice wd none (some at_) ++ ⟨#[c]⟩ ++ PySem.Txt.slice wd (some (at_ + 1)) none = one at oc ol
    have on:nmP one:=⟨by rw [oc]; simp,by omega,fun x hx=>by
      rw [oc] at hx
      rcases List.mem_append.mp hx with hx | hx
      · exact hwc x (List.mem_of_mem_take hx)
      · rcases List.mem_cons.mp hx with rfl | hx
        · exact mc
        · exact hwc x (List.mem_of_mem_drop hx)⟩
    have e3:=sl_to one (j:=at_ + 1) (by omega)
    have tn:nmP (PySem.Txt.slice one none (some (at_ + 1))):=⟨by
        rw [e3]
        have:=on.1
        cases h:cod one with
        | nil=>exact absurd h this
        | cons x l=>
          rw [show (at_ + 1).toNat = at_.toNat + 1 by omega,List.take_succ_cons]
          simp,by rw [← cod_len,e3,List.length_take,cod_len]; omega,fun x hx=>by rw [e3] at hx; exact on.2.2 x (List.mem_of_mem_take hx)⟩
    have pn:nmP (one ++ ⟨#[d]⟩):=⟨by rw [cod_app]; simp,by rw [len_app]; show one.length + 1≤8; omega,fun x hx=>by
      rw [cod_app] at hx
      rcases List.mem_append.mp hx with hx | hx
      · exact on.2.2 x hx
      · rw [List.mem_singleton.mp hx]; exact md⟩
    have oat:(cod one)[at_.toNat]? = some c:=by
      rw [oc,List.getElem?_append_right (by rw [List.length_take]; omega),List.length_take,show at_.toNat - min at_.toNat (cod wd).length = 0 by omega]
      rfl
    have tat:(cod (PySem.Txt.slice one none (some (at_ + 1))))[at_.toNat]? = some c:=by
      rw [e3,List.getElem?_take,if_pos (by omega)]
      exact oat
    have pat:(cod (one ++ ⟨#[d]⟩))[at_.toNat]? = some c:=by
      rw [cod_app,List.getElem?_append_left (List.getElem?_eq_some_iff.mp oat).1]
      exact oat
    refine ⟨_,rfl,.inl ⟨rfl,_,SqL.of hg2⟩,_,rfl,_,rfl,_,rfl,_,_,rfl,rfl,_,rfl,one,rfl,small (by omega),_,rfl,_,rfl,_,rfl,LN,_,d,rfl,rfl,small (by decide +kernel),hd,_,_,rfl,rfl,small (by show one.length + 1≤1000000; omega),small (by show 3≤1000000; decide),fun p hp=>?_⟩
    have s3:=same_new hp (.lst [V.str one,V.str (PySem.Txt.slice one none (some (at_ + 1))),V.str (one ++ ⟨#[d]⟩)])
    obtain ⟨z,hz,hzn,hza⟩:∃ z,atI [V.str one,V.str (PySem.Txt.slice one none (some (at_ + 1))),V.str (one ++ ⟨#[d]⟩)] ((ns.getD 9 0 + (0 + (i:Int))) % 3) = some (.str z)∧nmP z∧(cod z)[at_.toNat]? = some c:=by
      have r0:=Int.emod_nonneg (ns.getD 9 0 + (0 + (i:Int))) (show (3:Int)≠0 by decide)
      have r1:=Int.emod_lt_of_pos (ns.getD 9 0 + (0 + (i:Int))) (show (0:Int) < 3 by decide)
      generalize (ns.getD 9 0 + (0 + (i:Int))) % 3 = r at r0 r1
      have:r = 0∨r = 1∨r = 2:=by omega
      rcases this with rfl | rfl | rfl
      · exact ⟨_,rfl,on,oat⟩
      · exact ⟨_,rfl,tn,tat⟩
      · exact ⟨_,rfl,pn,pat⟩
    refine ⟨_,rfl,a,_,_,_,rfl,rfl,SqL.of (s3.get ha2),A9,_,rfl,_,_,rfl,rfl,_,_,rfl,rfl,(by show (0:Int) < 3; decide),p,_,_,_,rfl,rfl,SqL.of upd_same,hz,g,_,_,rfl,rfl,s3.get hg2,smallLt (by rw [List.length_map]; omega),?_⟩
    refine ⟨zs ++ [z],_,_,rfl,same_upd (s2.trans s3) hgH _,by rw [upd_same,List.map_append]; rfl,by rw [List.length_append,hl]; rfl,fun y hy=>?_,fun j y hj=>?_⟩
    · rcases List.mem_append.mp hy with hy | hy
      · exact hb y hy
      · rw [List.mem_singleton.mp hy]; exact hzn
    · by_cases hjl:j < zs.length
      · rw [List.getElem?_append_left hjl] at hj
        exact hat j y hj
      · rw [List.getElem?_append_right (by omega)] at hj
        have h0:j - zs.length = 0:=by
          have:=(List.getElem?_eq_some_iff.mp hj).1
          simp at this
          omega
        rw [h0] at hj
        cases hj
        rw [show j = i by omega,ec]
        exact hza
  · rintro σ H2 ⟨zs,v,u,rfl,s2,hg2,hl,hb,hat⟩
    refine ⟨_,rfl,q g _ zs s2 hgH hg2 hl hb ?_⟩
    refine List.pairwise_iff_getElem.mpr fun i j hi hj hij e=>?_
    have e1:=hat i _ (List.getElem?_eq_getElem hi)
    have e2:=hat j _ (List.getElem?_eq_getElem hj)
    rw [e,e2] at e1
    have:=lnC_inj (Option.some.inj e1)
    have l30:zs.length≤30:=by omega
    omega
end
structure Bld (zs:List Str) (c:Int) (i:Nat) (ss ls:List En):Prop where
  isS:∀ e∈ss,e.isS = true
  isL:∀ e∈ls,e.isS = false
  cnt:ss.length + ls.length≤i
  nm:∀ e∈ss ++ ls,∃ j,j < ss.length + ls.length∧zs[j]? = some e.nm
  nd:((ss ++ ls).map En.nm).Nodup
  tn:∀ e∈ls,e.turn < 1 + i + c
  td:(ls.map En.turn).Nodup
  sm:∀ nm sm tn t,En.sl nm sm tn t∈ls→∃ kp og t',En.st sm kp og t'∈ss
  rk:∃ rk:Str→Nat,∀ nm kp og t,En.st nm kp og t∈ss→rk nm < ss.length∧(og = EM∨∃ sm tn t' kp' og' t'',En.sl og sm tn t'∈ls∧En.st sm kp' og' t''∈ss∧rk sm < rk nm)
theorem Bld.nil (zs:List Str) (c:Int):Bld zs c 0 [] []:=⟨(fun _ h=>nomatch h),(fun _ h=>nomatch h),Nat.le_refl _,(fun _ h=>nomatch h),List.nodup_nil,(fun _ h=>nomatch h),List.nodup_nil,(fun _ _ _ _ h=>nomatch h),(fun _=>0),(fun _ _ _ _ h=>nomatch h)⟩
theorem Bld.new {zs:List Str} {c:Int} {i:Nat} {ss ls:List En} (b:Bld zs c i ss ls) (nd:zs.Nodup) {z:Str} (hz:zs[ss.length + ls.length]? = some z):∀ e∈ss ++ ls,e.nm≠z:=by
  intro e he q
  obtain ⟨j,hj,h⟩:=b.nm e he
  rw [q] at h
  have h1:=(List.getElem?_eq_some_iff.mp hz)
  have h2:=(List.getElem?_eq_some_iff.mp h)
  obtain ⟨l1,e1⟩:=h1
  obtain ⟨l2,e2⟩:=h2
  exact List.pairwise_iff_getElem.mp nd j (ss.length + ls.length) l2 l1 hj (e2.trans e1.symm)
theorem Bld.stem {zs:List Str} {c:Int} {i:Nat} {ss ls:List En} (b:Bld zs c i ss ls) (nd:zs.Nodup) {z kp og:Str} {t:Int×Int×Int} (hz:zs[ss.length + ls.length]? = some z) (ho:og = EM∨∃ e∈ls,e.nm = og):Bld zs c (i + 1) (ss ++ [.st z kp og t]) ls:=by
  have nw:=b.new nd hz
  have pm:(ss ++ [En.st z kp og t] ++ ls).Perm (En.st z kp og t :: (ss ++ ls)):=by
    rw [List.append_assoc]
    exact List.perm_middle
  have ln:(ss ++ [En.st z kp og t]).length = ss.length + 1:=by rw [List.length_append]; rfl
  refine ⟨fun e he=>?_,b.isL,by have:=b.cnt; omega,fun e he=>?_,?_,fun e he=>by have:=b.tn e he; omega,b.td,fun nm sm tn t h=>?_,?_⟩
  · rcases List.mem_append.mp he with h | h
    · exact b.isS e h
    · rw [List.mem_singleton.mp h]; rfl
  · rcases List.mem_cons.mp (pm.mem_iff.mp he) with rfl | h
    · exact ⟨ss.length + ls.length,by omega,hz⟩
    · obtain ⟨j,hj,h⟩:=b.nm e h
      exact ⟨j,by omega,h⟩
  · rw [(pm.map En.nm).nodup_iff,List.map_cons,List.nodup_cons]
    refine ⟨fun h=>?_,b.nd⟩
    obtain ⟨e,he,q⟩:=List.mem_map.mp h
    exact nw e he q
  · obtain ⟨kp,og,t',h⟩:=b.sm _ _ _ _ h
    exact ⟨kp,og,t',List.mem_append_left _ h⟩
  · obtain ⟨rk,hr⟩:=b.rk
    have old:∀ {x kp og t},En.st x kp og t∈ss→(if x = z then ss.length else rk x) = rk x:=fun {x kp og t} h=>if_neg fun q=>nw _ (List.mem_append_left _ h) q
    refine ⟨fun x=>if x = z then ss.length else rk x,fun nm kp' og' t' h=>?_⟩
    rcases List.mem_append.mp h with h | h
    · obtain ⟨h1,h2⟩:=hr _ _ _ _ h
      dsimp only
      rw [old h]
      refine ⟨by omega,h2.imp id ?_⟩
      rintro ⟨sm,tn,t2,kp2,og2,t3,a1,a2,a3⟩
      exact ⟨sm,tn,t2,kp2,og2,t3,a1,List.mem_append_left _ a2,by rw [old a2]; exact a3⟩
    · cases List.mem_singleton.mp h
      dsimp only
      rw [if_pos rfl]
      refine ⟨by omega,ho.imp id ?_⟩
      rintro ⟨e,he,rfl⟩
      cases e with
      | st a1 a2 a3 a4=>cases b.isL _ he
      | sl nm sm tn t2=>
        obtain ⟨kp2,og2,t3,h3⟩:=b.sm _ _ _ _ he
        exact ⟨sm,tn,t2,kp2,og2,t3,he,List.mem_append_left _ h3,by rw [old h3]; exact (hr _ _ _ _ h3).1⟩
theorem Bld.seal {zs:List Str} {c:Int} {i:Nat} {ss ls:List En} (b:Bld zs c i ss ls) (nd:zs.Nodup) {z sm:Str} {t:Int×Int×Int} (hz:zs[ss.length + ls.length]? = some z) (hs:∃ e∈ss,e.nm = sm):Bld zs c (i + 1) ss (ls ++ [.sl z sm (1 + i + c) t]):=by
  have nw:=b.new nd hz
  have pm:(ss ++ (ls ++ [En.sl z sm (1 + i + c) t])).Perm (En.sl z sm (1 + i + c) t :: (ss ++ ls)):=by
    rw [← List.append_assoc]
    exact List.perm_append_comm
  have ln:(ls ++ [En.sl z sm (1 + i + c) t]).length = ls.length + 1:=by rw [List.length_append]; rfl
  refine ⟨b.isS,fun e he=>?_,by have:=b.cnt; omega,fun e he=>?_,?_,fun e he=>?_,?_,fun nm sm' tn t h=>?_,?_⟩
  · rcases List.mem_append.mp he with h | h
    · exact b.isL e h
    · rw [List.mem_singleton.mp h]; rfl
  · rcases List.mem_cons.mp (pm.mem_iff.mp he) with rfl | h
    · exact ⟨ss.length + ls.length,by omega,hz⟩
    · obtain ⟨j,hj,h⟩:=b.nm e h
      exact ⟨j,by omega,h⟩
  · rw [(pm.map En.nm).nodup_iff,List.map_cons,List.nodup_cons]
    refine ⟨fun h=>?_,b.nd⟩
    obtain ⟨e,he,q⟩:=List.mem_map.mp h
    exact nw e he q
  · rcases List.mem_append.mp he with h | h
    · have:=b.tn e h
      omega
    · rw [List.mem_singleton.mp h]
      show 1 + (i:Int) + c < _
      omega
  · rw [List.map_append,List.nodup_append]
    refine ⟨b.td,List.pairwise_singleton _ _,fun x hx y hy q=>?_⟩
    obtain ⟨e,he,rfl⟩:=List.mem_map.mp hx
    have h1:=b.tn e he
    have h2:y = 1 + (i:Int) + c:=List.mem_singleton.mp hy
    omega
  · rcases List.mem_append.mp h with h | h
    · exact b.sm _ _ _ _ h
    · cases List.mem_singleton.mp h
      obtain ⟨e,he,q⟩:=hs
      cases e with
      | st a1 a2 a3 a4=>
        cases q
        exact ⟨_,_,_,he⟩
      | sl _ _ _ _=>cases b.isS _ he
  · obtain ⟨rk,hr⟩:=b.rk
    refine ⟨rk,fun nm kp og t h=>?_⟩
    obtain ⟨h1,h2⟩:=hr _ _ _ _ h
    refine ⟨h1,h2.imp id ?_⟩
    rintro ⟨sm,tn,t2,kp2,og2,t3,a1,a2,a3⟩
    exact ⟨sm,tn,t2,kp2,og2,t3,List.mem_append_left _ a1,a2,a3⟩
theorem Bld.good {zs:List Str} {c:Int} {i:Nat} {ss ls:List En} (b:Bld zs c i ss ls) (hi:i≤20):Good (ss ++ ls):=by
  refine ⟨b.nd,?_,?_⟩
  · rw [List.filter_append,List.filter_eq_nil_iff.mpr (fun e he=>by rw [b.isS e he]; decide),List.filter_eq_self.mpr (fun e he=>by rw [b.isL e he]; rfl)]
    exact b.td
  · obtain ⟨rk,hr⟩:=b.rk
    refine ⟨rk,fun nm kp og t h=>?_⟩
    rcases List.mem_append.mp h with h | h
    · obtain ⟨h1,h2⟩:=hr _ _ _ _ h
      have:=b.cnt
      refine ⟨by omega,h2.imp id ?_⟩
      rintro ⟨sm,tn,t2,kp2,og2,t3,a1,a2,a3⟩
      exact ⟨sm,tn,t2,kp2,og2,t3,List.mem_append_right _ a1,List.mem_append_left _ a2,a3⟩
    · cases b.isL _ h
abbrev K0:Str:=PySem.Str.ofString "k0"
abbrev K1:Str:=PySem.Str.ofString "k1"
def tgOk (t:Int×Int×Int):Prop:=(1≤t.1∧t.1≤999999)∧(0≤t.2.1∧t.2.1≤999999999)∧(0≤t.2.2∧t.2.2≤996)
theorem tg_ok {x y:Int} (h0:0≤x) (h1:x < 60) (h2:0≤y) (h3:y < 60):tgOk (1 + x,y,31 * y % 997):=by
  have:=Int.emod_lt_of_pos (31 * y) (show (0:Int) < 997 by decide)
  exact ⟨⟨(show 1≤1 + x by omega),(show 1 + x≤999999 by omega)⟩,⟨h2,(show y≤999999999 by omega)⟩,Int.emod_nonneg _ (by decide),(show 31 * y % 997≤996 by omega)⟩
def EnOk:En→Prop
  | .st nm kp _ t=>nmP nm∧(kp = K0∨kp = K1)∧tgOk t
  | .sl nm _ tn t=>nmP nm∧(0 < tn∧tn≤999999999)∧tgOk t
theorem EnOk.nm {e:En} (h:EnOk e):nmP e.nm:=by cases e <;> exact h.1
theorem nmP.ne {z:Str} (h:nmP z):z≠EM:=fun e=>h.1 (by rw [e]; decide +kernel)
structure Bl2 (zs:List Str) (c:Int) (i:Nat) (ss ls:List En):Prop where
  b:Bld zs c i ss ls
  ok:∀ e∈ss ++ ls,EnOk e
  og:∀ nm kp og t,En.st nm kp og t∈ss→og = EM∨∃ sm tn t',En.sl og sm tn t'∈ls
  beg:∀ nm kp og t sm tg t' x tn t'',En.st nm kp og t∈ss→En.sl og sm tg t'∈ls→En.sl x nm tn t''∈ls→tg < tn
theorem Bl2.nil (zs:List Str) (c:Int):Bl2 zs c 0 [] []:=⟨.nil _ _,(fun _ h=>nomatch h),(fun _ _ _ _ h=>nomatch h),fun _ _ _ _ _ _ _ _ _ _ h=>nomatch h⟩
theorem Bl2.stem {zs:List Str} {c:Int} {i:Nat} {ss ls:List En} (b:Bl2 zs c i ss ls) (nd:zs.Nodup) {z kp og:Str} {t:Int×Int×Int} (hz:zs[ss.length + ls.length]? = some z) (ho:og = EM∨∃ e∈ls,e.nm = og) (ok:EnOk (.st z kp og t)):Bl2 zs c (i + 1) (ss ++ [.st z kp og t]) ls:=by
  have nw:=b.b.new nd hz
  refine ⟨b.b.stem nd hz ho,fun e he=>?_,fun nm kp' og' t' h=>?_,fun nm kp' og' t' sm tg t2 x tn t3 h1 h2 h3=>?_⟩
  · rcases List.mem_append.mp he with h | h
    · rcases List.mem_append.mp h with h | h
      · exact b.ok e (List.mem_append_left _ h)
      · rw [List.mem_singleton.mp h]; exact ok
    · exact b.ok e (List.mem_append_right _ h)
  · rcases List.mem_append.mp h with h | h
    · exact b.og _ _ _ _ h
    · cases List.mem_singleton.mp h
      refine ho.imp id ?_
      rintro ⟨e,he,rfl⟩
      cases e with
      | st _ _ _ _=>cases b.b.isL _ he
      | sl nm sm tn t2=>exact ⟨_,_,_,he⟩
  · rcases List.mem_append.mp h1 with h | h
    · exact b.beg _ _ _ _ _ _ _ _ _ _ h h2 h3
    · cases List.mem_singleton.mp h
      obtain ⟨kp2,og2,t4,h4⟩:=b.b.sm _ _ _ _ h3
      exact absurd rfl (nw _ (List.mem_append_left _ h4))
theorem Bl2.seal {zs:List Str} {c:Int} {i:Nat} {ss ls:List En} (b:Bl2 zs c i ss ls) (nd:zs.Nodup) {z sm:Str} {t:Int×Int×Int} (hz:zs[ss.length + ls.length]? = some z) (hs:∃ e∈ss,e.nm = sm) (ok:EnOk (.sl z sm (1 + i + c) t)):Bl2 zs c (i + 1) ss (ls ++ [.sl z sm (1 + i + c) t]):=by
  have nw:=b.b.new nd hz
  refine ⟨b.b.seal nd hz hs,fun e he=>?_,fun nm kp' og' t' h=>?_,fun nm kp' og' t' sm2 tg t2 x tn t3 h1 h2 h3=>?_⟩
  · rcases List.mem_append.mp he with h | h
    · exact b.ok e (List.mem_append_left _ h)
    · rcases List.mem_append.mp h with h | h
      · exact b.ok e (List.mem_append_right _ h)
      · rw [List.mem_singleton.mp h]; exact ok
  · refine (b.og _ _ _ _ h).imp id ?_
    rintro ⟨sm2,tn,t2,h2⟩
    exact ⟨sm2,tn,t2,List.mem_append_left _ h2⟩
  · have h2':En.sl og' sm2 tg t2∈ls:=by
      rcases List.mem_append.mp h2 with h | h
      · exact h
      · cases List.mem_singleton.mp h
        rcases b.og _ _ _ _ h1 with e | ⟨_,_,_,h4⟩
        · exact absurd e ok.nm.ne
        · exact absurd rfl (nw _ (List.mem_append_right _ h4))
    rcases List.mem_append.mp h3 with h | h
    · exact b.beg _ _ _ _ _ _ _ _ _ _ h1 h2' h
    · cases List.mem_singleton.mp h
      exact b.b.tn _ h2'
theorem Bl2.full {zs:List Str} {c:Int} {i:Nat} {ss ls:List En} (b:Bl2 zs c i ss ls):Full (ss ++ ls):=by
  have stS:∀ {nm kp og:Str} {t:Int×Int×Int},En.st nm kp og t∈ss ++ ls→En.st nm kp og t∈ss:=fun {nm kp og t} h=>(List.mem_append.mp h).elim id fun h=>by cases b.b.isL _ h
  have slL:∀ {nm sm:Str} {n:Int} {t:Int×Int×Int},En.sl nm sm n t∈ss ++ ls→En.sl nm sm n t∈ls:=fun {nm sm n t} h=>(List.mem_append.mp h).elim (fun h=>by cases b.b.isS _ h) id
  refine ⟨b.b.nd,?_,fun e he=>(b.ok e he).nm.ne,fun nm sm tn t h=>(b.ok _ h).2.1.1,fun nm sm tn t h=>?_,fun nm kp og t h=>?_,fun nm kp og t sm tg t' x tn t'' h1 h2 h3=>b.beg _ _ _ _ _ _ _ _ _ _ (stS h1) (slL h2) (slL h3)⟩
  · rw [List.filter_append,List.filter_eq_nil_iff.mpr (fun e he=>by rw [b.b.isS e he]; decide),List.filter_eq_self.mpr (fun e he=>by rw [b.b.isL e he]; rfl)]
    exact b.b.td
  · obtain ⟨kp,og,t',h2⟩:=b.b.sm _ _ _ _ (slL h)
    exact ⟨kp,og,t',List.mem_append_left _ h2⟩
  · refine (b.og _ _ _ _ (stS h)).imp id ?_
    rintro ⟨sm2,tn,t2,h2⟩
    exact ⟨sm2,tn,t2,List.mem_append_right _ h2⟩
theorem Full.perm {es es':List En} (f:Full es) (p:es'.Perm es):Full es':=
  ⟨(p.map En.nm).nodup_iff.mpr f.nms,((p.filter _).map En.turn).nodup_iff.mpr f.tns,fun e he=>f.nem e (p.mem_iff.mp he),fun _ _ _ _ h=>f.pos _ _ _ _ (p.mem_iff.mp h),fun _ _ _ _ h=>by
    obtain ⟨kp,og,t',h2⟩:=f.stm _ _ _ _ (p.mem_iff.mp h)
    exact ⟨kp,og,t',p.mem_iff.mpr h2⟩,fun _ _ _ _ h=>(f.org _ _ _ _ (p.mem_iff.mp h)).imp id (by rintro ⟨sm,tn,t',h2⟩; exact ⟨sm,tn,t',p.mem_iff.mpr h2⟩),fun _ _ _ _ _ _ _ _ _ _ h1 h2 h3=>f.beg _ _ _ _ _ _ _ _ _ _ (p.mem_iff.mp h1) (p.mem_iff.mp h2) (p.mem_iff.mp h3)⟩
theorem rising_le:∀ {p:Str} {l:List Str},PyProof.Rows.risingS p l = true→∀ x∈l,¬ x.cps.toList < p.cps.toList
  | p,y :: r,h,x,hx=>by
    have h':=h
    rw [PyProof.Rows.risingS,Bool.and_eq_true,PyProof.Rows.ltCps_eq] at h'
    have h1:¬ y.cps.toList < p.cps.toList:=by simpa using h'.1
    rcases List.mem_cons.mp hx with rfl | hx
    · exact h1
    · exact List.le_trans h1 (rising_le h'.2 x hx)
theorem rise_of:∀ {l:List Str},PyProof.Rows.sortedS l = true→l.Nodup→l.Pairwise Slt
  | [],_,_=>List.Pairwise.nil
  | x :: l,h,nd=>by
    rw [List.nodup_cons] at nd
    refine List.pairwise_cons.mpr ⟨fun y hy=>slt_of (rising_le (p:=x) h y hy) fun e=>nd.1 (e ▸ hy),rise_of ?_ nd.2⟩
    cases l with
    | nil=>rfl
    | cons y r=>
      have h':=h
      rw [PyProof.Rows.sortedS,PyProof.Rows.risingS,Bool.and_eq_true] at h'
      exact h'.2
theorem seq_setC {v:V} {i:Nat} {u:TS} {D:Ends} {σ:St} {H:Hp} (h:u D (σ.set i (some v)) H):tSeq (tAsg (tC v) (gName i)) u D σ H:=h
theorem tOr_s {t u:TT} {σ:St} {H:Hp} {Q:Bool→Hp→Prop} (c d:Bool) (ht:∀ R:Bool→Hp→Prop,(∀ H',Same H H'→R c H')→t σ H R) (hu:∀ H',Same H H'→∀ R:Bool→Hp→Prop,(∀ H'',Same H' H''→R d H'')→u σ H' R) (q:∀ H',Same H H'→Q (c || d) H'):tOr t u σ H Q:=by
  refine ht _ fun H' s'=>?_
  cases c with
  | true=>rw [if_pos rfl]; exact q H' s'
  | false=>rw [if_neg Bool.false_ne_true]; exact hu H' s' _ fun H'' s''=>q H'' (s'.trans s'')
theorem tAnd_s {t u:TT} {σ:St} {H:Hp} {Q:Bool→Hp→Prop} (c d:Bool) (ht:∀ R:Bool→Hp→Prop,(∀ H',Same H H'→R c H')→t σ H R) (hu:∀ H',Same H H'→∀ R:Bool→Hp→Prop,(∀ H'',Same H' H''→R d H'')→u σ H' R) (q:∀ H',Same H H'→Q (c && d) H'):tAnd t u σ H Q:=by
  refine ht _ fun H' s'=>?_
  cases c with
  | false=>rw [if_neg Bool.false_ne_true]; exact q H' s'
  | true=>rw [if_pos rfl]; exact hu H' s' _ fun H'' s''=>q H'' (s'.trans s'')
theorem at_mod {α:Type} {xs:List α} (g:α→V) (ne:xs≠[]) (i:Int):∃ x∈xs,atI (xs.map g) (i % ((xs.map g).length:Int)) = some (g x):=by
  have l0:0 < xs.length:=List.length_pos_iff.mpr ne
  rw [List.length_map]
  have r0:=Int.emod_nonneg i (show (xs.length:Int)≠0 by omega)
  have r1:=Int.emod_lt_of_pos i (show (0:Int) < xs.length by omega)
  generalize i % (xs.length:Int) = j at r0 r1
  have hj:j.toNat < xs.length:=by omega
  have:=atI_nat (xs:=xs.map g) (j:=j.toNat) (v:=g xs[j.toNat]) (by rw [List.getElem?_map,List.getElem?_eq_getElem hj]; rfl)
  rw [show ((j.toNat:Nat):Int) = j by omega] at this
  exact ⟨_,List.getElem_mem hj,this⟩
section
variable {P:Program} {w:World} {K:PySem.W.Frag} {mg:Str→Option Value} {base:Heap} {f:Addr} {fd:FuncData} {PT:Addr}
theorem en_upd {H:Hp} {l:Addr} {us us':List V} {p:Addr×En} (h:EnAt H p) (hl:H l = some (.lst us)):EnAt (upd H l (.lst us')) p:=h.get fun b xs e=>by
  rw [upd_ne fun z=>by rw [z,hl] at e; cases e]
  exact e
def KeepAt (H:Hp) (k:Addr) (c:Int):Prop:=∃ k0 k1,H k = some (.tup [.ref k0,.ref k1])∧H k0 = some (.tup [.str (PySem.Str.ofString "k0"),.int 5])∧H k1 = some (.tup [.str (PySem.Str.ofString "k1"),.int c])
def sp__law_head (K:PySem.W.Frag):Sp:=fun vs H Q _=>∃ (a b:Addr) (ns:List Int) (zs:List Str),vs = [.ref a,.ref b]∧SqL K H a (ns.map V.int)∧H b = some (.lst (zs.map V.str))∧zs.length = 20∧zs.Nodup∧(∀ z∈zs,nmP z)∧
  ∀ h H' ag k n ps c,Same H H'→H h = none→HeadAt H' h ag k n ps→KeepAt H' k c→ps.length≤20→Full (ps.map (·.2))→Rise ps→(∀ e∈ps.map (·.2),EnOk e)→0≤ag→ag≤999999999→0≤c→c≤999999999→Q (.ref h) H'
theorem ok__law_head (T:Txt K mg) (F:Fun K "_law_head" "_law_head" s__law_head f fd) (D__law_row:Def P w K mg base 1 "_law_row" ["_law_cell","_law_many"] (sp__law_row K)) (D__law_cell_at:Def P w K mg base 1 "_law_cell_at" ["_law_script","_law_k"] (sp__law_cell_at K)):FnOk P w K mg base CX0 2 f fd ["_law_script","_law_names_here"] (sp__law_head K):=by
  refine F.ok sc__law_head (fun vs H Q E h=>?_) (fun cdv A outer s H vs Q E hr h=>?_)
  · obtain ⟨a,b,ns,zs,rfl,_⟩:=h
    rfl
  obtain ⟨a,b,ns,zs,rfl,hS,hb,lz,nz,zok,q⟩:=h
  have hu:=hu_of hr
  refine ⟨_,(@pss_cons _ _ _ _ _ (@ps_set _ _ (2) _ _ _ _ sc__law_head.nd rfl (by first | exact Or.inl rfl | exact Or.inr rfl) (@pe_fn _ _ _ _ _ _ _ _ _ _ D__law_row (hr.mono (by decide)) rfl (@pa_cons _ _ _ _ _ (@pe_fn _ _ _ _ _ _ _ _ _ _ D__law_cell_at (hr.mono (by decide)) rfl (@pa_cons _ _ _ _ _ (pv 0) (@pa_cons _ _ _ _ _ (@pe_int _ _ _ _) (@pa_nil _) (by rfl)) (by rfl)) (by decide) (by rfl) (by rfl)) (@pa_cons _ _ _ _ _ (@pe_int _ _ _ _) (@pa_nil _) (by rfl)) (by rfl)) (by decide) (by rfl) (by rfl)) (by rfl) (by first | exact .inl rfl | exact .inr rfl | assumption)) (@pss_cons _ _ _ _ _ (@ps_set _ _ (3) _ _ _ _ sc__law_head.nd rfl (by first | exact Or.inl rfl | exact Or.inr rfl) (@pe_lst _ _ _ _ (@pa_nil _)) (by rfl) (by first | exact .inl rfl | exact .inr rfl | assumption)) (@pss_cons _ _ _ _ _ (@ps_set _ _ (4) _ _ _ _ sc__law_head.nd rfl (by first | exact Or.inl rfl | exact Or.inr rfl) (@pe_lst _ _ _ _ (@pa_nil _)) (by rfl) (by first | exact .inl rfl | exact .inr rfl | assumption)) (@pss_cons _ _ _ _ _ (@ps_for _ _ _ _ _ _ _ _ PassesOwn.never rfl (@pi_range1 _ _ _ _ _ _ rfl T.b_range (@pa_cons _ _ _ _ _ (@pe_op _ _ _ _ _ _ _ _ op_mod (@pe_ix _ _ _ _ _ _ _ ix_list (pv 2) (@pe_int _ _ _ _) (fun _ _=>rfl)) (@pe_int _ _ _ _)) (@pa_nil _) (by rfl)) (by rfl)) (@pg_name _ _ (5) _ sc__law_head.nd rfl (by first | exact Or.inl rfl | exact Or.inr rfl) (by first | exact .inl rfl | exact .inr rfl | assumption)) (@pss_cons _ _ _ _ _ (@ps_set _ _ (6) _ _ _ _ sc__law_head.nd rfl (by first | exact Or.inl rfl | exact Or.inr rfl) (@pe_op _ _ _ _ _ _ _ _ op_mod (@pe_ix _ _ _ _ _ _ _ ix_list (pv 2) (@pe_op _ _ _ _ _ _ _ _ op_add (@pe_int _ _ _ _) (@pe_op _ _ _ _ _ _ _ _ op_mul (@pe_int _ _ _ _) (pv 5))) (fun _ _=>rfl)) (@pe_int _ _ _ _)) (by rfl) (by first | exact .inl rfl | exact .inr rfl | assumption)) (@pss_cons _ _ _ _ _ (@ps_set _ _ (7) _ _ _ _ sc__law_head.nd rfl (by first | exact Or.inl rfl | exact Or.inr rfl) (@pe_ix _ _ _ _ _ _ _ ix_list (pv 2) (@pe_op _ _ _ _ _ _ _ _ op_add (@pe_int _ _ _ _) (@pe_op _ _ _ _ _ _ _ _ op_mul (@pe_int _ _ _ _) (pv 5))) (fun _ _=>rfl)) (by rfl) (by first | exact .inl rfl | exact .inr rfl | assumption)) (@pss_cons _ _ _ _ _ (@ps_set _ _ (8) _ _ _ _ sc__law_head.nd rfl (by first | exact Or.inl rfl | exact Or.inr rfl) (@pe_tup _ _ _ _ _ (@pa_cons _ _ _ _ _ (@pe_op _ _ _ _ _ _ _ _ op_add (@pe_int _ _ _ _) (@pe_ix _ _ _ _ _ _ _ ix_list (pv 2) (@pe_op _ _ _ _ _ _ _ _ op_add (@pe_int _ _ _ _) (@pe_op _ _ _ _ _ _ _ _ op_mul (@pe_int _ _ _ _) (pv 5))) (fun _ _=>rfl))) (@pa_cons _ _ _ _ _ (pv 7) (@pa_cons _ _ _ _ _ (@pe_op _ _ _ _ _ _ _ _ op_mod (@pe_op _ _ _ _ _ _ _ _ op_mul (@pe_int _ _ _ _) (pv 7)) (@pe_int _ _ _ _)) (@pa_nil _) (by rfl)) (by rfl)) (by rfl))) (by rfl) (by first | exact .inl rfl | exact .inr rfl | assumption)) (@pss_one _ _ _ (@ps_if _ _ _ _ _ _ _ _ (@PW.pt _ _ _ (@pw_or _ _ _ _ _ _ _ (@pt_cmpR _ _ _ _ _ _ _ _ (op_eqE hu) (pv 3) (@pe_lst _ _ _ _ (@pa_nil _)) (nomark _)) (@pw_or1 _ _ _ _ (@pt_cmpR _ _ _ _ _ _ _ _ op_eq (pv 6) (@pe_int _ _ _ _) (nomark _))))) (@pss_cons _ _ _ _ _ (@ps_set _ _ (9) _ _ _ _ sc__law_head.nd rfl (by first | exact Or.inl rfl | exact Or.inr rfl) (@pe_str _ _ _ _) (by rfl) (by first | exact .inl rfl | exact .inr rfl | assumption)) (@pss_cons _ _ _ _ _ (@ps_if _ _ _ _ _ _ _ _ (@PW.pt _ _ _ (@pw_and _ _ _ _ _ _ _ (@pt_cmpR _ _ _ _ _ _ _ _ (op_neE hu) (pv 4) (@pe_lst _ _ _ _ (@pa_nil _)) (nomark _)) (@pw_and1 _ _ _ _ (@pt_cmpR _ _ _ _ _ _ _ _ op_gt (@pe_op _ _ _ _ _ _ _ _ op_mod (pv 7) (@pe_int _ _ _ _)) (@pe_int _ _ _ _) (nomark _))))) (@pss_one _ _ _ (@ps_set _ _ (9) _ _ _ _ sc__law_head.nd rfl (by first | exact Or.inl rfl | exact Or.inr rfl) (@pe_ix _ _ _ _ _ _ _ ix_tup (@pe_ix _ _ _ _ _ _ _ ix_list (pv 4) (@pe_op _ _ _ _ _ _ _ _ op_mod (@pe_op _ _ _ _ _ _ _ _ op_fdiv (pv 7) (@pe_int _ _ _ _)) (@pe_callB _ _ _ _ _ _ _ _ _ call_len_seq (by rfl) T.b_len bt_len (@pa_cons _ _ _ _ _ (pv 4) (@pa_nil _) (by rfl)) (by decide) (by decide) (by rfl) (by rfl))) (fun _ _=>rfl)) (@pe_int _ _ _ _) (fun _ _=>rfl)) (by rfl) (by first | exact .inl rfl | exact .inr rfl | assumption))) (@pss_nil _)) (@pss_one _ _ _ (@ps_expr _ _ _ _ (@pe_bm _ _ _ _ _ _ _ _ _ _ _ _ PySem.F.plainAttrs_list PySem.F.slot_list_append PySem.F.type_list_append mt_append (pv 3) (@pa_cons _ _ _ _ _ (@pe_tup _ _ _ _ _ (@pa_cons _ _ _ _ _ (@pe_ix _ _ _ _ _ _ _ ix_list (pv 1) (@pe_op _ _ _ _ _ _ _ _ op_add (@pe_callB _ _ _ _ _ _ _ _ _ call_len_seq (by rfl) T.b_len bt_len (@pa_cons _ _ _ _ _ (pv 3) (@pa_nil _) (by rfl)) (by decide) (by decide) (by rfl) (by rfl)) (@pe_callB _ _ _ _ _ _ _ _ _ call_len_seq (by rfl) T.b_len bt_len (@pa_cons _ _ _ _ _ (pv 4) (@pa_nil _) (by rfl)) (by decide) (by decide) (by rfl) (by rfl))) (fun _ _=>rfl)) (@pa_cons _ _ _ _ _ (@pe_int _ _ _ _) (@pa_cons _ _ _ _ _ (@pe_op _ _ _ _ _ _ _ _ op_add_str (@pe_str _ _ _ _) (@pe_callTy _ _ _ _ _ _ _ _ _ call_strI (by rfl) T.b_str bt_str (@pa_cons _ _ _ _ _ (@pe_op _ _ _ _ _ _ _ _ op_mod (pv 7) (@pe_int _ _ _ _)) (@pa_nil _) (by rfl)) (by decide) (by decide) (by rfl) (by rfl))) (@pa_cons _ _ _ _ _ (pv 9) (@pa_cons _ _ _ _ _ (pv 8) (@pa_nil _) (by rfl)) (by rfl)) (by rfl)) (by rfl)) (by rfl))) (@pa_nil _) (by rfl)) (by rfl) (by rfl) (by rfl) (by rfl) (by rfl)) (by rfl))))) (@pss_cons _ _ _ _ _ (@ps_set _ _ (10) _ _ _ _ sc__law_head.nd rfl (by first | exact Or.inl rfl | exact Or.inr rfl) (@pe_ix _ _ _ _ _ _ _ ix_tup (@pe_ix _ _ _ _ _ _ _ ix_list (pv 3) (@pe_op _ _ _ _ _ _ _ _ op_mod (pv 7) (@pe_callB _ _ _ _ _ _ _ _ _ call_len_seq (by rfl) T.b_len bt_len (@pa_cons _ _ _ _ _ (pv 3) (@pa_nil _) (by rfl)) (by decide) (by decide) (by rfl) (by rfl))) (fun _ _=>rfl)) (@pe_int _ _ _ _) (fun _ _=>rfl)) (by rfl) (by first | exact .inl rfl | exact .inr rfl | assumption)) (@pss_one _ _ _ (@ps_expr _ _ _ _ (@pe_bm _ _ _ _ _ _ _ _ _ _ _ _ PySem.F.plainAttrs_list PySem.F.slot_list_append PySem.F.type_list_append mt_append (pv 4) (@pa_cons _ _ _ _ _ (@pe_tup _ _ _ _ _ (@pa_cons _ _ _ _ _ (@pe_ix _ _ _ _ _ _ _ ix_list (pv 1) (@pe_op _ _ _ _ _ _ _ _ op_add (@pe_callB _ _ _ _ _ _ _ _ _ call_len_seq (by rfl) T.b_len bt_len (@pa_cons _ _ _ _ _ (pv 3) (@pa_nil _) (by rfl)) (by decide) (by decide) (by rfl) (by rfl)) (@pe_callB _ _ _ _ _ _ _ _ _ call_len_seq (by rfl) T.b_len bt_len (@pa_cons _ _ _ _ _ (pv 4) (@pa_nil _) (by rfl)) (by decide) (by decide) (by rfl) (by rfl))) (fun _ _=>rfl)) (@pa_cons _ _ _ _ _ (@pe_int _ _ _ _) (@pa_cons _ _ _ _ _ (pv 10) (@pa_cons _ _ _ _ _ (@pe_op _ _ _ _ _ _ _ _ op_add (@pe_op _ _ _ _ _ _ _ _ op_add (@pe_int _ _ _ _) (pv 5)) (@pe_op _ _ _ _ _ _ _ _ op_mul (@pe_ix _ _ _ _ _ _ _ ix_list (pv 2) (@pe_int _ _ _ _) (fun _ _=>rfl)) (@pe_op _ _ _ _ _ _ _ _ op_pow (@pe_int _ _ _ _) (@pe_int _ _ _ _)))) (@pa_cons _ _ _ _ _ (pv 8) (@pa_nil _) (by rfl)) (by rfl)) (by rfl)) (by rfl)) (by rfl))) (@pa_nil _) (by rfl)) (by rfl) (by rfl) (by rfl) (by rfl) (by rfl)) (by rfl))))))))) (by intro _; rfl)) (@pss_one _ _ _ (@ps_ret _ _ _ _ (@pe_tup _ _ _ _ _ (@pa_cons _ _ _ _ _ (@pe_ix _ _ _ _ _ _ _ ix_list (pv 2) (@pe_int _ _ _ _) (fun _ _=>rfl)) (@pa_cons _ _ _ _ _ (@pe_tup _ _ _ _ _ (@pa_cons _ _ _ _ _ (@pe_tup _ _ _ _ _ (@pa_cons _ _ _ _ _ (@pe_str _ _ _ _) (@pa_cons _ _ _ _ _ (@pe_int _ _ _ _) (@pa_nil _) (by rfl)) (by rfl))) (@pa_cons _ _ _ _ _ (@pe_tup _ _ _ _ _ (@pa_cons _ _ _ _ _ (@pe_str _ _ _ _) (@pa_cons _ _ _ _ _ (@pe_ix _ _ _ _ _ _ _ ix_list (pv 2) (@pe_int _ _ _ _) (fun _ _=>rfl)) (@pa_nil _) (by rfl)) (by rfl))) (@pa_nil _) (by rfl)) (by rfl))) (@pa_cons _ _ _ _ _ (@pe_callTy _ _ _ _ _ _ _ _ _ call_tuple_of (by rfl) T.b_tuple bt_tuple (@pa_cons _ _ _ _ _ (@pe_callB _ _ _ _ _ _ _ _ _ (call_sortTT (K:=K) (by rfl)) (by rfl) T.b_sorted bt_sorted (@pa_cons _ _ _ _ _ (@pe_op _ _ _ _ _ _ _ _ op_catS (pv 3) (pv 4)) (@pa_nil _) (by rfl)) (by decide) (by decide) (by rfl) (by rfl)) (@pa_nil _) (by rfl)) (by decide) (by decide) (by rfl) (by rfl)) (@pa_nil _) (by rfl)) (by rfl)) (by rfl))))))))),?_⟩
  try dsimp only [cxOf,Cx.nox,Cx.wish]
  refine ⟨_,rfl,a,ns,1,rfl,by decide,hS,fun c1=>⟨c1,60,rfl,by decide,by decide,fun r H1 rs s1 n1 h1 l1 b1=>?_⟩⟩
  have rl:rs.length = 60:=by rw [l1]; rfl
  have at_:∀ {i:Int},0≤i→i < 60→∃ x,atI (rs.map V.int) i = some (.int x)∧0≤x∧x < 60:=fun {i} h0 hi=>by
    have hk:i.toNat < rs.length:=by omega
    refine ⟨rs.getD i.toNat 0,at_int h0 (by omega),?_⟩
    simp only [List.getD,List.getElem?_eq_getElem hk,Option.getD_some]
    exact b1 _ (List.getElem_mem hk)
  obtain ⟨x0,X0,_,_⟩:=at_ (i:=0) (by decide) (by decide)
  obtain ⟨x50,X50,y0,y1⟩:=at_ (i:=50) (by decide) (by decide)
  obtain ⟨x51,X51,a0,a1⟩:=at_ (i:=51) (by decide) (by decide)
  obtain ⟨x52,X52,c0,c1⟩:=at_ (i:=52) (by decide) (by decide)
  refine ⟨small (by show 0≤1000000; decide),fun S nS=>?_⟩
  have s2:=s1.trans (same_new nS (.lst []))
  have hS2:(upd H1 S (.lst [])) S = some (.lst []):=upd_same
  have hr2:=(same_new nS (.lst [])).get h1
  have nSH:H S = none:=s1.free nS
  dsimp only [gName]
  generalize upd H1 S (.lst []) = H2 at s2 hS2 hr2
  refine ⟨small (by show 0≤1000000; decide),fun L nL=>?_⟩
  have s3:=s2.trans (same_new nL (.lst []))
  have hL3:(upd H2 L (.lst [])) L = some (.lst []):=upd_same
  have hS3:=(same_new nL (.lst [])).get hS2
  have hr3:=(same_new nL (.lst [])).get hr2
  have nLH:H L = none:=s2.free nL
  have nSL:S≠L:=fun e=>by rw [← e,hS2] at nL; cases nL
  dsimp only [gName]
  generalize upd H2 L (.lst []) = H3 at s3 hS3 hL3 hr3
  have nbS:b≠S:=fun e=>by rw [← e,hb] at nSH; cases nSH
  have nbL:b≠L:=fun e=>by rw [← e,hb] at nLH; cases nLH
  have nrS:r≠S:=fun e=>by rw [← e,h1] at nS; cases nS
  have nrL:r≠L:=fun e=>by rw [← e,hr2] at nL; cases nL
  have m0:=Int.emod_nonneg x0 (show (20:Int)≠0 by decide)
  have m1:=Int.emod_lt_of_pos x0 (show (0:Int) < 20 by decide)
  refine ⟨_,rfl,r,_,_,_,rfl,rfl,SqL.of hr3,X0,_,_,rfl,rfl,(by show (0:Int) < 20; decide),_,rfl,by omega,by omega,?_⟩
  have lc:∀ {i:Nat} {ss ls:List En},Bl2 zs (x50 * 10 ^ (7:Int).toNat) i ss ls→i < 20→∃ z,zs[ss.length + ls.length]? = some z:=fun {i ss ls} bb hi=>⟨_,List.getElem?_eq_getElem (by have:=bb.b.cnt; omega)⟩
  refine for_range (lo:=0) (n:=(x0 % 20).toNat) (fun i σ H2=>∃ v5 v6 v7 v8 v9 v10 ss ls,σ = [some (.ref a),some (.ref b),some (.ref r),some (.ref S),some (.ref L),v5,v6,v7,v8,v9,v10]∧Same H H2∧H2 r = some (.lst (rs.map V.int))∧H2 S = some (.lst (ss.map fun p=>V.ref p.1))∧H2 L = some (.lst (ls.map fun p=>V.ref p.1))∧(∀ p∈ss ++ ls,EnAt H2 p)∧Bl2 zs (x50 * 10 ^ (7:Int).toNat) i (ss.map (·.2)) (ls.map (·.2)))
    ⟨none,none,none,none,none,none,[],[],rfl,s3,hr3,hS3,hL3,(fun _ h=>nomatch h),.nil _ _⟩ ?_ ?_
  · rintro i σ H4 hi ⟨v5,v6,v7,v8,v9,v10,ss,ls,rfl,s4,hr4,hS4,hL4,he4,bb⟩
    have i20:i < 20:=by omega
    obtain ⟨x1,X1,xa,xb⟩:=at_ (i:=1 + 2 * (0 + (i:Int))) (by omega) (by omega)
    obtain ⟨x2,X2,xc,xd⟩:=at_ (i:=2 + 2 * (0 + (i:Int))) (by omega) (by omega)
    obtain ⟨z,hz⟩:=lc bb i20
    have AZ:atI (zs.map V.str) (((ss.map fun p=>V.ref p.1).length:Int) + ((ls.map fun p=>V.ref p.1).length:Int)) = some (.str z):=by
      rw [List.length_map,List.length_map]
      rw [List.length_map,List.length_map] at hz
      have:=atI_nat (xs:=zs.map V.str) (j:=ss.length + ls.length) (v:=.str z) (by rw [List.getElem?_map,hz]; rfl)
      rw [show ((ss.length + ls.length:Nat):Int) = (ss.length:Int) + (ls.length:Int) by omega] at this
      exact this
    have len20:ss.length + ls.length≤20:=by
      have:=bb.b.cnt
      rw [List.length_map,List.length_map] at this
      omega
    refine ⟨_,rfl,_,rfl,_,_,rfl,rfl,.inl ⟨by decide,by decide⟩,_,_,rfl,rfl,r,_,_,_,rfl,rfl,SqL.of hr4,X1,_,_,rfl,rfl,(by show (0:Int) < 3; decide),?_⟩
    refine ⟨_,rfl,_,rfl,_,_,rfl,rfl,.inl ⟨by decide,by decide⟩,_,_,rfl,rfl,r,_,_,_,rfl,rfl,SqL.of hr4,X2,?_⟩
    refine ⟨_,rfl,_,rfl,_,_,rfl,rfl,.inl ⟨by decide,by decide⟩,_,_,rfl,rfl,r,_,_,_,rfl,rfl,SqL.of hr4,X1,_,_,rfl,rfl,_,rfl,_,rfl,_,_,rfl,rfl,.inl ⟨by decide,by decide⟩,_,_,rfl,rfl,(by show (0:Int) < 997; decide),small (by show 3≤1000000; decide),fun tp nt=>?_⟩
    have s5:=same_new nt (.tup (tgV (1 + x1,x2,31 * x2 % 997)))
    have ht5:(upd H4 tp (.tup (tgV (1 + x1,x2,31 * x2 % 997)))) tp = some (.tup (tgV (1 + x1,x2,31 * x2 % 997))):=upd_same
    have S5:=s4.trans s5
    dsimp only [gName]
    change tIfS _ _ _ _ _ (upd H4 tp (.tup (tgV (1 + x1,x2,31 * x2 % 997))))
    generalize upd H4 tp (.tup (tgV (1 + x1,x2,31 * x2 % 997))) = H5 at s5 ht5 S5
    dsimp only [tIfS]
    refine tOr_s (decide (ss.map (fun p=>V.ref p.1) = [])) (decide (x1 % 3 = 2)) (fun R hR=>?_) (fun H' s' R hR=>?_) fun H6 s6=>?_
    · refine ⟨_,rfl,small (by show 0≤1000000; decide),fun p2 n2=>?_⟩
      have t2:=same_new n2 (.lst [])
      exact ⟨S,p2,_,rfl,rfl,SqL.of (t2.get (s5.get hS4)),SqL.of upd_same,_,rfl,hR _ t2⟩
    · refine ⟨_,rfl,rfl,_,rfl,?_⟩
      have e:decide (V.int (x1 % 3) = V.int 2) = decide (x1 % 3 = 2):=by
        by_cases z:x1 % 3 = 2
        · rw [decide_eq_true z,decide_eq_true (by rw [z])]
        · rw [decide_eq_false z,decide_eq_false fun y=>z (V.int.inj y)]
      rw [e]
      exact hR H' (Same.refl _)
    have s46:=s5.trans s6
    have S6:=s4.trans s46
    refine ite2 (fun cc=>?_) (fun cc=>?_)
    ·
      refine seq_setC ?_
      refine seq_mid (t:=tIfS _ _ _) (fun σ' H'=>∃ og,σ' = [some (.ref a),some (.ref b),some (.ref r),some (.ref S),some (.ref L),some (.int (0 + (i:Int))),some (.int (x1 % 3)),some (.int x2),some (.ref tp),some (.str og),v10]∧Same H6 H'∧(og = EM∨∃ e∈ls.map (·.2),e.nm = og)) (fun N hN=>?_) ?_
      · refine tAnd_s (!decide (ls.map (fun p=>V.ref p.1) = [])) (decide (0 < x2 % 4)) (fun R hR=>?_) (fun H' s' R hR=>?_) fun H7 s7=>?_
        · refine ⟨_,rfl,small (by show 0≤1000000; decide),fun p2 n2=>?_⟩
          have t2:=same_new n2 (.lst [])
          exact ⟨L,p2,_,rfl,rfl,SqL.of (t2.get (s46.get hL4)),SqL.of upd_same,_,rfl,hR _ t2⟩
        · exact ⟨_,rfl,_,_,rfl,rfl,(by show (0:Int) < 4; decide),_,_,rfl,rfl,_,rfl,hR H' (Same.refl _)⟩
        · refine ite2 (fun c2=>?_) (fun c2=>hN _ _ ⟨EM,rfl,s7,.inl rfl⟩)
          have ne:ls≠[]:=fun e=>by rw [e] at c2; cases c2
          obtain ⟨p,hp,AT⟩:=at_mod (fun p:Addr×En=>V.ref p.1) ne (x2 / 4)
          obtain ⟨rr,hrr⟩:=(he4 p (List.mem_append_right _ hp)).fst
          have hL7:=(s46.trans s7).get hL4
          refine ⟨_,rfl,_,rfl,_,_,rfl,rfl,⟨by decide,by decide⟩,_,rfl,L,_,rfl,.inl (SqL.of hL7),_,_,rfl,rfl,?_,L,_,_,_,rfl,rfl,SqL.of hL7,AT,p.1,_,_,_,rfl,rfl,SqT.of ((s46.trans s7).get hrr),atI_nat (j:=0) rfl,hN _ _ ⟨p.2.nm,rfl,s7,.inr ⟨p.2,List.mem_map.mpr ⟨p,hp,rfl⟩,rfl⟩⟩⟩
          rw [List.length_map]
          have:=List.length_pos_iff.mpr ne
          omega
      · rintro σ H7 ⟨og,rfl,s7,ho⟩
        have s47:=s46.trans s7
        have hS7:=s47.get hS4
        have hL7:=s47.get hL4
        have k0:=Int.emod_nonneg x2 (show (2:Int)≠0 by decide)
        have k1:=Int.emod_lt_of_pos x2 (show (0:Int) < 2 by decide)
        have kl:(PySem.Str.ofString (toString (x2 % 2))).length≤10:=by
          have:x2 % 2 = 0∨x2 % 2 = 1:=by omega
          rcases this with e | e <;> rw [e] <;> decide +kernel
        refine ⟨_,rfl,.inl ⟨rfl,_,SqL.of hS7⟩,_,rfl,_,rfl,S,_,rfl,.inl (SqL.of hS7),_,rfl,L,_,rfl,.inl (SqL.of hL7),_,_,rfl,rfl,b,_,_,_,rfl,rfl,SqL.of ((s4.trans s47).get hb),AZ,_,rfl,_,_,rfl,rfl,(by show (0:Int) < 2; decide),_,rfl,k0,by omega,_,_,rfl,rfl,small (by rw [show (PySem.Str.ofString "k").length = 1 by decide +kernel]; omega),_,rfl,_,rfl,small (by show 5≤1000000; decide),fun ep ne=>?_⟩
        have s8:=same_new ne (.tup ((En.st z (PySem.Str.ofString "k" ++ PySem.Str.ofString (toString (x2 % 2))) og (1 + x1,x2,31 * x2 % 997)).items tp))
        have h8:(upd H7 ep (.tup ((En.st z (PySem.Str.ofString "k" ++ PySem.Str.ofString (toString (x2 % 2))) og (1 + x1,x2,31 * x2 % 997)).items tp))) ep = some (.tup ((En.st z (PySem.Str.ofString "k" ++ PySem.Str.ofString (toString (x2 % 2))) og (1 + x1,x2,31 * x2 % 997)).items tp)):=upd_same
        have s48:=s47.trans s8
        have hS8:=s48.get hS4
        refine ⟨S,_,_,rfl,rfl,hS8,smallLt (by rw [List.length_map]; omega),?_⟩
        refine ⟨_,_,_,_,_,_,ss ++ [(ep,En.st z (PySem.Str.ofString "k" ++ PySem.Str.ofString (toString (x2 % 2))) og (1 + x1,x2,31 * x2 % 997))],ls,rfl,same_upd (s4.trans s48) nSH _,by rw [upd_ne nrS]; exact s48.get hr4,by rw [upd_same,List.map_append]; rfl,by rw [upd_ne (Ne.symm nSL)]; exact s48.get hL4,fun p hp=>?_,?_⟩
        · rcases List.mem_append.mp hp with hp | hp
          · rcases List.mem_append.mp hp with hp | hp
            · exact en_upd ((he4 p (List.mem_append_left _ hp)).same s48) hS8
            · rw [List.mem_singleton.mp hp]
              exact en_upd ⟨tp,(s6.trans (s7.trans s8)).get ht5,h8⟩ hS8
          · exact en_upd ((he4 p (List.mem_append_right _ hp)).same s48) hS8
        · rw [List.map_append]
          refine bb.stem nz hz ho ⟨zok z (List.mem_of_getElem? hz),?_,tg_ok xa xb xc xd⟩
          · have:x2 % 2 = 0∨x2 % 2 = 1:=by omega
            rcases this with e | e
            · exact .inl (by rw [e]; decide +kernel)
            · exact .inr (by rw [e]; decide +kernel)
    ·
      have ne:ss≠[]:=fun e=>by rw [e] at cc; exact cc rfl
      obtain ⟨p,hp,AT⟩:=at_mod (fun p:Addr×En=>V.ref p.1) ne x2
      obtain ⟨rr,hrr⟩:=(he4 p (List.mem_append_left _ hp)).fst
      have hS6:=s46.get hS4
      have hL6:=s46.get hL4
      refine ⟨_,rfl,_,rfl,_,rfl,S,_,rfl,.inl (SqL.of hS6),_,_,rfl,rfl,?_,S,_,_,_,rfl,rfl,SqL.of hS6,AT,p.1,_,_,_,rfl,rfl,SqT.of (s46.get hrr),atI_nat (j:=0) rfl,?_⟩
      · rw [List.length_map]
        have:=List.length_pos_iff.mpr ne
        omega
      refine ⟨_,rfl,.inl ⟨rfl,_,SqL.of hL6⟩,_,rfl,_,rfl,S,_,rfl,.inl (SqL.of hS6),_,rfl,L,_,rfl,.inl (SqL.of hL6),_,_,rfl,rfl,b,_,_,_,rfl,rfl,SqL.of (S6.get hb),AZ,_,rfl,_,rfl,_,_,rfl,rfl,_,rfl,r,_,_,_,rfl,rfl,SqL.of (s46.get hr4),X50,_,_,rfl,rfl,⟨by decide,by decide,by decide⟩,_,_,rfl,rfl,.inl ⟨by omega,by omega⟩,_,_,rfl,rfl,_,rfl,small (by show 5≤1000000; decide),fun ep ne2=>?_⟩
      have et:(1 + (0 + (i:Int)) + x50 * 10 ^ (7:Int).toNat) = 1 + (i:Int) + x50 * 10 ^ (7:Int).toNat:=by rw [Int.zero_add]
      have s8:=same_new ne2 (.tup ((En.sl z p.2.nm (1 + (0 + (i:Int)) + x50 * 10 ^ (7:Int).toNat) (1 + x1,x2,31 * x2 % 997)).items tp))
      have h8:(upd H6 ep (.tup ((En.sl z p.2.nm (1 + (0 + (i:Int)) + x50 * 10 ^ (7:Int).toNat) (1 + x1,x2,31 * x2 % 997)).items tp))) ep = some (.tup ((En.sl z p.2.nm (1 + (0 + (i:Int)) + x50 * 10 ^ (7:Int).toNat) (1 + x1,x2,31 * x2 % 997)).items tp)):=upd_same
      have s48:=s46.trans s8
      have hL8:=s48.get hL4
      refine ⟨L,_,_,rfl,rfl,hL8,smallLt (by rw [List.length_map]; omega),?_⟩
      refine ⟨_,_,_,_,_,_,ss,ls ++ [(ep,En.sl z p.2.nm (1 + (0 + (i:Int)) + x50 * 10 ^ (7:Int).toNat) (1 + x1,x2,31 * x2 % 997))],rfl,same_upd (s4.trans s48) nLH _,by rw [upd_ne nrL]; exact s48.get hr4,by rw [upd_ne nSL]; exact s48.get hS4,by rw [upd_same,List.map_append]; rfl,fun p' hp'=>?_,?_⟩
      · rcases List.mem_append.mp hp' with hp' | hp'
        · exact en_upd ((he4 p' (List.mem_append_left _ hp')).same s48) hL8
        · rcases List.mem_append.mp hp' with hp' | hp'
          · exact en_upd ((he4 p' (List.mem_append_right _ hp')).same s48) hL8
          · rw [List.mem_singleton.mp hp']
            exact en_upd ⟨tp,(s6.trans s8).get ht5,h8⟩ hL8
      · rw [List.map_append]
        have:=bb.seal (t:=(1 + x1,x2,31 * x2 % 997)) nz hz ⟨p.2,List.mem_map.mpr ⟨p,hp,rfl⟩,rfl⟩ (by
          refine ⟨zok z (List.mem_of_getElem? hz),⟨?_,?_⟩,tg_ok xa xb xc xd⟩
          · rw [show (10:Int) ^ (7:Int).toNat = 10000000 by decide]
            omega
          · rw [show (10:Int) ^ (7:Int).toNat = 10000000 by decide]
            omega)
        rw [← et] at this
        exact this
  · rintro σ H4 ⟨v5,v6,v7,v8,v9,v10,ss,ls,rfl,s4,hr4,hS4,hL4,he4,bb⟩
    have full:=bb.full
    have eok:=bb.ok
    rw [← List.map_append] at full eok
    have len20:ss.length + ls.length≤20:=by
      have:=bb.b.cnt
      rw [List.length_map,List.length_map] at this
      omega
    refine ⟨_,rfl,r,_,_,_,rfl,rfl,SqL.of hr4,X51,small (by show 2≤1000000; decide),fun k0 nk0=>?_⟩
    have s5:=same_new nk0 (.tup [V.str (PySem.Str.ofString "k0"),V.int 5])
    have hk5:(upd H4 k0 (.tup [V.str (PySem.Str.ofString "k0"),V.int 5])) k0 = some (.tup [V.str (PySem.Str.ofString "k0"),V.int 5]):=upd_same
    generalize upd H4 k0 (.tup [V.str (PySem.Str.ofString "k0"),V.int 5]) = H5 at s5 hk5
    refine ⟨_,rfl,r,_,_,_,rfl,rfl,SqL.of (s5.get hr4),X52,small (by show 2≤1000000; decide),fun k1 nk1=>?_⟩
    have s6:=same_new nk1 (.tup [V.str (PySem.Str.ofString "k1"),V.int x52])
    have hk6:(upd H5 k1 (.tup [V.str (PySem.Str.ofString "k1"),V.int x52])) k1 = some (.tup [V.str (PySem.Str.ofString "k1"),V.int x52]):=upd_same
    generalize upd H5 k1 (.tup [V.str (PySem.Str.ofString "k1"),V.int x52]) = H6 at s6 hk6
    refine ⟨small (by show 2≤1000000; decide),fun kk nkk=>?_⟩
    have s7:=same_new nkk (.tup [V.ref k0,V.ref k1])
    have hk7:(upd H6 kk (.tup [V.ref k0,V.ref k1])) kk = some (.tup [V.ref k0,V.ref k1]):=upd_same
    generalize upd H6 kk (.tup [V.ref k0,V.ref k1]) = H7 at s7 hk7
    have s47:=(s5.trans s6).trans s7
    refine ⟨_,rfl,_,rfl,S,L,_,_,rfl,rfl,SqL.of (s47.get hS4),SqL.of (s47.get hL4),small (by rw [List.length_map,List.length_map]; omega),fun p8 n8=>?_⟩
    have s8:=same_new n8 (.lst ((ss.map fun p=>V.ref p.1) ++ ls.map fun p=>V.ref p.1))
    have h8:(upd H7 p8 (.lst ((ss.map fun p=>V.ref p.1) ++ ls.map fun p=>V.ref p.1))) p8 = some (.lst ((ss ++ ls).map fun p=>V.ref p.1)):=by rw [upd_same,List.map_append]
    generalize upd H7 p8 (.lst ((ss.map fun p=>V.ref p.1) ++ ls.map fun p=>V.ref p.1)) = H8 at s8 h8
    have s48:=s47.trans s8
    refine ⟨p8,(ss ++ ls).map fun p=>(p.1,p.2.nm),rfl,SqL.of (by rw [List.map_map]; exact h8),by rw [List.length_map,List.length_append]; omega,fun t ht=>?_,?_,fun us p9 up us2 n9=>?_⟩
    · obtain ⟨p,hp,rfl⟩:=List.mem_map.mp ht
      obtain ⟨rr,hrr⟩:=(he4 p hp).fst
      exact ⟨rr,SqT.of (s48.get hrr)⟩
    · rw [List.map_map]
      have:=full.nms
      rw [List.map_map] at this
      exact this
    obtain ⟨us',p1,rfl⟩:=perm_lift up rfl
    rw [List.map_map]
    have s9:=same_new n9 (.lst (us'.map ((fun t:Addr×Str=>V.ref t.1)∘fun p:Addr×En=>(p.1,p.2.nm))))
    have h9:(upd H8 p9 (.lst (us'.map ((fun t:Addr×Str=>V.ref t.1)∘fun p:Addr×En=>(p.1,p.2.nm))))) p9 = some (.lst (us'.map fun p=>V.ref p.1)):=upd_same
    generalize upd H8 p9 (.lst (us'.map ((fun t:Addr×Str=>V.ref t.1)∘fun p:Addr×En=>(p.1,p.2.nm)))) = H9 at s9 h9
    refine ⟨p9,_,rfl,.inl ⟨SqL.of h9,fun nn nnn=>?_⟩⟩
    have s10:=same_new nnn (.tup (us'.map fun p=>V.ref p.1))
    refine ⟨small (by show 3≤1000000; decide),fun hh nhh=>?_⟩
    have s11:=same_new nhh (.tup [V.int x51,V.ref kk,V.ref nn])
    have t11:=(s9.trans s10).trans s11
    have s411:=s48.trans t11
    refine q hh _ x51 kk nn us' x52 (s4.trans s411) ((s4.trans (s48.trans (s9.trans s10))).free nhh) ⟨upd_same,s11.get upd_same,fun p hp=>(he4 p (p1.mem_iff.mp hp)).same s411⟩ ⟨k0,k1,(s8.trans t11).get hk7,((s6.trans s7).trans (s8.trans t11)).get hk5,(s7.trans (s8.trans t11)).get hk6⟩ (by rw [p1.length_eq,List.length_append]; exact len20) (full.perm (p1.map _)) (rise_of (by rw [List.map_map] at us2; exact us2) (by
      have:=(full.perm (p1.map _)).nms
      rw [List.map_map] at this
      exact this)) (fun e he=>eok e ((p1.map _).mem_iff.mp he)) a0 (by omega) c0 (by omega)
end
section
variable {P:Program} {w:World} {K:PySem.W.Frag} {mg:Str→Option Value} {base:Heap} {f:Addr} {fd:FuncData} {PT:Addr}
theorem fil_en (ps:List (Addr×En)) (p:En→Bool):(ps.filter fun q=>p q.2).map (·.2) = (ps.map (·.2)).filter p:=by
  rw [List.filter_map]
  rfl
theorem own_ps {ps us:List (Addr×En)} {nm:Str} (h1:us.Perm (ps.filter fun p=>p.2.isSl nm)) (h2:us.Pairwise (fun x y=>x.2.turn < y.2.turn)):us.map (fun p=>V.str p.2.nm) = (own (ps.map (·.2)) nm).map V.str:=by
  rw [← own_eq (us:=us.map (·.2)) (by rw [← fil_en]; exact h1.map _) (by rw [List.pairwise_map]; exact h2),List.map_map,List.map_map]
  rfl
theorem own_len (es:List En) (nm:Str):(own es nm).length≤es.length:=by
  unfold own
  split
  · rename_i h
    rw [List.length_map,(Classical.choose_spec h).1.length_eq]
    exact List.length_filter_le _ _
  · exact Nat.zero_le _
theorem cut_len (og:Str):∀ h:List Str,(cutTo og h).length≤h.length
  | []=>Nat.le_refl _
  | x :: r=>by
    show (if x = og then [x] else x :: cutTo og r).length≤r.length + 1
    split
    · exact Nat.succ_le_succ (Nat.zero_le _)
    · exact Nat.succ_le_succ (cut_len og r)
theorem Hist.len {es:List En} {nm:Str} {h:List Str} {n:Nat} (x:Hist es nm h n):h.length≤es.length * (n + 1):=by
  induction x with
  | root h=>
    refine Nat.le_trans (own_len _ _) ?_
    exact Nat.le_mul_of_pos_right _ (Nat.succ_pos _)
  | up _ _ _ _ _ ih=>
    rw [List.length_append,Nat.mul_succ]
    have:=cut_len (by assumption) (by assumption)
    exact Nat.add_le_add (Nat.le_trans (cut_len _ _) ih) (own_len _ _)
theorem mem_ps {ps:List (Addr×En)} {e:En} (h:e∈ps.map (·.2)):∃ a,(a,e)∈ps:=by
  obtain ⟨⟨a,e'⟩,hp,rfl⟩:=List.mem_map.mp h
  exact ⟨a,hp⟩
theorem nms_ps {ps:List (Addr×En)} (g:Good (ps.map (·.2))):Nms ps:=by
  have:=g.nms
  rw [List.map_map] at this
  exact this
theorem tns_ps {ps:List (Addr×En)} (g:Good (ps.map (·.2))) (sm:Str):((ps.filter fun p=>p.2.isSl sm).map fun p=>p.2.turn).Nodup:=by
  have:=slOf_sub (nm:=sm) g.tns
  rw [← fil_en,List.map_map] at this
  exact this
end
section
variable {P:Program} {w:World} {K:PySem.W.Frag} {mg:Str→Option Value} {base:Heap} {f:Addr} {fd:FuncData} {PT:Addr}
def adr:V→Addr
  | .ref b=>b
  | _=>0
def En.v3:En→V
  | .st _ _ og _=>.str og
  | .sl _ _ tn _=>.int tn
def En.v2:En→Str
  | .st _ kp _ _=>kp
  | .sl _ sm _ _=>sm
theorem fil_one:∀ {ps:List (Addr×En)} {p:Addr×En},Nms ps→p∈ps→(ps.filter fun q=>decide (q.2.nm = p.2.nm)) = [p]
  | [],_,_,h=>nomatch h
  | a :: ps,p,nd,h=>by
    have nd':a.2.nm ∉ ps.map (fun p=>p.2.nm)∧Nms ps:=List.nodup_cons.mp nd
    rw [List.filter_cons]
    rcases List.mem_cons.mp h with rfl | h
    · rw [if_pos (decide_eq_true rfl),List.filter_eq_nil_iff.mpr fun q hq e=>nd'.1 (List.mem_map.mpr ⟨q,hq,of_decide_eq_true e⟩)]
    · rw [if_neg fun e=>nd'.1 (List.mem_map.mpr ⟨p,h,(of_decide_eq_true e).symm⟩),fil_one nd'.2 h]
theorem EnAt.v3 {H:Hp} {p:Addr×En} (h:EnAt H p):∃ xs,H p.1 = some (.tup xs)∧xs[0]? = some (.str p.2.nm)∧xs[2]? = some (.str p.2.v2)∧xs[3]? = some p.2.v3:=by
  obtain ⟨ta,_,h2⟩:=h
  obtain ⟨a,e⟩:=p
  cases e <;> exact ⟨_,h2,rfl,rfl,rfl⟩
theorem dec_str {a b:Str}:decide (V.str a = V.str b) = decide (a = b):=by
  by_cases z:a = b
  · rw [decide_eq_true z,decide_eq_true (by rw [z])]
  · rw [decide_eq_false z,decide_eq_false fun y=>z (V.str.inj y)]
def Pr (p:Addr×En) (y:V) (H:Hp):Prop:=∃ b,y = .ref b∧H b = some (.tup [.int p.2.turn,.str p.2.nm])
theorem Pr.adr {p:Addr×En} {y:V} {H:Hp} (h:Pr p y H):y = .ref (adr y)∧H (adr y) = some (.tup [.int p.2.turn,.str p.2.nm]):=by
  obtain ⟨b,rfl,h⟩:=h
  exact ⟨rfl,h⟩
def sp_lh (m:Nat) (K:PySem.W.Frag):Sp:=fun vs H Q _=>∃ (h:Addr) (ag:Int) (k n:Addr) (ps:List (Addr×En)) (nm:Str) (hs:List Str),vs = [.ref h,.str nm]∧HeadAt H h ag k n ps∧ps.length < 64∧m≤20∧Good (ps.map (·.2))∧Hist (ps.map (·.2)) nm hs m∧
  ∀ l H',Same H H'→H l = none→H' l = some (.lst (hs.map V.str))→Q (.ref l) H'
theorem lh_step (T:Txt K mg) (F:Fun K "_law_history" "_law_history" s__law_history f fd) (m:Nat) (D__law_history:Def P w K mg base m "_law_history" ["_law_head_here","_law_stem"] (fun vs H Q E=>∃ m',m = m' + 1∧sp_lh m' K vs H Q E)):FnOk P w K mg base CX0 (m + 1) f fd ["_law_head_here","_law_stem"] (sp_lh m K):=by
  refine F.ok sc__law_history (fun vs H Q E h=>?_) (fun cdv A outer s H vs Q E hr h=>?_)
  · obtain ⟨h,ag,k,n,ps,nm,hs,rfl,_⟩:=h
    rfl
  obtain ⟨h,ag,k,n,ps,nm,hs,rfl,hd,few,m20,good,hist,q⟩:=h
  refine ⟨_,(@pss_cons _ _ _ _ _ (@ps_set _ _ (2) _ _ _ _ sc__law_history.nd rfl (by first | exact Or.inl rfl | exact Or.inr rfl) (@pe_ix _ _ _ _ _ _ _ ix_list (@pe_comp _ ["_law_entry_here","_law_stem"] [none,some 1] _ _ _ _ _ _ _ _ _ _ _ rfl (@pi_tup _ _ _ _ (@pe_ix _ _ _ _ _ _ _ ix_tup (pv 0) (@pe_int _ _ _ _) (fun _ _=>rfl))) (by rfl) rfl (by repeat (first | exact trivial | refine ⟨rfl,?_⟩)) (by repeat (first | exact trivial | refine ⟨fun h=>(by first | exact ⟨_,rfl⟩ | cases h),?_⟩)) (fun C s H fp=>⟨(@pg_name _ _ (0) _ (show (["_law_entry_here","_law_stem"]:List Str).Nodup by decide +kernel) rfl (by first | exact Or.inl rfl | exact Or.inr rfl) (by first | exact .inl rfl | exact .inr rfl | assumption)),(@pifs_one _ _ _ (@pt_cmpR _ _ _ _ _ _ _ _ op_eq (@pe_ix _ _ _ _ _ _ _ (ix_tupK (K:=K) (by rfl)) (pv 0) (@pe_int _ _ _ _) (fun _ _=>rfl)) (pv 1) (nomark _))),(@pe_ix _ _ _ _ _ _ _ (ix_tupK (K:=K) (by rfl)) (pv 0) (@pe_int _ _ _ _) (fun _ _=>rfl))⟩) (by intro _; rfl)) (@pe_int _ _ _ _) (fun _ _=>rfl)) (by rfl) (by first | exact .inl rfl | exact .inr rfl | assumption)) (@pss_cons _ _ _ _ _ (@ps_set _ _ (3) _ _ _ _ sc__law_history.nd rfl (by first | exact Or.inl rfl | exact Or.inr rfl) (@pe_callB _ _ _ _ _ _ _ _ _ (call_sortTI (K:=K) (by rfl)) (by rfl) T.b_sorted bt_sorted (@pa_cons _ _ _ _ _ (@pe_comp _ ["_law_entry_here","_law_stem"] [none,some 1] _ _ _ _ _ _ _ _ _ _ _ rfl (@pi_tup _ _ _ _ (@pe_ix _ _ _ _ _ _ _ ix_tup (pv 0) (@pe_int _ _ _ _) (fun _ _=>rfl))) (by rfl) rfl (by repeat (first | exact trivial | refine ⟨rfl,?_⟩)) (by repeat (first | exact trivial | refine ⟨fun h=>(by first | exact ⟨_,rfl⟩ | cases h),?_⟩)) (fun C s H fp=>⟨(@pg_name _ _ (0) _ (show (["_law_entry_here","_law_stem"]:List Str).Nodup by decide +kernel) rfl (by first | exact Or.inl rfl | exact Or.inr rfl) (by first | exact .inl rfl | exact .inr rfl | assumption)),(@pifs_one _ _ _ (@PW.pt _ _ _ (@pw_and _ _ _ _ _ _ _ (@pt_cmpR _ _ _ _ _ _ _ _ op_eq (@pe_ix _ _ _ _ _ _ _ (ix_tupK (K:=K) (by rfl)) (pv 0) (@pe_int _ _ _ _) (fun _ _=>rfl)) (@pe_int _ _ _ _) (nomark _)) (@pw_and1 _ _ _ _ (@pt_cmpR _ _ _ _ _ _ _ _ op_eq (@pe_ix _ _ _ _ _ _ _ (ix_tupK (K:=K) (by rfl)) (pv 0) (@pe_int _ _ _ _) (fun _ _=>rfl)) (pv 1) (nomark _)))))),(@pe_tup _ _ _ _ _ (@pa_cons _ _ _ _ _ (@pe_ix _ _ _ _ _ _ _ (ix_tupK (K:=K) (by rfl)) (pv 0) (@pe_int _ _ _ _) (fun _ _=>rfl)) (@pa_cons _ _ _ _ _ (@pe_ix _ _ _ _ _ _ _ (ix_tupK (K:=K) (by rfl)) (pv 0) (@pe_int _ _ _ _) (fun _ _=>rfl)) (@pa_nil _) (by rfl)) (by rfl)))⟩) (by intro _; rfl)) (@pa_nil _) (by rfl)) (by decide) (by decide) (by rfl) (by rfl)) (by rfl) (by first | exact .inl rfl | exact .inr rfl | assumption)) (@pss_cons _ _ _ _ _ (@ps_if _ _ _ _ _ _ _ _ (@pt_cmpR _ _ _ _ _ _ _ _ op_eq (pv 2) (@pe_str _ _ _ _) (nomark _)) (@pss_one _ _ _ (@ps_ret _ _ _ _ (@pe_comp0 _ ["_law_turn","_law_name"] _ _ _ _ _ _ _ _ _ _ rfl (@pi_list _ _ _ _ (pv 3)) (by decide +kernel) (fun C s H fp=>⟨(@pg_tupK _ (K) _ _ _ _ (2) (by rfl) rfl (@pgs_cons _ _ _ _ _ (@pg_name _ _ (0) _ (show (["_law_turn","_law_name"]:List Str).Nodup by decide +kernel) rfl (by first | exact Or.inl rfl | exact Or.inr rfl) (by first | exact .inl rfl | exact .inr rfl | assumption)) (@pgs_cons _ _ _ _ _ (@pg_name _ _ (1) _ (show (["_law_turn","_law_name"]:List Str).Nodup by decide +kernel) rfl (by first | exact Or.inl rfl | exact Or.inr rfl) (by first | exact .inl rfl | exact .inr rfl | assumption)) (@pgs_nil _) (by rfl)) (by rfl)) (by rfl) (by rfl)),(@pifs_nil _),(pv 1)⟩) (by intro _; rfl)))) (@pss_nil _)) (@pss_cons _ _ _ _ _ (@ps_set _ _ (4) _ _ _ _ sc__law_history.nd rfl (by first | exact Or.inl rfl | exact Or.inr rfl) (@pe_ix _ _ _ _ _ _ _ ix_list (@pe_comp _ ["_law_entry_here","_law_origin"] [none,some 2] _ _ _ _ _ _ _ _ _ _ _ rfl (@pi_tup _ _ _ _ (@pe_ix _ _ _ _ _ _ _ ix_tup (pv 0) (@pe_int _ _ _ _) (fun _ _=>rfl))) (by rfl) rfl (by repeat (first | exact trivial | refine ⟨rfl,?_⟩)) (by repeat (first | exact trivial | refine ⟨fun h=>(by first | exact ⟨_,rfl⟩ | cases h),?_⟩)) (fun C s H fp=>⟨(@pg_name _ _ (0) _ (show (["_law_entry_here","_law_origin"]:List Str).Nodup by decide +kernel) rfl (by first | exact Or.inl rfl | exact Or.inr rfl) (by first | exact .inl rfl | exact .inr rfl | assumption)),(@pifs_one _ _ _ (@pt_cmpR _ _ _ _ _ _ _ _ op_eq (@pe_ix _ _ _ _ _ _ _ (ix_tupK (K:=K) (by rfl)) (pv 0) (@pe_int _ _ _ _) (fun _ _=>rfl)) (pv 1) (nomark _))),(@pe_ix _ _ _ _ _ _ _ (ix_tupK (K:=K) (by rfl)) (pv 0) (@pe_int _ _ _ _) (fun _ _=>rfl))⟩) (by intro _; rfl)) (@pe_int _ _ _ _) (fun _ _=>rfl)) (by rfl) (by first | exact .inl rfl | exact .inr rfl | assumption)) (@pss_cons _ _ _ _ _ (@ps_set _ _ (5) _ _ _ _ sc__law_history.nd rfl (by first | exact Or.inl rfl | exact Or.inr rfl) (@pe_fn _ _ _ _ _ _ _ _ _ _ D__law_history (hr.mono (by omega)) rfl (@pa_cons _ _ _ _ _ (pv 0) (@pa_cons _ _ _ _ _ (pv 4) (@pa_nil _) (by rfl)) (by rfl)) (by decide) (by rfl) (by rfl)) (by rfl) (by first | exact .inl rfl | exact .inr rfl | assumption)) (@pss_one _ _ _ (@ps_ret _ _ _ _ (@pe_op _ _ _ _ _ _ _ _ op_catS (@pe_slice _ _ _ _ _ _ _ _ _ _ sl_list (pv 5) (@po_none _) (@po_some _ _ _ (@pe_op _ _ _ _ _ _ _ _ op_add (@pe_bm _ _ _ _ _ _ _ _ _ _ _ _ PySem.F.plainAttrs_list PySem.F.slot_list_index PySem.F.type_list_index mt_lindex (pv 5) (@pa_cons _ _ _ _ _ (pv 2) (@pa_nil _) (by rfl)) (by rfl) (by rfl) (by rfl) (by rfl) (by rfl)) (@pe_int _ _ _ _)))) (@pe_comp0 _ ["_law_turn","_law_name"] _ _ _ _ _ _ _ _ _ _ rfl (@pi_list _ _ _ _ (pv 3)) (by decide +kernel) (fun C s H fp=>⟨(@pg_tupK _ (K) _ _ _ _ (2) (by rfl) rfl (@pgs_cons _ _ _ _ _ (@pg_name _ _ (0) _ (show (["_law_turn","_law_name"]:List Str).Nodup by decide +kernel) rfl (by first | exact Or.inl rfl | exact Or.inr rfl) (by first | exact .inl rfl | exact .inr rfl | assumption)) (@pgs_cons _ _ _ _ _ (@pg_name _ _ (1) _ (show (["_law_turn","_law_name"]:List Str).Nodup by decide +kernel) rfl (by first | exact Or.inl rfl | exact Or.inr rfl) (by first | exact .inl rfl | exact .inr rfl | assumption)) (@pgs_nil _) (by rfl)) (by rfl)) (by rfl) (by rfl)),(@pifs_nil _),(pv 1)⟩) (by intro _; rfl)))))))))),?_⟩
  try dsimp only [cxOf,Cx.nox,Cx.wish]
  have nd:=nms_ps good
  have hlen:hs.length≤64 * 21:=by
    have h1:=hist.len
    rw [List.length_map] at h1
    exact Nat.le_trans h1 (Nat.mul_le_mul (by omega) (by omega))
  obtain ⟨a,kp,og,t,hp,alt⟩:∃ a kp og t,(a,En.st nm kp og t)∈ps∧((og = EM∧hs = own (ps.map (·.2)) nm)∨(og≠EM∧∃ sm tn t' hs' m',En.sl og sm tn t'∈ps.map (·.2)∧m = m' + 1∧Hist (ps.map (·.2)) sm hs' m'∧og∈hs'∧hs = cutTo og hs' ++ own (ps.map (·.2)) nm)):=by
    cases hist with
    | root h1=>
      obtain ⟨a,ha⟩:=mem_ps h1
      exact ⟨a,_,_,_,ha,.inl ⟨rfl,rfl⟩⟩
    | up h1 h2 h3 h4 h5=>
      obtain ⟨a,ha⟩:=mem_ps h1
      exact ⟨a,_,_,_,ha,.inr ⟨h2,_,_,_,_,_,h3,rfl,h4,h5,rfl⟩⟩
  refine ⟨_,rfl,h,_,_,_,rfl,rfl,SqT.of hd.at_,atI_nat (j:=2) rfl,n,rfl,⟨_,SqT.of hd.nm⟩,?_⟩
  refine comp_selF (ps:=ps) (g:=fun p=>V.ref p.1) (fun p=>decide (p.2.nm = nm)) (fun p=>p.2.v3) (itIs_tup hd.nm) (by omega) (fun p hp H' R s' hR=>?_) (fun p hp hs H' R s' hR=>?_) fun l1 H1 n1 s1 h1=>?_
  · obtain ⟨xs,hx,x0,x2,x3⟩:=(hd.en p hp).v3
    refine ⟨_,rfl,p.1,_,_,_,rfl,rfl,SqT.of (s'.get hx),atI_nat (j:=0) x0,_,rfl,rfl,_,rfl,?_⟩
    rw [dec_str]
    exact hR
  · obtain ⟨xs,hx,x0,x2,x3⟩:=(hd.en p hp).v3
    exact ⟨_,rfl,p.1,_,_,_,rfl,rfl,SqT.of (s'.get hx),atI_nat (j:=3) x3,hR H' (Same.refl _)⟩
  rw [show (fun p:Addr×En=>decide (p.2.nm = nm)) = fun p=>decide (p.2.nm = (a,En.st nm kp og t).2.nm) from rfl,fil_one nd hp] at h1
  have h1:H1 l1 = some (.lst [V.str og]):=h1
  refine ⟨l1,_,_,_,rfl,rfl,SqL.of h1,atI_nat (j:=0) rfl,?_⟩
  have hd1:=hd.same s1
  refine ⟨_,rfl,h,_,_,_,rfl,rfl,SqT.of hd1.at_,atI_nat (j:=2) rfl,n,rfl,⟨_,SqT.of hd1.nm⟩,?_⟩
  refine comp_sel (ps:=ps) (g:=fun p=>V.ref p.1) (fun p=>p.2.isSl nm) Pr (fun x y H1 H2 ⟨b,e,h⟩ s=>⟨b,e,s.get h⟩) (fun x y H1 l us us' ⟨b,e,h⟩ hl=>⟨b,e,by rw [upd_ne fun z=>by rw [z,hl] at h; cases h]; exact h⟩) (itIs_tup hd1.nm) (by omega) (fun p hp H' R s' hR=>?_) (fun p hp hs H' R s' hR=>?_) fun l2 H2 ys n2 s2 h2 ey hy=>?_
  · obtain ⟨a,e⟩:=p
    obtain ⟨ta,_,ha⟩:=hd1.en _ hp
    have ha':=s'.get ha
    cases e with
    | st nm kp og t=>exact ⟨_,rfl,a,_,_,_,rfl,rfl,SqT.of ha',atI_nat (j:=1) rfl,rfl,_,rfl,iteFc rfl hR⟩
    | sl nm' sm' tn t=>exact ⟨_,rfl,a,_,_,_,rfl,rfl,SqT.of ha',atI_nat (j:=1) rfl,rfl,_,rfl,iteTc rfl ⟨_,rfl,a,_,_,_,rfl,rfl,SqT.of ha',atI_nat (j:=2) rfl,_,rfl,rfl,_,rfl,by rw [dec_str]; exact hR⟩⟩
  · obtain ⟨a,e⟩:=p
    obtain ⟨ta,_,ha⟩:=hd1.en _ hp
    have ha':=s'.get ha
    cases e with
    | st nm' kp og t=>cases hs
    | sl nm' sm' tn t=>
      refine ⟨_,rfl,a,_,_,_,rfl,rfl,SqT.of ha',atI_nat (j:=3) rfl,_,rfl,a,_,_,_,rfl,rfl,SqT.of ha',atI_nat (j:=0) rfl,small (by show 2≤1000000; decide),fun b hb=>?_⟩
      exact hR _ _ (same_new hb _) ⟨b,rfl,upd_same⟩
  have lf:ys.length < 64:=by
    have e1:=congrArg List.length ey
    rw [List.length_map] at e1
    have e2:=List.length_filter_le (fun p:Addr×En=>p.2.isSl nm) ps
    omega
  have er:ys.map (·.2) = (ys.map fun q=>(adr q.2,q.1.2.turn)).map fun t=>V.ref t.1:=by
    rw [List.map_map]
    exact List.map_congr_left fun q hq=>(hy q hq).adr.1
  refine ⟨l2,ys.map fun q=>(adr q.2,q.1.2.turn),rfl,SqL.of (by rw [← er]; exact h2),by rw [List.length_map]; exact lf,fun t ht=>?_,?_,fun us p up us2 np=>?_⟩
  · obtain ⟨q,hq,rfl⟩:=List.mem_map.mp ht
    exact ⟨_,SqT.of (hy q hq).adr.2⟩
  · have:=tns_ps good nm
    rw [← ey,List.map_map] at this
    rw [List.map_map]
    exact this
  obtain ⟨us',p1,rfl⟩:=perm_lift up rfl
  rw [List.map_map]
  have s3:=same_new np (.lst (us'.map ((fun t:Addr×Int=>V.ref t.1)∘fun q:(Addr×En)×V=>(adr q.2,q.1.2.turn))))
  have hp3:(upd H2 p (.lst (us'.map ((fun t:Addr×Int=>V.ref t.1)∘fun q:(Addr×En)×V=>(adr q.2,q.1.2.turn))))) p = some (.lst (us'.map fun q=>V.ref (adr q.2))):=upd_same
  have hy3:∀ q∈us',(upd H2 p (.lst (us'.map ((fun t:Addr×Int=>V.ref t.1)∘fun q:(Addr×En)×V=>(adr q.2,q.1.2.turn))))) (adr q.2) = some (.tup [.int q.1.2.turn,.str q.1.2.nm]):=fun q hq=>s3.get (hy q (p1.mem_iff.mp hq)).adr.2
  dsimp only [gName]
  generalize upd H2 p (.lst (us'.map ((fun t:Addr×Int=>V.ref t.1)∘fun q:(Addr×En)×V=>(adr q.2,q.1.2.turn)))) = H3 at s3 hp3 hy3
  have S3:=(s1.trans s2).trans s3
  have lu:us'.length < 64:=by rw [p1.length_eq]; exact lf
  have own3:us'.map (fun q=>V.str q.1.2.nm) = (own (ps.map (·.2)) nm).map V.str:=by
    have:=own_ps (us:=us'.map (·.1)) (ps:=ps) (nm:=nm) (by rw [← ey]; exact p1.map _) (by
      rw [List.pairwise_map] at us2 ⊢
      exact us2)
    rw [List.map_map] at this
    exact this
  have ol:(own (ps.map (·.2)) nm).length≤64:=by
    have:=own_len (ps.map (·.2)) nm
    rw [List.length_map] at this
    omega
  rcases alt with ⟨rfl,rfl⟩ | ⟨ne,sm,tn,t',hs',m',h3,em,h4,h5,rfl⟩
  · refine ⟨_,rfl,rfl,_,rfl,iteTc (decide_eq_true rfl) ?_⟩
    refine ⟨_,rfl,p,rfl,⟨_,SqL.of hp3⟩,?_⟩
    refine comp_sel2 (ps:=us') (g:=fun q=>adr q.2) (A:=fun q=>V.int q.1.2.turn) (B:=fun q=>V.str q.1.2.nm) (f:=fun q=>V.str q.1.2.nm) (itIs_list (SqL.of hp3)) hy3 (by omega) rfl (by decide) (fun q hq H' R s' hR=>⟨_,rfl,hR H' (Same.refl _)⟩) fun l4 H4 n4 s4 h4=>?_
    rw [own3] at h4
    exact q l4 H4 (S3.trans s4) (S3.free n4) h4
  · refine ⟨_,rfl,rfl,_,rfl,iteFc (decide_eq_false fun e=>ne (V.str.inj e)) ?_⟩
    have hd3:=hd.same S3
    obtain ⟨a2,hp2⟩:=mem_ps h3
    refine ⟨_,rfl,h,_,_,_,rfl,rfl,SqT.of hd3.at_,atI_nat (j:=2) rfl,n,rfl,⟨_,SqT.of hd3.nm⟩,?_⟩
    refine comp_selF (ps:=ps) (g:=fun p=>V.ref p.1) (fun p=>decide (p.2.nm = og)) (fun p=>V.str p.2.v2) (itIs_tup hd3.nm) (by omega) (fun p hp H' R s' hR=>?_) (fun p hp hs H' R s' hR=>?_) fun l5 H5 n5 s5 h5'=>?_
    · obtain ⟨xs,hx,x0,x2,x3⟩:=(hd3.en p hp).v3
      refine ⟨_,rfl,p.1,_,_,_,rfl,rfl,SqT.of (s'.get hx),atI_nat (j:=0) x0,_,rfl,rfl,_,rfl,?_⟩
      rw [dec_str]
      exact hR
    · obtain ⟨xs,hx,x0,x2,x3⟩:=(hd3.en p hp).v3
      exact ⟨_,rfl,p.1,_,_,_,rfl,rfl,SqT.of (s'.get hx),atI_nat (j:=2) x2,hR H' (Same.refl _)⟩
    rw [show (fun p:Addr×En=>decide (p.2.nm = og)) = fun p=>decide (p.2.nm = (a2,En.sl og sm tn t').2.nm) from rfl,fil_one nd hp2] at h5'
    refine ⟨l5,_,_,_,rfl,rfl,SqL.of h5',atI_nat (j:=0) rfl,?_⟩
    have S5:=S3.trans s5
    refine ⟨_,rfl,_,rfl,m',em,h,ag,k,n,ps,sm,hs',rfl,hd.same S5,few,by omega,good,h4,fun l6 H6 s6 n6 h6=>?_⟩
    have S6:=S5.trans s6
    obtain ⟨j,j1,j2,j3⟩:=cut_at h5
    refine ⟨_,rfl,_,rfl,.inl ⟨rfl,_,SqL.of h6⟩,_,rfl,l6,hs',og,j,rfl,rfl,h6,j1,j2,_,_,rfl,rfl,_,rfl,l6,_,rfl,SqL.of h6,fun p7 n7=>?_⟩
    rw [cut_hi (by omega),show ((j:Int) + 1).toNat = j + 1 by omega,← List.map_take,j3]
    have s7:=same_new n7 (.lst ((cutTo og hs').map V.str))
    have h7:(upd H6 p7 (.lst ((cutTo og hs').map V.str))) p7 = some (.lst ((cutTo og hs').map V.str)):=upd_same
    have hp7:=s7.get (s6.get (s5.get hp3))
    have hy7:∀ q∈us',(upd H6 p7 (.lst ((cutTo og hs').map V.str))) (adr q.2) = some (.tup [.int q.1.2.turn,.str q.1.2.nm]):=fun q hq=>s7.get (s6.get (s5.get (hy3 q hq)))
    generalize upd H6 p7 (.lst ((cutTo og hs').map V.str)) = H7 at s7 h7 hp7 hy7
    refine ⟨_,rfl,p,rfl,⟨_,SqL.of hp7⟩,?_⟩
    refine comp_sel2 (ps:=us') (g:=fun q=>adr q.2) (A:=fun q=>V.int q.1.2.turn) (B:=fun q=>V.str q.1.2.nm) (f:=fun q=>V.str q.1.2.nm) (itIs_list (SqL.of hp7)) hy7 (by omega) rfl (by decide) (fun q hq H' R s' hR=>⟨_,rfl,hR H' (Same.refl _)⟩) fun l8 H8 n8 s8 h8=>?_
    rw [own3] at h8
    refine ⟨p7,l8,_,_,rfl,rfl,SqL.of (s8.get h7),SqL.of h8,small ?_,fun p9 n9=>?_⟩
    · rw [List.length_map,List.length_map]
      rw [List.length_append] at hlen
      omega
    · rw [← List.map_append]
      have S9:=((S6.trans s7).trans s8).trans (same_new n9 (.lst ((cutTo og hs' ++ own (ps.map (·.2)) nm).map V.str)))
      exact q p9 _ S9 (((S6.trans s7).trans s8).free n9) upd_same
def sp__law_history (K:PySem.W.Frag):Sp:=sp_lh 20 K
theorem lh_all (T:Txt K mg) (F:Fun K "_law_history" "_law_history" s__law_history f fd) (hm:mg "_law_history" = some (.ref f)) (hk:PySem.W.keepIn K (.ref f) = true) (hb:Binds K fd ["_law_head_here","_law_stem"] []):∀ m,FnOk P w K mg base CX0 (m + 1) f fd ["_law_head_here","_law_stem"] (sp_lh m K)
  | 0=>lh_step T F 0 ⟨_,_,⟨(fun vs H Q E h=>by obtain ⟨_,e,_⟩:=h; cases e),(fun A outer s H args us vs Q E _ _ _ _ h=>by obtain ⟨_,e,_⟩:=h; cases e)⟩,hm,hk,hb⟩
  | m + 1=>lh_step T F (m + 1) ⟨_,_,by
      have ih:=lh_all T F hm hk hb m
      refine ⟨fun vs H Q E h=>?_,fun A outer s H args us vs Q E a b c d h=>?_⟩
      · obtain ⟨m',e,h⟩:=h
        cases e
        exact ih.len _ _ _ _ h
      · obtain ⟨m',e,h⟩:=h
        cases e
        exact ih.run A outer s H args us vs Q E a b c d h,hm,hk,hb⟩
theorem ok__law_history (T:Txt K mg) (F:Fun K "_law_history" "_law_history" s__law_history f fd) (hm:mg "_law_history" = some (.ref f)) (hk:PySem.W.keepIn K (.ref f) = true) (hb:Binds K fd ["_law_head_here","_law_stem"] []):FnOk P w K mg base CX0 21 f fd ["_law_head_here","_law_stem"] (sp__law_history K):=lh_all T F hm hk hb 20
end
section
variable {P:Program} {w:World} {K:PySem.W.Frag} {mg:Str→Option Value} {base:Heap} {f:Addr} {fd:FuncData} {PT PU:Addr}
def tgT (t:Int×Int×Int):Tr:=.tup [.int t.1,.int t.2.1,.int t.2.2]
def enT:En→Tr
  | .st nm kp og t=>.tup [.str nm,.int 1,.str kp,.str og,tgT t]
  | .sl nm sm tn t=>.tup [.str nm,.int 2,.str sm,.int tn,tgT t]
theorem tg_rep {F:Addr→Prop} {H:Hp} {a:Addr} {t:Int×Int×Int} (h:H a = some (.tup (tgV t))):Rep F H (tgT t) (.ref a):=⟨a,_,rfl,h,_,_,rfl,rfl,_,_,rfl,rfl,_,_,rfl,rfl,rfl⟩
theorem EnAt.rep {F:Addr→Prop} {H:Hp} {p:Addr×En} (h:EnAt H p):Rep F H (enT p.2) (.ref p.1):=by
  obtain ⟨ta,h1,h2⟩:=h
  obtain ⟨a,e⟩:=p
  cases e <;> exact ⟨a,_,rfl,h2,_,_,rfl,rfl,_,_,rfl,rfl,_,_,rfl,rfl,_,_,rfl,rfl,_,_,rfl,tg_rep h1,rfl⟩
theorem en_dep (e:En):(enT e).dep≤3:=by cases e <;> exact Nat.le_refl _
def hdT (ag c:Int) (es:List En):List Tr:=[.int ag,.tup [.tup [.str (PySem.Str.ofString "k0"),.int 5],.tup [.str (PySem.Str.ofString "k1"),.int c]],.tup (es.map enT)]
theorem HeadAt.rep {F:Addr→Prop} {H:Hp} {h:Addr} {ag c:Int} {k n:Addr} {ps:List (Addr×En)} (x:HeadAt H h ag k n ps) (kk:KeepAt H k c):Rep F H (.tup (hdT ag c (ps.map (·.2)))) (.ref h):=by
  obtain ⟨k0,k1,a1,a2,a3⟩:=kk
  refine ⟨h,_,rfl,x.at_,_,_,rfl,rfl,_,_,rfl,⟨k,_,rfl,a1,_,_,rfl,⟨k0,_,rfl,a2,_,_,rfl,rfl,_,_,rfl,rfl,rfl⟩,_,_,rfl,⟨k1,_,rfl,a3,_,_,rfl,rfl,_,_,rfl,rfl,rfl⟩,rfl⟩,_,_,rfl,⟨n,_,rfl,x.nm,?_⟩,rfl⟩
  refine reps_of (by rw [List.length_map,List.length_map,List.length_map]) fun i t v h1 h2=>?_
  rw [List.map_map,List.getElem?_map] at h1
  rw [List.getElem?_map] at h2
  cases hi:ps[i]? with
  | none=>rw [hi] at h1; cases h1
  | some p=>
    rw [hi] at h1 h2
    cases h1
    cases h2
    exact (x.en p (List.mem_of_getElem? hi)).rep
theorem hd_dep (ag c:Int) (es:List En):Tr.deps (hdT ag c es)≤99:=by
  have:=deps_map (f:=enT) (m:=3) (xs:=es) fun e _=>en_dep e
  show max 1 (max 3 (max (1 + Tr.deps (es.map enT)) 0))≤99
  omega
def enL:En→List Tr
  | .st nm kp og t=>[.str nm,.int 1,.str kp,.str og,tgT t]
  | .sl nm sm tn t=>[.str nm,.int 2,.str sm,.int tn,tgT t]
theorem enL_dep (e:En):Tr.deps (enL e)≤99:=by cases e <;> exact Nat.le_trans (show _≤2 from Nat.le_refl _) (by decide)
theorem EnAt.repL {F:Addr→Prop} {H:Hp} {p:Addr×En} (h:EnAt H p):Rep F H (.tup (enL p.2)) (.ref p.1):=by
  have:=h.rep (F:=F)
  obtain ⟨a,e⟩:=p
  cases e <;> exact this
def sp__law_entry (K:PySem.W.Frag):Sp:=fun vs H Q _=>∃ (h:Addr) (ag:Int) (k n:Addr) (ps:List (Addr×En)) (p:Addr×En),vs = [.ref h,.str p.2.nm]∧HeadAt H h ag k n ps∧ps.length≤20∧Nms ps∧p∈ps∧∀ H',Same H H'→Q (.ref p.1) H'
theorem ok__law_entry (T:Txt K mg) (F:Fun K "_law_entry" "_law_entry" s__law_entry f fd):FnOk P w K mg base CX0 1 f fd ["_law_head_here","_law_name"] (sp__law_entry K):=by
  refine F.ok sc__law_entry (fun vs H Q E h=>?_) (fun cdv A outer s H vs Q E hr h=>?_)
  · obtain ⟨h,ag,k,n,ps,p,rfl,_⟩:=h
    rfl
  obtain ⟨h,ag,k,n,ps,p,rfl,hd,few,nd,hp,q⟩:=h
  refine ⟨_,(@pss_one _ _ _ (@ps_ret _ _ _ _ (@pe_ix _ _ _ _ _ _ _ ix_list (@pe_comp _ ["_law_entry_here","_law_name"] [none,some 1] _ _ _ _ _ _ _ _ _ _ _ rfl (@pi_tup _ _ _ _ (@pe_ix _ _ _ _ _ _ _ ix_tup (pv 0) (@pe_int _ _ _ _) (fun _ _=>rfl))) (by rfl) rfl (by repeat (first | exact trivial | refine ⟨rfl,?_⟩)) (by repeat (first | exact trivial | refine ⟨fun h=>(by first | exact ⟨_,rfl⟩ | cases h),?_⟩)) (fun C s H fp=>⟨(@pg_name _ _ (0) _ (show (["_law_entry_here","_law_name"]:List Str).Nodup by decide +kernel) rfl (by first | exact Or.inl rfl | exact Or.inr rfl) (by first | exact .inl rfl | exact .inr rfl | assumption)),(@pifs_one _ _ _ (@pt_cmpR _ _ _ _ _ _ _ _ op_eq (@pe_ix _ _ _ _ _ _ _ (ix_tupK (K:=K) (by rfl)) (pv 0) (@pe_int _ _ _ _) (fun _ _=>rfl)) (pv 1) (nomark _))),(pv 0)⟩) (by intro _; rfl)) (@pe_int _ _ _ _) (fun _ _=>rfl)))),?_⟩
  try dsimp only [cxOf,Cx.nox,Cx.wish]
  refine ⟨_,rfl,h,_,_,_,rfl,rfl,SqT.of hd.at_,atI_nat (j:=2) rfl,n,rfl,⟨_,SqT.of hd.nm⟩,?_⟩
  refine comp_selF (ps:=ps) (g:=fun p=>V.ref p.1) (fun q=>decide (q.2.nm = p.2.nm)) (fun p=>V.ref p.1) (itIs_tup hd.nm) (by omega) (fun p hp H' R s' hR=>?_) (fun p hp hs H' R s' hR=>⟨_,rfl,hR H' (Same.refl _)⟩) fun l1 H1 n1 s1 h1=>?_
  · obtain ⟨r,hr'⟩:=(hd.en p hp).fst
    refine ⟨_,rfl,p.1,_,_,_,rfl,rfl,SqT.of (s'.get hr'),atI_nat (j:=0) rfl,_,rfl,rfl,_,rfl,?_⟩
    rw [dec_str]
    exact hR
  rw [fil_one nd hp] at h1
  exact ⟨l1,_,_,_,rfl,rfl,SqL.of h1,atI_nat (j:=0) rfl,q H1 s1⟩
def sp__law_due (K:PySem.W.Frag):Sp:=fun vs H Q _=>∃ (h:Addr) (s:Str) (ag:Int) (k n:Addr) (ps:List (Addr×En)) (p og ogp:Str) (tn:Int),vs = [.ref h,.str s]∧HeadAt H h ag k n ps∧ps.length≤20∧Rise ps∧Full (ps.map (·.2))∧Gr (ps.map (·.2)) s p og ogp tn∧
  ∀ h' n' ps' H',Same H H'→HeadAt H' h' ag k n' ps'→ps'.map (·.2) = (ps.map (·.2)).map (gr s p og ogp tn)→Q (.ref h') H'
theorem ok__law_due (T:Txt K mg) (F:Fun K "_law_due" "_law_due" s__law_due f fd) (D__law_entry:Def P w K mg base 1 "_law_entry" ["_law_head_here","_law_name"] (sp__law_entry K)):FnOk P w K mg base CX0 2 f fd ["_law_head_here","_law_stem"] (sp__law_due K):=by
  refine F.ok sc__law_due (fun vs H Q E h=>?_) (fun cdv A outer s H vs Q E hr h=>?_)
  · obtain ⟨h,s,ag,k,n,ps,p,og,ogp,tn,rfl,_⟩:=h
    rfl
  obtain ⟨h,sn,ag,k,n,ps,p,og,ogp,tn,rfl,hd,few,ri,full,g,q⟩:=h
  have hu:=hu_of hr
  have hu9:=hu9_of hr
  refine ⟨_,(@pss_cons _ _ _ _ _ (@ps_set _ _ (2) _ _ _ _ sc__law_due.nd rfl (by first | exact Or.inl rfl | exact Or.inr rfl) (@pe_fn _ _ _ _ _ _ _ _ _ _ D__law_entry (hr.mono (by decide)) rfl (@pa_cons _ _ _ _ _ (pv 0) (@pa_cons _ _ _ _ _ (pv 1) (@pa_nil _) (by rfl)) (by rfl)) (by decide) (by rfl) (by rfl)) (by rfl) (by first | exact .inl rfl | exact .inr rfl | assumption)) (@pss_cons _ _ _ _ _ (@ps_set _ _ (3) _ _ _ _ sc__law_due.nd rfl (by first | exact Or.inl rfl | exact Or.inr rfl) (@pe_fn _ _ _ _ _ _ _ _ _ _ D__law_entry (hr.mono (by decide)) rfl (@pa_cons _ _ _ _ _ (pv 0) (@pa_cons _ _ _ _ _ (@pe_ix _ _ _ _ _ _ _ ix_tup (pv 2) (@pe_int _ _ _ _) (fun _ _=>rfl)) (@pa_nil _) (by rfl)) (by rfl)) (by decide) (by rfl) (by rfl)) (by rfl) (by first | exact .inl rfl | exact .inr rfl | assumption)) (@pss_cons _ _ _ _ _ (@ps_set _ _ (4) _ _ _ _ sc__law_due.nd rfl (by first | exact Or.inl rfl | exact Or.inr rfl) (@pe_fn _ _ _ _ _ _ _ _ _ _ D__law_entry (hr.mono (by decide)) rfl (@pa_cons _ _ _ _ _ (pv 0) (@pa_cons _ _ _ _ _ (@pe_ix _ _ _ _ _ _ _ ix_tup (pv 3) (@pe_int _ _ _ _) (fun _ _=>rfl)) (@pa_nil _) (by rfl)) (by rfl)) (by decide) (by rfl) (by rfl)) (by rfl) (by first | exact .inl rfl | exact .inr rfl | assumption)) (@pss_cons _ _ _ _ _ (@ps_set _ _ (5) _ _ _ _ sc__law_due.nd rfl (by first | exact Or.inl rfl | exact Or.inr rfl) (@pe_lst _ _ _ _ (@pa_nil _)) (by rfl) (by first | exact .inl rfl | exact .inr rfl | assumption)) (@pss_cons _ _ _ _ _ (@ps_for _ _ _ _ _ _ _ _ PassesOwn.never rfl (@pi_tup _ _ _ _ (@pe_ix _ _ _ _ _ _ _ ix_tup (pv 0) (@pe_int _ _ _ _) (fun _ _=>rfl))) (@pg_name _ _ (6) _ sc__law_due.nd rfl (by first | exact Or.inl rfl | exact Or.inr rfl) (by first | exact .inl rfl | exact .inr rfl | assumption)) (@pss_cons _ _ _ _ _ (@ps_if _ _ _ _ _ _ _ _ (@pt_cmpR _ _ _ _ _ _ _ _ (op_eqEn hu9) (pv 6) (pv 2) (nomark _)) (@pss_one _ _ _ (@ps_set _ _ (6) _ _ _ _ sc__law_due.nd rfl (by first | exact Or.inl rfl | exact Or.inr rfl) (@pe_tup _ _ _ _ _ (@pa_cons _ _ _ _ _ (@pe_ix _ _ _ _ _ _ _ ix_tup (pv 6) (@pe_int _ _ _ _) (fun _ _=>rfl)) (@pa_cons _ _ _ _ _ (@pe_int _ _ _ _) (@pa_cons _ _ _ _ _ (@pe_ix _ _ _ _ _ _ _ ix_tup (pv 6) (@pe_int _ _ _ _) (fun _ _=>rfl)) (@pa_cons _ _ _ _ _ (@pe_ix _ _ _ _ _ _ _ ix_tup (pv 4) (@pe_int _ _ _ _) (fun _ _=>rfl)) (@pa_cons _ _ _ _ _ (@pe_ix _ _ _ _ _ _ _ ix_tup (pv 6) (@pe_int _ _ _ _) (fun _ _=>rfl)) (@pa_nil _) (by rfl)) (by rfl)) (by rfl)) (by rfl)) (by rfl))) (by rfl) (by first | exact .inl rfl | exact .inr rfl | assumption))) (@pss_one _ _ _ (@ps_if _ _ _ _ _ _ _ _ (@pt_cmpR _ _ _ _ _ _ _ _ (op_eqEn hu9) (pv 6) (pv 4) (nomark _)) (@pss_one _ _ _ (@ps_set _ _ (6) _ _ _ _ sc__law_due.nd rfl (by first | exact Or.inl rfl | exact Or.inr rfl) (@pe_tup _ _ _ _ _ (@pa_cons _ _ _ _ _ (@pe_ix _ _ _ _ _ _ _ ix_tup (pv 6) (@pe_int _ _ _ _) (fun _ _=>rfl)) (@pa_cons _ _ _ _ _ (@pe_int _ _ _ _) (@pa_cons _ _ _ _ _ (@pe_ix _ _ _ _ _ _ _ ix_tup (pv 6) (@pe_int _ _ _ _) (fun _ _=>rfl)) (@pa_cons _ _ _ _ _ (@pe_ix _ _ _ _ _ _ _ ix_tup (pv 3) (@pe_int _ _ _ _) (fun _ _=>rfl)) (@pa_cons _ _ _ _ _ (@pe_ix _ _ _ _ _ _ _ ix_tup (pv 6) (@pe_int _ _ _ _) (fun _ _=>rfl)) (@pa_nil _) (by rfl)) (by rfl)) (by rfl)) (by rfl)) (by rfl))) (by rfl) (by first | exact .inl rfl | exact .inr rfl | assumption))) (@pss_one _ _ _ (@ps_if _ _ _ _ _ _ _ _ (@PW.pt _ _ _ (@pw_and _ _ _ _ _ _ _ (@pt_cmpR _ _ _ _ _ _ _ _ op_eq (@pe_ix _ _ _ _ _ _ _ ix_tup (pv 6) (@pe_int _ _ _ _) (fun _ _=>rfl)) (@pe_int _ _ _ _) (nomark _)) (@pw_and _ _ _ _ _ _ _ (@pt_cmpR _ _ _ _ _ _ _ _ op_eq (@pe_ix _ _ _ _ _ _ _ ix_tup (pv 6) (@pe_int _ _ _ _) (fun _ _=>rfl)) (@pe_ix _ _ _ _ _ _ _ ix_tup (pv 4) (@pe_int _ _ _ _) (fun _ _=>rfl)) (nomark _)) (@pw_and1 _ _ _ _ (@pt_cmpR _ _ _ _ _ _ _ _ op_le (@pe_ix _ _ _ _ _ _ _ ix_tup (pv 6) (@pe_int _ _ _ _) (fun _ _=>rfl)) (@pe_ix _ _ _ _ _ _ _ ix_tup (pv 3) (@pe_int _ _ _ _) (fun _ _=>rfl)) (nomark _)))))) (@pss_one _ _ _ (@ps_set _ _ (6) _ _ _ _ sc__law_due.nd rfl (by first | exact Or.inl rfl | exact Or.inr rfl) (@pe_tup _ _ _ _ _ (@pa_cons _ _ _ _ _ (@pe_ix _ _ _ _ _ _ _ ix_tup (pv 6) (@pe_int _ _ _ _) (fun _ _=>rfl)) (@pa_cons _ _ _ _ _ (@pe_int _ _ _ _) (@pa_cons _ _ _ _ _ (pv 1) (@pa_cons _ _ _ _ _ (@pe_ix _ _ _ _ _ _ _ ix_tup (pv 6) (@pe_int _ _ _ _) (fun _ _=>rfl)) (@pa_cons _ _ _ _ _ (@pe_ix _ _ _ _ _ _ _ ix_tup (pv 6) (@pe_int _ _ _ _) (fun _ _=>rfl)) (@pa_nil _) (by rfl)) (by rfl)) (by rfl)) (by rfl)) (by rfl))) (by rfl) (by first | exact .inl rfl | exact .inr rfl | assumption))) (@pss_nil _)))))) (@pss_one _ _ _ (@ps_expr _ _ _ _ (@pe_bm _ _ _ _ _ _ _ _ _ _ _ _ PySem.F.plainAttrs_list PySem.F.slot_list_append PySem.F.type_list_append mt_append (pv 5) (@pa_cons _ _ _ _ _ (pv 6) (@pa_nil _) (by rfl)) (by rfl) (by rfl) (by rfl) (by rfl) (by rfl)) (by rfl)))) (by intro _; rfl)) (@pss_one _ _ _ (@ps_ret _ _ _ _ (@pe_tup _ _ _ _ _ (@pa_cons _ _ _ _ _ (@pe_ix _ _ _ _ _ _ _ ix_tup (pv 0) (@pe_int _ _ _ _) (fun _ _=>rfl)) (@pa_cons _ _ _ _ _ (@pe_ix _ _ _ _ _ _ _ ix_tup (pv 0) (@pe_int _ _ _ _) (fun _ _=>rfl)) (@pa_cons _ _ _ _ _ (@pe_callTy _ _ _ _ _ _ _ _ _ call_tuple_of (by rfl) T.b_tuple bt_tuple (@pa_cons _ _ _ _ _ (pv 5) (@pa_nil _) (by rfl)) (by decide) (by decide) (by rfl) (by rfl)) (@pa_nil _) (by rfl)) (by rfl)) (by rfl)))))))))),?_⟩
  try dsimp only [cxOf,Cx.nox,Cx.wish]
  have nd:=ri.nd
  have ne:=g.ne full
  obtain ⟨k1,t1,m1⟩:=g.a
  obtain ⟨t2,m2⟩:=g.b
  obtain ⟨k3,t3,m3⟩:=g.c
  obtain ⟨a1,p1⟩:=mem_en m1
  obtain ⟨a2,p2⟩:=mem_en m2
  obtain ⟨a3,p3⟩:=mem_en m3
  obtain ⟨x1,_,y1⟩:=hd.en _ p1
  obtain ⟨x2,_,y2⟩:=hd.en _ p2
  obtain ⟨x3,_,y3⟩:=hd.en _ p3
  refine ⟨_,rfl,_,rfl,h,ag,k,n,ps,_,rfl,hd,few,nd,p1,fun H1 s1=>?_⟩
  refine ⟨_,rfl,_,rfl,a1,_,_,_,rfl,rfl,SqT.of (s1.get y1),atI_nat (j:=3) rfl,h,ag,k,n,ps,_,rfl,hd.same s1,few,nd,p2,fun H2 s2=>?_⟩
  have s12:=s1.trans s2
  refine ⟨_,rfl,_,rfl,a2,_,_,_,rfl,rfl,SqT.of (s12.get y2),atI_nat (j:=2) rfl,h,ag,k,n,ps,_,rfl,hd.same s12,few,nd,p3,fun H3 s3=>?_⟩
  have s13:=s12.trans s3
  refine ⟨small (by show 0≤1000000; decide),fun gl ng=>?_⟩
  have ngH:H gl = none:=s13.free ng
  have s14:=s13.trans (same_new ng (.lst []))
  have hd4:=hd.same s14
  refine ⟨_,rfl,h,_,_,_,rfl,rfl,SqT.of hd4.at_,atI_nat (j:=2) rfl,n,rfl,⟨_,SqT.of hd4.nm⟩,for_tup (K:=K) (a:=n) (xs:=ps.map fun p=>V.ref p.1) (fun i σ H5=>∃ qs v,σ = [some (.ref h),some (.str sn),some (.ref a1),some (.ref a2),some (.ref a3),some (.ref gl),v]∧Same H H5∧H5 gl = some (.lst (qs.map fun q:Addr×En=>V.ref q.1))∧(∀ q∈qs,EnAt H5 q)∧qs.map (·.2) = ((ps.take i).map (·.2)).map (gr sn p og ogp tn)∧qs.length = i)
    ⟨[],none,rfl,s14,upd_same,(fun _ h=>nomatch h),rfl,rfl⟩ (fun i σ H5 _ ⟨_,_,_,s5,_⟩=>SqT.of (s5.get hd.nm)) ?_ ?_⟩
  · rintro i x σ H5 hi ⟨qs,v,rfl,s5,hg5,hq5,eq5,lq⟩
    rw [List.getElem?_map] at hi
    obtain ⟨⟨ea,e⟩,he,rfl⟩:=Option.map_eq_some_iff.mp hi
    have hm:=List.mem_of_getElem? he
    have il:i < 20:=by
      have:=(List.getElem?_eq_some_iff.mp he).1
      omega
    have tk:ps.take (i + 1) = ps.take i ++ [(ea,e)]:=by rw [List.take_add_one,he]; rfl
    have en:=(hd.en _ hm).same s5
    refine seq_mid (t:=tIfS _ _ _) (fun σ' H'=>∃ a',σ' = [some (.ref h),some (.str sn),some (.ref a1),some (.ref a2),some (.ref a3),some (.ref gl),some (.ref a')]∧Same H5 H'∧EnAt H' (a',gr sn p og ogp tn e)) (fun N hN=>?_) ?_
    · obtain ⟨xe,ze,ye⟩:=id en
      obtain ⟨rr,hrr⟩:=en.fst
      have y1':=s5.get y1
      have y2':=s5.get y2
      have y3':=s5.get y3
      by_cases c1:e.nm = sn
      · have:=nd_inj nd hm p1 c1
        cases this
        refine ⟨_,rfl,_,rfl,.inl ⟨enL (.st sn k1 og t1),(fun _=>True),(fun _=>True),enL_dep _,en.repL,en.repL,_,rfl,iteTc rfl ?_⟩⟩
        refine ⟨_,rfl,a1,_,_,_,rfl,rfl,SqT.of ye,atI_nat (j:=0) rfl,_,rfl,a1,_,_,_,rfl,rfl,SqT.of ye,atI_nat (j:=2) rfl,_,rfl,a3,_,_,_,rfl,rfl,SqT.of y3',atI_nat (j:=3) rfl,_,rfl,a1,_,_,_,rfl,rfl,SqT.of ye,atI_nat (j:=4) rfl,small (by show 5≤1000000; decide),fun pn np=>?_⟩
        have s6:=same_new np (.tup ((En.st sn k1 ogp t1).items xe))
        refine hN _ _ ⟨pn,rfl,s6,?_⟩
        rw [show gr sn p og ogp tn (En.st sn k1 og t1) = .st sn k1 ogp t1 by simp only [gr,if_true]]
        exact ⟨xe,s6.get ze,upd_same⟩
      · refine ⟨_,rfl,_,rfl,.inr ⟨ea,a1,_,_,_,_,rfl,rfl,hrr,y1',c1,_,rfl,iteFc rfl ?_⟩⟩
        by_cases c2:e.nm = p
        · have:=nd_inj nd hm p3 c2
          cases this
          refine ⟨_,rfl,_,rfl,.inl ⟨enL (.st p k3 ogp t3),(fun _=>True),(fun _=>True),enL_dep _,en.repL,en.repL,_,rfl,iteTc rfl ?_⟩⟩
          refine ⟨_,rfl,a3,_,_,_,rfl,rfl,SqT.of ye,atI_nat (j:=0) rfl,_,rfl,a3,_,_,_,rfl,rfl,SqT.of ye,atI_nat (j:=2) rfl,_,rfl,a2,_,_,_,rfl,rfl,SqT.of y2',atI_nat (j:=0) rfl,_,rfl,a3,_,_,_,rfl,rfl,SqT.of ye,atI_nat (j:=4) rfl,small (by show 5≤1000000; decide),fun pn np=>?_⟩
          have s6:=same_new np (.tup ((En.st p k3 og t3).items xe))
          refine hN _ _ ⟨pn,rfl,s6,?_⟩
          rw [show gr sn p og ogp tn (En.st p k3 ogp t3) = .st p k3 og t3 by simp only [gr,if_true,if_neg (Ne.symm ne)]]
          exact ⟨xe,s6.get ze,upd_same⟩
        · refine ⟨_,rfl,_,rfl,.inr ⟨ea,a3,_,_,_,_,rfl,rfl,hrr,y3',c2,_,rfl,iteFc rfl ?_⟩⟩
          cases e with
          | st nm kp o t=>
            have eg:gr sn p og ogp tn (En.st nm kp o t) = .st nm kp o t:=by simp only [gr,if_neg (show ¬ nm = sn from c1),if_neg (show ¬ nm = p from c2)]
            refine ⟨_,rfl,ea,_,_,_,rfl,rfl,SqT.of ye,atI_nat (j:=1) rfl,rfl,_,rfl,iteFc rfl (iteFc rfl ?_)⟩
            exact hN _ _ ⟨ea,rfl,Same.refl _,by rw [eg]; exact en⟩
          | sl nm sm n0 t=>
            refine ⟨_,rfl,ea,_,_,_,rfl,rfl,SqT.of ye,atI_nat (j:=1) rfl,rfl,_,rfl,iteTc rfl ⟨_,rfl,ea,_,_,_,rfl,rfl,SqT.of ye,atI_nat (j:=2) rfl,_,rfl,a3,_,_,_,rfl,rfl,SqT.of y3',atI_nat (j:=0) rfl,rfl,_,rfl,ite2 (fun d1=>?_) (fun d1=>?_)⟩⟩
            · have d1:=V.str.inj (dec_true d1)
              refine ⟨_,rfl,ea,_,_,_,rfl,rfl,SqT.of ye,atI_nat (j:=3) rfl,_,rfl,a2,_,_,_,rfl,rfl,SqT.of y2',atI_nat (j:=3) rfl,_,_,rfl,rfl,_,rfl,ite2 (fun d2=>?_) (fun d2=>?_)⟩
              · have d2:=of_decide_eq_true d2
                have eg:gr sn p og ogp tn (En.sl nm sm n0 t) = .sl nm sn n0 t:=by simp only [gr]; exact if_pos ⟨d1,d2⟩
                refine ⟨_,rfl,ea,_,_,_,rfl,rfl,SqT.of ye,atI_nat (j:=0) rfl,_,rfl,_,rfl,ea,_,_,_,rfl,rfl,SqT.of ye,atI_nat (j:=3) rfl,_,rfl,ea,_,_,_,rfl,rfl,SqT.of ye,atI_nat (j:=4) rfl,small (by show 5≤1000000; decide),fun pn np=>?_⟩
                have s6:=same_new np (.tup ((En.sl nm sn n0 t).items xe))
                refine hN _ _ ⟨pn,rfl,s6,?_⟩
                rw [eg]
                exact ⟨xe,s6.get ze,upd_same⟩
              · have eg:gr sn p og ogp tn (En.sl nm sm n0 t) = .sl nm sm n0 t:=by
                  simp only [gr]
                  refine if_neg fun z=>d2 ?_
                  exact decide_eq_true z.2
                exact hN _ _ ⟨ea,rfl,Same.refl _,by rw [eg]; exact en⟩
            · have eg:gr sn p og ogp tn (En.sl nm sm n0 t) = .sl nm sm n0 t:=by
                simp only [gr]
                refine if_neg fun z=>dec_false d1 ?_
                rw [z.1]
              exact iteFc rfl (hN _ _ ⟨ea,rfl,Same.refl _,by rw [eg]; exact en⟩)
    · rintro σ H6 ⟨a',rfl,s6,en6⟩
      have hg6:=s6.get hg5
      refine ⟨_,rfl,.inl ⟨rfl,_,SqL.of hg6⟩,_,rfl,gl,_,_,rfl,rfl,hg6,smallLt (by rw [List.length_map]; omega),?_⟩
      refine ⟨qs ++ [(a',gr sn p og ogp tn e)],_,rfl,same_upd (s5.trans s6) ngH _,by rw [upd_same,List.map_append]; rfl,fun q hq=>?_,?_,by rw [List.length_append,lq]; rfl⟩
      · rcases List.mem_append.mp hq with hq | hq
        · exact en_upd ((hq5 q hq).same s6) hg6
        · rw [List.mem_singleton.mp hq]
          exact en_upd en6 hg6
      · rw [List.map_append,eq5,tk,List.map_append,List.map_append]
        rfl
  · rintro σ H5 ⟨qs,v,rfl,s5,hg5,hq5,eq5,lq⟩
    rw [List.length_map,List.take_length] at eq5
    have hd5:=hd.same s5
    refine ⟨_,rfl,h,_,_,_,rfl,rfl,SqT.of hd5.at_,atI_nat (j:=0) rfl,_,rfl,h,_,_,_,rfl,rfl,SqT.of hd5.at_,atI_nat (j:=1) rfl,_,rfl,gl,_,rfl,.inl ⟨SqL.of hg5,fun nn nnn=>?_⟩⟩
    have s6:=same_new nnn (.tup (qs.map fun q=>V.ref q.1))
    refine ⟨small (by show 3≤1000000; decide),fun hh nhh=>?_⟩
    have s7:=same_new nhh (.tup [V.int ag,V.ref k,V.ref nn])
    exact q hh nn qs _ (s5.trans (s6.trans s7)) ⟨upd_same,s7.get upd_same,fun p hp=>(hq5 p hp).same (s6.trans s7)⟩ eq5
end
abbrev SG:Str:=PySem.Str.ofString " !\"#$&'()*+,-./0123456789:;<=>?@ABCDEFGHIJKLMNOPQRSTUVWXYZ[\\]^_`abcdefghijklmnopqrstuvwxyz{|}~"
section
variable {P:Program} {w:World} {K:PySem.W.Frag} {mg:Str→Option Value} {base:Heap} {f:Addr} {fd:FuncData} {PT PU:Addr}
def sp_is_whole (K:PySem.W.Frag):Sp:=fun vs H Q _=>∃ v,vs = [v]∧Ok H v∧Q (.bl (wholeB H v)) H
theorem ok_is_whole (T:Txt K mg) (F:Fun K "is_whole" "is_whole" s_is_whole f fd):FnOk P w K mg base CX0 1 f fd ["thing"] (sp_is_whole K):=by
  refine F.ok sc_is_whole (fun vs H Q E h=>?_) (fun cdv A outer s H vs Q E hr h=>?_)
  · obtain ⟨c,rfl,_⟩:=h
    rfl
  obtain ⟨v,rfl,ok,q⟩:=h
  refine ⟨_,(@pss_one _ _ _ (@ps_ret _ _ _ _ (@pe_and _ _ _ _ _ _ _ (@pe_callB _ _ _ _ _ _ _ _ _ call_isinst (by rfl) T.b_isinstance bt_isinstance (@pa_cons _ _ _ _ _ (pv 0) (@pa_cons _ _ _ _ _ (@pe_ty _ _ _ _ rfl T.b_int bt_int (by decide) (by decide)) (@pa_nil _) (by rfl)) (by rfl)) (by decide) (by decide) (by rfl) (by rfl)) (@pe_one _ _ _ _ _ (@pe_not _ _ _ _ (@pe_callB _ _ _ _ _ _ _ _ _ call_isinst (by rfl) T.b_isinstance bt_isinstance (@pa_cons _ _ _ _ _ (pv 0) (@pa_cons _ _ _ _ _ (@pe_ty _ _ _ _ rfl T.b_bool bt_bool (by decide) (by decide)) (@pa_nil _) (by rfl)) (by rfl)) (by decide) (by decide) (by rfl) (by rfl))))))),?_⟩
  exact tAndV_p _ _ (fun R q=>⟨_,rfl,_,_,_,_,rfl,ok.ty K,ok.kit K,q⟩) (fun _ R q=>⟨_,rfl,_,_,_,_,rfl,ok.ty K,ok.kit K,_,rfl,q⟩) q
def sp_is_between (K:PySem.W.Frag):Sp:=fun vs H Q _=>∃ v a b,vs = [v,.int a,.int b]∧Ok H v∧Q (.bl (betw a b v)) H
theorem ok_is_between (T:Txt K mg) (F:Fun K "is_between" "is_between" s_is_between f fd) (D_is_whole:Def P w K mg base 1 "is_whole" ["thing"] (sp_is_whole K)):FnOk P w K mg base CX0 2 f fd ["thing","least","most"] (sp_is_between K):=by
  refine F.ok sc_is_between (fun vs H Q E h=>?_) (fun cdv A outer s H vs Q E hr h=>?_)
  · obtain ⟨v,a,b,rfl,_⟩:=h
    rfl
  obtain ⟨v,a,b,rfl,ok,q⟩:=h
  refine ⟨_,(@pss_one _ _ _ (@ps_ret _ _ _ _ (@pe_and _ _ _ _ _ _ _ (@pe_fn _ _ _ _ _ _ _ _ _ _ D_is_whole (hr.mono (by decide)) rfl (@pa_cons _ _ _ _ _ (pv 0) (@pa_nil _) (by rfl)) (by decide) (by rfl) (by rfl)) (@pe_one _ _ _ _ _ (@pe_chain _ _ _ _ _ _ _ _ _ _ _ _ op_le op_le (pv 1) (pv 0) (pv 2) (by with_unfolding_all rfl)))))),?_⟩
  refine tAndV_p (wholeB H v) (betw a b v) (fun R q=>⟨_,rfl,v,rfl,ok,q⟩) (fun hw R q=>?_) ?_
  · obtain ⟨i,rfl⟩:=whole_of ok hw
    refine ⟨_,rfl,_,rfl,_,_,rfl,rfl,_,rfl,?_⟩
    refine ite2 (fun c=>?_) (fun c=>?_)
    · have e:betw a b (.int i) = decide (i≤b):=by show (decide (a≤i) && decide (i≤b)) = _; rw [c]; rfl
      rw [e] at q
      exact ⟨_,rfl,_,_,rfl,rfl,q⟩
    · have e:betw a b (.int i) = false:=by show (decide (a≤i) && decide (i≤b)) = _; rw [Bool.eq_false_iff.mpr c]; rfl
      rw [e] at q
      exact q
  · cases hw:wholeB H v with
    | true=>exact q
    | false=>rw [betw_eq hw] at q; exact q
def allIn (t:Str) (z:Str):Bool:=(cod z).all fun c=>decide (c∈cod t)
def textB (a b:Int):V→Bool
  | .str z=>decide (a≤(z.length:Int)) && decide ((z.length:Int)≤b) && allIn SG z
  | _=>false
theorem textB_no {H:Hp} {v:V} {a b:Int} (h:isA (tyN H v) "str" = false):textB a b v = false:=by
  cases v with
  | str z=>exact absurd (show isA "str" "str" = false from h) (by decide)
  | _=>rfl
def sp_is_text (K:PySem.W.Frag):Sp:=fun vs H Q _=>∃ v a b,vs = [v,.int a,.int b]∧Ok H v∧∀ H',Same H H'→Q (.bl (textB a b v)) H'
theorem signs_all (t z:Str):((cod z).map fun c=>V.str ⟨#[c]⟩).map (fun v=>match v with | V.str y=>V.bl (!(Builtin.Str.occurrences t y 0 t.length 1).isEmpty) | _=>V.non) = ((cod z).map fun c=>decide (c∈cod t)).map V.bl:=by
  rw [List.map_map,List.map_map]
  refine List.map_congr_left fun c _=>?_
  show V.bl (!(Builtin.Str.occurrences t ⟨#[c]⟩ 0 t.length 1).isEmpty) = V.bl (decide (c∈cod t))
  rw [PySem.StrLaws.found_one]
theorem ok_is_text (T:Txt K mg) (F:Fun K "is_text" "is_text" s_is_text f fd):FnOk P w K mg base CX0 1 f fd ["thing","least","most"] (sp_is_text K):=by
  refine F.ok sc_is_text (fun vs H Q E h=>?_) (fun cdv A outer s H vs Q E hr h=>?_)
  · obtain ⟨v,a,b,rfl,_⟩:=h
    rfl
  obtain ⟨v,a,b,rfl,ok,q⟩:=h
  refine ⟨_,(@pss_cons _ _ _ _ _ (@ps_if _ _ _ _ _ _ _ _ (@PW.pt _ _ _ (@pw_or _ _ _ _ _ _ _ (@pt_not _ _ _ _ (@pt_val _ _ _ (@pe_callB _ _ _ _ _ _ _ _ _ call_isinst (by rfl) T.b_isinstance bt_isinstance (@pa_cons _ _ _ _ _ (pv 0) (@pa_cons _ _ _ _ _ (@pe_ty _ _ _ _ rfl T.b_str bt_str (by decide) (by decide)) (@pa_nil _) (by rfl)) (by rfl)) (by decide) (by decide) (by rfl) (by rfl)) (by intro _; rfl))) (@pw_or1 _ _ _ _ (@pt_not _ _ _ _ (@pt_chain _ _ _ _ _ _ _ _ _ _ _ _ op_le op_le (pv 1) (@pe_callB _ _ _ _ _ _ _ _ _ call_len_str (by rfl) T.b_len bt_len (@pa_cons _ _ _ _ _ (pv 0) (@pa_nil _) (by rfl)) (by decide) (by decide) (by rfl) (by rfl)) (pv 2) (by with_unfolding_all rfl)))))) (@pss_one _ _ _ (@ps_ret _ _ _ _ (@pe_bl _ _ _ _))) (@pss_nil _)) (@pss_one _ _ _ (@ps_ret _ _ _ _ (@pe_callB _ _ _ _ _ _ _ _ _ (call_all rfl) (by rfl) T.b_all bt_all (@pa_cons _ _ _ _ _ (@pe_comp0 _ ["sign"] _ _ _ _ _ _ _ _ _ _ rfl (@pi_str _ _ _ _ (pv 0)) (by decide +kernel) (fun C s H fp=>⟨(@pg_name _ _ (0) _ (show (["sign"]:List Str).Nodup by decide +kernel) rfl (by first | exact Or.inl rfl | exact Or.inr rfl) (by first | exact .inl rfl | exact .inr rfl | assumption)),(@pifs_nil _),(@pe_cmpR _ _ _ _ _ _ _ _ op_in_str (pv 0) (@pe_globS _ _ _ _ rfl T.c_SIGNS (by decide)) rfl)⟩) (by intro _; rfl)) (@pa_nil _) (by rfl)) (by decide) (by decide) (by rfl) (by rfl))))),?_⟩
  refine ⟨_,rfl,_,_,_,_,rfl,ok.ty K,ok.kit K,_,rfl,?_⟩
  cases hw:isA (tyN H v) "str" with
  | false=>
    refine iteTc rfl ?_
    have:=q H (Same.refl _)
    rw [textB_no hw] at this
    exact this
  | true=>
    refine iteFc rfl ?_
    obtain ⟨z,rfl,hz⟩:=str_of ok hw
    have zl:=cod_len z
    refine ⟨_,rfl,_,rfl,_,rfl,small (by omega),_,_,rfl,rfl,_,rfl,?_⟩
    refine ite2 (fun c=>?_) (fun c=>?_)
    · refine ⟨_,rfl,_,_,rfl,rfl,_,rfl,?_⟩
      refine ite2 (fun d=>?_) (fun d=>?_)
      · have d':decide ((z.length:Int)≤b) = false:=by simpa using d
        have e:textB a b (.str z) = false:=by show (decide (a≤(z.length:Int)) && decide ((z.length:Int)≤b) && allIn SG z) = _; rw [d',Bool.and_false]; rfl
        have:=q H (Same.refl _)
        rw [e] at this
        exact this
      · have d':decide ((z.length:Int)≤b) = true:=by simpa using d
        refine ⟨_,rfl,z,rfl,?_⟩
        refine comp_map (fun v=>match v with | .str y=>.bl (!(Builtin.Str.occurrences SG y 0 SG.length 1).isEmpty) | _=>.non) itIs_str (by rw [List.length_map]; exact Nat.le_trans (Nat.le_of_eq zl) (by omega)) (fun x H' R hx s' hR=>?_) fun l H7 n7 s7 h7=>?_
        · obtain ⟨u,_,rfl⟩:=List.mem_map.mp hx
          exact ⟨_,rfl,_,_,rfl,rfl,hR H' (Same.refl _)⟩
        rw [signs_all] at h7
        refine ⟨l,_,rfl,SqL.of h7,?_⟩
        have e:textB a b (.str z) = ((cod z).map fun c=>decide (c∈cod SG)).all id:=by
          show (decide (a≤(z.length:Int)) && decide ((z.length:Int)≤b) && allIn SG z) = _; unfold allIn; rw [c,d',List.all_map]; rfl
        have:=q H7 s7
        rw [e] at this
        exact this
    · have c':decide (a≤(z.length:Int)) = false:=Bool.eq_false_iff.mpr c
      have e:textB a b (.str z) = false:=by show (decide (a≤(z.length:Int)) && decide ((z.length:Int)≤b) && allIn SG z) = _; rw [c',Bool.false_and]; rfl
      have:=q H (Same.refl _)
      rw [e] at this
      exact ⟨_,rfl,this⟩
abbrev NS:Str:=PySem.Str.ofString "0123456789abcdefghijklmnopqrstuvwxyz"
theorem ns_ln:(∀ c∈cod NS,c∈cod LN)∧∀ c∈cod LN,c∈cod NS∧c∈cod SG:=by decide +kernel
def nameB:V→Bool
  | .str z=>decide ((1:Int)≤z.length) && decide ((z.length:Int)≤8) && allIn LN z
  | _=>false
theorem allIn_two (z:Str):(allIn SG z && allIn NS z) = allIn LN z:=by
  unfold allIn
  rw [Bool.eq_iff_iff,Bool.and_eq_true,List.all_eq_true,List.all_eq_true,List.all_eq_true]
  simp only [decide_eq_true_eq]
  exact ⟨fun h c hc=>ns_ln.1 c (h.2 c hc),fun h=>⟨fun c hc=>(ns_ln.2 c (h c hc)).2,fun c hc=>(ns_ln.2 c (h c hc)).1⟩⟩
theorem name_text (v:V):nameB v = match v with | .str z=>textB 1 8 v && allIn NS z | _=>false:=by
  cases v with
  | str z=>
    show (decide ((1:Int)≤z.length) && decide ((z.length:Int)≤8) && allIn LN z) = ((decide ((1:Int)≤(z.length:Int)) && decide ((z.length:Int)≤8) && allIn SG z) && allIn NS z)
    rw [← allIn_two z]
    simp only [Bool.and_assoc]
  | _=>rfl
def sp_is_name (K:PySem.W.Frag):Sp:=fun vs H Q _=>∃ v,vs = [v]∧Ok H v∧∀ H',Same H H'→Q (.bl (nameB v)) H'
theorem ok_is_name (T:Txt K mg) (F:Fun K "is_name" "is_name" s_is_name f fd) (D_is_text:Def P w K mg base 1 "is_text" ["thing","least","most"] (sp_is_text K)):FnOk P w K mg base CX0 2 f fd ["thing"] (sp_is_name K):=by
  refine F.ok sc_is_name (fun vs H Q E h=>?_) (fun cdv A outer s H vs Q E hr h=>?_)
  · obtain ⟨v,rfl,_⟩:=h
    rfl
  obtain ⟨v,rfl,ok,q⟩:=h
  refine ⟨_,(@pss_one _ _ _ (@ps_ret _ _ _ _ (@pe_and _ _ _ _ _ _ _ (@pe_fn _ _ _ _ _ _ _ _ _ _ D_is_text (hr.mono (by decide)) rfl (@pa_cons _ _ _ _ _ (pv 0) (@pa_cons _ _ _ _ _ (@pe_int _ _ _ _) (@pa_cons _ _ _ _ _ (@pe_globI _ _ _ _ rfl T.c_MOST_NAME_SIGNS (by decide)) (@pa_nil _) (by rfl)) (by rfl)) (by rfl)) (by decide) (by rfl) (by rfl)) (@pe_one _ _ _ _ _ (@pe_callB _ _ _ _ _ _ _ _ _ (call_all rfl) (by rfl) T.b_all bt_all (@pa_cons _ _ _ _ _ (@pe_comp0 _ ["sign"] _ _ _ _ _ _ _ _ _ _ rfl (@pi_str _ _ _ _ (pv 0)) (by decide +kernel) (fun C s H fp=>⟨(@pg_name _ _ (0) _ (show (["sign"]:List Str).Nodup by decide +kernel) rfl (by first | exact Or.inl rfl | exact Or.inr rfl) (by first | exact .inl rfl | exact .inr rfl | assumption)),(@pifs_nil _),(@pe_cmpR _ _ _ _ _ _ _ _ op_in_str (pv 0) (@pe_globS _ _ _ _ rfl T.c_NAME_SIGNS (by decide)) rfl)⟩) (by intro _; rfl)) (@pa_nil _) (by rfl)) (by decide) (by decide) (by rfl) (by rfl)))))),?_⟩
  refine ⟨_,rfl,v,1,8,rfl,ok,fun H1 s1=>⟨_,rfl,?_⟩⟩
  have en:=name_text v
  refine ite2 (fun c=>?_) (fun c=>?_)
  · cases v with
    | str z=>
      have hz:z.length≤1000:=ok
      have zl:=cod_len z
      refine ⟨_,rfl,z,rfl,?_⟩
      refine comp_map (fun v=>match v with | .str y=>.bl (!(Builtin.Str.occurrences NS y 0 NS.length 1).isEmpty) | _=>.non) itIs_str (by rw [List.length_map]; exact Nat.le_trans (Nat.le_of_eq zl) (by omega)) (fun x H' R hx s' hR=>?_) fun l H7 n7 s7 h7=>?_
      · obtain ⟨u,_,rfl⟩:=List.mem_map.mp hx
        exact ⟨_,rfl,_,_,rfl,rfl,hR H' (Same.refl _)⟩
      rw [signs_all] at h7
      refine ⟨l,_,rfl,SqL.of h7,?_⟩
      have e:nameB (.str z) = ((cod z).map fun c=>decide (c∈cod NS)).all id:=by
        rw [en]; show (textB 1 8 (.str z) && allIn NS z) = _; rw [c]; unfold allIn; rw [List.all_map]; rfl
      have:=q H7 (s1.trans s7)
      rw [e] at this
      exact this
    | _=>exact absurd (show false = true from c) Bool.false_ne_true
  · have e:nameB v = false:=by
      rw [en]
      cases v with
      | str z=>show (textB 1 8 (.str z) && allIn NS z) = false; rw [Bool.eq_false_iff.mpr c]; rfl
      | _=>rfl
    have:=q H1 s1
    rw [e] at this
    exact this
def tupN (H:Hp) (v:V) (n:Int):Bool:=match v with
  | .ref a=>match H a with
    | some (.tup xs)=>decide ((xs.length:Int) = n)
    | _=>false
  | _=>false
theorem tupN_tup {H:Hp} {a:Addr} {xs:List V} {n:Int} (h:H a = some (.tup xs)):tupN H (.ref a) n = decide ((xs.length:Int) = n):=by simp only [tupN,h]
theorem tupN_no {H:Hp} {v:V} {n:Int} (ok:Ok H v) (h:isA (tyN H v) "tuple" = false):tupN H v n = false:=by
  refine ok.elim (fun e _=>?_) (fun _ e _=>?_) (fun _ e _=>?_) (fun _ e _ _=>?_) (fun a xs e e2 _=>?_) (fun _ _ _ _ e=>?_)
  · rw [e]; rfl
  · rw [e]; rfl
  · rw [e]; rfl
  · rw [e]; rfl
  · rw [e]; simp only [tupN,e2]
  · rw [e] at h; exact absurd h (by decide)
def sp_is_tuple_of (K:PySem.W.Frag):Sp:=fun vs H Q _=>∃ v n,vs = [v,.int n]∧Ok H v∧Q (.bl (tupN H v n)) H
theorem ok_is_tuple_of (T:Txt K mg) (F:Fun K "is_tuple_of" "is_tuple_of" s_is_tuple_of f fd):FnOk P w K mg base CX0 1 f fd ["thing","many"] (sp_is_tuple_of K):=by
  refine F.ok sc_is_tuple_of (fun vs H Q E h=>?_) (fun cdv A outer s H vs Q E hr h=>?_)
  · obtain ⟨v,n,rfl,_⟩:=h
    rfl
  obtain ⟨v,n,rfl,ok,q⟩:=h
  refine ⟨_,(@pss_one _ _ _ (@ps_ret _ _ _ _ (@pe_and _ _ _ _ _ _ _ (@pe_callB _ _ _ _ _ _ _ _ _ call_isinst (by rfl) T.b_isinstance bt_isinstance (@pa_cons _ _ _ _ _ (pv 0) (@pa_cons _ _ _ _ _ (@pe_ty _ _ _ _ rfl T.b_tuple bt_tuple (by decide) (by decide)) (@pa_nil _) (by rfl)) (by rfl)) (by decide) (by decide) (by rfl) (by rfl)) (@pe_one _ _ _ _ _ (@pe_cmpR _ _ _ _ _ _ _ _ op_eq (@pe_callB _ _ _ _ _ _ _ _ _ call_len_seq (by rfl) T.b_len bt_len (@pa_cons _ _ _ _ _ (pv 0) (@pa_nil _) (by rfl)) (by decide) (by decide) (by rfl) (by rfl)) (pv 1) (nomark _)))))),?_⟩
  refine tAndV_p (isA (tyN H v) "tuple") (tupN H v n) (fun R q=>⟨_,rfl,_,_,_,_,rfl,ok.ty K,ok.kit K,q⟩) (fun hw R q=>?_) ?_
  · obtain ⟨a,xs,rfl,e⟩:=tuple_of ok hw
    rw [tupN_tup e] at q
    refine ⟨_,rfl,a,xs,rfl,.inr (SqT.of e),_,rfl,rfl,?_⟩
    rw [dec_int,Bool.beq_eq_decide_eq]; exact q
  · cases hw:isA (tyN H v) "tuple" with
    | true=>exact q
    | false=>rw [tupN_no ok hw] at q; exact q
theorem name_ok {z:Str} (h:nmP z):nameB (.str z) = true:=by
  have l:=cod_len z
  have p:=List.length_pos_iff.mpr h.1
  show (decide ((1:Int)≤z.length) && decide ((z.length:Int)≤8) && allIn LN z) = true
  rw [decide_eq_true (by omega),decide_eq_true (by have:=h.2.1; omega)]
  unfold allIn
  rw [Bool.true_and,Bool.true_and,List.all_eq_true]
  exact fun c hc=>decide_eq_true (h.2.2 c hc)
theorem name_len {z:Str} (h:nmP z):z.length≤1000:=by have:=h.2.1; omega
theorem betw_ok {a b i:Int} (h1:a≤i) (h2:i≤b):betw a b (.int i) = true:=by
  show (decide (a≤i) && decide (i≤b)) = true
  rw [decide_eq_true h1,decide_eq_true h2]
  rfl
def sp_is_tag (K:PySem.W.Frag):Sp:=fun vs H Q _=>∃ a t,vs = [.ref a]∧H a = some (.tup (tgV t))∧tgOk t∧Q (.bl true) H
theorem ok_is_tag (T:Txt K mg) (F:Fun K "is_tag" "is_tag" s_is_tag f fd) (D_is_between:Def P w K mg base 2 "is_between" ["thing","least","most"] (sp_is_between K)) (D_is_tuple_of:Def P w K mg base 1 "is_tuple_of" ["thing","many"] (sp_is_tuple_of K)):FnOk P w K mg base CX0 3 f fd ["thing"] (sp_is_tag K):=by
  refine F.ok sc_is_tag (fun vs H Q E h=>?_) (fun cdv A outer s H vs Q E hr h=>?_)
  · obtain ⟨a,t,rfl,_⟩:=h
    rfl
  obtain ⟨a,t,rfl,e,ok,q⟩:=h
  have okv:Ok H (.ref a):=.inr ⟨_,e⟩
  obtain ⟨⟨a1,a2⟩,⟨b1,b2⟩,c1,c2⟩:=ok
  refine ⟨_,(@pss_cons _ _ _ _ _ (@ps_if _ _ _ _ _ _ _ _ (@pt_not _ _ _ _ (@pt_val _ _ _ (@pe_fn _ _ _ _ _ _ _ _ _ _ D_is_tuple_of (hr.mono (by decide)) rfl (@pa_cons _ _ _ _ _ (pv 0) (@pa_cons _ _ _ _ _ (@pe_int _ _ _ _) (@pa_nil _) (by rfl)) (by rfl)) (by decide) (by rfl) (by rfl)) (by intro _; rfl))) (@pss_one _ _ _ (@ps_ret _ _ _ _ (@pe_bl _ _ _ _))) (@pss_nil _)) (@pss_cons _ _ _ _ _ (@ps_if _ _ _ _ _ _ _ _ (@PW.pt _ _ _ (@pw_or _ _ _ _ _ _ _ (@pt_not _ _ _ _ (@pt_val _ _ _ (@pe_fn _ _ _ _ _ _ _ _ _ _ D_is_between (hr.mono (by decide)) rfl (@pa_cons _ _ _ _ _ (@pe_ix _ _ _ _ _ _ _ ix_tup (pv 0) (@pe_int _ _ _ _) (fun _ _=>rfl)) (@pa_cons _ _ _ _ _ (@pe_int _ _ _ _) (@pa_cons _ _ _ _ _ (@pe_globI _ _ _ _ rfl T.c_MOST_CELL (by decide)) (@pa_nil _) (by rfl)) (by rfl)) (by rfl)) (by decide) (by rfl) (by rfl)) (by intro _; rfl))) (@pw_or1 _ _ _ _ (@pt_not _ _ _ _ (@pt_val _ _ _ (@pe_fn _ _ _ _ _ _ _ _ _ _ D_is_between (hr.mono (by decide)) rfl (@pa_cons _ _ _ _ _ (@pe_ix _ _ _ _ _ _ _ ix_tup (pv 0) (@pe_int _ _ _ _) (fun _ _=>rfl)) (@pa_cons _ _ _ _ _ (@pe_int _ _ _ _) (@pa_cons _ _ _ _ _ (@pe_globI _ _ _ _ rfl T.c_MOST_BIRTH (by decide)) (@pa_nil _) (by rfl)) (by rfl)) (by rfl)) (by decide) (by rfl) (by rfl)) (by intro _; rfl)))))) (@pss_one _ _ _ (@ps_ret _ _ _ _ (@pe_bl _ _ _ _))) (@pss_nil _)) (@pss_one _ _ _ (@ps_ret _ _ _ _ (@pe_fn _ _ _ _ _ _ _ _ _ _ D_is_between (hr.mono (by decide)) rfl (@pa_cons _ _ _ _ _ (@pe_ix _ _ _ _ _ _ _ ix_tup (pv 0) (@pe_int _ _ _ _) (fun _ _=>rfl)) (@pa_cons _ _ _ _ _ (@pe_int _ _ _ _) (@pa_cons _ _ _ _ _ (@pe_op _ _ _ _ _ _ _ _ op_sub (@pe_globI _ _ _ _ rfl T.c_SUM_RESTS (by decide)) (@pe_int _ _ _ _)) (@pa_nil _) (by rfl)) (by rfl)) (by rfl)) (by decide) (by rfl) (by rfl)))))),?_⟩
  refine ⟨_,rfl,_,3,rfl,okv,_,rfl,iteFc (by rw [tupN_tup e]; rfl) ?_⟩
  dsimp only [tNext,tSeq,tIfS]
  refine tOr_p (!betw 1 999999 (.int t.1)) (!betw 0 999999999 (.int t.2.1)) (fun R q=>⟨_,rfl,a,_,_,_,rfl,rfl,SqT.of e,rfl,_,1,999999,rfl,trivial,_,rfl,q⟩) (fun _ R q=>⟨_,rfl,a,_,_,_,rfl,rfl,SqT.of e,rfl,_,0,999999999,rfl,trivial,_,rfl,q⟩) ?_
  rw [betw_ok a1 a2,betw_ok b1 b2]
  refine iteFc rfl ?_
  refine ⟨_,rfl,a,_,_,_,rfl,rfl,SqT.of e,rfl,_,_,rfl,rfl,_,0,996,rfl,trivial,?_⟩
  rw [betw_ok c1 c2]
  exact q
def sp_is_keeper (K:PySem.W.Frag):Sp:=fun vs H Q _=>∃ a z c,vs = [.ref a]∧H a = some (.tup [.str z,.int c])∧nmP z∧0≤c∧c≤999999999∧∀ H',Same H H'→Q (.bl true) H'
theorem ok_is_keeper (T:Txt K mg) (F:Fun K "is_keeper" "is_keeper" s_is_keeper f fd) (D_is_tuple_of:Def P w K mg base 1 "is_tuple_of" ["thing","many"] (sp_is_tuple_of K)) (D_is_name:Def P w K mg base 2 "is_name" ["thing"] (sp_is_name K)) (D_is_between:Def P w K mg base 2 "is_between" ["thing","least","most"] (sp_is_between K)):FnOk P w K mg base CX0 3 f fd ["thing"] (sp_is_keeper K):=by
  refine F.ok sc_is_keeper (fun vs H Q E h=>?_) (fun cdv A outer s H vs Q E hr h=>?_)
  · obtain ⟨a,z,c,rfl,_⟩:=h
    rfl
  obtain ⟨a,z,c,rfl,e,nz,c0,c1,q⟩:=h
  have okv:Ok H (.ref a):=.inr ⟨_,e⟩
  refine ⟨_,(@pss_one _ _ _ (@ps_ret _ _ _ _ (@pe_and _ _ _ _ _ _ _ (@pe_fn _ _ _ _ _ _ _ _ _ _ D_is_tuple_of (hr.mono (by decide)) rfl (@pa_cons _ _ _ _ _ (pv 0) (@pa_cons _ _ _ _ _ (@pe_int _ _ _ _) (@pa_nil _) (by rfl)) (by rfl)) (by decide) (by rfl) (by rfl)) (@pe_and _ _ _ _ _ _ _ (@pe_fn _ _ _ _ _ _ _ _ _ _ D_is_name (hr.mono (by decide)) rfl (@pa_cons _ _ _ _ _ (@pe_ix _ _ _ _ _ _ _ ix_tup (pv 0) (@pe_int _ _ _ _) (fun _ _=>rfl)) (@pa_nil _) (by rfl)) (by decide) (by rfl) (by rfl)) (@pe_one _ _ _ _ _ (@pe_fn _ _ _ _ _ _ _ _ _ _ D_is_between (hr.mono (by decide)) rfl (@pa_cons _ _ _ _ _ (@pe_ix _ _ _ _ _ _ _ ix_tup (pv 0) (@pe_int _ _ _ _) (fun _ _=>rfl)) (@pa_cons _ _ _ _ _ (@pe_int _ _ _ _) (@pa_cons _ _ _ _ _ (@pe_globI _ _ _ _ rfl T.c_MOST_NUMBER (by decide)) (@pa_nil _) (by rfl)) (by rfl)) (by rfl)) (by decide) (by rfl) (by rfl))))))),?_⟩
  refine ⟨_,rfl,_,2,rfl,okv,_,rfl,iteTc (by rw [tupN_tup e]; rfl) ?_⟩
  refine ⟨_,rfl,a,_,_,_,rfl,rfl,SqT.of e,rfl,_,rfl,name_len nz,fun H1 s1=>⟨_,rfl,iteTc (name_ok nz) ?_⟩⟩
  refine ⟨_,rfl,a,_,_,_,rfl,rfl,SqT.of (s1.get e),rfl,_,0,999999999,rfl,trivial,?_⟩
  rw [betw_ok c0 c1]
  exact q H1 s1
end
section
variable {P:Program} {w:World} {K:PySem.W.Frag} {mg:Str→Option Value} {base:Heap} {f:Addr} {fd:FuncData} {PT PU:Addr}
def sp_is_stem (K:PySem.W.Frag):Sp:=fun vs H Q _=>∃ a e,vs = [.ref a]∧EnAt H (a,e)∧EnOk e∧(∀ nm kp og t,e = .st nm kp og t→og = EM∨nmP og)∧∀ H',Same H H'→Q (.bl e.isS) H'
theorem k0_nm {z:Str} (h:z = K0∨z = K1):nmP z:=by
  rcases h with rfl | rfl
  · exact ⟨by decide +kernel,by decide +kernel,by decide +kernel⟩
  · exact ⟨by decide +kernel,by decide +kernel,by decide +kernel⟩
theorem ok_is_stem (T:Txt K mg) (F:Fun K "is_stem" "is_stem" s_is_stem f fd) (D_is_name:Def P w K mg base 2 "is_name" ["thing"] (sp_is_name K)) (D_is_tag:Def P w K mg base 3 "is_tag" ["thing"] (sp_is_tag K)) (D_is_tuple_of:Def P w K mg base 1 "is_tuple_of" ["thing","many"] (sp_is_tuple_of K)) (D_is_between:Def P w K mg base 2 "is_between" ["thing","least","most"] (sp_is_between K)):FnOk P w K mg base CX0 4 f fd ["thing"] (sp_is_stem K):=by
  refine F.ok sc_is_stem (fun vs H Q E h=>?_) (fun cdv A outer s H vs Q E hr h=>?_)
  · obtain ⟨a,e,rfl,_⟩:=h
    rfl
  obtain ⟨a,e,rfl,⟨ta,ht,ha⟩,ok,og,q⟩:=h
  have okv:Ok H (.ref a):=.inr ⟨_,ha⟩
  have hu:=hu_of hr
  refine ⟨_,(@pss_cons _ _ _ _ _ (@ps_if _ _ _ _ _ _ _ _ (@PW.pt _ _ _ (@pw_or _ _ _ _ _ _ _ (@pt_not _ _ _ _ (@pt_val _ _ _ (@pe_fn _ _ _ _ _ _ _ _ _ _ D_is_tuple_of (hr.mono (by decide)) rfl (@pa_cons _ _ _ _ _ (pv 0) (@pa_cons _ _ _ _ _ (@pe_int _ _ _ _) (@pa_nil _) (by rfl)) (by rfl)) (by decide) (by rfl) (by rfl)) (by intro _; rfl))) (@pw_or1 _ _ _ _ (@pt_not _ _ _ _ (@pt_val _ _ _ (@pe_fn _ _ _ _ _ _ _ _ _ _ D_is_between (hr.mono (by decide)) rfl (@pa_cons _ _ _ _ _ (@pe_ix _ _ _ _ _ _ _ ix_tup (pv 0) (@pe_int _ _ _ _) (fun _ _=>rfl)) (@pa_cons _ _ _ _ _ (@pe_globI _ _ _ _ rfl T.c_STEM (by decide)) (@pa_cons _ _ _ _ _ (@pe_globI _ _ _ _ rfl T.c_STEM (by decide)) (@pa_nil _) (by rfl)) (by rfl)) (by rfl)) (by decide) (by rfl) (by rfl)) (by intro _; rfl)))))) (@pss_one _ _ _ (@ps_ret _ _ _ _ (@pe_bl _ _ _ _))) (@pss_nil _)) (@pss_one _ _ _ (@ps_ret _ _ _ _ (@pe_and _ _ _ _ _ _ _ (@pe_fn _ _ _ _ _ _ _ _ _ _ D_is_name (hr.mono (by decide)) rfl (@pa_cons _ _ _ _ _ (@pe_ix _ _ _ _ _ _ _ ix_tup (pv 0) (@pe_int _ _ _ _) (fun _ _=>rfl)) (@pa_nil _) (by rfl)) (by decide) (by rfl) (by rfl)) (@pe_and _ _ _ _ _ _ _ (@pe_fn _ _ _ _ _ _ _ _ _ _ D_is_name (hr.mono (by decide)) rfl (@pa_cons _ _ _ _ _ (@pe_ix _ _ _ _ _ _ _ ix_tup (pv 0) (@pe_int _ _ _ _) (fun _ _=>rfl)) (@pa_nil _) (by rfl)) (by decide) (by rfl) (by rfl)) (@pe_and _ _ _ _ _ _ _ (@pe_or _ _ _ _ _ _ _ (@pe_cmpR _ _ _ _ _ _ _ _ op_eq (@pe_ix _ _ _ _ _ _ _ ix_tup (pv 0) (@pe_int _ _ _ _) (fun _ _=>rfl)) (@pe_str _ _ _ _) (nomark _)) (@pe_one _ _ _ _ _ (@pe_fn _ _ _ _ _ _ _ _ _ _ D_is_name (hr.mono (by decide)) rfl (@pa_cons _ _ _ _ _ (@pe_ix _ _ _ _ _ _ _ ix_tup (pv 0) (@pe_int _ _ _ _) (fun _ _=>rfl)) (@pa_nil _) (by rfl)) (by decide) (by rfl) (by rfl)))) (@pe_one _ _ _ _ _ (@pe_fn _ _ _ _ _ _ _ _ _ _ D_is_tag (hr.mono (by decide)) rfl (@pa_cons _ _ _ _ _ (@pe_ix _ _ _ _ _ _ _ ix_tup (pv 0) (@pe_int _ _ _ _) (fun _ _=>rfl)) (@pa_nil _) (by rfl)) (by decide) (by rfl) (by rfl))))))))),?_⟩
  dsimp only [tNext,tSeq,tIfS]
  cases e with
  | sl nm sm tn t=>
    refine tOr_p (!tupN H (.ref a) 5) (!betw 1 1 (.int 2)) (fun R q=>⟨_,rfl,_,5,rfl,okv,_,rfl,q⟩) (fun _ R q=>⟨_,rfl,a,_,_,_,rfl,rfl,SqT.of ha,rfl,_,1,1,rfl,trivial,_,rfl,q⟩) ?_
    rw [tupN_tup ha]
    exact iteTc rfl (q H (Same.refl _))
  | st nm kp o t=>
    refine tOr_p (!tupN H (.ref a) 5) (!betw 1 1 (.int 1)) (fun R q=>⟨_,rfl,_,5,rfl,okv,_,rfl,q⟩) (fun _ R q=>⟨_,rfl,a,_,_,_,rfl,rfl,SqT.of ha,rfl,_,1,1,rfl,trivial,_,rfl,q⟩) ?_
    rw [tupN_tup ha]
    refine iteFc rfl ?_
    obtain ⟨n1,n2,n3⟩:=ok
    have n2:=k0_nm n2
    refine ⟨_,rfl,a,_,_,_,rfl,rfl,SqT.of ha,rfl,_,rfl,name_len n1,fun H1 s1=>⟨_,rfl,iteTc (name_ok n1) ?_⟩⟩
    refine ⟨_,rfl,a,_,_,_,rfl,rfl,SqT.of (s1.get ha),rfl,_,rfl,name_len n2,fun H2 s2=>⟨_,rfl,iteTc (name_ok n2) ?_⟩⟩
    have s12:=s1.trans s2
    have tag:∀ {H3:Hp},Same H H3→∃ a' t',(V.ref ta:V) = .ref a'∧H3 a' = some (.tup (tgV t'))∧tgOk t':=fun s3=>⟨ta,t,rfl,s3.get ht,n3⟩
    refine ⟨_,rfl,a,_,_,_,rfl,rfl,SqT.of (s12.get ha),rfl,?_⟩
    by_cases z:o = EM
    · refine ⟨rfl,_,rfl,iteTc (decide_eq_true (by rw [z])) ⟨_,rfl,iteTc rfl ?_⟩⟩
      exact ⟨_,rfl,a,_,_,_,rfl,rfl,SqT.of (s12.get ha),rfl,ta,t,rfl,s12.get ht,n3,q H2 s12⟩
    · have n4:=(og _ _ _ _ rfl).resolve_left z
      refine ⟨rfl,_,rfl,iteFc (decide_eq_false fun e=>z (V.str.inj e)) ?_⟩
      refine ⟨_,rfl,a,_,_,_,rfl,rfl,SqT.of (s12.get ha),rfl,_,rfl,name_len n4,fun H3 s3=>⟨_,rfl,iteTc (name_ok n4) ?_⟩⟩
      have s13:=s12.trans s3
      exact ⟨_,rfl,a,_,_,_,rfl,rfl,SqT.of (s13.get ha),rfl,ta,t,rfl,s13.get ht,n3,q H3 s13⟩
def sp_is_seal (K:PySem.W.Frag):Sp:=fun vs H Q _=>∃ a nm sm tn t,vs = [.ref a]∧EnAt H (a,.sl nm sm tn t)∧EnOk (.sl nm sm tn t)∧nmP sm∧∀ H',Same H H'→Q (.bl true) H'
theorem ok_is_seal (T:Txt K mg) (F:Fun K "is_seal" "is_seal" s_is_seal f fd) (D_is_name:Def P w K mg base 2 "is_name" ["thing"] (sp_is_name K)) (D_is_between:Def P w K mg base 2 "is_between" ["thing","least","most"] (sp_is_between K)) (D_is_tag:Def P w K mg base 3 "is_tag" ["thing"] (sp_is_tag K)) (D_is_tuple_of:Def P w K mg base 1 "is_tuple_of" ["thing","many"] (sp_is_tuple_of K)):FnOk P w K mg base CX0 4 f fd ["thing"] (sp_is_seal K):=by
  refine F.ok sc_is_seal (fun vs H Q E h=>?_) (fun cdv A outer s H vs Q E hr h=>?_)
  · obtain ⟨a,nm,sm,tn,t,rfl,_⟩:=h
    rfl
  obtain ⟨a,nm,sm,tn,t,rfl,⟨ta,ht,ha⟩,ok,n2,q⟩:=h
  have okv:Ok H (.ref a):=.inr ⟨_,ha⟩
  refine ⟨_,(@pss_cons _ _ _ _ _ (@ps_if _ _ _ _ _ _ _ _ (@PW.pt _ _ _ (@pw_or _ _ _ _ _ _ _ (@pt_not _ _ _ _ (@pt_val _ _ _ (@pe_fn _ _ _ _ _ _ _ _ _ _ D_is_tuple_of (hr.mono (by decide)) rfl (@pa_cons _ _ _ _ _ (pv 0) (@pa_cons _ _ _ _ _ (@pe_int _ _ _ _) (@pa_nil _) (by rfl)) (by rfl)) (by decide) (by rfl) (by rfl)) (by intro _; rfl))) (@pw_or1 _ _ _ _ (@pt_not _ _ _ _ (@pt_val _ _ _ (@pe_fn _ _ _ _ _ _ _ _ _ _ D_is_between (hr.mono (by decide)) rfl (@pa_cons _ _ _ _ _ (@pe_ix _ _ _ _ _ _ _ ix_tup (pv 0) (@pe_int _ _ _ _) (fun _ _=>rfl)) (@pa_cons _ _ _ _ _ (@pe_globI _ _ _ _ rfl T.c_SEAL (by decide)) (@pa_cons _ _ _ _ _ (@pe_globI _ _ _ _ rfl T.c_SEAL (by decide)) (@pa_nil _) (by rfl)) (by rfl)) (by rfl)) (by decide) (by rfl) (by rfl)) (by intro _; rfl)))))) (@pss_one _ _ _ (@ps_ret _ _ _ _ (@pe_bl _ _ _ _))) (@pss_nil _)) (@pss_one _ _ _ (@ps_ret _ _ _ _ (@pe_and _ _ _ _ _ _ _ (@pe_fn _ _ _ _ _ _ _ _ _ _ D_is_name (hr.mono (by decide)) rfl (@pa_cons _ _ _ _ _ (@pe_ix _ _ _ _ _ _ _ ix_tup (pv 0) (@pe_int _ _ _ _) (fun _ _=>rfl)) (@pa_nil _) (by rfl)) (by decide) (by rfl) (by rfl)) (@pe_and _ _ _ _ _ _ _ (@pe_fn _ _ _ _ _ _ _ _ _ _ D_is_name (hr.mono (by decide)) rfl (@pa_cons _ _ _ _ _ (@pe_ix _ _ _ _ _ _ _ ix_tup (pv 0) (@pe_int _ _ _ _) (fun _ _=>rfl)) (@pa_nil _) (by rfl)) (by decide) (by rfl) (by rfl)) (@pe_and _ _ _ _ _ _ _ (@pe_fn _ _ _ _ _ _ _ _ _ _ D_is_between (hr.mono (by decide)) rfl (@pa_cons _ _ _ _ _ (@pe_ix _ _ _ _ _ _ _ ix_tup (pv 0) (@pe_int _ _ _ _) (fun _ _=>rfl)) (@pa_cons _ _ _ _ _ (@pe_int _ _ _ _) (@pa_cons _ _ _ _ _ (@pe_globI _ _ _ _ rfl T.c_MOST_NUMBER (by decide)) (@pa_nil _) (by rfl)) (by rfl)) (by rfl)) (by decide) (by rfl) (by rfl)) (@pe_one _ _ _ _ _ (@pe_fn _ _ _ _ _ _ _ _ _ _ D_is_tag (hr.mono (by decide)) rfl (@pa_cons _ _ _ _ _ (@pe_ix _ _ _ _ _ _ _ ix_tup (pv 0) (@pe_int _ _ _ _) (fun _ _=>rfl)) (@pa_nil _) (by rfl)) (by decide) (by rfl) (by rfl))))))))),?_⟩
  dsimp only [tNext,tSeq,tIfS]
  refine tOr_p (!tupN H (.ref a) 5) (!betw 2 2 (.int 2)) (fun R q=>⟨_,rfl,_,5,rfl,okv,_,rfl,q⟩) (fun _ R q=>⟨_,rfl,a,_,_,_,rfl,rfl,SqT.of ha,rfl,_,2,2,rfl,trivial,_,rfl,q⟩) ?_
  rw [tupN_tup ha]
  refine iteFc rfl ?_
  obtain ⟨n1,⟨b1,b2⟩,n3⟩:=ok
  refine ⟨_,rfl,a,_,_,_,rfl,rfl,SqT.of ha,rfl,_,rfl,name_len n1,fun H1 s1=>⟨_,rfl,iteTc (name_ok n1) ?_⟩⟩
  refine ⟨_,rfl,a,_,_,_,rfl,rfl,SqT.of (s1.get ha),rfl,_,rfl,name_len n2,fun H2 s2=>⟨_,rfl,iteTc (name_ok n2) ?_⟩⟩
  have s12:=s1.trans s2
  refine ⟨_,rfl,a,_,_,_,rfl,rfl,SqT.of (s12.get ha),rfl,_,1,999999999,rfl,trivial,_,rfl,iteTc (betw_ok (show 1≤tn by omega) b2) ?_⟩
  exact ⟨_,rfl,a,_,_,_,rfl,rfl,SqT.of (s12.get ha),rfl,ta,t,rfl,s12.get ht,n3,q H2 s12⟩
theorem once_app:∀ (l ks:List Str),(ks ++ l).Nodup→l.foldl (fun ks k=>if k∈ks then ks else ks ++ [k]) ks = ks ++ l
  | [],ks,_=>(List.append_nil _).symm
  | k :: r,ks,h=>by
    have nk:k ∉ ks:=fun z=>by
      have:=(List.nodup_append.mp h).2.2 k z k List.mem_cons_self
      exact this rfl
    have e:(if k∈ks then ks else ks ++ [k]) = ks ++ [k]:=if_neg nk
    rw [List.foldl_cons,e,once_app r (ks ++ [k]) (by rw [List.append_assoc]; exact h),List.append_assoc]
    rfl
theorem once_id {a:List Str} (h:a.Nodup):onceS a = a:=once_app a [] h
theorem pure_strs (ks:List Str):(ks.map V.str).all pureV = true:=by
  rw [List.all_map,List.all_eq_true]
  exact fun _ _=>rfl
def sp_are_rising (K:PySem.W.Frag):Sp:=fun vs H Q _=>∃ (n:Addr) (ts:List (Addr×Str)),vs = [.ref n]∧H n = some (.tup (ts.map fun t=>V.ref t.1))∧(∀ t∈ts,∃ r,H t.1 = some (.tup (.str t.2 :: r)))∧(ts.map (·.2)).Pairwise Slt∧ts.length≤24∧∀ H',Same H H'→Q (.bl true) H'
theorem ok_are_rising (T:Txt K mg) (F:Fun K "are_rising" "are_rising" s_are_rising f fd):FnOk P w K mg base CX0 1 f fd ["named"] (sp_are_rising K):=by
  refine F.ok sc_are_rising (fun vs H Q E h=>?_) (fun cdv A outer s H vs Q E hr h=>?_)
  · obtain ⟨n,ts,rfl,_⟩:=h
    rfl
  obtain ⟨n,ts,rfl,hn,ht,ri,few,q⟩:=h
  have hu:=hu_of hr
  refine ⟨_,(@pss_cons _ _ _ _ _ (@ps_setC0 _ ["one"] (1) _ _ _ _ _ _ _ _ _ _ _ _ _ sc_are_rising.nd rfl (by first | exact Or.inl rfl | exact Or.inr rfl) rfl (@pi_tup _ _ _ _ (pv 0)) (by decide +kernel) (fun C s H fp=>⟨(@pg_name _ _ (0) _ (show (["one"]:List Str).Nodup by decide +kernel) rfl (by first | exact Or.inl rfl | exact Or.inr rfl) (by first | exact .inl rfl | exact .inr rfl | assumption)),(@pifs_nil _),(@pe_ix _ _ _ _ _ _ _ (ix_tupK (K:=K) (by rfl)) (pv 0) (@pe_int _ _ _ _) (fun _ _=>rfl))⟩) (by intro _; rfl) (by rfl) (by first | exact .inl rfl | exact .inr rfl | assumption)) (@pss_one _ _ _ (@ps_ret _ _ _ _ (@pe_cmpR _ _ _ _ _ _ _ _ (op_eqD hu) (pv 1) (@pe_callB _ _ _ _ _ _ _ _ _ (call_sortT (P:=P) (w:=w) (by rfl) (by rfl) rfl) (by rfl) T.b_sorted bt_sorted (@pa_cons _ _ _ _ _ (@pe_callTy _ _ _ _ _ _ _ _ _ (call_setT (P:=P) (w:=w) (K:=K) (by rfl) (by rfl) (by rfl) rfl) (by rfl) T.b_set bt_set (@pa_cons _ _ _ _ _ (pv 1) (@pa_nil _) (by rfl)) (by decide) (by decide) (by rfl) (by rfl)) (@pa_nil _) (by rfl)) (by decide) (by decide) (by rfl) (by rfl)) (nomark _))))),?_⟩
  try dsimp only [cxOf,Cx.nox,Cx.wish]
  refine ⟨_,rfl,n,rfl,⟨_,SqT.of hn⟩,?_⟩
  refine comp_selF (ps:=ts) (g:=fun p=>V.ref p.1) (fun _=>true) (fun p=>V.str p.2) (itIs_tup hn) (by omega) (fun p hp H' R s' hR=>hR) (fun p hp hs H' R s' hR=>?_) fun l2 H8 n8 s8 h8=>?_
  · obtain ⟨r,hr'⟩:=ht p hp
    exact ⟨_,rfl,p.1,_,_,_,rfl,rfl,SqT.of (s'.get hr'),atI_nat (j:=0) rfl,hR H' (Same.refl _)⟩
  rw [List.filter_eq_self.mpr (fun _ _=>rfl),show (ts.map fun p=>V.str p.2) = (ts.map (·.2)).map V.str by rw [List.map_map]; rfl] at h8
  have ln:(ts.map (·.2)).length≤24:=by rw [List.length_map]; exact few
  generalize ts.map (·.2) = ks at h8 ri ln
  have nd:ks.Nodup:=List.Pairwise.imp (fun {a b} h e=>by subst e; exact List.lt_irrefl _ h) ri
  refine ⟨_,rfl,_,rfl,l2,_,rfl,SqL.of h8,by omega,fun p hp=>?_⟩
  have sp:=same_new hp (SetT P w p (onceS ks))
  refine ⟨p,_,rfl,upd_same,by rw [once_id nd]; omega,fun us p2 pt st hp2=>?_⟩
  rw [once_id nd] at pt
  have et:us = ks:=uniq_by (key:=fun z:Str=>z) pt (rise_of st (pt.nodup_iff.mpr nd)) ri
  subst et
  have s2:=same_new hp2 (.lst (us.map V.str))
  refine ⟨l2,p2,_,_,rfl,rfl,SqL.of (s2.get (sp.get h8)),SqL.of upd_same,pure_strs _,pure_strs _,?_⟩
  rw [if_neg Bool.false_ne_true,decide_eq_true rfl]
  exact q _ ((s8.trans sp).trans s2)
theorem trues_of {α:Type} {H:Hp} {l:Addr} {us:List α} (h:H l = some (.lst ((us.filter fun _=>true).map fun _=>V.bl true))):H l = some (.lst ((us.map fun _=>true).map V.bl)):=by
  rw [h,List.filter_eq_self.mpr (fun _ _=>rfl),List.map_map]; rfl
theorem all_true {α:Type} (us:List α):(us.map fun _=>true).all id = true:=by simp
theorem ty_tup {H:Hp} {a:Addr} {xs:List V} (h:H a = some (.tup xs)):tyN H (.ref a) = "tuple":=by simp only [tyN,h]
def sp_are_keepers (K:PySem.W.Frag):Sp:=fun vs H Q _=>∃ (k:Addr) (c:Int),vs = [.ref k]∧KeepAt H k c∧0≤c∧c≤999999999∧∀ H',Same H H'→Q (.bl true) H'
theorem ok_are_keepers (T:Txt K mg) (F:Fun K "are_keepers" "are_keepers" s_are_keepers f fd) (D_are_rising:Def P w K mg base 1 "are_rising" ["named"] (sp_are_rising K)) (D_is_keeper:Def P w K mg base 3 "is_keeper" ["thing"] (sp_is_keeper K)):FnOk P w K mg base CX0 4 f fd ["thing"] (sp_are_keepers K):=by
  refine F.ok sc_are_keepers (fun vs H Q E h=>?_) (fun cdv A outer s H vs Q E hr h=>?_)
  · obtain ⟨k,c,rfl,_⟩:=h
    rfl
  obtain ⟨k,c,rfl,⟨k0,k1,h0,h1,h2⟩,c0,c1,q⟩:=h
  have okv:Ok H (.ref k):=.inr ⟨_,h0⟩
  refine ⟨_,(@pss_cons _ _ _ _ _ (@ps_if _ _ _ _ _ _ _ _ (@PW.pt _ _ _ (@pw_or _ _ _ _ _ _ _ (@pt_not _ _ _ _ (@pt_val _ _ _ (@pe_callB _ _ _ _ _ _ _ _ _ call_isinst (by rfl) T.b_isinstance bt_isinstance (@pa_cons _ _ _ _ _ (pv 0) (@pa_cons _ _ _ _ _ (@pe_ty _ _ _ _ rfl T.b_tuple bt_tuple (by decide) (by decide)) (@pa_nil _) (by rfl)) (by rfl)) (by decide) (by decide) (by rfl) (by rfl)) (by intro _; rfl))) (@pw_or1 _ _ _ _ (@pt_cmpR _ _ _ _ _ _ _ _ op_gt (@pe_callB _ _ _ _ _ _ _ _ _ call_len_seq (by rfl) T.b_len bt_len (@pa_cons _ _ _ _ _ (pv 0) (@pa_nil _) (by rfl)) (by decide) (by decide) (by rfl) (by rfl)) (@pe_globI _ _ _ _ rfl T.c_MOST_KEEPERS (by decide)) (nomark _))))) (@pss_one _ _ _ (@ps_ret _ _ _ _ (@pe_bl _ _ _ _))) (@pss_nil _)) (@pss_one _ _ _ (@ps_ret _ _ _ _ (@pe_and _ _ _ _ _ _ _ (@pe_callB _ _ _ _ _ _ _ _ _ (call_all rfl) (by rfl) T.b_all bt_all (@pa_cons _ _ _ _ _ (@pe_comp0 _ ["keeper"] _ _ _ _ _ _ _ _ _ _ rfl (@pi_tup _ _ _ _ (pv 0)) (by decide +kernel) (fun C s H fp=>⟨(@pg_name _ _ (0) _ (show (["keeper"]:List Str).Nodup by decide +kernel) rfl (by first | exact Or.inl rfl | exact Or.inr rfl) (by first | exact .inl rfl | exact .inr rfl | assumption)),(@pifs_nil _),(@pe_fn _ _ _ _ _ _ _ _ _ _ D_is_keeper (hr.mono (by decide)) rfl (@pa_cons _ _ _ _ _ (pv 0) (@pa_nil _) (by rfl)) (by decide) (by rfl) (by rfl))⟩) (by intro _; rfl)) (@pa_nil _) (by rfl)) (by decide) (by decide) (by rfl) (by rfl)) (@pe_one _ _ _ _ _ (@pe_fn _ _ _ _ _ _ _ _ _ _ D_are_rising (hr.mono (by decide)) rfl (@pa_cons _ _ _ _ _ (pv 0) (@pa_nil _) (by rfl)) (by decide) (by rfl) (by rfl))))))),?_⟩
  try dsimp only [cxOf,Cx.nox,Cx.wish]
  refine ⟨_,rfl,_,_,_,_,rfl,okv.ty K,okv.kit K,_,rfl,iteFc (by rw [ty_tup h0]; rfl) ?_⟩
  refine ⟨_,rfl,k,_,rfl,.inr (SqT.of h0),_,_,rfl,rfl,_,rfl,iteFc rfl ?_⟩
  refine ⟨_,rfl,k,rfl,⟨_,SqT.of h0⟩,?_⟩
  refine comp_selF (ps:=[(k0,K0,(5:Int)),(k1,K1,c)]) (g:=fun p=>V.ref p.1) (fun _=>true) (fun _=>V.bl true) (itIs_tup h0) (show 2≤1000000 by decide) (fun p hp H' R s' hR=>hR) (fun p hp hs H' R s' hR=>?_) fun l H7 n7 s7 h7=>?_
  · rcases List.mem_cons.mp hp with rfl | hp
    · exact ⟨_,rfl,k0,K0,5,rfl,s'.get h1,k0_nm (.inl rfl),by decide,by decide,fun H'' s''=>hR H'' s''⟩
    · rw [List.mem_singleton.mp hp]
      exact ⟨_,rfl,k1,K1,c,rfl,s'.get h2,k0_nm (.inr rfl),c0,c1,fun H'' s''=>hR H'' s''⟩
  refine ⟨l,_,rfl,SqL.of (trues_of h7),_,rfl,iteTc (all_true _) ?_⟩
  refine ⟨_,rfl,k,[(k0,K0),(k1,K1)],rfl,s7.get h0,fun t ht=>?_,?_,(show 2≤24 by decide),fun H' s'=>q H' (s7.trans s')⟩
  · rcases List.mem_cons.mp ht with rfl | ht
    · exact ⟨_,s7.get h1⟩
    · rw [List.mem_singleton.mp ht]
      exact ⟨_,s7.get h2⟩
  · exact List.pairwise_cons.mpr ⟨fun y hy=>by rw [List.mem_singleton.mp hy]; exact (by decide +kernel:Slt K0 K1),List.pairwise_singleton _ _⟩
structure Rt (es:List En):Prop where
  full:Full es
  ok:∀ e∈es,EnOk e
theorem Rt.og {es:List En} (r:Rt es) {nm kp o:Str} {t:Int×Int×Int} (h:En.st nm kp o t∈es):o = EM∨nmP o:=(r.full.org _ _ _ _ h).imp id fun ⟨_,_,_,h2⟩=>(r.ok _ h2).nm
theorem Rt.sm {es:List En} (r:Rt es) {nm sm:Str} {n:Int} {t:Int×Int×Int} (h:En.sl nm sm n t∈es):nmP sm:=by
  obtain ⟨_,_,_,h2⟩:=r.full.stm _ _ _ _ h
  exact (r.ok _ h2).nm
def sp_are_names (K:PySem.W.Frag):Sp:=fun vs H Q _=>∃ (n:Addr) (ps:List (Addr×En)),vs = [.ref n]∧H n = some (.tup (ps.map fun p=>V.ref p.1))∧(∀ p∈ps,EnAt H p)∧Rise ps∧Rt (ps.map (·.2))∧ps.length≤20∧∀ H',Same H H'→Q (.bl true) H'
theorem ok_are_names (T:Txt K mg) (F:Fun K "are_names" "are_names" s_are_names f fd) (D_are_rising:Def P w K mg base 1 "are_rising" ["named"] (sp_are_rising K)) (D_is_stem:Def P w K mg base 4 "is_stem" ["thing"] (sp_is_stem K)) (D_is_seal:Def P w K mg base 4 "is_seal" ["thing"] (sp_is_seal K)):FnOk P w K mg base CX0 5 f fd ["thing"] (sp_are_names K):=by
  refine F.ok sc_are_names (fun vs H Q E h=>?_) (fun cdv A outer s H vs Q E hr h=>?_)
  · obtain ⟨n,ps,rfl,_⟩:=h
    rfl
  obtain ⟨n,ps,rfl,hn,he,ri,rt,few,q⟩:=h
  have okv:Ok H (.ref n):=.inr ⟨_,hn⟩
  refine ⟨_,(@pss_cons _ _ _ _ _ (@ps_if _ _ _ _ _ _ _ _ (@PW.pt _ _ _ (@pw_or _ _ _ _ _ _ _ (@pt_not _ _ _ _ (@pt_val _ _ _ (@pe_callB _ _ _ _ _ _ _ _ _ call_isinst (by rfl) T.b_isinstance bt_isinstance (@pa_cons _ _ _ _ _ (pv 0) (@pa_cons _ _ _ _ _ (@pe_ty _ _ _ _ rfl T.b_tuple bt_tuple (by decide) (by decide)) (@pa_nil _) (by rfl)) (by rfl)) (by decide) (by decide) (by rfl) (by rfl)) (by intro _; rfl))) (@pw_or1 _ _ _ _ (@pt_cmpR _ _ _ _ _ _ _ _ op_gt (@pe_callB _ _ _ _ _ _ _ _ _ call_len_seq (by rfl) T.b_len bt_len (@pa_cons _ _ _ _ _ (pv 0) (@pa_nil _) (by rfl)) (by decide) (by decide) (by rfl) (by rfl)) (@pe_globI _ _ _ _ rfl T.c_MOST_NAMES (by decide)) (nomark _))))) (@pss_one _ _ _ (@ps_ret _ _ _ _ (@pe_bl _ _ _ _))) (@pss_nil _)) (@pss_one _ _ _ (@ps_ret _ _ _ _ (@pe_and _ _ _ _ _ _ _ (@pe_callB _ _ _ _ _ _ _ _ _ (call_all rfl) (by rfl) T.b_all bt_all (@pa_cons _ _ _ _ _ (@pe_comp0 _ ["named"] _ _ _ _ _ _ _ _ _ _ rfl (@pi_tup _ _ _ _ (pv 0)) (by decide +kernel) (fun C s H fp=>⟨(@pg_name _ _ (0) _ (show (["named"]:List Str).Nodup by decide +kernel) rfl (by first | exact Or.inl rfl | exact Or.inr rfl) (by first | exact .inl rfl | exact .inr rfl | assumption)),(@pifs_nil _),(@pe_or _ _ _ _ _ _ _ (@pe_fn _ _ _ _ _ _ _ _ _ _ D_is_stem (hr.mono (by decide)) rfl (@pa_cons _ _ _ _ _ (pv 0) (@pa_nil _) (by rfl)) (by decide) (by rfl) (by rfl)) (@pe_one _ _ _ _ _ (@pe_fn _ _ _ _ _ _ _ _ _ _ D_is_seal (hr.mono (by decide)) rfl (@pa_cons _ _ _ _ _ (pv 0) (@pa_nil _) (by rfl)) (by decide) (by rfl) (by rfl))))⟩) (by intro _; rfl)) (@pa_nil _) (by rfl)) (by decide) (by decide) (by rfl) (by rfl)) (@pe_one _ _ _ _ _ (@pe_fn _ _ _ _ _ _ _ _ _ _ D_are_rising (hr.mono (by decide)) rfl (@pa_cons _ _ _ _ _ (pv 0) (@pa_nil _) (by rfl)) (by decide) (by rfl) (by rfl))))))),?_⟩
  try dsimp only [cxOf,Cx.nox,Cx.wish]
  refine ⟨_,rfl,_,_,_,_,rfl,okv.ty K,okv.kit K,_,rfl,iteFc (by rw [ty_tup hn]; rfl) ?_⟩
  refine ⟨_,rfl,n,_,rfl,.inr (SqT.of hn),_,_,rfl,rfl,_,rfl,iteFc (decide_eq_false (by rw [List.length_map]; omega)) ?_⟩
  refine ⟨_,rfl,n,rfl,⟨_,SqT.of hn⟩,?_⟩
  refine comp_selF (ps:=ps) (g:=fun p=>V.ref p.1) (fun _=>true) (fun _=>V.bl true) (itIs_tup hn) (by omega) (fun p hp H' R s' hR=>hR) (fun p hp hs H' R s' hR=>?_) fun l H7 n7 s7 h7=>?_
  · obtain ⟨a,e⟩:=p
    have me:e∈ps.map (·.2):=List.mem_map.mpr ⟨_,hp,rfl⟩
    refine ⟨_,rfl,a,e,rfl,(he _ hp).same s',rt.ok _ me,(fun nm kp og t z=>by subst z; exact rt.og me),fun H1 s1=>⟨_,rfl,?_⟩⟩
    cases e with
    | st nm kp og t=>exact iteTc rfl (hR H1 s1)
    | sl nm sm tn t=>exact iteFc rfl ⟨_,rfl,a,nm,sm,tn,t,rfl,(he _ hp).same (s'.trans s1),rt.ok _ me,rt.sm me,fun H2 s2=>hR H2 (s1.trans s2)⟩
  refine ⟨l,_,rfl,SqL.of (trues_of h7),_,rfl,iteTc (all_true _) ?_⟩
  refine ⟨_,rfl,n,ps.map fun p=>(p.1,p.2.nm),rfl,by rw [List.map_map]; exact s7.get hn,fun t ht=>?_,by rw [List.map_map]; exact ri,by rw [List.length_map]; omega,fun H' s'=>q H' (s7.trans s')⟩
  obtain ⟨p,hp,rfl⟩:=List.mem_map.mp ht
  obtain ⟨r,hr'⟩:=(he p hp).fst
  exact ⟨r,s7.get hr'⟩
end
section
variable {P:Program} {w:World} {K:PySem.W.Frag} {mg:Str→Option Value} {base:Heap} {f:Addr} {fd:FuncData} {PT PU:Addr}
theorem val_map {α:Type} {key:α→Str} {val:α→V}:∀ {l:List α} {x:α},(l.map key).Nodup→x∈l→valV (l.map fun y=>((Sum.inr (key y):Key),val y)) (Sum.inr (key x)) = some (val x)
  | [],_,_,h=>nomatch h
  | y :: l,x,nd,h=>by
    rw [List.map_cons,List.nodup_cons] at nd
    rw [List.map_cons]
    rcases List.mem_cons.mp h with rfl | h
    · exact valV_pos rfl
    · rw [valV_neg (fun e=>nd.1 (by rw [Sum.inr.inj e]; exact List.mem_map.mpr ⟨x,h,rfl⟩))]
      exact val_map nd.2 h
theorem val_none {α:Type} {key:α→Str} {val:α→V} {z:Str}:∀ {l:List α},(∀ y∈l,key y≠z)→valV (l.map fun y=>((Sum.inr (key y):Key),val y)) (Sum.inr z) = none
  | [],_=>rfl
  | y :: l,h=>by
    rw [List.map_cons,valV_neg (fun e=>h y List.mem_cons_self (Sum.inr.inj e))]
    exact val_none fun y hy=>h y (List.mem_cons_of_mem _ hy)
def Pn (v:En→Int) (p:Addr×En) (y:V) (H:Hp):Prop:=∃ b,y = .ref b∧H b = some (.tup [.str p.2.nm,.int (v p.2)])
theorem Pn.adr {v:En→Int} {p:Addr×En} {y:V} {H:Hp} (h:Pn v p y H):y = .ref (adr y)∧H (adr y) = some (.tup [.str p.2.nm,.int (v p.2)]):=by
  obtain ⟨b,rfl,h⟩:=h
  exact ⟨rfl,h⟩
theorem Pn.same {v:En→Int} (x:Addr×En) (y:V) (H1 H2:Hp) (h:Pn v x y H1) (s:Same H1 H2):Pn v x y H2:=by
  obtain ⟨b,e,h⟩:=h
  exact ⟨b,e,s.get h⟩
theorem Pn.upd {v:En→Int} (x:Addr×En) (y:V) (H1:Hp) (l:Addr) (us us':List V) (h:Pn v x y H1) (hl:H1 l = some (.lst us)):Pn v x y (L2.upd H1 l (.lst us')):=by
  obtain ⟨b,e,h⟩:=h
  exact ⟨b,e,by rw [upd_ne fun z=>by rw [z,hl] at h; cases h]; exact h⟩
theorem dict_pn {v:En→Int} {H:Hp} {l:Addr} {ps:List (Addr×En)} {ys:List ((Addr×En)×V)} {Q:VK} (h:H l = some (.lst (ys.map (·.2)))) (ey:ys.map (·.1) = ps) (hy:∀ q∈ys,Pn v q.1 q.2 H) (nd:Nms ps) (few:ps.length≤20)
    (q:∀ d,H d = none→Q (.ref d) (L2.upd H d (.dK (ps.map fun p=>((Sum.inr p.2.nm:Key),V.int (v p.2)))))):rDictK K [.ref l] H Q:=by
  have ly:ys.length = ps.length:=by rw [← ey,List.length_map]
  refine ⟨l,ys.map fun q=>adr q.2,ps.map fun p=>((Sum.inr p.2.nm:Key),V.int (v p.2)),rfl,SqL.of ?_,by rw [List.length_map,List.length_map,ly],by rw [List.length_map]; omega,?_,fun i t k u h1 h2=>?_,q⟩
  · rw [h,List.map_map]
    exact congrArg (fun z=>some (HO.lst z)) (List.map_congr_left fun q hq=>(hy q hq).adr.1)
  · rw [List.map_map]
    have:(ps.map fun p=>(Sum.inr p.2.nm:Key)).Nodup:=by
      have:=List.pairwise_map.mp nd
      exact List.pairwise_map.mpr (List.Pairwise.imp (fun {a b} z e=>z (Sum.inr.inj e)) this)
    exact this
  · rw [List.getElem?_map] at h1 h2
    obtain ⟨q,hq,rfl⟩:=Option.map_eq_some_iff.mp h1
    rw [← ey,List.getElem?_map,hq] at h2
    cases h2
    exact (hy q (List.mem_of_getElem? hq)).adr.2
def sp_are_at_one (K:PySem.W.Frag):Sp:=fun vs H Q _=>∃ (k:Addr) (c:Int) (n:Addr) (ps:List (Addr×En)),vs = [.ref k,.ref n]∧KeepAt H k c∧H n = some (.tup (ps.map fun p=>V.ref p.1))∧(∀ p∈ps,EnAt H p)∧Rt (ps.map (·.2))∧ps.length≤20∧∀ H',Same H H'→Q (.bl true) H'
theorem ok_are_at_one (T:Txt K mg) (F:Fun K "are_at_one" "are_at_one" s_are_at_one f fd):FnOk P w K mg base CX0 1 f fd ["keepers","names"] (sp_are_at_one K):=by
  refine F.ok sc_are_at_one (fun vs H Q E h=>?_) (fun cdv A outer s H vs Q E hr h=>?_)
  · obtain ⟨k,c,n,ps,rfl,_⟩:=h
    rfl
  obtain ⟨k,c,n,ps,rfl,⟨k0,k1,h0,hk1,hk2⟩,hn,he,rt,few,q⟩:=h
  have hu:=hu_of hr
  have hu9:=hu9_of hr
  refine ⟨_,(@pss_cons _ _ _ _ _ (@ps_setC0 _ ["named"] (2) _ _ _ _ _ _ _ _ _ _ _ _ _ sc_are_at_one.nd rfl (by first | exact Or.inl rfl | exact Or.inr rfl) rfl (@pi_tup _ _ _ _ (pv 1)) (by decide +kernel) (fun C s H fp=>⟨(@pg_name _ _ (0) _ (show (["named"]:List Str).Nodup by decide +kernel) rfl (by first | exact Or.inl rfl | exact Or.inr rfl) (by first | exact .inl rfl | exact .inr rfl | assumption)),(@pifs_one _ _ _ (@pt_cmpR _ _ _ _ _ _ _ _ op_eq (@pe_ix _ _ _ _ _ _ _ (ix_tupK (K:=K) (by rfl)) (pv 0) (@pe_int _ _ _ _) (fun _ _=>rfl)) (@pe_globI _ _ _ _ rfl T.c_STEM (by decide)) (nomark _))),(pv 0)⟩) (by intro _; rfl) (by rfl) (by first | exact .inl rfl | exact .inr rfl | assumption)) (@pss_cons _ _ _ _ _ (@ps_setC0 _ ["named"] (3) _ _ _ _ _ _ _ _ _ _ _ _ _ sc_are_at_one.nd rfl (by first | exact Or.inl rfl | exact Or.inr rfl) rfl (@pi_tup _ _ _ _ (pv 1)) (by decide +kernel) (fun C s H fp=>⟨(@pg_name _ _ (0) _ (show (["named"]:List Str).Nodup by decide +kernel) rfl (by first | exact Or.inl rfl | exact Or.inr rfl) (by first | exact .inl rfl | exact .inr rfl | assumption)),(@pifs_one _ _ _ (@pt_cmpR _ _ _ _ _ _ _ _ op_eq (@pe_ix _ _ _ _ _ _ _ (ix_tupK (K:=K) (by rfl)) (pv 0) (@pe_int _ _ _ _) (fun _ _=>rfl)) (@pe_globI _ _ _ _ rfl T.c_SEAL (by decide)) (nomark _))),(pv 0)⟩) (by intro _; rfl) (by rfl) (by first | exact .inl rfl | exact .inr rfl | assumption)) (@pss_cons _ _ _ _ _ (@ps_set _ _ (4) _ _ _ _ sc_are_at_one.nd rfl (by first | exact Or.inl rfl | exact Or.inr rfl) (@pe_comp0 _ ["keeper"] _ _ _ _ _ _ _ _ _ _ rfl (@pi_tup _ _ _ _ (pv 0)) (by decide +kernel) (fun C s H fp=>⟨(@pg_name _ _ (0) _ (show (["keeper"]:List Str).Nodup by decide +kernel) rfl (by first | exact Or.inl rfl | exact Or.inr rfl) (by first | exact .inl rfl | exact .inr rfl | assumption)),(@pifs_nil _),(@pe_ix _ _ _ _ _ _ _ (ix_tupK (K:=K) (by rfl)) (pv 0) (@pe_int _ _ _ _) (fun _ _=>rfl))⟩) (by intro _; rfl)) (by rfl) (by first | exact .inl rfl | exact .inr rfl | assumption)) (@pss_cons _ _ _ _ _ (@ps_if _ _ _ _ _ _ _ _ (@pt_not _ _ _ _ (@pt_val _ _ _ (@pe_callB _ _ _ _ _ _ _ _ _ (call_all rfl) (by rfl) T.b_all bt_all (@pa_cons _ _ _ _ _ (@pe_comp _ ["stem","called"] [none,some 4] _ _ _ _ _ _ _ _ _ _ _ rfl (@pi_list _ _ _ _ (pv 2)) (by rfl) rfl (by repeat (first | exact trivial | refine ⟨rfl,?_⟩)) (by repeat (first | exact trivial | refine ⟨fun h=>(by first | exact ⟨_,rfl⟩ | cases h),?_⟩)) (fun C s H fp=>⟨(@pg_name _ _ (0) _ (show (["stem","called"]:List Str).Nodup by decide +kernel) rfl (by first | exact Or.inl rfl | exact Or.inr rfl) (by first | exact .inl rfl | exact .inr rfl | assumption)),(@pifs_nil _),(@pe_cmpR _ _ _ _ _ _ _ _ (op_in_seqK (K:=K) (by rfl)) (@pe_ix _ _ _ _ _ _ _ (ix_tupK (K:=K) (by rfl)) (pv 0) (@pe_int _ _ _ _) (fun _ _=>rfl)) (pv 1) rfl)⟩) (by intro _; rfl)) (@pa_nil _) (by rfl)) (by decide) (by decide) (by rfl) (by rfl)) (by intro _; rfl))) (@pss_one _ _ _ (@ps_ret _ _ _ _ (@pe_bl _ _ _ _))) (@pss_nil _)) (@pss_cons _ _ _ _ _ (@ps_if _ _ _ _ _ _ _ _ (@pt_cmpR _ _ _ _ _ _ _ _ op_lt (@pe_callB _ _ _ _ _ _ _ _ _ call_lenSet (by rfl) T.b_len bt_len (@pa_cons _ _ _ _ _ (@pe_callTy _ _ _ _ _ _ _ _ _ (call_setI (K:=K) (by rfl) rfl) (by rfl) T.b_set bt_set (@pa_cons _ _ _ _ _ (@pe_comp0 _ ["seal"] _ _ _ _ _ _ _ _ _ _ rfl (@pi_list _ _ _ _ (pv 3)) (by decide +kernel) (fun C s H fp=>⟨(@pg_name _ _ (0) _ (show (["seal"]:List Str).Nodup by decide +kernel) rfl (by first | exact Or.inl rfl | exact Or.inr rfl) (by first | exact .inl rfl | exact .inr rfl | assumption)),(@pifs_nil _),(@pe_ix _ _ _ _ _ _ _ (ix_tupK (K:=K) (by rfl)) (pv 0) (@pe_int _ _ _ _) (fun _ _=>rfl))⟩) (by intro _; rfl)) (@pa_nil _) (by rfl)) (by decide) (by decide) (by rfl) (by rfl)) (@pa_nil _) (by rfl)) (by decide) (by decide) (by rfl) (by rfl)) (@pe_callB _ _ _ _ _ _ _ _ _ call_len_seq (by rfl) T.b_len bt_len (@pa_cons _ _ _ _ _ (pv 3) (@pa_nil _) (by rfl)) (by decide) (by decide) (by rfl) (by rfl)) (nomark _)) (@pss_one _ _ _ (@ps_ret _ _ _ _ (@pe_bl _ _ _ _))) (@pss_nil _)) (@pss_cons _ _ _ _ _ (@ps_set _ _ (5) _ _ _ _ sc_are_at_one.nd rfl (by first | exact Or.inl rfl | exact Or.inr rfl) (@pe_callTy _ _ _ _ _ _ _ _ _ (call_dictK (K:=K) (by rfl) rfl) (by rfl) T.b_dict bt_dict (@pa_cons _ _ _ _ _ (@pe_comp0 _ ["seal"] _ _ _ _ _ _ _ _ _ _ rfl (@pi_list _ _ _ _ (pv 3)) (by decide +kernel) (fun C s H fp=>⟨(@pg_name _ _ (0) _ (show (["seal"]:List Str).Nodup by decide +kernel) rfl (by first | exact Or.inl rfl | exact Or.inr rfl) (by first | exact .inl rfl | exact .inr rfl | assumption)),(@pifs_nil _),(@pe_tup _ _ _ _ _ (@pa_cons _ _ _ _ _ (@pe_ix _ _ _ _ _ _ _ (ix_tupK (K:=K) (by rfl)) (pv 0) (@pe_int _ _ _ _) (fun _ _=>rfl)) (@pa_cons _ _ _ _ _ (@pe_ix _ _ _ _ _ _ _ (ix_tupK (K:=K) (by rfl)) (pv 0) (@pe_int _ _ _ _) (fun _ _=>rfl)) (@pa_nil _) (by rfl)) (by rfl)))⟩) (by intro _; rfl)) (@pa_nil _) (by rfl)) (by decide) (by decide) (by rfl) (by rfl)) (by rfl) (by first | exact .inl rfl | exact .inr rfl | assumption)) (@pss_cons _ _ _ _ _ (@ps_if _ _ _ _ _ _ _ _ (@pt_not _ _ _ _ (@pt_val _ _ _ (@pe_callB _ _ _ _ _ _ _ _ _ (call_all rfl) (by rfl) T.b_all bt_all (@pa_cons _ _ _ _ _ (@pe_comp _ ["stem","turns"] [none,some 5] _ _ _ _ _ _ _ _ _ _ _ rfl (@pi_list _ _ _ _ (pv 2)) (by rfl) rfl (by repeat (first | exact trivial | refine ⟨rfl,?_⟩)) (by repeat (first | exact trivial | refine ⟨fun h=>(by first | exact ⟨_,rfl⟩ | cases h),?_⟩)) (fun C s H fp=>⟨(@pg_name _ _ (0) _ (show (["stem","turns"]:List Str).Nodup by decide +kernel) rfl (by first | exact Or.inl rfl | exact Or.inr rfl) (by first | exact .inl rfl | exact .inr rfl | assumption)),(@pifs_nil _),(@pe_or _ _ _ _ _ _ _ (@pe_cmpR _ _ _ _ _ _ _ _ op_eq (@pe_ix _ _ _ _ _ _ _ (ix_tupK (K:=K) (by rfl)) (pv 0) (@pe_int _ _ _ _) (fun _ _=>rfl)) (@pe_str _ _ _ _) (nomark _)) (@pe_one _ _ _ _ _ (@pe_cmp _ _ _ _ _ _ (@pc_din _ _ _ _ _ hu (@pe_ix _ _ _ _ _ _ _ (ix_tupK (K:=K) (by rfl)) (pv 0) (@pe_int _ _ _ _) (fun _ _=>rfl)) (pv 1)) (by first | exact nobehind _ (by decide) (by decide) | rfl))))⟩) (by intro _; rfl)) (@pa_nil _) (by rfl)) (by decide) (by decide) (by rfl) (by rfl)) (by intro _; rfl))) (@pss_one _ _ _ (@ps_ret _ _ _ _ (@pe_bl _ _ _ _))) (@pss_nil _)) (@pss_cons _ _ _ _ _ (@ps_set _ _ (6) _ _ _ _ sc_are_at_one.nd rfl (by first | exact Or.inl rfl | exact Or.inr rfl) (@pe_callTy _ _ _ _ _ _ _ _ _ (call_dictK (K:=K) (by rfl) rfl) (by rfl) T.b_dict bt_dict (@pa_cons _ _ _ _ _ (@pe_comp _ ["stem","turns"] [none,some 5] _ _ _ _ _ _ _ _ _ _ _ rfl (@pi_list _ _ _ _ (pv 2)) (by rfl) rfl (by repeat (first | exact trivial | refine ⟨rfl,?_⟩)) (by repeat (first | exact trivial | refine ⟨fun h=>(by first | exact ⟨_,rfl⟩ | cases h),?_⟩)) (fun C s H fp=>⟨(@pg_name _ _ (0) _ (show (["stem","turns"]:List Str).Nodup by decide +kernel) rfl (by first | exact Or.inl rfl | exact Or.inr rfl) (by first | exact .inl rfl | exact .inr rfl | assumption)),(@pifs_nil _),(@pe_tup _ _ _ _ _ (@pa_cons _ _ _ _ _ (@pe_ix _ _ _ _ _ _ _ (ix_tupK (K:=K) (by rfl)) (pv 0) (@pe_int _ _ _ _) (fun _ _=>rfl)) (@pa_cons _ _ _ _ _ (@pe_dget2 _ _ _ _ _ _ _ _ _ hu (pv 1) (@pe_ix _ _ _ _ _ _ _ (ix_tupK (K:=K) (by rfl)) (pv 0) (@pe_int _ _ _ _) (fun _ _=>rfl)) (@pe_int _ _ _ _) ⟨rfl,rfl,rfl,rfl⟩) (@pa_nil _) (by rfl)) (by rfl)))⟩) (by intro _; rfl)) (@pa_nil _) (by rfl)) (by decide) (by decide) (by rfl) (by rfl)) (by rfl) (by first | exact .inl rfl | exact .inr rfl | assumption)) (@pss_one _ _ _ (@ps_ret _ _ _ _ (@pe_callB _ _ _ _ _ _ _ _ _ (call_all rfl) (by rfl) T.b_all bt_all (@pa_cons _ _ _ _ _ (@pe_comp _ ["seal","begins"] [none,some 6] _ _ _ _ _ _ _ _ _ _ _ rfl (@pi_list _ _ _ _ (pv 3)) (by rfl) rfl (by repeat (first | exact trivial | refine ⟨rfl,?_⟩)) (by repeat (first | exact trivial | refine ⟨fun h=>(by first | exact ⟨_,rfl⟩ | cases h),?_⟩)) (fun C s H fp=>⟨(@pg_name _ _ (0) _ (show (["seal","begins"]:List Str).Nodup by decide +kernel) rfl (by first | exact Or.inl rfl | exact Or.inr rfl) (by first | exact .inl rfl | exact .inr rfl | assumption)),(@pifs_nil _),(@pe_and _ _ _ _ _ _ _ (@pe_cmp _ _ _ _ _ _ (@pc_din _ _ _ _ _ hu (@pe_ix _ _ _ _ _ _ _ (ix_tupK (K:=K) (by rfl)) (pv 0) (@pe_int _ _ _ _) (fun _ _=>rfl)) (pv 1)) (by first | exact nobehind _ (by decide) (by decide) | rfl)) (@pe_one _ _ _ _ _ (@pe_cmpR _ _ _ _ _ _ _ _ op_gt (@pe_ix _ _ _ _ _ _ _ (ix_tupK (K:=K) (by rfl)) (pv 0) (@pe_int _ _ _ _) (fun _ _=>rfl)) (@pe_dget _ _ _ _ _ _ hu (pv 1) (@pe_ix _ _ _ _ _ _ _ (ix_tupK (K:=K) (by rfl)) (pv 0) (@pe_int _ _ _ _) (fun _ _=>rfl)) (fun _ _=>rfl)) (nomark _))))⟩) (by intro _; rfl)) (@pa_nil _) (by rfl)) (by decide) (by decide) (by rfl) (by rfl)))))))))))),?_⟩
  try dsimp only [cxOf,Cx.nox,Cx.wish]
  have full:=rt.full
  have nd:Nms ps:=by
    have:=full.nms
    rw [List.map_map] at this
    exact this
  have lS:=List.length_filter_le (fun p:Addr×En=>p.2.isS) ps
  have lL:=List.length_filter_le (fun p:Addr×En=>!p.2.isS) ps
  have ndS:Nms (ps.filter fun p=>p.2.isS):=nd.sublist (List.filter_sublist.map _)
  have ndL:Nms (ps.filter fun p=>!p.2.isS):=nd.sublist (List.filter_sublist.map _)
  have tnL:((ps.filter fun p=>!p.2.isS).map fun p=>p.2.turn).Nodup:=by
    have:=full.tns
    rw [List.filter_map,List.map_map] at this
    exact this
  have isS:∀ p∈ps.filter (fun p=>p.2.isS),p∈ps∧∃ nm kp og t,p.2 = .st nm kp og t:=fun p hp=>by
    obtain ⟨g1,g2⟩:=List.mem_filter.mp hp
    refine ⟨g1,?_⟩
    cases e:p.2 with
    | st nm kp og t=>exact ⟨_,_,_,_,rfl⟩
    | sl _ _ _ _=>rw [e] at g2; cases g2
  have isL:∀ p∈ps.filter (fun p=>!p.2.isS),p∈ps∧∃ nm sm n t,p.2 = .sl nm sm n t:=fun p hp=>by
    obtain ⟨g1,g2⟩:=List.mem_filter.mp hp
    refine ⟨g1,?_⟩
    cases e:p.2 with
    | st nm kp og t=>rw [e] at g2; cases g2
    | sl _ _ _ _=>exact ⟨_,_,_,_,rfl⟩
  have memS:∀ {nm kp og t},En.st nm kp og t∈ps.map (·.2)→∃ a,(a,En.st nm kp og t)∈ps.filter fun p=>p.2.isS:=fun {nm kp og t} h=>by
    obtain ⟨a,ha⟩:=mem_en h
    exact ⟨a,List.mem_filter.mpr ⟨ha,rfl⟩⟩
  have memL:∀ {nm sm n t},En.sl nm sm n t∈ps.map (·.2)→∃ a,(a,En.sl nm sm n t)∈ps.filter fun p=>!p.2.isS:=fun {nm sm n t} h=>by
    obtain ⟨a,ha⟩:=mem_en h
    exact ⟨a,List.mem_filter.mpr ⟨ha,rfl⟩⟩
  have inE:∀ {p:Addr×En},p∈ps→p.2∈ps.map (·.2):=fun hp=>List.mem_map.mpr ⟨_,hp,rfl⟩
  refine ⟨_,rfl,n,rfl,⟨_,SqT.of hn⟩,?_⟩
  refine comp_selF (ps:=ps) (g:=fun p=>V.ref p.1) (fun p=>p.2.isS) (fun p=>V.ref p.1) (itIs_tup hn) (by omega) (fun p hp H' R s' hR=>?_) (fun p hp hs H' R s' hR=>⟨_,rfl,hR H' (Same.refl _)⟩) fun l1 H1 n1 s1 h1=>?_
  · obtain ⟨a,e⟩:=p
    obtain ⟨ta,_,ha⟩:=he _ hp
    cases e <;> exact ⟨_,rfl,a,_,_,_,rfl,rfl,SqT.of (s'.get ha),atI_nat (j:=1) rfl,rfl,_,rfl,hR⟩
  refine ⟨_,rfl,n,rfl,⟨_,SqT.of (s1.get hn)⟩,?_⟩
  refine comp_selF (ps:=ps) (g:=fun p=>V.ref p.1) (fun p=>!p.2.isS) (fun p=>V.ref p.1) (itIs_tup (s1.get hn)) (by omega) (fun p hp H' R s' hR=>?_) (fun p hp hs H' R s' hR=>⟨_,rfl,hR H' (Same.refl _)⟩) fun l2 H2 n2 s2 h2=>?_
  · obtain ⟨a,e⟩:=p
    obtain ⟨ta,_,ha⟩:=he _ hp
    cases e <;> exact ⟨_,rfl,a,_,_,_,rfl,rfl,SqT.of (s'.get (s1.get ha)),atI_nat (j:=1) rfl,rfl,_,rfl,hR⟩
  have s12:=s1.trans s2
  have h1:=s2.get h1
  generalize ps.filter (fun p=>p.2.isS) = ss at h1 lS ndS isS memS
  generalize ps.filter (fun p=>!p.2.isS) = ls at h2 lL ndL tnL isL memL
  have stAt:∀ {p:Addr×En},p∈ps→∃ xs,H p.1 = some (.tup xs)∧xs[0]? = some (.str p.2.nm)∧xs[2]? = some (.str p.2.v2)∧xs[3]? = some p.2.v3:=fun hp=>(he _ hp).v3
  refine ⟨_,rfl,k,rfl,⟨_,SqT.of (s12.get h0)⟩,?_⟩
  refine comp_selF (ps:=[(k0,K0,(5:Int)),(k1,K1,c)]) (g:=fun p=>V.ref p.1) (fun _=>true) (fun p=>V.str p.2.1) (itIs_tup (s12.get h0)) (show 2≤1000000 by decide) (fun p hp H' R s' hR=>hR) (fun p hp hs H' R s' hR=>?_) fun l3 H3 n3 s3 h3=>?_
  · rcases List.mem_cons.mp hp with rfl | hp
    · exact ⟨_,rfl,k0,_,_,_,rfl,rfl,SqT.of (s'.get (s12.get hk1)),atI_nat (j:=0) rfl,hR H' (Same.refl _)⟩
    · cases List.mem_singleton.mp hp
      exact ⟨_,rfl,k1,_,_,_,rfl,rfl,SqT.of (s'.get (s12.get hk2)),atI_nat (j:=0) rfl,hR H' (Same.refl _)⟩
  have s13:=s12.trans s3
  have h1:=s3.get h1
  have h2:=s3.get h2
  have h3:H3 l3 = some (.lst [V.str K0,V.str K1]):=h3
  refine ⟨_,rfl,l1,rfl,⟨_,SqL.of h1⟩,?_⟩
  refine comp_selF (ps:=ss) (g:=fun p=>V.ref p.1) (fun _=>true) (fun _=>V.bl true) (itIs_list (SqL.of h1)) (by omega) (fun p hp H' R s' hR=>hR) (fun p hp hs H' R s' hR=>?_) fun l4 H4 n4 s4 h4=>?_
  · obtain ⟨hp,nm,kp,og,t,e⟩:=isS p hp
    obtain ⟨xs,hx,_,x2,_⟩:=stAt hp
    have ok:=rt.ok _ (inE hp)
    rw [e] at ok x2
    refine ⟨_,rfl,p.1,_,_,_,rfl,rfl,SqT.of (s'.get (s13.get hx)),atI_nat (j:=2) x2,_,rfl,l3,_,rfl,.inl (SqL.of (s'.get h3)),rfl,rfl,?_⟩
    have:inV (V.str kp) [V.str K0,V.str K1] = true:=by
      rcases ok.2.1 with rfl | rfl <;> decide +kernel
    rw [if_neg Bool.false_ne_true]
    show R (.bl (inV (V.str kp) [V.str K0,V.str K1])) H'
    rw [this]
    exact hR H' (Same.refl _)
  have s14:=s13.trans s4
  have h1:=s4.get h1
  have h2:=s4.get h2
  refine ⟨l4,_,rfl,SqL.of (trues_of h4),_,rfl,iteFc (by rw [all_true]; rfl) ?_⟩
  refine ⟨_,rfl,l2,rfl,⟨_,SqL.of h2⟩,?_⟩
  refine comp_selF (ps:=ls) (g:=fun p=>V.ref p.1) (fun _=>true) (fun p=>V.int p.2.turn) (itIs_list (SqL.of h2)) (by omega) (fun p hp H' R s' hR=>hR) (fun p hp hs H' R s' hR=>?_) fun l5 H5 n5 s5 h5=>?_
  · obtain ⟨hp,nm,sm,n0,t,e⟩:=isL p hp
    obtain ⟨xs,hx,_,_,x3⟩:=stAt hp
    have x3:xs[3]? = some (.int p.2.turn):=by rw [x3,e]; rfl
    exact ⟨_,rfl,p.1,_,_,_,rfl,rfl,SqT.of (s'.get (s14.get hx)),atI_nat (j:=3) x3,hR H' (Same.refl _)⟩
  have s15:=s14.trans s5
  have h1:=s5.get h1
  have h2:=s5.get h2
  rw [List.filter_eq_self.mpr (fun _ _=>rfl),show (ls.map fun p=>V.int p.2.turn) = (ls.map fun p=>p.2.turn).map V.int by rw [List.map_map]; rfl] at h5
  refine ⟨l5,ls.map fun p=>p.2.turn,rfl,SqL.of h5,by rw [List.length_map]; omega,tnL,fun p6 n6=>?_⟩
  have s6:=same_new n6 (.set (fun k=>decide (k∈ls.map fun p=>p.2.turn)) (ls.map fun p=>p.2.turn).length)
  have h6:(upd H5 p6 (.set (fun k=>decide (k∈ls.map fun p=>p.2.turn)) (ls.map fun p=>p.2.turn).length)) p6 = some (.set (fun k=>decide (k∈ls.map fun p=>p.2.turn)) (ls.map fun p=>p.2.turn).length):=upd_same
  generalize upd H5 p6 (.set (fun k=>decide (k∈ls.map fun p=>p.2.turn)) (ls.map fun p=>p.2.turn).length) = H6 at s6 h6
  have s16:=s15.trans s6
  have h1:=s6.get h1
  have h2:=s6.get h2
  refine ⟨p6,_,_,rfl,h6,_,rfl,l2,_,rfl,.inl (SqL.of h2),_,_,rfl,rfl,_,rfl,iteFc (decide_eq_false (by rw [List.length_map,List.length_map]; omega)) ?_⟩
  refine ⟨_,rfl,l2,rfl,⟨_,SqL.of h2⟩,?_⟩
  refine comp_sel (ps:=ls) (g:=fun p=>V.ref p.1) (fun _=>true) (Pn En.turn) Pn.same Pn.upd (itIs_list (SqL.of h2)) (by omega) (fun p hp H' R s' hR=>hR) (fun p hp hs H' R s' hR=>?_) fun l7 H7 y7 n7 s7 h7 e7 q7=>?_
  · obtain ⟨hp,nm,sm,n0,t,e⟩:=isL p hp
    obtain ⟨xs,hx,x0,_,x3⟩:=stAt hp
    have x3:xs[3]? = some (.int p.2.turn):=by rw [x3,e]; rfl
    have hx':=s'.get (s16.get hx)
    refine ⟨_,rfl,p.1,_,_,_,rfl,rfl,SqT.of hx',atI_nat (j:=0) x0,_,rfl,p.1,_,_,_,rfl,rfl,SqT.of hx',atI_nat (j:=3) x3,small (by show 2≤1000000; decide),fun b hb=>?_⟩
    exact hR _ _ (same_new hb _) ⟨b,rfl,upd_same⟩
  rw [List.filter_eq_self.mpr (fun _ _=>rfl)] at e7
  have s17:=s16.trans s7
  have h1:=s7.get h1
  have h2:=s7.get h2
  dsimp only [tNil]
  refine dict_pn h7 e7 q7 ndL (by omega) fun d nd8=>?_
  have s8:=same_new nd8 (.dK (ls.map fun p=>((Sum.inr p.2.nm:Key),V.int p.2.turn)))
  have hd8:(upd H7 d (.dK (ls.map fun p=>((Sum.inr p.2.nm:Key),V.int p.2.turn)))) d = some (.dK (ls.map fun p=>((Sum.inr p.2.nm:Key),V.int p.2.turn))):=upd_same
  dsimp only [gName]
  generalize upd H7 d (.dK (ls.map fun p=>((Sum.inr p.2.nm:Key),V.int p.2.turn))) = H8 at s8 hd8
  have s18:=s17.trans s8
  have h1:=s8.get h1
  have h2:=s8.get h2
  have valT:∀ {o sm n0 t},En.sl o sm n0 t∈ps.map (·.2)→valV (ls.map fun p=>((Sum.inr p.2.nm:Key),V.int p.2.turn)) (Sum.inr o) = some (.int n0):=fun {o sm n0 t} h=>by
    obtain ⟨a,ha⟩:=memL h
    exact val_map (key:=fun p:Addr×En=>p.2.nm) (val:=fun p=>V.int p.2.turn) ndL ha
  have valE:valV (ls.map fun p=>((Sum.inr p.2.nm:Key),V.int p.2.turn)) (Sum.inr EM) = none:=val_none (key:=fun p:Addr×En=>p.2.nm) (val:=fun p=>V.int p.2.turn) fun p hp=>full.nem _ (inE (isL p hp).1)
  refine ⟨_,rfl,l1,rfl,⟨_,SqL.of h1⟩,?_⟩
  refine comp_selF (ps:=ss) (g:=fun p=>V.ref p.1) (fun _=>true) (fun _=>V.bl true) (itIs_list (SqL.of h1)) (by omega) (fun p hp H' R s' hR=>hR) (fun p hp hs H' R s' hR=>?_) fun l9 H9 n9 s9 h9=>?_
  · obtain ⟨hp,nm,kp,og,t,e⟩:=isS p hp
    obtain ⟨xs,hx,_,_,x3⟩:=stAt hp
    have me:=inE hp
    rw [e] at x3 me
    have hx':=s'.get (s18.get hx)
    refine ⟨_,rfl,p.1,_,_,_,rfl,rfl,SqT.of hx',atI_nat (j:=3) x3,?_⟩
    rcases full.org _ _ _ _ me with rfl | ⟨sm,n0,t',hs⟩
    · exact ⟨rfl,_,rfl,iteTc (decide_eq_true rfl) (hR H' (Same.refl _))⟩
    · refine ⟨rfl,_,rfl,iteFc (decide_eq_false fun z=>full.nem _ hs (V.str.inj z)) ?_⟩
      have dg:=DGet.k (k:=Sum.inr og) (s'.get hd8)
      rw [valT hs] at dg
      exact ⟨_,rfl,p.1,_,_,_,rfl,rfl,SqT.of hx',atI_nat (j:=3) x3,_,rfl,d,_,rfl,dg,hR H' (Same.refl _)⟩
  have s19:=s18.trans s9
  have h1:=s9.get h1
  have h2:=s9.get h2
  have hd9:=s9.get hd8
  refine ⟨l9,_,rfl,SqL.of (trues_of h9),_,rfl,iteFc (by rw [all_true]; rfl) ?_⟩
  refine ⟨_,rfl,l1,rfl,⟨_,SqL.of h1⟩,?_⟩
  refine comp_sel (ps:=ss) (g:=fun p=>V.ref p.1) (fun _=>true) (Pn fun e=>begOf (ps.map (·.2)) e.nm) Pn.same Pn.upd (itIs_list (SqL.of h1)) (by omega) (fun p hp H' R s' hR=>hR) (fun p hp hs H' R s' hR=>?_) fun l10 H10 y10 n10 s10 h10 e10 q10=>?_
  · obtain ⟨hp,nm,kp,og,t,e⟩:=isS p hp
    obtain ⟨xs,hx,x0,_,x3⟩:=stAt hp
    have me:=inE hp
    rw [e] at x3 me
    have hx':=s'.get (s19.get hx)
    have dg:=DGet.k (k:=Sum.inr og) (s'.get hd9)
    refine ⟨_,rfl,p.1,_,_,_,rfl,rfl,SqT.of hx',atI_nat (j:=0) x0,_,rfl,d,rfl,.inl ⟨_,.inl (s'.get hd9)⟩,_,rfl,p.1,_,_,_,rfl,rfl,SqT.of hx',atI_nat (j:=3) x3,_,dg,small (by show 2≤1000000; decide),fun b hb=>?_⟩
    refine hR _ _ (same_new hb _) ⟨b,rfl,?_⟩
    rw [upd_same]
    have:(valV (ls.map fun p=>((Sum.inr p.2.nm:Key),V.int p.2.turn)) (Sum.inr og)).getD (.int 0) = .int (begOf (ps.map (·.2)) p.2.nm):=by
      rw [e,show begOf (ps.map (·.2)) (En.st nm kp og t).nm = turnOf (ps.map (·.2)) og from full.begin me]
      rcases full.org _ _ _ _ me with rfl | ⟨sm,n0,t',hs⟩
      · rw [valE,full.none]; rfl
      · rw [valT hs,show turnOf (ps.map (·.2)) og = n0 from full.turn hs]; rfl
    rw [← this]
  rw [List.filter_eq_self.mpr (fun _ _=>rfl)] at e10
  have s110:=s19.trans s10
  have h2:=s10.get h2
  dsimp only [tNil]
  refine dict_pn h10 e10 q10 ndS (by omega) fun b nb=>?_
  have s11:=same_new nb (.dK (ss.map fun p=>((Sum.inr p.2.nm:Key),V.int (begOf (ps.map (·.2)) p.2.nm))))
  have hb11:(upd H10 b (.dK (ss.map fun p=>((Sum.inr p.2.nm:Key),V.int (begOf (ps.map (·.2)) p.2.nm))))) b = some (.dK (ss.map fun p=>((Sum.inr p.2.nm:Key),V.int (begOf (ps.map (·.2)) p.2.nm)))):=upd_same
  dsimp only [gName]
  generalize upd H10 b (.dK (ss.map fun p=>((Sum.inr p.2.nm:Key),V.int (begOf (ps.map (·.2)) p.2.nm)))) = H11 at s11 hb11
  have s111:=s110.trans s11
  have h2:=s11.get h2
  refine ⟨_,rfl,l2,rfl,⟨_,SqL.of h2⟩,?_⟩
  refine comp_selF (ps:=ls) (g:=fun p=>V.ref p.1) (fun _=>true) (fun _=>V.bl true) (itIs_list (SqL.of h2)) (by omega) (fun p hp H' R s' hR=>hR) (fun p hp hs H' R s' hR=>?_) fun l12 H12 n12 s12' h12=>?_
  · obtain ⟨hp,nm,sm,n0,t,e⟩:=isL p hp
    obtain ⟨xs,hx,_,x2,x3⟩:=stAt hp
    have me:=inE hp
    rw [e] at x2 x3 me
    have hx':=s'.get (s111.get hx)
    obtain ⟨kp,og,t',hst⟩:=full.stm _ _ _ _ me
    obtain ⟨a,ha⟩:=memS hst
    have vb:valV (ss.map fun p=>((Sum.inr p.2.nm:Key),V.int (begOf (ps.map (·.2)) p.2.nm))) (Sum.inr sm) = some (.int (begOf (ps.map (·.2)) sm)):=val_map (key:=fun p:Addr×En=>p.2.nm) (val:=fun p=>V.int (begOf (ps.map (·.2)) p.2.nm)) ndS ha
    have dg:=DGet.k (k:=Sum.inr sm) (s'.get hb11)
    rw [vb] at dg
    have lt:begOf (ps.map (·.2)) sm < n0:=by
      rw [full.begin hst]
      rcases full.org _ _ _ _ hst with rfl | ⟨sm2,n2,t2,hs2⟩
      · rw [full.none]; exact full.pos _ _ _ _ me
      · rw [show turnOf (ps.map (·.2)) og = n2 from full.turn hs2]
        exact full.beg _ _ _ _ _ _ _ _ _ _ hst hs2 me
    refine ⟨_,rfl,p.1,_,_,_,rfl,rfl,SqT.of hx',atI_nat (j:=2) x2,_,rfl,b,_,rfl,dg,_,rfl,iteTc rfl ?_⟩
    refine ⟨_,rfl,p.1,_,_,_,rfl,rfl,SqT.of hx',atI_nat (j:=3) x3,_,rfl,_,rfl,p.1,_,_,_,rfl,rfl,SqT.of hx',atI_nat (j:=2) x2,b,_,rfl,dg,_,_,rfl,rfl,?_⟩
    dsimp only
    rw [decide_eq_true lt]
    exact hR H' (Same.refl _)
  refine ⟨l12,_,rfl,SqL.of (trues_of h12),?_⟩
  rw [all_true]
  exact q H12 (s111.trans s12')
def sp_is_head (K:PySem.W.Frag):Sp:=fun vs H Q _=>∃ (h:Addr) (ag:Int) (k n:Addr) (ps:List (Addr×En)) (c:Int),vs = [.ref h]∧HeadAt H h ag k n ps∧KeepAt H k c∧0≤ag∧ag≤999999999∧0≤c∧c≤999999999∧Rise ps∧Rt (ps.map (·.2))∧ps.length≤20∧∀ H',Same H H'→Q (.bl true) H'
theorem KeepAt.same {H H':Hp} {k:Addr} {c:Int} (h:KeepAt H k c) (s:Same H H'):KeepAt H' k c:=by
  obtain ⟨k0,k1,a,b,d⟩:=h
  exact ⟨k0,k1,s.get a,s.get b,s.get d⟩
theorem ok_is_head (T:Txt K mg) (F:Fun K "is_head" "is_head" s_is_head f fd) (D_are_keepers:Def P w K mg base 4 "are_keepers" ["thing"] (sp_are_keepers K)) (D_are_names:Def P w K mg base 5 "are_names" ["thing"] (sp_are_names K)) (D_are_at_one:Def P w K mg base 1 "are_at_one" ["keepers","names"] (sp_are_at_one K)) (D_is_tuple_of:Def P w K mg base 1 "is_tuple_of" ["thing","many"] (sp_is_tuple_of K)) (D_is_between:Def P w K mg base 2 "is_between" ["thing","least","most"] (sp_is_between K)):FnOk P w K mg base CX0 6 f fd ["thing"] (sp_is_head K):=by
  refine F.ok sc_is_head (fun vs H Q E h=>?_) (fun cdv A outer s H vs Q E hr h=>?_)
  · obtain ⟨h,ag,k,n,ps,c,rfl,_⟩:=h
    rfl
  obtain ⟨h,ag,k,n,ps,c,rfl,hd,kp,a0,a1,c0,c1,ri,rt,few,q⟩:=h
  have okv:Ok H (.ref h):=.inr ⟨_,hd.at_⟩
  refine ⟨_,(@pss_cons _ _ _ _ _ (@ps_if _ _ _ _ _ _ _ _ (@PW.pt _ _ _ (@pw_or _ _ _ _ _ _ _ (@pt_not _ _ _ _ (@pt_val _ _ _ (@pe_fn _ _ _ _ _ _ _ _ _ _ D_is_tuple_of (hr.mono (by decide)) rfl (@pa_cons _ _ _ _ _ (pv 0) (@pa_cons _ _ _ _ _ (@pe_int _ _ _ _) (@pa_nil _) (by rfl)) (by rfl)) (by decide) (by rfl) (by rfl)) (by intro _; rfl))) (@pw_or1 _ _ _ _ (@pt_not _ _ _ _ (@pt_val _ _ _ (@pe_fn _ _ _ _ _ _ _ _ _ _ D_is_between (hr.mono (by decide)) rfl (@pa_cons _ _ _ _ _ (@pe_ix _ _ _ _ _ _ _ ix_tup (pv 0) (@pe_int _ _ _ _) (fun _ _=>rfl)) (@pa_cons _ _ _ _ _ (@pe_int _ _ _ _) (@pa_cons _ _ _ _ _ (@pe_globI _ _ _ _ rfl T.c_MOST_NUMBER (by decide)) (@pa_nil _) (by rfl)) (by rfl)) (by rfl)) (by decide) (by rfl) (by rfl)) (by intro _; rfl)))))) (@pss_one _ _ _ (@ps_ret _ _ _ _ (@pe_bl _ _ _ _))) (@pss_nil _)) (@pss_one _ _ _ (@ps_ret _ _ _ _ (@pe_and _ _ _ _ _ _ _ (@pe_fn _ _ _ _ _ _ _ _ _ _ D_are_keepers (hr.mono (by decide)) rfl (@pa_cons _ _ _ _ _ (@pe_ix _ _ _ _ _ _ _ ix_tup (pv 0) (@pe_int _ _ _ _) (fun _ _=>rfl)) (@pa_nil _) (by rfl)) (by decide) (by rfl) (by rfl)) (@pe_and _ _ _ _ _ _ _ (@pe_fn _ _ _ _ _ _ _ _ _ _ D_are_names (hr.mono (by decide)) rfl (@pa_cons _ _ _ _ _ (@pe_ix _ _ _ _ _ _ _ ix_tup (pv 0) (@pe_int _ _ _ _) (fun _ _=>rfl)) (@pa_nil _) (by rfl)) (by decide) (by rfl) (by rfl)) (@pe_one _ _ _ _ _ (@pe_fn _ _ _ _ _ _ _ _ _ _ D_are_at_one (hr.mono (by decide)) rfl (@pa_cons _ _ _ _ _ (@pe_ix _ _ _ _ _ _ _ ix_tup (pv 0) (@pe_int _ _ _ _) (fun _ _=>rfl)) (@pa_cons _ _ _ _ _ (@pe_ix _ _ _ _ _ _ _ ix_tup (pv 0) (@pe_int _ _ _ _) (fun _ _=>rfl)) (@pa_nil _) (by rfl)) (by rfl)) (by decide) (by rfl) (by rfl)))))))),?_⟩
  dsimp only [tNext,tSeq,tIfS]
  refine tOr_p (!tupN H (.ref h) 3) (!betw 0 999999999 (.int ag)) (fun R q=>⟨_,rfl,_,3,rfl,okv,_,rfl,q⟩) (fun _ R q=>⟨_,rfl,h,_,_,_,rfl,rfl,SqT.of hd.at_,rfl,_,0,999999999,rfl,trivial,_,rfl,q⟩) ?_
  rw [tupN_tup hd.at_,betw_ok a0 a1]
  refine iteFc rfl ?_
  refine ⟨_,rfl,h,_,_,_,rfl,rfl,SqT.of hd.at_,rfl,k,c,rfl,kp,c0,c1,fun H1 s1=>⟨_,rfl,iteTc rfl ?_⟩⟩
  refine ⟨_,rfl,h,_,_,_,rfl,rfl,SqT.of (s1.get hd.at_),rfl,n,ps,rfl,s1.get hd.nm,(fun p hp=>(hd.en p hp).same s1),ri,rt,few,fun H2 s2=>⟨_,rfl,iteTc rfl ?_⟩⟩
  have s12:=s1.trans s2
  exact ⟨_,rfl,h,_,_,_,rfl,rfl,SqT.of (s12.get hd.at_),rfl,_,rfl,h,_,_,_,rfl,rfl,SqT.of (s12.get hd.at_),rfl,k,c,n,ps,rfl,kp.same s12,s12.get hd.nm,(fun p hp=>(hd.en p hp).same s12),rt,few,fun H3 s3=>q H3 (s12.trans s3)⟩
end
section
variable {P:Program} {w:World} {K:PySem.W.Frag} {mg:Str→Option Value} {base:Heap} {f:Addr} {fd:FuncData} {PT PU:Addr}
theorem HeadAt.repT {F:Addr→Prop} {H:Hp} {h:Addr} {ag c:Int} {k n:Addr} {ps:List (Addr×En)} {es:List En} (x:HeadAt H h ag k n ps) (kk:KeepAt H k c) (e:ps.map (·.2) = es):Rep F H (.tup (hdT ag c es)) (.ref h):=by
  subst e
  exact x.rep kk
theorem hd_depT (ag c:Int) (es:List En):(Tr.tup (hdT ag c es)).dep≤100:=by
  have:=hd_dep ag c es
  show 1 + Tr.deps (hdT ag c es)≤100
  omega
theorem Rt.gr {es:List En} {s p og ogp:Str} {tn:Int} (r:Rt es) (g:Gr es s p og ogp tn):Rt (es.map (gr s p og ogp tn)):=by
  refine ⟨g.full r.full,fun e he=>?_⟩
  cases e with
  | st nm k o t=>
    obtain ⟨o0,h,_⟩:=gr_st.mp he
    have:=r.ok _ h
    exact this
  | sl nm sm n t=>
    obtain ⟨sm0,h,_⟩:=gr_sl.mp he
    have:=r.ok _ h
    exact this
theorem KeepAt.get {H H':Hp} {k:Addr} {c:Int} (h:KeepAt H k c) (g:∀ b xs,H b = some (.tup xs)→H' b = some (.tup xs)):KeepAt H' k c:=by
  obtain ⟨k0,k1,a,b,d⟩:=h
  exact ⟨k0,k1,g _ _ a,g _ _ b,g _ _ d⟩
def En.isO:En→Bool
  | .st _ _ og _=>!decide (og = EM)
  | _=>false
def sp_law (K:PySem.W.Frag) (PT PU:Addr):Sp:=fun vs H Q _=>∃ (a:Addr) (ns:List Int),vs = [.ref a]∧SqL K H a (ns.map V.int)∧ns.length≤63∧TabH PT LQ LP H∧TabH PU MQ MP H∧PU≠PT∧∀ H',Q (.bl true) H'
theorem ok_law (T:Txt K mg) (F:Fun K "law" "law" s_law f fd) (D__law_names:Def P w K mg base 1 "_law_names" ["_law_row_here","_law_many"] (sp__law_names K)) (D__law_head:Def P w K mg base 2 "_law_head" ["_law_script","_law_names_here"] (sp__law_head K)) (D__law_row:Def P w K mg base 1 "_law_row" ["_law_cell","_law_many"] (sp__law_row K)) (D_grafted:Def P w K mg base 4 "grafted" ["head","stem"] (sp_grafted K PT PU)) (D__law_cell_at:Def P w K mg base 1 "_law_cell_at" ["_law_script","_law_k"] (sp__law_cell_at K)) (D_is_head:Def P w K mg base 6 "is_head" ["thing"] (sp_is_head K)) (D__law_due:Def P w K mg base 2 "_law_due" ["_law_head_here","_law_stem"] (sp__law_due K)) (D__law_history:Def P w K mg base 21 "_law_history" ["_law_head_here","_law_stem"] (sp__law_history K)) (D__law_entry:Def P w K mg base 1 "_law_entry" ["_law_head_here","_law_name"] (sp__law_entry K)):FnOk P w K mg base CX0 22 f fd ["_law_script"] (sp_law K PT PU):=by
  refine F.ok sc_law (fun vs H Q E h=>?_) (fun cdv A outer s H vs Q E hr h=>?_)
  · obtain ⟨a,ns,rfl,_⟩:=h
    rfl
  obtain ⟨a,ns,rfl,hS,hl,tbT,tbU,neTU,q⟩:=h
  have hu:=hu_of hr
  have hu9:=hu9_of hr
  refine ⟨_,(@pss_cons _ _ _ _ _ (@ps_set _ _ (1) _ _ _ _ sc_law.nd rfl (by first | exact Or.inl rfl | exact Or.inr rfl) (@pe_fn _ _ _ _ _ _ _ _ _ _ D__law_names (hr.mono (by decide)) rfl (@pa_cons _ _ _ _ _ (@pe_fn _ _ _ _ _ _ _ _ _ _ D__law_row (hr.mono (by decide)) rfl (@pa_cons _ _ _ _ _ (@pe_fn _ _ _ _ _ _ _ _ _ _ D__law_cell_at (hr.mono (by decide)) rfl (@pa_cons _ _ _ _ _ (pv 0) (@pa_cons _ _ _ _ _ (@pe_int _ _ _ _) (@pa_nil _) (by rfl)) (by rfl)) (by decide) (by rfl) (by rfl)) (@pa_cons _ _ _ _ _ (@pe_int _ _ _ _) (@pa_nil _) (by rfl)) (by rfl)) (by decide) (by rfl) (by rfl)) (@pa_cons _ _ _ _ _ (@pe_int _ _ _ _) (@pa_nil _) (by rfl)) (by rfl)) (by decide) (by rfl) (by rfl)) (by rfl) (by first | exact .inl rfl | exact .inr rfl | assumption)) (@pss_cons _ _ _ _ _ (@ps_set _ _ (2) _ _ _ _ sc_law.nd rfl (by first | exact Or.inl rfl | exact Or.inr rfl) (@pe_fn _ _ _ _ _ _ _ _ _ _ D__law_head (hr.mono (by decide)) rfl (@pa_cons _ _ _ _ _ (pv 0) (@pa_cons _ _ _ _ _ (pv 1) (@pa_nil _) (by rfl)) (by rfl)) (by decide) (by rfl) (by rfl)) (by rfl) (by first | exact .inl rfl | exact .inr rfl | assumption)) (@pss_cons _ _ _ _ _ (@ps_set _ _ (3) _ _ _ _ sc_law.nd rfl (by first | exact Or.inl rfl | exact Or.inr rfl) (@pe_tup _ _ _ _ _ (@pa_cons _ _ _ _ _ (@pe_ix _ _ _ _ _ _ _ ix_tup (pv 2) (@pe_int _ _ _ _) (fun _ _=>rfl)) (@pa_cons _ _ _ _ _ (@pe_ix _ _ _ _ _ _ _ ix_tup (pv 2) (@pe_int _ _ _ _) (fun _ _=>rfl)) (@pa_cons _ _ _ _ _ (@pe_callTy _ _ _ _ _ _ _ _ _ call_tuple_of (by rfl) T.b_tuple bt_tuple (@pa_cons _ _ _ _ _ (@pe_callTy _ _ _ _ _ _ _ _ _ call_list_of (by rfl) T.b_list bt_list (@pa_cons _ _ _ _ _ (@pe_ix _ _ _ _ _ _ _ ix_tup (pv 2) (@pe_int _ _ _ _) (fun _ _=>rfl)) (@pa_nil _) (by rfl)) (by decide) (by decide) (by rfl) (by rfl)) (@pa_nil _) (by rfl)) (by decide) (by decide) (by rfl) (by rfl)) (@pa_nil _) (by rfl)) (by rfl)) (by rfl))) (by rfl) (by first | exact .inl rfl | exact .inr rfl | assumption)) (@pss_cons _ _ _ _ _ (@ps_setC0 _ ["_law_entry_here"] (4) _ _ _ _ _ _ _ _ _ _ _ _ _ sc_law.nd rfl (by first | exact Or.inl rfl | exact Or.inr rfl) rfl (@pi_tup _ _ _ _ (@pe_ix _ _ _ _ _ _ _ ix_tup (pv 2) (@pe_int _ _ _ _) (fun _ _=>rfl))) (by decide +kernel) (fun C s H fp=>⟨(@pg_name _ _ (0) _ (show (["_law_entry_here"]:List Str).Nodup by decide +kernel) rfl (by first | exact Or.inl rfl | exact Or.inr rfl) (by first | exact .inl rfl | exact .inr rfl | assumption)),(@pifs_one _ _ _ (@pt_cmpR _ _ _ _ _ _ _ _ op_eq (@pe_ix _ _ _ _ _ _ _ (ix_tupK (K:=K) (by rfl)) (pv 0) (@pe_int _ _ _ _) (fun _ _=>rfl)) (@pe_int _ _ _ _) (nomark _))),(@pe_ix _ _ _ _ _ _ _ (ix_tupK (K:=K) (by rfl)) (pv 0) (@pe_int _ _ _ _) (fun _ _=>rfl))⟩) (by intro _; rfl) (by rfl) (by first | exact .inl rfl | exact .inr rfl | assumption)) (@pss_cons _ _ _ _ _ (@ps_for _ _ _ _ _ _ _ _ PassesOwn.never rfl (@pi_list _ _ _ _ (@pe_comp0 _ ["_law_entry_here"] _ _ _ _ _ _ _ _ _ _ rfl (@pi_tup _ _ _ _ (@pe_ix _ _ _ _ _ _ _ ix_tup (pv 2) (@pe_int _ _ _ _) (fun _ _=>rfl))) (by decide +kernel) (fun C s H fp=>⟨(@pg_name _ _ (0) _ (show (["_law_entry_here"]:List Str).Nodup by decide +kernel) rfl (by first | exact Or.inl rfl | exact Or.inr rfl) (by first | exact .inl rfl | exact .inr rfl | assumption)),(@pifs_one _ _ _ (@PW.pt _ _ _ (@pw_and _ _ _ _ _ _ _ (@pt_cmpR _ _ _ _ _ _ _ _ op_eq (@pe_ix _ _ _ _ _ _ _ (ix_tupK (K:=K) (by rfl)) (pv 0) (@pe_int _ _ _ _) (fun _ _=>rfl)) (@pe_int _ _ _ _) (nomark _)) (@pw_and1 _ _ _ _ (@pt_cmpR _ _ _ _ _ _ _ _ op_ne (@pe_ix _ _ _ _ _ _ _ (ix_tupK (K:=K) (by rfl)) (pv 0) (@pe_int _ _ _ _) (fun _ _=>rfl)) (@pe_str _ _ _ _) (nomark _)))))),(@pe_ix _ _ _ _ _ _ _ (ix_tupK (K:=K) (by rfl)) (pv 0) (@pe_int _ _ _ _) (fun _ _=>rfl))⟩) (by intro _; rfl))) (@pg_name _ _ (5) _ sc_law.nd rfl (by first | exact Or.inl rfl | exact Or.inr rfl) (by first | exact .inl rfl | exact .inr rfl | assumption)) (@pss_cons _ _ _ _ _ (@ps_set _ _ (6) _ _ _ _ sc_law.nd rfl (by first | exact Or.inl rfl | exact Or.inr rfl) (@pe_fn _ _ _ _ _ _ _ _ _ _ D_grafted (hr.mono (by decide)) rfl (@pa_cons _ _ _ _ _ (pv 2) (@pa_cons _ _ _ _ _ (pv 5) (@pa_nil _) (by rfl)) (by rfl)) (by decide) (by rfl) (by rfl)) (by rfl) (by first | exact .inl rfl | exact .inr rfl | assumption)) (@pss_cons _ _ _ _ _ (@ps_if _ _ _ _ _ _ _ _ (@PW.pt _ _ _ (@pw_or _ _ _ _ _ _ _ (@pt_not _ _ _ _ (@pt_val _ _ _ (@pe_fn _ _ _ _ _ _ _ _ _ _ D_is_head (hr.mono (by decide)) rfl (@pa_cons _ _ _ _ _ (pv 6) (@pa_nil _) (by rfl)) (by decide) (by rfl) (by rfl)) (by intro _; rfl))) (@pw_or1 _ _ _ _ (@pt_cmpR _ _ _ _ _ _ _ _ (op_neR hu9) (pv 6) (@pe_fn _ _ _ _ _ _ _ _ _ _ D__law_due (hr.mono (by decide)) rfl (@pa_cons _ _ _ _ _ (pv 2) (@pa_cons _ _ _ _ _ (pv 5) (@pa_nil _) (by rfl)) (by rfl)) (by decide) (by rfl) (by rfl)) (nomark _))))) (@pss_one _ _ _ (@ps_ret _ _ _ _ (@pe_bl _ _ _ _))) (@pss_nil _)) (@pss_cons _ _ _ _ _ (@ps_for _ _ _ _ _ _ _ _ PassesOwn.never rfl (@pi_list _ _ _ _ (pv 4)) (@pg_name _ _ (7) _ sc_law.nd rfl (by first | exact Or.inl rfl | exact Or.inr rfl) (by first | exact .inl rfl | exact .inr rfl | assumption)) (@pss_one _ _ _ (@ps_if _ _ _ _ _ _ _ _ (@pt_cmpR _ _ _ _ _ _ _ _ (op_neD hu) (@pe_fn _ _ _ _ _ _ _ _ _ _ D__law_history (hr.mono (by decide)) rfl (@pa_cons _ _ _ _ _ (pv 6) (@pa_cons _ _ _ _ _ (pv 7) (@pa_nil _) (by rfl)) (by rfl)) (by decide) (by rfl) (by rfl)) (@pe_fn _ _ _ _ _ _ _ _ _ _ D__law_history (hr.mono (by decide)) rfl (@pa_cons _ _ _ _ _ (pv 2) (@pa_cons _ _ _ _ _ (pv 7) (@pa_nil _) (by rfl)) (by rfl)) (by decide) (by rfl) (by rfl)) (nomark _)) (@pss_one _ _ _ (@ps_ret _ _ _ _ (@pe_bl _ _ _ _))) (@pss_nil _))) (by intro _; rfl)) (@pss_one _ _ _ (@ps_if _ _ _ _ _ _ _ _ (@pt_cmpR _ _ _ _ _ _ _ _ (op_neR hu9) (@pe_fn _ _ _ _ _ _ _ _ _ _ D_grafted (hr.mono (by decide)) rfl (@pa_cons _ _ _ _ _ (pv 6) (@pa_cons _ _ _ _ _ (@pe_ix _ _ _ _ _ _ _ ix_tup (@pe_fn _ _ _ _ _ _ _ _ _ _ D__law_entry (hr.mono (by decide)) rfl (@pa_cons _ _ _ _ _ (pv 2) (@pa_cons _ _ _ _ _ (@pe_ix _ _ _ _ _ _ _ ix_tup (@pe_fn _ _ _ _ _ _ _ _ _ _ D__law_entry (hr.mono (by decide)) rfl (@pa_cons _ _ _ _ _ (pv 2) (@pa_cons _ _ _ _ _ (pv 5) (@pa_nil _) (by rfl)) (by rfl)) (by decide) (by rfl) (by rfl)) (@pe_int _ _ _ _) (fun _ _=>rfl)) (@pa_nil _) (by rfl)) (by rfl)) (by decide) (by rfl) (by rfl)) (@pe_int _ _ _ _) (fun _ _=>rfl)) (@pa_nil _) (by rfl)) (by rfl)) (by decide) (by rfl) (by rfl)) (pv 2) (nomark _)) (@pss_one _ _ _ (@ps_ret _ _ _ _ (@pe_bl _ _ _ _))) (@pss_nil _)))))) (by intro _; rfl)) (@pss_one _ _ _ (@ps_ret _ _ _ _ (@pe_cmpR _ _ _ _ _ _ _ _ (op_eqRT hu9) (pv 2) (pv 3) (nomark _))))))))),?_⟩
  try dsimp only [cxOf,Cx.nox,Cx.wish]
  refine ⟨_,rfl,a,ns,0,rfl,by decide,hS,fun c1=>⟨c1,10,rfl,by decide,by decide,fun r H1 rs s1 n1 h1 l1 b1=>⟨r,rs,20,rfl,h1,by rw [l1]; rfl,b1,by decide,by decide,fun b H2 zs s2 n2 h2 lz nz ndz=>?_⟩⟩⟩
  have s12:=s1.trans s2
  refine ⟨_,rfl,_,rfl,a,b,ns,zs,rfl,s12.seq hS,h2,by rw [lz]; rfl,ndz,nz,fun h H3 ag k n ps c s3 n3 hd3 kp3 few full ri eok a0 a1 c0 c1=>?_⟩
  have s13:=s12.trans s3
  have rt:Rt (ps.map (·.2)):=⟨full,eok⟩
  have good:=full.good (by rw [List.length_map]; exact few)
  have nd:=ri.nd
  have tb3:Tb PT PU H3:=(⟨Ne.symm neTU,tbT,tbU⟩:Tb PT PU H).same s13
  dsimp only [gName]
  refine ⟨_,rfl,h,_,_,_,rfl,rfl,SqT.of hd3.at_,atI_nat (j:=0) rfl,_,rfl,h,_,_,_,rfl,rfl,SqT.of hd3.at_,atI_nat (j:=1) rfl,_,rfl,h,_,_,_,rfl,rfl,SqT.of hd3.at_,atI_nat (j:=2) rfl,n,_,rfl,.inr (SqT.of hd3.nm),fun l4 n4=>⟨l4,_,rfl,.inl ⟨SqL.of upd_same,fun l5 n5=>?_⟩⟩⟩
  have s4:=same_new n4 (.lst (ps.map fun p=>V.ref p.1))
  have s5:=same_new n5 (.tup (ps.map fun p=>V.ref p.1))
  have h5:(upd (upd H3 l4 (.lst (ps.map fun p=>V.ref p.1))) l5 (.tup (ps.map fun p=>V.ref p.1))) l5 = some (.tup (ps.map fun p=>V.ref p.1)):=upd_same
  have s45:=s4.trans s5
  generalize upd (upd H3 l4 (.lst (ps.map fun p=>V.ref p.1))) l5 (.tup (ps.map fun p=>V.ref p.1)) = H5 at s5 h5 s45
  refine ⟨small (by show 3≤1000000; decide),fun h2 nh2=>?_⟩
  have s6:=same_new nh2 (.tup [V.int ag,V.ref k,V.ref l5])
  have h6:(upd H5 h2 (.tup [V.int ag,V.ref k,V.ref l5])) h2 = some (.tup [V.int ag,V.ref k,V.ref l5]):=upd_same
  have s46:=s45.trans s6
  dsimp only [gName]
  generalize upd H5 h2 (.tup [V.int ag,V.ref k,V.ref l5]) = H6 at s6 h6 s46
  have hd6:=hd3.same s46
  have hh6:HeadAt H6 h2 ag k l5 ps:=⟨h6,s6.get h5,hd6.en⟩
  refine ⟨_,rfl,h,_,_,_,rfl,rfl,SqT.of hd6.at_,atI_nat (j:=2) rfl,n,rfl,⟨_,SqT.of hd6.nm⟩,?_⟩
  refine comp_selF (ps:=ps) (g:=fun p=>V.ref p.1) (fun p=>p.2.isS) (fun p=>V.str p.2.nm) (itIs_tup hd6.nm) (by omega) (fun p hp H' R s' hR=>?_) (fun p hp hs H' R s' hR=>?_) fun l7 H7 n7 s7 h7=>?_
  · obtain ⟨a,e⟩:=p
    obtain ⟨ta,_,ha⟩:=hd6.en _ hp
    cases e <;> exact ⟨_,rfl,a,_,_,_,rfl,rfl,SqT.of (s'.get ha),atI_nat (j:=1) rfl,rfl,_,rfl,hR⟩
  · obtain ⟨rr,hrr⟩:=(hd6.en p hp).fst
    exact ⟨_,rfl,p.1,_,_,_,rfl,rfl,SqT.of (s'.get hrr),atI_nat (j:=0) rfl,hR H' (Same.refl _)⟩
  have hd7:=hd6.same s7
  have hh7:=hh6.same s7
  have kp7:=kp3.same (s46.trans s7)
  have tb7:=tb3.same (s46.trans s7)
  have lst:=List.length_filter_le (fun p:Addr×En=>p.2.isS) ps
  have stm:∀ p∈ps.filter (fun p=>p.2.isS),∃ kp og t,En.st p.2.nm kp og t∈ps.map (·.2):=fun p hp=>by
    obtain ⟨g1,g2⟩:=List.mem_filter.mp hp
    obtain ⟨a,e⟩:=p
    cases e with
    | st nm kp og t=>exact ⟨kp,og,t,List.mem_map.mpr ⟨_,g1,rfl⟩⟩
    | sl _ _ _ _=>cases g2
  generalize ps.filter (fun p=>p.2.isS) = ss at h7 lst stm
  refine ⟨_,rfl,h,_,_,_,rfl,rfl,SqT.of hd7.at_,atI_nat (j:=2) rfl,n,rfl,⟨_,SqT.of hd7.nm⟩,?_⟩
  refine comp_selF (ps:=ps) (g:=fun p=>V.ref p.1) (fun p=>p.2.isO) (fun p=>V.str p.2.nm) (itIs_tup hd7.nm) (by omega) (fun p hp H' R s' hR=>?_) (fun p hp hs H' R s' hR=>?_) fun l8 H8 n8 s8 h8=>?_
  · obtain ⟨a,e⟩:=p
    obtain ⟨ta,_,ha⟩:=hd7.en _ hp
    have ha':=s'.get ha
    cases e with
    | sl nm sm tn t=>exact ⟨_,rfl,a,_,_,_,rfl,rfl,SqT.of ha',atI_nat (j:=1) rfl,rfl,_,rfl,iteFc rfl hR⟩
    | st nm kp og t=>exact ⟨_,rfl,a,_,_,_,rfl,rfl,SqT.of ha',atI_nat (j:=1) rfl,rfl,_,rfl,iteTc rfl ⟨_,rfl,a,_,_,_,rfl,rfl,SqT.of ha',atI_nat (j:=3) rfl,rfl,_,rfl,by rw [dec_str]; exact hR⟩⟩
  · obtain ⟨rr,hrr⟩:=(hd7.en p hp).fst
    exact ⟨_,rfl,p.1,_,_,_,rfl,rfl,SqT.of (s'.get hrr),atI_nat (j:=0) rfl,hR H' (Same.refl _)⟩
  have hd8:=hd7.same s8
  have hh8:=hh7.same s8
  have kp8:=kp7.same s8
  have tb8:=tb7.same s8
  have h78:=s8.get h7
  have orl:∀ p∈ps.filter (fun p=>p.2.isO),∃ x og ogp tn,Gr (ps.map (·.2)) p.2.nm x og ogp tn:=fun p hp=>by
    obtain ⟨g1,g2⟩:=List.mem_filter.mp hp
    obtain ⟨a,e⟩:=p
    cases e with
    | sl _ _ _ _=>cases g2
    | st nm kp og t=>
      have ne:og≠EM:=fun z=>by
        have:(!decide (og = EM)) = true:=g2
        rw [decide_eq_true z] at this
        cases this
      have m1:En.st nm kp og t∈ps.map (·.2):=List.mem_map.mpr ⟨_,g1,rfl⟩
      obtain ⟨x,tn,t',m2⟩:=(full.org _ _ _ _ m1).resolve_left ne
      obtain ⟨kp',ogp,t'',m3⟩:=full.stm _ _ _ _ m2
      exact ⟨x,og,ogp,tn,⟨_,_,m1⟩,⟨_,m2⟩,⟨_,_,m3⟩⟩
  generalize ps.filter (fun p=>p.2.isO) = os at h8 orl
  refine ⟨l8,rfl,⟨_,SqL.of h8⟩,for_list (K:=K) (a:=l8) (xs:=os.map fun p=>V.str p.2.nm) (fun i σ H2=>∃ v5 v6 v7,σ = [some (.ref a),some (.ref b),some (.ref h),some (.ref h2),some (.ref l7),v5,v6,v7]∧SameU PT PU H8 H2∧Tb PT PU H2) ⟨none,none,none,rfl,.refl _,tb8⟩ (fun i σ H2 _ ⟨_,_,_,_,u,_⟩=>SqL.of (u.lst tb8 h8)) ?_ ?_⟩
  · rintro i x σ H9 hi ⟨v5,v6,v7,rfl,u9,tb9⟩
    obtain ⟨p,hp,rfl⟩:=List.mem_map.mp (List.mem_of_getElem? hi)
    obtain ⟨x,og,ogp,tn,g⟩:=orl p hp
    generalize p.2.nm = sn at g
    have hd9:=hd8.get (u9.tup tb8)
    have kp9:=kp8.get (u9.tup tb8)
    refine ⟨_,rfl,_,rfl,h,sn,ag,k,n,ps,x,og,ogp,tn,rfl,hd9,few,ri,full,g,tb9,fun hf nf pf H10 u10 tb10 hd10 ef=>?_⟩
    have u810:=u9.trans u10
    have d10:=hd8.get (u810.tup tb8)
    have k10:=kp8.get (u810.tup tb8)
    have nmf:(pf.map fun q=>q.2.nm) = ps.map fun q=>q.2.nm:=by
      have:=congrArg (List.map En.nm) ef
      rw [List.map_map,List.map_map,List.map_map] at this
      exact this.trans (List.map_congr_left fun q _=>gr_nm _)
    have lf:pf.length≤20:=by
      have:=congrArg List.length nmf
      rw [List.length_map,List.length_map] at this
      omega
    have rif:Rise pf:=by unfold Rise; rw [nmf]; exact ri
    have rtf:Rt (pf.map (·.2)):=by rw [ef]; exact rt.gr g
    have goodf:=rtf.full.good (by rw [List.length_map]; exact lf)
    refine ⟨_,rfl,hf,ag,k,nf,pf,c,rfl,hd10,k10,a0,a1,c0,c1,rif,rtf,lf,fun H11 s11=>⟨_,rfl,iteFc rfl ?_⟩⟩
    refine ⟨_,rfl,_,rfl,_,rfl,h,sn,ag,k,n,ps,x,og,ogp,tn,rfl,d10.same s11,few,ri,full,g,fun hu' nu pu H12 s12 hd12 eu=>?_⟩
    have s1012:=s11.trans s12
    refine ⟨_,(fun _=>True),(fun _=>True),hd_depT ag c _,(hd10.same s1012).repT (k10.same s1012) ef,hd12.repT (k10.same s1012) eu,_,rfl,iteFc rfl ?_⟩
    have hdf:=hd10.same s1012
    have hdh:=d10.same s1012
    have u812:=u810.trans (same_u s1012)
    have tb12:=tb10.same s1012
    have h712:=u812.lst tb8 h78
    dsimp only [tNext]
    refine seq_mid (t:=tFor _ _ _) (fun σ' H'=>∃ v7,σ' = [some (.ref a),some (.ref b),some (.ref h),some (.ref h2),some (.ref l7),some (.str sn),some (.ref hf),v7]∧Same H12 H') (fun N hN=>?_) ?_
    · refine ⟨_,rfl,l7,rfl,⟨_,SqL.of h712⟩,for_list (K:=K) (a:=l7) (xs:=ss.map fun p=>V.str p.2.nm) (fun i σ H2=>∃ v7,σ = [some (.ref a),some (.ref b),some (.ref h),some (.ref h2),some (.ref l7),some (.str sn),some (.ref hf),v7]∧Same H12 H2) ⟨_,rfl,Same.refl _⟩ (fun i σ H2 _ ⟨_,_,s2⟩=>SqL.of (s2.get h712)) ?_ (fun σ H2 z=>hN σ H2 z)⟩
      rintro i2 y σ H13 hi2 ⟨v7',rfl,s13'⟩
      obtain ⟨p2,hp2,rfl⟩:=List.mem_map.mp (List.mem_of_getElem? hi2)
      obtain ⟨kz,oz,tz,mz⟩:=stm p2 hp2
      generalize p2.2.nm = z at mz
      obtain ⟨hs,hist⟩:=good.hist mz
      obtain ⟨oz',mz'⟩:∃ o',En.st z kz o' tz∈pf.map (·.2):=by
        rw [ef]
        by_cases y1:z = sn
        · exact ⟨ogp,gr_st.mpr ⟨_,mz,.inl ⟨y1,rfl⟩⟩⟩
        · by_cases y2:z = x
          · exact ⟨og,gr_st.mpr ⟨_,mz,.inr (.inl ⟨y1,y2,rfl⟩)⟩⟩
          · exact ⟨oz,gr_st.mpr ⟨_,mz,.inr (.inr ⟨y1,y2,rfl⟩)⟩⟩
      obtain ⟨hs',hist'⟩:=goodf.hist mz'
      have eh:hs' = hs:=g.hist full hist (by rw [ef] at hist'; exact hist')
      subst eh
      refine ⟨_,rfl,_,rfl,hf,ag,k,nf,pf,z,hs',rfl,hdf.same s13',by omega,by decide,goodf,hist',fun l14 H14 s14 n14 h14=>?_⟩
      refine ⟨_,rfl,_,rfl,h,ag,k,n,ps,z,hs',rfl,hdh.same (s13'.trans s14),by omega,by decide,good,hist,fun l15 H15 s15 n15 h15=>?_⟩
      refine ⟨l14,l15,_,_,rfl,rfl,SqL.of (s15.get h14),SqL.of h15,pure_strs hs',pure_strs hs',_,rfl,iteFc (by rw [if_pos rfl,decide_eq_true rfl]; rfl) ?_⟩
      exact ⟨_,rfl,(s13'.trans s14).trans s15⟩
    · rintro σ H13 ⟨v7',rfl,s13'⟩
      have hdh13:=hdh.same s13'
      have hdf13:=hdf.same s13'
      have tb13:=tb12.same s13'
      obtain ⟨k1,t1,m1⟩:=g.a
      obtain ⟨t2,m2⟩:=g.b
      obtain ⟨e1,p1⟩:=mem_en m1
      obtain ⟨e2,p2⟩:=mem_en m2
      obtain ⟨x1,_,y1⟩:=hdh13.en _ p1
      obtain ⟨x2,_,y2⟩:=hdh13.en _ p2
      refine ⟨_,rfl,_,rfl,_,rfl,_,rfl,h,ag,k,n,ps,_,rfl,hdh13,few,nd,p1,fun H14 s14=>⟨e1,_,_,_,rfl,rfl,SqT.of (s14.get y1),atI_nat (j:=3) rfl,h,ag,k,n,ps,_,rfl,hdh13.same s14,few,nd,p2,fun H15 s15=>?_⟩⟩
      have s1315:=s14.trans s15
      refine ⟨e2,_,_,_,rfl,rfl,SqT.of (s1315.get y2),atI_nat (j:=2) rfl,hf,x,ag,k,nf,pf,sn,og,ogp,tn,rfl,hdf13.same s1315,lf,rif,rtf.full,by rw [ef]; exact g.back full,tb13.same s1315,fun hb nb pb H16 u16 tb16 hd16 eb=>?_⟩
      have u816:=((u812.trans (same_u s13')).trans (same_u s1315)).trans u16
      have eb':pb.map (·.2) = ps.map (·.2):=by rw [eb,ef,g.again full]
      refine ⟨_,rfl,_,(fun _=>True),(fun _=>True),hd_depT ag c _,hd16.repT (kp8.get (u816.tup tb8)) eb',(hd8.get (u816.tup tb8)).repT (kp8.get (u816.tup tb8)) rfl,_,rfl,iteFc rfl ?_⟩
      exact ⟨_,_,_,rfl,u816,tb16⟩
  · rintro σ H9 ⟨v5,v6,v7,rfl,u9,tb9⟩
    have kp9:=kp8.get (u9.tup tb8)
    exact ⟨_,rfl,_,rfl,hdT ag c (ps.map (·.2)),(fun _=>True),(fun _=>True),hd_dep _ _ _,(hd8.get (u9.tup tb8)).rep kp9,(hh8.get (u9.tup tb8)).rep kp9,q _⟩
end
theorem all_mk {l:PySem.W.OpenLaw} {w:World} {K:PySem.W.Frag} {h:Heap} {mg:Str→Option Value} {fa:Addr} (X:K.In h) (G:h.Ns mainGlobals mg) (hfa:mg "law" = some (.ref fa))
    {PU:Addr} {PT:Addr}
    {f0:Addr} {od0 an0:Option Addr} {sl0:Array (Option Value)} {oc0 kV0 dc0 pm0 cd0 ct0:Value}
    {f1:Addr} {od1 an1:Option Addr} {sl1:Array (Option Value)} {oc1 kV1 dc1 pm1 cd1 ct1:Value}
    {f2:Addr} {od2 an2:Option Addr} {sl2:Array (Option Value)} {oc2 kV2 dc2 pm2 cd2 ct2:Value}
    {f3:Addr} {od3 an3:Option Addr} {sl3:Array (Option Value)} {oc3 kV3 dc3 pm3 cd3 ct3:Value}
    {f4:Addr} {od4 an4:Option Addr} {sl4:Array (Option Value)} {oc4 kV4 dc4 pm4 cd4 ct4:Value}
    {f5:Addr} {od5 an5:Option Addr} {sl5:Array (Option Value)} {oc5 kV5 dc5 pm5 cd5 ct5:Value}
    {f6:Addr} {od6 an6:Option Addr} {sl6:Array (Option Value)} {oc6 kV6 dc6 pm6 cd6 ct6:Value}
    {f7:Addr} {od7 an7:Option Addr} {sl7:Array (Option Value)} {oc7 kV7 dc7 pm7 cd7 ct7:Value}
    {f8:Addr} {od8 an8:Option Addr} {sl8:Array (Option Value)} {oc8 kV8 dc8 pm8 cd8 ct8:Value}
    {f9:Addr} {od9 an9:Option Addr} {sl9:Array (Option Value)} {oc9 kV9 dc9 pm9 cd9 ct9:Value}
    {f10:Addr} {od10 an10:Option Addr} {sl10:Array (Option Value)} {oc10 kV10 dc10 pm10 cd10 ct10:Value}
    {f11:Addr} {od11 an11:Option Addr} {sl11:Array (Option Value)} {oc11 kV11 dc11 pm11 cd11 ct11:Value}
    {f12:Addr} {od12 an12:Option Addr} {sl12:Array (Option Value)} {oc12 kV12 dc12 pm12 cd12 ct12:Value}
    {f13:Addr} {od13 an13:Option Addr} {sl13:Array (Option Value)} {oc13 kV13 dc13 pm13 cd13 ct13:Value}
    {f14:Addr} {od14 an14:Option Addr} {sl14:Array (Option Value)} {oc14 kV14 dc14 pm14 cd14 ct14:Value}
    {f15:Addr} {od15 an15:Option Addr} {sl15:Array (Option Value)} {oc15 kV15 dc15 pm15 cd15 ct15:Value}
    {f16:Addr} {od16 an16:Option Addr} {sl16:Array (Option Value)} {oc16 kV16 dc16 pm16 cd16 ct16:Value}
    {f17:Addr} {od17 an17:Option Addr} {sl17:Array (Option Value)} {oc17 kV17 dc17 pm17 cd17 ct17:Value}
    {f18:Addr} {od18 an18:Option Addr} {sl18:Array (Option Value)} {oc18 kV18 dc18 pm18 ct18:Value}
    {cc18:Addr}
    {f19:Addr} {od19 an19:Option Addr} {sl19:Array (Option Value)} {oc19 kV19 dc19 pm19 ct19:Value}
    {cc19:Addr}
    {f20:Addr} {od20 an20:Option Addr} {sl20:Array (Option Value)} {oc20 kV20 dc20 pm20 cd20 ct20:Value}
    {f21:Addr} {od21 an21:Option Addr} {sl21:Array (Option Value)} {oc21 kV21 dc21 pm21 cd21 ct21:Value}
    {f22:Addr} {od22 an22:Option Addr} {sl22:Array (Option Value)} {oc22 kV22 dc22 pm22 cd22 ct22:Value}
    {f23:Addr} {od23 an23:Option Addr} {sl23:Array (Option Value)} {oc23 kV23 dc23 pm23 cd23 ct23:Value}
    {f24:Addr} {od24 an24:Option Addr} {sl24:Array (Option Value)} {oc24 kV24 dc24 pm24 cd24 ct24:Value}
    {f25:Addr} {od25 an25:Option Addr} {sl25:Array (Option Value)} {oc25 kV25 dc25 pm25 cd25 ct25:Value}
    {f26:Addr} {od26 an26:Option Addr} {sl26:Array (Option Value)} {oc26 kV26 dc26 pm26 cd26 ct26:Value}
    {f27:Addr} {od27 an27:Option Addr} {sl27:Array (Option Value)} {oc27 kV27 dc27 pm27 cd27 ct27:Value}
    {f28:Addr} {od28 an28:Option Addr} {sl28:Array (Option Value)} {oc28 kV28 dc28 pm28 cd28 ct28:Value}
    {f29:Addr} {od29 an29:Option Addr} {sl29:Array (Option Value)} {oc29 kV29 dc29 pm29 cd29 ct29:Value}
    {f30:Addr} {od30 an30:Option Addr} {sl30:Array (Option Value)} {oc30 kV30 dc30 pm30 cd30 ct30:Value}
    {t_SIGNS:Tok}
    {t_MOST_NUMBER:Tok}
    {t_NAME_SIGNS:Tok}
    {t_MOST_NAME_SIGNS:Tok}
    {t_MOST_CELL:Tok}
    {t_MOST_BIRTH:Tok}
    {t_SUM_RESTS:Tok}
    {t_STEM:Tok}
    {t_SEAL:Tok}
    {t_MOST_KEEPERS:Tok}
    {t_MOST_NAMES:Tok}
    (a0:PySem.W.nsIn K mainGlobals "is_whole" = some (some (.ref f0))) (l0:K.lookup f0 = some ⟨oc0,od0,.func (PySem.W.fnOf "is_whole" "is_whole" (defArgs s_is_whole) (defBody s_is_whole) (defScope s_is_whole) .none kV0 dc0 pm0 an0 cd0 ct0),sl0⟩) (c0:PySem.W.codeIn K cd0 "is_whole" = true) (k0:PySem.W.keepIn K (.ref f0) = true)
    (a1:PySem.W.nsIn K mainGlobals "is_between" = some (some (.ref f1))) (l1:K.lookup f1 = some ⟨oc1,od1,.func (PySem.W.fnOf "is_between" "is_between" (defArgs s_is_between) (defBody s_is_between) (defScope s_is_between) .none kV1 dc1 pm1 an1 cd1 ct1),sl1⟩) (c1:PySem.W.codeIn K cd1 "is_between" = true) (k1:PySem.W.keepIn K (.ref f1) = true)
    (a2:PySem.W.nsIn K mainGlobals "is_tuple_of" = some (some (.ref f2))) (l2:K.lookup f2 = some ⟨oc2,od2,.func (PySem.W.fnOf "is_tuple_of" "is_tuple_of" (defArgs s_is_tuple_of) (defBody s_is_tuple_of) (defScope s_is_tuple_of) .none kV2 dc2 pm2 an2 cd2 ct2),sl2⟩) (c2:PySem.W.codeIn K cd2 "is_tuple_of" = true) (k2:PySem.W.keepIn K (.ref f2) = true)
    (a3:PySem.W.nsIn K mainGlobals "is_text" = some (some (.ref f3))) (l3:K.lookup f3 = some ⟨oc3,od3,.func (PySem.W.fnOf "is_text" "is_text" (defArgs s_is_text) (defBody s_is_text) (defScope s_is_text) .none kV3 dc3 pm3 an3 cd3 ct3),sl3⟩) (c3:PySem.W.codeIn K cd3 "is_text" = true) (k3:PySem.W.keepIn K (.ref f3) = true)
    (a4:PySem.W.nsIn K mainGlobals "is_name" = some (some (.ref f4))) (l4:K.lookup f4 = some ⟨oc4,od4,.func (PySem.W.fnOf "is_name" "is_name" (defArgs s_is_name) (defBody s_is_name) (defScope s_is_name) .none kV4 dc4 pm4 an4 cd4 ct4),sl4⟩) (c4:PySem.W.codeIn K cd4 "is_name" = true) (k4:PySem.W.keepIn K (.ref f4) = true)
    (a5:PySem.W.nsIn K mainGlobals "is_tag" = some (some (.ref f5))) (l5:K.lookup f5 = some ⟨oc5,od5,.func (PySem.W.fnOf "is_tag" "is_tag" (defArgs s_is_tag) (defBody s_is_tag) (defScope s_is_tag) .none kV5 dc5 pm5 an5 cd5 ct5),sl5⟩) (c5:PySem.W.codeIn K cd5 "is_tag" = true) (k5:PySem.W.keepIn K (.ref f5) = true)
    (a6:PySem.W.nsIn K mainGlobals "is_head" = some (some (.ref f6))) (l6:K.lookup f6 = some ⟨oc6,od6,.func (PySem.W.fnOf "is_head" "is_head" (defArgs s_is_head) (defBody s_is_head) (defScope s_is_head) .none kV6 dc6 pm6 an6 cd6 ct6),sl6⟩) (c6:PySem.W.codeIn K cd6 "is_head" = true) (k6:PySem.W.keepIn K (.ref f6) = true)
    (a7:PySem.W.nsIn K mainGlobals "are_keepers" = some (some (.ref f7))) (l7:K.lookup f7 = some ⟨oc7,od7,.func (PySem.W.fnOf "are_keepers" "are_keepers" (defArgs s_are_keepers) (defBody s_are_keepers) (defScope s_are_keepers) .none kV7 dc7 pm7 an7 cd7 ct7),sl7⟩) (c7:PySem.W.codeIn K cd7 "are_keepers" = true) (k7:PySem.W.keepIn K (.ref f7) = true)
    (a8:PySem.W.nsIn K mainGlobals "is_keeper" = some (some (.ref f8))) (l8:K.lookup f8 = some ⟨oc8,od8,.func (PySem.W.fnOf "is_keeper" "is_keeper" (defArgs s_is_keeper) (defBody s_is_keeper) (defScope s_is_keeper) .none kV8 dc8 pm8 an8 cd8 ct8),sl8⟩) (c8:PySem.W.codeIn K cd8 "is_keeper" = true) (k8:PySem.W.keepIn K (.ref f8) = true)
    (a9:PySem.W.nsIn K mainGlobals "are_rising" = some (some (.ref f9))) (l9:K.lookup f9 = some ⟨oc9,od9,.func (PySem.W.fnOf "are_rising" "are_rising" (defArgs s_are_rising) (defBody s_are_rising) (defScope s_are_rising) .none kV9 dc9 pm9 an9 cd9 ct9),sl9⟩) (c9:PySem.W.codeIn K cd9 "are_rising" = true) (k9:PySem.W.keepIn K (.ref f9) = true)
    (a10:PySem.W.nsIn K mainGlobals "are_names" = some (some (.ref f10))) (l10:K.lookup f10 = some ⟨oc10,od10,.func (PySem.W.fnOf "are_names" "are_names" (defArgs s_are_names) (defBody s_are_names) (defScope s_are_names) .none kV10 dc10 pm10 an10 cd10 ct10),sl10⟩) (c10:PySem.W.codeIn K cd10 "are_names" = true) (k10:PySem.W.keepIn K (.ref f10) = true)
    (a11:PySem.W.nsIn K mainGlobals "is_stem" = some (some (.ref f11))) (l11:K.lookup f11 = some ⟨oc11,od11,.func (PySem.W.fnOf "is_stem" "is_stem" (defArgs s_is_stem) (defBody s_is_stem) (defScope s_is_stem) .none kV11 dc11 pm11 an11 cd11 ct11),sl11⟩) (c11:PySem.W.codeIn K cd11 "is_stem" = true) (k11:PySem.W.keepIn K (.ref f11) = true)
    (a12:PySem.W.nsIn K mainGlobals "is_seal" = some (some (.ref f12))) (l12:K.lookup f12 = some ⟨oc12,od12,.func (PySem.W.fnOf "is_seal" "is_seal" (defArgs s_is_seal) (defBody s_is_seal) (defScope s_is_seal) .none kV12 dc12 pm12 an12 cd12 ct12),sl12⟩) (c12:PySem.W.codeIn K cd12 "is_seal" = true) (k12:PySem.W.keepIn K (.ref f12) = true)
    (a13:PySem.W.nsIn K mainGlobals "are_at_one" = some (some (.ref f13))) (l13:K.lookup f13 = some ⟨oc13,od13,.func (PySem.W.fnOf "are_at_one" "are_at_one" (defArgs s_are_at_one) (defBody s_are_at_one) (defScope s_are_at_one) .none kV13 dc13 pm13 an13 cd13 ct13),sl13⟩) (c13:PySem.W.codeIn K cd13 "are_at_one" = true) (k13:PySem.W.keepIn K (.ref f13) = true)
    (a14:PySem.W.nsIn K mainGlobals "one_called" = some (some (.ref f14))) (l14:K.lookup f14 = some ⟨oc14,od14,.func (PySem.W.fnOf "one_called" "one_called" (defArgs s_one_called) (defBody s_one_called) (defScope s_one_called) .none kV14 dc14 pm14 an14 cd14 ct14),sl14⟩) (c14:PySem.W.codeIn K cd14 "one_called" = true) (k14:PySem.W.keepIn K (.ref f14) = true)
    (a15:PySem.W.nsIn K mainGlobals "named_so" = some (some (.ref f15))) (l15:K.lookup f15 = some ⟨oc15,od15,.func (PySem.W.fnOf "named_so" "named_so" (defArgs s_named_so) (defBody s_named_so) (defScope s_named_so) .none kV15 dc15 pm15 an15 cd15 ct15),sl15⟩) (c15:PySem.W.codeIn K cd15 "named_so" = true) (k15:PySem.W.keepIn K (.ref f15) = true)
    (a16:PySem.W.nsIn K mainGlobals "stem_called" = some (some (.ref f16))) (l16:K.lookup f16 = some ⟨oc16,od16,.func (PySem.W.fnOf "stem_called" "stem_called" (defArgs s_stem_called) (defBody s_stem_called) (defScope s_stem_called) .none kV16 dc16 pm16 an16 cd16 ct16),sl16⟩) (c16:PySem.W.codeIn K cd16 "stem_called" = true) (k16:PySem.W.keepIn K (.ref f16) = true)
    (a17:PySem.W.nsIn K mainGlobals "seal_called" = some (some (.ref f17))) (l17:K.lookup f17 = some ⟨oc17,od17,.func (PySem.W.fnOf "seal_called" "seal_called" (defArgs s_seal_called) (defBody s_seal_called) (defScope s_seal_called) .none kV17 dc17 pm17 an17 cd17 ct17),sl17⟩) (c17:PySem.W.codeIn K cd17 "seal_called" = true) (k17:PySem.W.keepIn K (.ref f17) = true)
    (a18:PySem.W.nsIn K mainGlobals "seals_of" = some (some (.ref f18))) (l18:K.lookup f18 = some ⟨oc18,od18,.func (PySem.W.fnOf "seals_of" "seals_of" (defArgs s_seals_of) (defBody s_seals_of) (defScope s_seals_of) .none kV18 dc18 pm18 an18 (.ref cc18) ct18),sl18⟩) (c18:PySem.W.codeIn K (.ref cc18) "seals_of" = true) (k18:PySem.W.keepIn K (.ref f18) = true) (lh18:PySem.W.codeHdIn K cc18 PT = true) (ln18:K.lookup PT = none)
    (a19:PySem.W.nsIn K mainGlobals "put_among" = some (some (.ref f19))) (l19:K.lookup f19 = some ⟨oc19,od19,.func (PySem.W.fnOf "put_among" "put_among" (defArgs s_put_among) (defBody s_put_among) (defScope s_put_among) .none kV19 dc19 pm19 an19 (.ref cc19) ct19),sl19⟩) (c19:PySem.W.codeIn K (.ref cc19) "put_among" = true) (k19:PySem.W.keepIn K (.ref f19) = true) (lh19:PySem.W.codeHdIn K cc19 PU = true) (ln19:K.lookup PU = none)
    (a20:PySem.W.nsIn K mainGlobals "with_named" = some (some (.ref f20))) (l20:K.lookup f20 = some ⟨oc20,od20,.func (PySem.W.fnOf "with_named" "with_named" (defArgs s_with_named) (defBody s_with_named) (defScope s_with_named) .none kV20 dc20 pm20 an20 cd20 ct20),sl20⟩) (c20:PySem.W.codeIn K cd20 "with_named" = true) (k20:PySem.W.keepIn K (.ref f20) = true)
    (a21:PySem.W.nsIn K mainGlobals "grafted" = some (some (.ref f21))) (l21:K.lookup f21 = some ⟨oc21,od21,.func (PySem.W.fnOf "grafted" "grafted" (defArgs s_grafted) (defBody s_grafted) (defScope s_grafted) .none kV21 dc21 pm21 an21 cd21 ct21),sl21⟩) (c21:PySem.W.codeIn K cd21 "grafted" = true) (k21:PySem.W.keepIn K (.ref f21) = true)
    (a22:PySem.W.nsIn K mainGlobals "with_origin" = some (some (.ref f22))) (l22:K.lookup f22 = some ⟨oc22,od22,.func (PySem.W.fnOf "with_origin" "with_origin" (defArgs s_with_origin) (defBody s_with_origin) (defScope s_with_origin) .none kV22 dc22 pm22 an22 cd22 ct22),sl22⟩) (c22:PySem.W.codeIn K cd22 "with_origin" = true) (k22:PySem.W.keepIn K (.ref f22) = true)
    (a23:PySem.W.nsIn K mainGlobals "_law_cell_at" = some (some (.ref f23))) (l23:K.lookup f23 = some ⟨oc23,od23,.func (PySem.W.fnOf "_law_cell_at" "_law_cell_at" (defArgs s__law_cell_at) (defBody s__law_cell_at) (defScope s__law_cell_at) .none kV23 dc23 pm23 an23 cd23 ct23),sl23⟩) (c23:PySem.W.codeIn K cd23 "_law_cell_at" = true) (k23:PySem.W.keepIn K (.ref f23) = true)
    (a24:PySem.W.nsIn K mainGlobals "_law_row" = some (some (.ref f24))) (l24:K.lookup f24 = some ⟨oc24,od24,.func (PySem.W.fnOf "_law_row" "_law_row" (defArgs s__law_row) (defBody s__law_row) (defScope s__law_row) .none kV24 dc24 pm24 an24 cd24 ct24),sl24⟩) (c24:PySem.W.codeIn K cd24 "_law_row" = true) (k24:PySem.W.keepIn K (.ref f24) = true)
    (a25:PySem.W.nsIn K mainGlobals "_law_names" = some (some (.ref f25))) (l25:K.lookup f25 = some ⟨oc25,od25,.func (PySem.W.fnOf "_law_names" "_law_names" (defArgs s__law_names) (defBody s__law_names) (defScope s__law_names) .none kV25 dc25 pm25 an25 cd25 ct25),sl25⟩) (c25:PySem.W.codeIn K cd25 "_law_names" = true) (k25:PySem.W.keepIn K (.ref f25) = true)
    (a26:PySem.W.nsIn K mainGlobals "_law_head" = some (some (.ref f26))) (l26:K.lookup f26 = some ⟨oc26,od26,.func (PySem.W.fnOf "_law_head" "_law_head" (defArgs s__law_head) (defBody s__law_head) (defScope s__law_head) .none kV26 dc26 pm26 an26 cd26 ct26),sl26⟩) (c26:PySem.W.codeIn K cd26 "_law_head" = true) (k26:PySem.W.keepIn K (.ref f26) = true)
    (a27:PySem.W.nsIn K mainGlobals "_law_history" = some (some (.ref f27))) (l27:K.lookup f27 = some ⟨oc27,od27,.func (PySem.W.fnOf "_law_history" "_law_history" (defArgs s__law_history) (defBody s__law_history) (defScope s__law_history) .none kV27 dc27 pm27 an27 cd27 ct27),sl27⟩) (c27:PySem.W.codeIn K cd27 "_law_history" = true) (k27:PySem.W.keepIn K (.ref f27) = true)
    (a28:PySem.W.nsIn K mainGlobals "_law_entry" = some (some (.ref f28))) (l28:K.lookup f28 = some ⟨oc28,od28,.func (PySem.W.fnOf "_law_entry" "_law_entry" (defArgs s__law_entry) (defBody s__law_entry) (defScope s__law_entry) .none kV28 dc28 pm28 an28 cd28 ct28),sl28⟩) (c28:PySem.W.codeIn K cd28 "_law_entry" = true) (k28:PySem.W.keepIn K (.ref f28) = true)
    (a29:PySem.W.nsIn K mainGlobals "_law_due" = some (some (.ref f29))) (l29:K.lookup f29 = some ⟨oc29,od29,.func (PySem.W.fnOf "_law_due" "_law_due" (defArgs s__law_due) (defBody s__law_due) (defScope s__law_due) .none kV29 dc29 pm29 an29 cd29 ct29),sl29⟩) (c29:PySem.W.codeIn K cd29 "_law_due" = true) (k29:PySem.W.keepIn K (.ref f29) = true)
    (a30:PySem.W.nsIn K mainGlobals "law" = some (some (.ref f30))) (l30:K.lookup f30 = some ⟨oc30,od30,.func (PySem.W.fnOf "law" "law" (defArgs s_law) (defBody s_law) (defScope s_law) .none kV30 dc30 pm30 an30 cd30 ct30),sl30⟩) (c30:PySem.W.codeIn K cd30 "law" = true) (k30:PySem.W.keepIn K (.ref f30) = true)
    (z_all:PySem.W.nsIn K mainGlobals "all" = some none)
    (z_bool:PySem.W.nsIn K mainGlobals "bool" = some none)
    (z_dict:PySem.W.nsIn K mainGlobals "dict" = some none)
    (z_int:PySem.W.nsIn K mainGlobals "int" = some none)
    (z_isinstance:PySem.W.nsIn K mainGlobals "isinstance" = some none)
    (z_len:PySem.W.nsIn K mainGlobals "len" = some none)
    (z_list:PySem.W.nsIn K mainGlobals "list" = some none)
    (z_range:PySem.W.nsIn K mainGlobals "range" = some none)
    (z_set:PySem.W.nsIn K mainGlobals "set" = some none)
    (z_sorted:PySem.W.nsIn K mainGlobals "sorted" = some none)
    (z_str:PySem.W.nsIn K mainGlobals "str" = some none)
    (z_tuple:PySem.W.nsIn K mainGlobals "tuple" = some none)
    (w_SIGNS:PySem.W.nsIn K mainGlobals "SIGNS" = some (some (.str (PySem.Str.ofString " !\"#$&'()*+,-./0123456789:;<=>?@ABCDEFGHIJKLMNOPQRSTUVWXYZ[\\]^_`abcdefghijklmnopqrstuvwxyz{|}~") t_SIGNS)))
    (w_MOST_NUMBER:PySem.W.nsIn K mainGlobals "MOST_NUMBER" = some (some (.int 999999999 t_MOST_NUMBER)))
    (w_NAME_SIGNS:PySem.W.nsIn K mainGlobals "NAME_SIGNS" = some (some (.str (PySem.Str.ofString "0123456789abcdefghijklmnopqrstuvwxyz") t_NAME_SIGNS)))
    (w_MOST_NAME_SIGNS:PySem.W.nsIn K mainGlobals "MOST_NAME_SIGNS" = some (some (.int 8 t_MOST_NAME_SIGNS)))
    (w_MOST_CELL:PySem.W.nsIn K mainGlobals "MOST_CELL" = some (some (.int 999999 t_MOST_CELL)))
    (w_MOST_BIRTH:PySem.W.nsIn K mainGlobals "MOST_BIRTH" = some (some (.int 999999999 t_MOST_BIRTH)))
    (w_SUM_RESTS:PySem.W.nsIn K mainGlobals "SUM_RESTS" = some (some (.int 997 t_SUM_RESTS)))
    (w_STEM:PySem.W.nsIn K mainGlobals "STEM" = some (some (.int 1 t_STEM)))
    (w_SEAL:PySem.W.nsIn K mainGlobals "SEAL" = some (some (.int 2 t_SEAL)))
    (w_MOST_KEEPERS:PySem.W.nsIn K mainGlobals "MOST_KEEPERS" = some (some (.int 8 t_MOST_KEEPERS)))
    (w_MOST_NAMES:PySem.W.nsIn K mainGlobals "MOST_NAMES" = some (some (.int 24 t_MOST_NAMES))) :
    ∃ fd:FuncData,(∀ (s:Shared) (v:Value),BindsTo s fd ⟨[v],[]⟩ [("_law_script",v)])∧(∀ T∈[PU,PT],K.lookup T = none∧∃ c,PySem.W.codeHdIn K c T = true)∧∀ base:Heap,K.In base→base.Ns mainGlobals mg→BmAt mg base→FnOk l.prog w K mg base CX0 22 fa fd ["_law_script"] (sp_law K PT PU):=by
  have e:=hfa.symm.trans (PySem.W.mg_of X G a30)
  cases e
  have T:Txt K mg:=⟨PySem.W.mg_none_of X G z_all,PySem.W.mg_none_of X G z_bool,PySem.W.mg_none_of X G z_dict,PySem.W.mg_none_of X G z_int,PySem.W.mg_none_of X G z_isinstance,PySem.W.mg_none_of X G z_len,PySem.W.mg_none_of X G z_list,PySem.W.mg_none_of X G z_range,PySem.W.mg_none_of X G z_set,PySem.W.mg_none_of X G z_sorted,PySem.W.mg_none_of X G z_str,PySem.W.mg_none_of X G z_tuple,⟨_,PySem.W.mg_of X G w_SIGNS⟩,⟨_,PySem.W.mg_of X G w_MOST_NUMBER⟩,⟨_,PySem.W.mg_of X G w_NAME_SIGNS⟩,⟨_,PySem.W.mg_of X G w_MOST_NAME_SIGNS⟩,⟨_,PySem.W.mg_of X G w_MOST_CELL⟩,⟨_,PySem.W.mg_of X G w_MOST_BIRTH⟩,⟨_,PySem.W.mg_of X G w_SUM_RESTS⟩,⟨_,PySem.W.mg_of X G w_STEM⟩,⟨_,PySem.W.mg_of X G w_SEAL⟩,⟨_,PySem.W.mg_of X G w_MOST_KEEPERS⟩,⟨_,PySem.W.mg_of X G w_MOST_NAMES⟩⟩
  have F0:=fun_mk (st:=s_is_whole) l0 c0 k0
  have b0:=F0.binds (ps:=["thing"]) fun _ _ _ _ _ _ us hl=>match us,hl with | [_],_=>rfl
  have F1:=fun_mk (st:=s_is_between) l1 c1 k1
  have b1:=F1.binds (ps:=["thing","least","most"]) fun _ _ _ _ _ _ us hl=>match us,hl with | [_,_,_],_=>rfl
  have F2:=fun_mk (st:=s_is_tuple_of) l2 c2 k2
  have b2:=F2.binds (ps:=["thing","many"]) fun _ _ _ _ _ _ us hl=>match us,hl with | [_,_],_=>rfl
  have F3:=fun_mk (st:=s_is_text) l3 c3 k3
  have b3:=F3.binds (ps:=["thing","least","most"]) fun _ _ _ _ _ _ us hl=>match us,hl with | [_,_,_],_=>rfl
  have F4:=fun_mk (st:=s_is_name) l4 c4 k4
  have b4:=F4.binds (ps:=["thing"]) fun _ _ _ _ _ _ us hl=>match us,hl with | [_],_=>rfl
  have F5:=fun_mk (st:=s_is_tag) l5 c5 k5
  have b5:=F5.binds (ps:=["thing"]) fun _ _ _ _ _ _ us hl=>match us,hl with | [_],_=>rfl
  have F6:=fun_mk (st:=s_is_head) l6 c6 k6
  have b6:=F6.binds (ps:=["thing"]) fun _ _ _ _ _ _ us hl=>match us,hl with | [_],_=>rfl
  have F7:=fun_mk (st:=s_are_keepers) l7 c7 k7
  have b7:=F7.binds (ps:=["thing"]) fun _ _ _ _ _ _ us hl=>match us,hl with | [_],_=>rfl
  have F8:=fun_mk (st:=s_is_keeper) l8 c8 k8
  have b8:=F8.binds (ps:=["thing"]) fun _ _ _ _ _ _ us hl=>match us,hl with | [_],_=>rfl
  have F9:=fun_mk (st:=s_are_rising) l9 c9 k9
  have b9:=F9.binds (ps:=["named"]) fun _ _ _ _ _ _ us hl=>match us,hl with | [_],_=>rfl
  have F10:=fun_mk (st:=s_are_names) l10 c10 k10
  have b10:=F10.binds (ps:=["thing"]) fun _ _ _ _ _ _ us hl=>match us,hl with | [_],_=>rfl
  have F11:=fun_mk (st:=s_is_stem) l11 c11 k11
  have b11:=F11.binds (ps:=["thing"]) fun _ _ _ _ _ _ us hl=>match us,hl with | [_],_=>rfl
  have F12:=fun_mk (st:=s_is_seal) l12 c12 k12
  have b12:=F12.binds (ps:=["thing"]) fun _ _ _ _ _ _ us hl=>match us,hl with | [_],_=>rfl
  have F13:=fun_mk (st:=s_are_at_one) l13 c13 k13
  have b13:=F13.binds (ps:=["keepers","names"]) fun _ _ _ _ _ _ us hl=>match us,hl with | [_,_],_=>rfl
  have F14:=fun_mk (st:=s_one_called) l14 c14 k14
  have b14:=F14.binds (ps:=["some","name"]) fun _ _ _ _ _ _ us hl=>match us,hl with | [_,_],_=>rfl
  have F15:=fun_mk (st:=s_named_so) l15 c15 k15
  have b15:=F15.binds (ps:=["head","name"]) fun _ _ _ _ _ _ us hl=>match us,hl with | [_,_],_=>rfl
  have F16:=fun_mk (st:=s_stem_called) l16 c16 k16
  have b16:=F16.binds (ps:=["head","name"]) fun _ _ _ _ _ _ us hl=>match us,hl with | [_,_],_=>rfl
  have F17:=fun_mk (st:=s_seal_called) l17 c17 k17
  have b17:=F17.binds (ps:=["head","name"]) fun _ _ _ _ _ _ us hl=>match us,hl with | [_,_],_=>rfl
  have F18:=fun_mk (st:=s_seals_of) l18 c18 k18
  have b18:=F18.binds (ps:=["head","stem"]) fun _ _ _ _ _ _ us hl=>match us,hl with | [_,_],_=>rfl
  have F19:=fun_mk (st:=s_put_among) l19 c19 k19
  have b19:=F19.binds (ps:=["some","one"]) fun _ _ _ _ _ _ us hl=>match us,hl with | [_,_],_=>rfl
  have F20:=fun_mk (st:=s_with_named) l20 c20 k20
  have b20:=F20.binds (ps:=["head","named"]) fun _ _ _ _ _ _ us hl=>match us,hl with | [_,_],_=>rfl
  have F21:=fun_mk (st:=s_grafted) l21 c21 k21
  have b21:=F21.binds (ps:=["head","stem"]) fun _ _ _ _ _ _ us hl=>match us,hl with | [_,_],_=>rfl
  have F22:=fun_mk (st:=s_with_origin) l22 c22 k22
  have b22:=F22.binds (ps:=["stem","origin"]) fun _ _ _ _ _ _ us hl=>match us,hl with | [_,_],_=>rfl
  have F23:=fun_mk (st:=s__law_cell_at) l23 c23 k23
  have b23:=F23.binds (ps:=["_law_script","_law_k"]) fun _ _ _ _ _ _ us hl=>match us,hl with | [_,_],_=>rfl
  have F24:=fun_mk (st:=s__law_row) l24 c24 k24
  have b24:=F24.binds (ps:=["_law_cell","_law_many"]) fun _ _ _ _ _ _ us hl=>match us,hl with | [_,_],_=>rfl
  have F25:=fun_mk (st:=s__law_names) l25 c25 k25
  have b25:=F25.binds (ps:=["_law_row_here","_law_many"]) fun _ _ _ _ _ _ us hl=>match us,hl with | [_,_],_=>rfl
  have F26:=fun_mk (st:=s__law_head) l26 c26 k26
  have b26:=F26.binds (ps:=["_law_script","_law_names_here"]) fun _ _ _ _ _ _ us hl=>match us,hl with | [_,_],_=>rfl
  have F27:=fun_mk (st:=s__law_history) l27 c27 k27
  have b27:=F27.binds (ps:=["_law_head_here","_law_stem"]) fun _ _ _ _ _ _ us hl=>match us,hl with | [_,_],_=>rfl
  have F28:=fun_mk (st:=s__law_entry) l28 c28 k28
  have b28:=F28.binds (ps:=["_law_head_here","_law_name"]) fun _ _ _ _ _ _ us hl=>match us,hl with | [_,_],_=>rfl
  have F29:=fun_mk (st:=s__law_due) l29 c29 k29
  have b29:=F29.binds (ps:=["_law_head_here","_law_stem"]) fun _ _ _ _ _ _ us hl=>match us,hl with | [_,_],_=>rfl
  have F30:=fun_mk (st:=s_law) l30 c30 k30
  refine ⟨PySem.W.fnOf "law" "law" (defArgs s_law) (defBody s_law) (defScope s_law) .none kV30 dc30 pm30 an30 cd30 ct30,fun s v=>.of_eq rfl,fun T hT=>by
    simp only [List.mem_cons,List.not_mem_nil,or_false] at hT
    rcases hT with rfl | rfl
    · exact ⟨ln19,_,lh19⟩
    · exact ⟨ln18,_,lh18⟩,fun base _ _ hBm=>?_⟩
  have D_is_whole:Def l.prog w K mg base 1 "is_whole" ["thing"] (sp_is_whole K):=⟨_,_,ok_is_whole T F0 ,PySem.W.mg_of X G a0,k0,b0⟩
  have D_is_tuple_of:Def l.prog w K mg base 1 "is_tuple_of" ["thing","many"] (sp_is_tuple_of K):=⟨_,_,ok_is_tuple_of T F2 ,PySem.W.mg_of X G a2,k2,b2⟩
  have D_is_text:Def l.prog w K mg base 1 "is_text" ["thing","least","most"] (sp_is_text K):=⟨_,_,ok_is_text T F3 ,PySem.W.mg_of X G a3,k3,b3⟩
  have D_are_rising:Def l.prog w K mg base 1 "are_rising" ["named"] (sp_are_rising K):=⟨_,_,ok_are_rising T F9 ,PySem.W.mg_of X G a9,k9,b9⟩
  have D_are_at_one:Def l.prog w K mg base 1 "are_at_one" ["keepers","names"] (sp_are_at_one K):=⟨_,_,ok_are_at_one T F13 ,PySem.W.mg_of X G a13,k13,b13⟩
  have D_one_called:Def l.prog w K mg base 1 "one_called" ["some","name"] (sp_one_called K):=⟨_,_,ok_one_called T F14 ,PySem.W.mg_of X G a14,k14,b14⟩
  have D_seals_of:Def l.prog w K mg base 1 "seals_of" ["head","stem"] (sp_seals_of K PT):=⟨_,_,ok_seals_of T F18 ⟨⟨cc18,rfl,lh18⟩,hBm⟩ ,PySem.W.mg_of X G a18,k18,b18⟩
  have D_put_among:Def l.prog w K mg base 1 "put_among" ["some","one"] (sp_put_among K PU):=⟨_,_,ok_put_among T F19 ⟨⟨cc19,rfl,lh19⟩,hBm⟩ ,PySem.W.mg_of X G a19,k19,b19⟩
  have D_with_origin:Def l.prog w K mg base 1 "with_origin" ["stem","origin"] (sp_with_origin K):=⟨_,_,ok_with_origin T F22 ,PySem.W.mg_of X G a22,k22,b22⟩
  have D__law_cell_at:Def l.prog w K mg base 1 "_law_cell_at" ["_law_script","_law_k"] (sp__law_cell_at K):=⟨_,_,ok__law_cell_at T F23 ,PySem.W.mg_of X G a23,k23,b23⟩
  have D__law_row:Def l.prog w K mg base 1 "_law_row" ["_law_cell","_law_many"] (sp__law_row K):=⟨_,_,ok__law_row T F24 ,PySem.W.mg_of X G a24,k24,b24⟩
  have D__law_names:Def l.prog w K mg base 1 "_law_names" ["_law_row_here","_law_many"] (sp__law_names K):=⟨_,_,ok__law_names T F25 ,PySem.W.mg_of X G a25,k25,b25⟩
  have D__law_entry:Def l.prog w K mg base 1 "_law_entry" ["_law_head_here","_law_name"] (sp__law_entry K):=⟨_,_,ok__law_entry T F28 ,PySem.W.mg_of X G a28,k28,b28⟩
  have D_is_between:Def l.prog w K mg base 2 "is_between" ["thing","least","most"] (sp_is_between K):=⟨_,_,ok_is_between T F1 D_is_whole,PySem.W.mg_of X G a1,k1,b1⟩
  have D_is_name:Def l.prog w K mg base 2 "is_name" ["thing"] (sp_is_name K):=⟨_,_,ok_is_name T F4 D_is_text,PySem.W.mg_of X G a4,k4,b4⟩
  have D_named_so:Def l.prog w K mg base 2 "named_so" ["head","name"] (sp_named_so K):=⟨_,_,ok_named_so T F15 D_one_called,PySem.W.mg_of X G a15,k15,b15⟩
  have D_with_named:Def l.prog w K mg base 2 "with_named" ["head","named"] (sp_with_named K PU):=⟨_,_,ok_with_named T F20 D_put_among,PySem.W.mg_of X G a20,k20,b20⟩
  have D__law_head:Def l.prog w K mg base 2 "_law_head" ["_law_script","_law_names_here"] (sp__law_head K):=⟨_,_,ok__law_head T F26 D__law_row D__law_cell_at,PySem.W.mg_of X G a26,k26,b26⟩
  have D__law_due:Def l.prog w K mg base 2 "_law_due" ["_law_head_here","_law_stem"] (sp__law_due K):=⟨_,_,ok__law_due T F29 D__law_entry,PySem.W.mg_of X G a29,k29,b29⟩
  have D_is_tag:Def l.prog w K mg base 3 "is_tag" ["thing"] (sp_is_tag K):=⟨_,_,ok_is_tag T F5 D_is_between D_is_tuple_of,PySem.W.mg_of X G a5,k5,b5⟩
  have D_is_keeper:Def l.prog w K mg base 3 "is_keeper" ["thing"] (sp_is_keeper K):=⟨_,_,ok_is_keeper T F8 D_is_tuple_of D_is_name D_is_between,PySem.W.mg_of X G a8,k8,b8⟩
  have D_stem_called:Def l.prog w K mg base 3 "stem_called" ["head","name"] (sp_stem_called K):=⟨_,_,ok_stem_called T F16 D_named_so,PySem.W.mg_of X G a16,k16,b16⟩
  have D_seal_called:Def l.prog w K mg base 3 "seal_called" ["head","name"] (sp_seal_called K):=⟨_,_,ok_seal_called T F17 D_named_so,PySem.W.mg_of X G a17,k17,b17⟩
  have D_are_keepers:Def l.prog w K mg base 4 "are_keepers" ["thing"] (sp_are_keepers K):=⟨_,_,ok_are_keepers T F7 D_are_rising D_is_keeper,PySem.W.mg_of X G a7,k7,b7⟩
  have D_is_stem:Def l.prog w K mg base 4 "is_stem" ["thing"] (sp_is_stem K):=⟨_,_,ok_is_stem T F11 D_is_name D_is_tag D_is_tuple_of D_is_between,PySem.W.mg_of X G a11,k11,b11⟩
  have D_is_seal:Def l.prog w K mg base 4 "is_seal" ["thing"] (sp_is_seal K):=⟨_,_,ok_is_seal T F12 D_is_name D_is_between D_is_tag D_is_tuple_of,PySem.W.mg_of X G a12,k12,b12⟩
  have D_grafted:Def l.prog w K mg base 4 "grafted" ["head","stem"] (sp_grafted K PT PU):=⟨_,_,ok_grafted T F21 D_stem_called D_seal_called D_seals_of D_with_named D_with_origin,PySem.W.mg_of X G a21,k21,b21⟩
  have D_are_names:Def l.prog w K mg base 5 "are_names" ["thing"] (sp_are_names K):=⟨_,_,ok_are_names T F10 D_are_rising D_is_stem D_is_seal,PySem.W.mg_of X G a10,k10,b10⟩
  have D_is_head:Def l.prog w K mg base 6 "is_head" ["thing"] (sp_is_head K):=⟨_,_,ok_is_head T F6 D_are_keepers D_are_names D_are_at_one D_is_tuple_of D_is_between,PySem.W.mg_of X G a6,k6,b6⟩
  have D__law_history:Def l.prog w K mg base 21 "_law_history" ["_law_head_here","_law_stem"] (sp__law_history K):=⟨_,_,ok__law_history T F27 (PySem.W.mg_of X G a27) k27 b27,PySem.W.mg_of X G a27,k27,b27⟩
  exact ok_law T F30 D__law_names D__law_head D__law_row D_grafted D__law_cell_at D_is_head D__law_due D__law_history D__law_entry
theorem walk {l:PySem.W.OpenLaw} {q:Program} {loose:List Str} {XP:(Str→Option Value)→Heap→Prop} {YP:World→Heap→Prop} {d:DefRec} {K:Params→PySem.W.Frag} {PU:Addr} {PT:Addr} (hn:l.most = some 63) (hdf:d.params.defaults = []) (ne:PU≠PT)
    (hY:∀ (w:World) (h:Heap),YP w h→(K w.params).In h) (hT:∀ (w:World) (h:Heap),YP w h→∀ T∈[PU,PT],h.get? T = some (PySem.W.tabObj #[]))
    (F:∀ (w:World) (mg:Str→Option Value) (fa:Addr) (h:Heap),(K w.params).In h→h.Ns mainGlobals mg→mg d.name = some (.ref fa)→
      ∃ fd:FuncData,(∀ (s:Shared) (u:Value),BindsTo s fd ⟨[u],[]⟩ [("_law_script",u)])∧(∀ T∈[PU,PT],(K w.params).lookup T = none∧∃ c,PySem.W.codeHdIn (K w.params) c T = true)∧∀ base:Heap,(K w.params).In base→base.Ns mainGlobals mg→BmAt mg base→FnOk l.prog w (K w.params) mg base CX0 22 fa fd ["_law_script"] (sp_law (K w.params) PT PU)) :
    PySem.W.WalkO q loose XP YP l.row.toRowW d [] (fun f vs=>PySem.call f vs):=
  L2.walk_ofT (n:=63) (k:=22) (x:="_law_script") (CX:=fun _=>CX0) (sp:=fun w=>sp_law (K w.params) PT PU) hn (by decide) hdf ⟨rfl,by decide,by decide⟩ hY hT F (fun _ _ a ns hl hO hS=>⟨a,ns,rfl,hS,hl,.inl (hO.1 _ (by simp)),.inl (hO.1 _ (by simp)),ne,fun _=>rfl⟩) fun _ _ _ _ _ z=>z
end K59
def PySem.W.Fast.tw15641715125113993005:Type:=PySem.Expr
theorem PySem.W.Fast.te15641715125113993005:PySem.Expr = PySem.W.Fast.tw15641715125113993005:=rfl
def PySem.W.Fast.tw90343872475197607:Type:=PySem.Params
theorem PySem.W.Fast.te90343872475197607:PySem.Params = PySem.W.Fast.tw90343872475197607:=rfl
open PySem PySem.W PyProof.Rows
set_option maxRecDepth 100000 in
set_option maxHeartbeats 0 in
theorem PySem.Challenge.cw_stemshelf_k59_grafts_holds : PySem.Challenge.rw_stemshelf_k59_grafts.Holds := by
  w_on; o_law; k_head; (case hw=>w_witness2)
  k_fill
  refine K59.walk (l:=PySem.Challenge.rw_stemshelf_k59_grafts) rfl rfl (by decide) (fun w h Y=>PySem.W.km_in_of Y) (fun w h Y=>PySem.W.km_tabs_of Y) ?F
  case F=>
    intro w mg fa h KX G hmg
    refine' K59.all_mk KX G hmg ?a0 ?l0 ?c0 ?k0 ?a1 ?l1 ?c1 ?k1 ?a2 ?l2 ?c2 ?k2 ?a3 ?l3 ?c3 ?k3 ?a4 ?l4 ?c4 ?k4 ?a5 ?l5 ?c5 ?k5 ?a6 ?l6 ?c6 ?k6 ?a7 ?l7 ?c7 ?k7 ?a8 ?l8 ?c8 ?k8 ?a9 ?l9 ?c9 ?k9 ?a10 ?l10 ?c10 ?k10 ?a11 ?l11 ?c11 ?k11 ?a12 ?l12 ?c12 ?k12 ?a13 ?l13 ?c13 ?k13 ?a14 ?l14 ?c14 ?k14 ?a15 ?l15 ?c15 ?k15 ?a16 ?l16 ?c16 ?k16 ?a17 ?l17 ?c17 ?k17 ?a18 ?l18 ?c18 ?k18 ?lh18 ?ln18 ?a19 ?l19 ?c19 ?k19 ?lh19 ?ln19 ?a20 ?l20 ?c20 ?k20 ?a21 ?l21 ?c21 ?k21 ?a22 ?l22 ?c22 ?k22 ?a23 ?l23 ?c23 ?k23 ?a24 ?l24 ?c24 ?k24 ?a25 ?l25 ?c25 ?k25 ?a26 ?l26 ?c26 ?k26 ?a27 ?l27 ?c27 ?k27 ?a28 ?l28 ?c28 ?k28 ?a29 ?l29 ?c29 ?k29 ?a30 ?l30 ?c30 ?k30 ?z_all ?z_bool ?z_dict ?z_int ?z_isinstance ?z_len ?z_list ?z_range ?z_set ?z_sorted ?z_str ?z_tuple ?w_SIGNS ?w_MOST_NUMBER ?w_NAME_SIGNS ?w_MOST_NAME_SIGNS ?w_MOST_CELL ?w_MOST_BIRTH ?w_SUM_RESTS ?w_STEM ?w_SEAL ?w_MOST_KEEPERS ?w_MOST_NAMES
    (case a0=>k_is)
    (case l0=>k_is)
    (case c0=>k_is)
    (case k0=>k_is)
    (case a1=>k_is)
    (case l1=>k_is)
    (case c1=>k_is)
    (case k1=>k_is)
    (case a2=>k_is)
    (case l2=>k_is)
    (case c2=>k_is)
    (case k2=>k_is)
    (case a3=>k_is)
    (case l3=>k_is)
    (case c3=>k_is)
    (case k3=>k_is)
    (case a4=>k_is)
    (case l4=>k_is)
    (case c4=>k_is)
    (case k4=>k_is)
    (case a5=>k_is)
    (case l5=>k_is)
    (case c5=>k_is)
    (case k5=>k_is)
    (case a6=>k_is)
    (case l6=>k_is)
    (case c6=>k_is)
    (case k6=>k_is)
    (case a7=>k_is)
    (case l7=>k_is)
    (case c7=>k_is)
    (case k7=>k_is)
    (case a8=>k_is)
    (case l8=>k_is)
    (case c8=>k_is)
    (case k8=>k_is)
    (case a9=>k_is)
    (case l9=>k_is)
    (case c9=>k_is)
    (case k9=>k_is)
    (case a10=>k_is)
    (case l10=>k_is)
    (case c10=>k_is)
    (case k10=>k_is)
    (case a11=>k_is)
    (case l11=>k_is)
    (case c11=>k_is)
    (case k11=>k_is)
    (case a12=>k_is)
    (case l12=>k_is)
    (case c12=>k_is)
    (case k12=>k_is)
    (case a13=>k_is)
    (case l13=>k_is)
    (case c13=>k_is)
    (case k13=>k_is)
    (case a14=>k_is)
    (case l14=>k_is)
    (case c14=>k_is)
    (case k14=>k_is)
    (case a15=>k_is)
    (case l15=>k_is)
    (case c15=>k_is)
    (case k15=>k_is)
    (case a16=>k_is)
    (case l16=>k_is)
    (case c16=>k_is)
    (case k16=>k_is)
    (case a17=>k_is)
    (case l17=>k_is)
    (case c17=>k_is)
    (case k17=>k_is)
    (case a18=>k_is)
    (case l18=>k_is)
    (case c18=>k_is)
    (case k18=>k_is)
    (case lh18=>kernel_rfl)
    (case ln18=>kernel_rfl)
    (case a19=>k_is)
    (case l19=>k_is)
    (case c19=>k_is)
    (case k19=>k_is)
    (case lh19=>kernel_rfl)
    (case ln19=>kernel_rfl)
    (case a20=>k_is)
    (case l20=>k_is)
    (case c20=>k_is)
    (case k20=>k_is)
    (case a21=>k_is)
    (case l21=>k_is)
    (case c21=>k_is)
    (case k21=>k_is)
    (case a22=>k_is)
    (case l22=>k_is)
    (case c22=>k_is)
    (case k22=>k_is)
    (case a23=>k_is)
    (case l23=>k_is)
    (case c23=>k_is)
    (case k23=>k_is)
    (case a24=>k_is)
    (case l24=>k_is)
    (case c24=>k_is)
    (case k24=>k_is)
    (case a25=>k_is)
    (case l25=>k_is)
    (case c25=>k_is)
    (case k25=>k_is)
    (case a26=>k_is)
    (case l26=>k_is)
    (case c26=>k_is)
    (case k26=>k_is)
    (case a27=>k_is)
    (case l27=>k_is)
    (case c27=>k_is)
    (case k27=>k_is)
    (case a28=>k_is)
    (case l28=>k_is)
    (case c28=>k_is)
    (case k28=>k_is)
    (case a29=>k_is)
    (case l29=>k_is)
    (case c29=>k_is)
    (case k29=>k_is)
    (case a30=>k_is)
    (case l30=>k_is)
    (case c30=>k_is)
    (case k30=>k_is)
    (case z_all=>k_is)
    (case z_bool=>k_is)
    (case z_dict=>k_is)
    (case z_int=>k_is)
    (case z_isinstance=>k_is)
    (case z_len=>k_is)
    (case z_list=>k_is)
    (case z_range=>k_is)
    (case z_set=>k_is)
    (case z_sorted=>k_is)
    (case z_str=>k_is)
    (case z_tuple=>k_is)
    (case w_SIGNS=>k_is)
    (case w_MOST_NUMBER=>k_is)
    (case w_NAME_SIGNS=>k_is)
    (case w_MOST_NAME_SIGNS=>k_is)
    (case w_MOST_CELL=>k_is)
    (case w_MOST_BIRTH=>k_is)
    (case w_SUM_RESTS=>k_is)
    (case w_STEM=>k_is)
    (case w_SEAL=>k_is)
    (case w_MOST_KEEPERS=>k_is)
    (case w_MOST_NAMES=>k_is)
