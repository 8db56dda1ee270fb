import PyProof.Rows.All
import Wide.All
import OpenK.AllK
import Wide.FinOn
import Lean
import PyProof.EqAt
import PyProof.EqKinds
import PyProof.TupleCall
import PySem.Challenge.RW_stemshelf_k73_rows_refused
set_option Elab.async false
set_option linter.all false
set_option maxRecDepth 100000
namespace L2
open PySem PySem.Spec PyProof.Rows
abbrev Key:=Sum Int Str
def keyIs:Key→Value→Bool
  | .inl k,v=>Value.isInt k v
  | .inr x,v=>Value.isStrOf x v
def keyH (w:World):Key→Int
  | .inl k=>hashInt k
  | .inr x=>hashStr w x
theorem keyIs_shape:∀ {k:Key} {v:Value},keyIs k v = true→(∃ i t,k = Sum.inl i∧v = Value.int i t)∨(∃ x t,k = Sum.inr x∧v = Value.str x t)
  | .inl i,v,h=>by
    obtain ⟨t,e⟩:=Value.isInt_shape (k:=i) (v:=v) h
    exact .inl ⟨i,t,rfl,e⟩
  | .inr x,v,h=>by
    obtain ⟨t,e⟩:=Value.isStrOf_shape (x:=x) (v:=v) h
    exact .inr ⟨x,t,rfl,e⟩
theorem keyIs_int (i:Int) (t:Tok):keyIs (.inl i) (.int i t) = true:=by simp [keyIs,Value.isInt]
theorem keyIs_str (x:Str) (t:Tok):keyIs (.inr x) (.str x t) = true:=by simp [keyIs,Value.isStrOf]
theorem key_ll (a b:Int):decide ((Sum.inl a:Key) = Sum.inl b) = (a == b):=by
  by_cases e:a = b
  · subst e; simp
  · have h:¬ (Sum.inl a:Key) = Sum.inl b:=fun q=>e (Sum.inl.inj q)
    rw [decide_eq_false h]
    exact (beq_eq_false_iff_ne.mpr e).symm
theorem key_rr (a b:Str):decide ((Sum.inr a:Key) = Sum.inr b) = decide (a = b):=by
  by_cases e:a = b
  · subst e; simp
  · have h:¬ (Sum.inr a:Key) = Sum.inr b:=fun q=>e (Sum.inr.inj q)
    rw [decide_eq_false h,decide_eq_false e]
theorem key_lr (a:Int) (b:Str):decide ((Sum.inl a:Key) = Sum.inr b) = false:=decide_eq_false (fun q=>nomatch q)
theorem key_rl (a:Str) (b:Int):decide ((Sum.inr a:Key) = Sum.inl b) = false:=decide_eq_false (fun q=>nomatch q)
def mixKind (prog:Program) (w:World):PySem.KeyKind prog w Key where
  is:=keyIs
  hash:=keyH w
  inj:=fun v a b ha hb=>by
    rcases keyIs_shape ha with ⟨i,t,rfl,rfl⟩ | ⟨x,t,rfl,rfl⟩
    · rcases keyIs_shape hb with ⟨j,u,rfl,e⟩ | ⟨y,u,rfl,e⟩
      · injection e with e1 _; rw [e1]
      · exact nomatch e
    · rcases keyIs_shape hb with ⟨j,u,rfl,e⟩ | ⟨y,u,rfl,e⟩
      · exact nomatch e
      · injection e with e1 _; rw [e1]
  byValue:=fun k v h=>by
    rcases keyIs_shape h with ⟨i,t,rfl,rfl⟩ | ⟨x,t,rfl,rfl⟩ <;> rfl
  pyHash:=fun hv h=>by
    rcases keyIs_shape hv with ⟨i,t,rfl,rfl⟩ | ⟨x,t,rfl,rfl⟩
    · exact wpAny_pyHash_int h
    · exact wpAny_pyHash_str h
  eqBool:=fun hu hv h=>by
    rcases keyIs_shape hu with ⟨i,t,rfl,rfl⟩ | ⟨x,t,rfl,rfl⟩
    · rcases keyIs_shape hv with ⟨j,u,rfl,rfl⟩ | ⟨y,u,rfl,rfl⟩
      · rw [key_ll] at h; exact wpAny_eqBool_int h
      · rw [key_lr] at h; exact SeqAt.EqAt.int_str i t y u _ _ _ _ h
    · rcases keyIs_shape hv with ⟨j,u,rfl,rfl⟩ | ⟨y,u,rfl,rfl⟩
      · rw [key_rl] at h; exact SeqAt.EqAt.str_int x t j u _ _ _ _ h
      · rw [key_rr] at h; exact wpAny_eqBool_str h
  «strs»:=fun k x t v h=>by
    rcases keyIs_shape h with ⟨i,u,rfl,e⟩ | ⟨y,u,rfl,e⟩
    · exact nomatch e
    · injection e with e1 _
      subst e1
      cases v <;> rfl
theorem mixKind_int (prog:Program) (w:World) (i:Int) (t:Tok):(mixKind prog w).is (.inl i) (.int i t) = true:=keyIs_int i t
theorem mixKind_str (prog:Program) (w:World) (x:Str) (t:Tok):(mixKind prog w).is (.inr x) (.str x t) = true:=keyIs_str x t
end L2
namespace L2
open PySem PySem.Spec PyProof.Rows
inductive V where
  | non | bl (b:Bool) | int (i:Int) | str (x:Str) | byt (b:Array UInt8) | flt (b:UInt64) | ref (a:Addr) | ty (n:String)
  deriving DecidableEq
def RelV:V→Value→Prop
  | .non,u=>u = Value.none
  | .bl b,u=>u = Value.bool b
  | .int i,u=>∃ t,u = Value.int i t
  | .str x,u=>∃ t,u = Value.str x t
  | .byt b,u=>∃ t,u = Value.bytes b t
  | .flt b,u=>∃ t,u = Value.float b t
  | .ref a,u=>u = Value.ref a
  | .ty n,u=>u = Value.type n
abbrev Vals:List V→List Value→Prop:=Paired RelV
theorem Vals.length {xs:List V} {us:List Value} (r:Vals xs us):xs.length = us.length:=Paired.length r
theorem Vals.get:∀ {xs:List V} {us:List Value} {i:Nat} {x:V},Vals xs us→xs[i]? = some x→∃ u,us[i]? = some u∧RelV x u
  | _,_,_,_,.nil,e=>by simp at e
  | _,_,0,_,.cons r _,e=>by simp at e; subst e; exact ⟨_,rfl,r⟩
  | _,_,i + 1,x,.cons _ t,e=>by
    obtain ⟨u,h1,h2⟩:=Vals.get (i:=i) (x:=x) t (by simpa using e)
    exact ⟨u,by simpa using h1,h2⟩
theorem Vals.set {x:V} {u:Value} (r:RelV x u):∀ {xs:List V} {us:List Value} (i:Nat),Vals xs us→Vals (xs.set i x) (us.set i u)
  | _,_,_,.nil=>.nil
  | _,_,0,.cons _ t=>.cons r t
  | _,_,i + 1,.cons q t=>.cons q (Vals.set r i t)
theorem Vals.append:∀ {xs ys:List V} {us ws:List Value},Vals xs us→Vals ys ws→Vals (xs ++ ys) (us ++ ws)
  | _,_,_,_,.nil,s=>s
  | _,_,_,_,.cons r t,s=>.cons r (Vals.append t s)
theorem Vals.take:∀ {xs:List V} {us:List Value} (n:Nat),Vals xs us→Vals (xs.take n) (us.take n)
  | _,_,0,_=>.nil
  | _,_,_ + 1,.nil=>.nil
  | _,_,n + 1,.cons r t=>.cons r (Vals.take n t)
theorem Vals.drop:∀ {xs:List V} {us:List Value} (n:Nat),Vals xs us→Vals (xs.drop n) (us.drop n)
  | _,_,0,r=>r
  | _,_,_ + 1,.nil=>.nil
  | _,_,n + 1,.cons _ t=>Vals.drop n t
def RelO:Option V→Option Value→Prop
  | some v,some u=>RelV v u
  | none,none=>True
  | _,_=>False
def KV {κ:Type}:List (κ×V)→List (κ×Value)→Prop:=Paired fun (p:κ×V) (q:κ×Value)=>p.1 = q.1∧RelV p.2 q.2
def kV:Key→V
  | .inl i=>.int i
  | .inr x=>.str x
inductive HO where
  | lst (xs:List V)
  | tup (xs:List V)
  | dK (kvs:List (Key×V)) | dT (kvs:List (List Key×V))
  | set (S:Int→Bool) (n:Nat)
  | ins (C dx:Addr) (fs:List (Str×V))
  | own (x:Addr)
  | xd (fs:List (Str×V))
  | met (f x:Addr)
  | rng (lo hi:Int)
  | frz (o:Obj) (u:HO)
  | tbl (ps:Array Value)
  | ext (φ:Heap→Prop)
abbrev Hp:=Addr→Option HO
def upd (H:Hp) (a:Addr) (o:HO):Hp:=fun b=>if b = a then some o else H b
theorem upd_same {H:Hp} {a:Addr} {o:HO}:upd H a o a = some o:=by unfold upd; rw [if_pos rfl]
theorem upd_ne {H:Hp} {a b:Addr} {o:HO} (h:b≠a):upd H a o b = H b:=by unfold upd; rw [if_neg h]
theorem ne_of {H:Hp} {a b:Addr} {o u:HO} (h:H a = some o) (h':H b = some u) (d:o≠u):a≠b:=by
  intro e; subst e; rw [h] at h'; exact d (Option.some.inj h')
theorem ne_of_none {H:Hp} {a b:Addr} {o:HO} (h:H a = some o) (h':H b = none):a≠b:=by
  intro e; subst e; rw [h] at h'; cases h'
section
variable (P:Program) (w:World)
def ObjOk (H:Hp) (h:Heap) (a:Addr):HO→Prop
  | .lst xs=>xs.length≤sizeLine∧∃ (its:List Value) (n:Nat),Vals xs its∧h.get? a = some { cls:=.type "list",data:=.seq its.toArray n }
  | .tup xs=>xs.length≤sizeLine∧∃ its:List Value,Vals xs its∧IsTup h a its.toArray
  | .dK kvs=>kvs.length≤sizeLine∧(a == sysModules) = false∧∃ vs,KV kvs vs∧h.DictOf (mixKind P w) a vs
  | .dT kvs=>kvs.length≤sizeLine∧(a == sysModules) = false∧∃ xs:List (List Key×Addr×Value),
      Paired (fun (p:List Key×V) (q:List Key×Addr×Value)=>p.1 = q.1∧H q.2.1 = some (.tup (p.1.map kV))∧RelV p.2 q.2.2) kvs xs∧
      ∃ o es ep,h.get? a = some o∧o.ExactDict∧o.data = .dict es ep∧es.toList = xs.map (entryOfKey (tupleKind (mixKind P w)))∧(xs.map (·.1)).Nodup
  | .set S n=>h.SetOf (intKind P w) a S n
  | .ins C dx fs=>H dx = some (.own a)∧fs.length≤1000∧dx≠a∧h.get? a = some (PySem.W.instObj C dx)∧
      ∃ mA,h.Ns1 dx mA∧(∀ f,RelO (fs.lookup f) (mA f))∧PySem.Within mA (fs.map (·.1))
  | .own _=>∃ o,h.get? a = some o
  | .xd fs=>∃ mA,h.Ns1 a mA∧∀ f,RelO (fs.lookup f) (mA f)
  | .rng lo hi=>∃ t u v,h.get? a = some { cls:=.type "range",data:=.fields #[.int lo t,.int hi u,.int 1 v] }
  | .frz o u=>h.get? a = some o∧ObjOk H h a u
  | .tbl ps=>h.get? a = some { cls:=.none,data:=.fields ps }
  | .met f x=>h.get? a = some (PySem.W.methodObj (.ref f) (.ref x))
  | .ext φ=>φ h∧(∃ o,h.get? a = some o)∧∀ h1 h2:Heap,φ h1→(∀ o,h1.get? a = some o→h2.get? a = some o)→φ h2
def HOk (H:Hp) (h:Heap):Prop:=∀ a o,H a = some o→ObjOk P w H h a o
end
section
variable {P:Program} {w:World} {H H':Hp} {h h':Heap} {a:Addr} {o:HO}
theorem ObjOk.lt (x:ObjOk P w H h a o):a < h.objs.size:=by
  cases o with
  | lst xs=>obtain ⟨_,_,_,_,e⟩:=x; exact Heap.lt_size e
  | tup xs=>obtain ⟨_,_,_,p⟩:=x; exact p.lt
  | dK kvs=>obtain ⟨_,_,_,_,o,_,_,e,_⟩:=x; exact Heap.lt_size e
  | dT kvs=>obtain ⟨_,_,_,_,o,_,_,e,_⟩:=x; exact Heap.lt_size e
  | set S n=>obtain ⟨o,_,_,_,e,_⟩:=x; exact Heap.lt_size e
  | ins C dx fs=>obtain ⟨_,_,_,e,_⟩:=x; exact Heap.lt_size e
  | own y=>obtain ⟨_,e⟩:=x; exact Heap.lt_size e
  | xd fs=>obtain ⟨_,⟨_,_,_,e,_⟩,_⟩:=x; exact Heap.lt_size e
  | rng lo hi=>obtain ⟨_,_,_,e⟩:=x; exact Heap.lt_size e
  | frz ob u=>obtain ⟨e,_⟩:=x; exact Heap.lt_size e
  | tbl ps=>exact Heap.lt_size (show h.get? a = some _ from x)
  | met f y=>exact Heap.lt_size (show h.get? a = some _ from x)
  | ext φ=>obtain ⟨_,⟨_,e⟩,_⟩:=x; exact Heap.lt_size e
theorem Paired.mapP {α β:Type} {F G:α→β→Prop}:∀ {l₁:List α} {l₂:List β},Paired F l₁ l₂→(∀ a b,F a b→G a b)→Paired G l₁ l₂
  | _,_,.nil,_=>.nil
  | _,_,.cons r t,f=>.cons (f _ _ r) (Paired.mapP t f)
theorem ObjOk.stay (x:ObjOk P w H h a o) (k:∀ b u,(b = a∨H b = some (.own a))→h.get? b = some u→h'.get? b = some u)
    (ho:∀ b,H b = some (.own a)→H' b = some (.own a)) (ht:∀ b xs,H b = some (.tup xs)→H' b = some (.tup xs)):ObjOk P w H' h' a o:=by
  induction o with
  | lst xs=>obtain ⟨z,its,n,r,e⟩:=x; exact ⟨z,its,n,r,k _ _ (.inl rfl) e⟩
  | tup xs=>obtain ⟨z,its,r,ob,e,c⟩:=x; exact ⟨z,its,r,ob,k _ _ (.inl rfl) e,c⟩
  | dK kvs=>obtain ⟨z,y,vs,r,ob,es,ep,e,c⟩:=x; exact ⟨z,y,vs,r,ob,es,ep,k _ _ (.inl rfl) e,c⟩
  | dT kvs=>
    obtain ⟨z,y,xs,r,ob,es,ep,e,c⟩:=x
    exact ⟨z,y,xs,Paired.mapP r fun p q z=>⟨z.1,ht _ _ z.2.1,z.2.2⟩,ob,es,ep,k _ _ (.inl rfl) e,c⟩
  | set S n=>obtain ⟨ob,es,ep,t,e,c⟩:=x; exact ⟨ob,es,ep,t,k _ _ (.inl rfl) e,c⟩
  | ins C dx fs=>
    obtain ⟨d,z,ne,e,mA,⟨od,es,ep,e2,c⟩,r⟩:=x
    exact ⟨ho _ d,z,ne,k _ _ (.inl rfl) e,mA,⟨od,es,ep,k _ _ (.inr d) e2,c⟩,r⟩
  | own y=>obtain ⟨ob,e⟩:=x; exact ⟨ob,k _ _ (.inl rfl) e⟩
  | xd fs=>obtain ⟨mA,⟨od,es,ep,e,c⟩,r⟩:=x; exact ⟨mA,⟨od,es,ep,k _ _ (.inl rfl) e,c⟩,r⟩
  | rng lo hi=>obtain ⟨t,u,v,e⟩:=x; exact ⟨t,u,v,k _ _ (.inl rfl) e⟩
  | frz ob u ih=>obtain ⟨e,q⟩:=x; exact ⟨k _ _ (.inl rfl) e,ih q⟩
  | tbl ps=>
    have e:h.get? a = some { cls:=.none,data:=.fields ps }:=x
    show h'.get? a = some { cls:=.none,data:=.fields ps }
    exact k a _ (.inl rfl) e
  | met f y=>
    have e:h.get? a = some (PySem.W.methodObj (.ref f) (.ref y)):=x
    show h'.get? a = some (PySem.W.methodObj (.ref f) (.ref y))
    exact k a _ (.inl rfl) e
  | ext φ=>obtain ⟨p,⟨o,e⟩,st⟩:=x; exact ⟨st _ _ p fun o q=>k _ _ (.inl rfl) q,⟨o,k _ _ (.inl rfl) e⟩,st⟩
theorem HOk.lt (x:HOk P w H h) (e:H a = some o):a < h.objs.size:=(x a o e).lt
theorem HOk.fresh (x:HOk P w H h) (e:h.objs.size≤a):H a = none:=by
  cases q:H a with
  | none=>rfl
  | some u=>exact absurd (Nat.lt_of_lt_of_le (x.lt q) e) (Nat.lt_irrefl _)
theorem HOk.kept (x:HOk P w H h) (k:∀ b u,h.get? b = some u→h'.get? b = some u):HOk P w H h':=fun a o e=>
  (x a o e).stay (fun b u _ q=>k b u q) (fun _ q=>q) fun _ _ q=>q
theorem HOk.laid (x:HOk P w H h) (k:∀ b u,h.get? b = some u→h'.get? b = some u) (hp:h.objs.size≤a) (new:ObjOk P w (upd H a o) h' a o):HOk P w (upd H a o) h':=fun b u e=>by
  have hn:=x.fresh hp
  by_cases hb:b = a
  · subst hb; rw [upd_same] at e; cases e; exact new
  · rw [upd_ne hb] at e
    exact (x b u e).stay (fun c v _ q=>k c v q) (fun c q=>by rw [upd_ne (ne_of_none q hn)]; exact q) fun c xs q=>by rw [upd_ne (ne_of_none q hn)]; exact q
end
def Rd (H:Hp) (a:Addr) (u:HO):Prop:=H a = some u∨∃ o,H a = some (.frz o u)
theorem Rd.of {H:Hp} {a:Addr} {u:HO} (h:H a = some u):Rd H a u:=.inl h
theorem Rd.ok {P:Program} {w:World} {H:Hp} {h:Heap} {a:Addr} {u:HO} (r:Rd H a u) (x:HOk P w H h):ObjOk P w H h a u:=by
  rcases r with r | ⟨o,r⟩
  · exact x a u r
  · obtain ⟨_,q⟩:=x a _ r
    exact q
def Mut:Option HO→Prop
  | some (.lst _)=>True
  | some (.dK _)=>True
  | some (.dT _)=>True
  | some (.set _ _)=>True
  | some (.ins _ _ _)=>True
  | some (.ext _)=>True
  | _=>False
section
variable {P:Program} {w:World} {H:Hp} {h h':Heap} {x e:Addr} {o':HO}
theorem HOk.write (ok:HOk P w H h) (mu:Mut (H x)) (he:e = x∨H e = some (.own x)) (k:∀ b u,b≠e→h.get? b = some u→h'.get? b = some u) (heo:∃ u,h'.get? e = some u)
    (new:ObjOk P w (upd H x o') h' x o'):HOk P w (upd H x o') h':=fun b u q=>by
  have nown:∀ c y,H c = some (.own y)→c≠x:=fun c y r z=>by subst z; rw [r] at mu; exact mu
  have ntup:∀ c xs,H c = some (.tup xs)→c≠x:=fun c xs r z=>by subst z; rw [r] at mu; exact mu
  by_cases hb:b = x
  · subst hb; rw [upd_same] at q; cases q; exact new
  · rw [upd_ne hb] at q
    by_cases hbe:b = e
    · have q':H b = some (.own x):=by
        rcases he with z | z
        · exact absurd (hbe.trans z) hb
        · rw [hbe]; exact z
      rw [q] at q'; cases q'
      obtain ⟨v,hv⟩:=heo
      exact ⟨v,by rw [hbe]; exact hv⟩
    · refine (ok b u q).stay (fun c v hc r=>k c v ?_ r) (fun c r=>by rw [upd_ne (nown c b r)]; exact r) fun c xs r=>by rw [upd_ne (ntup c xs r)]; exact r
      rcases hc with rfl | hc
      · exact hbe
      · rintro rfl
        rcases he with z | z
        · exact nown c b hc z
        · rw [hc] at z; cases z; exact hb rfl
end
structure Un (fs ex:List Addr) (H H':Hp) (h h':Heap):Prop where
  keep:∀ b o,h.get? b = some o→H b = none→b ∉ fs→b ∉ ex→h'.get? b = some o
  slot:∀ b o,h.get? b = some o→H b = none→b∈fs→b ∉ ex→∃ sl,h'.get? b = some { o with slots:=sl }
  free:∀ b o,h.get? b = some o→H b = none→b ∉ ex→H' b = none
  there:∀ b o,h.get? b = some o→b ∉ ex→∃ o',h'.get? b = some o'
  tups:∀ b xs,H b = some (.tup xs)→H' b = some (.tup xs)
  frzs:∀ b o u,H b = some (.frz o u)→H' b = some (.frz o u)
  tbls:∀ b ps,H b = some (.tbl ps)→∃ more,H' b = some (.tbl (ps ++ more))
section
variable {fs fs' ex ex':List Addr} {H H1 H2:Hp} {h h1 h2 h':Heap} {a x e:Addr} {o:HO}
theorem Un.any (u:Un fs ex H H1 h h1) {b:Addr} {ob:Obj} (q:h.get? b = some ob) (n:H b = none) (hx:b ∉ ex):∃ sl,h1.get? b = some { ob with slots:=sl }:=by
  by_cases hb:b∈fs
  · exact u.slot b ob q n hb hx
  · exact ⟨ob.slots,u.keep b ob q n hb hx⟩
theorem Un.trans (a:Un fs ex H H1 h h1) (b:Un fs ex H1 H2 h1 h2):Un fs ex H H2 h h2 where
  keep:=fun c ob q n hc hx=>b.keep c ob (a.keep c ob q n hc hx) (a.free c ob q n hx) hc hx
  slot:=fun c ob q n hc hx=>by
    obtain ⟨sl,e1⟩:=a.slot c ob q n hc hx
    obtain ⟨sl',e2⟩:=b.slot c _ e1 (a.free c ob q n hx) hc hx
    exact ⟨sl',e2⟩
  free:=fun c ob q n hx=>by
    obtain ⟨o',e1⟩:=a.there c ob q hx
    exact b.free c o' e1 (a.free c ob q n hx) hx
  there:=fun c ob q hx=>by
    obtain ⟨o',e1⟩:=a.there c ob q hx
    exact b.there c o' e1 hx
  tups:=fun c xs q=>b.tups c xs (a.tups c xs q)
  frzs:=fun c ob xs q=>b.frzs c ob xs (a.frzs c ob xs q)
  tbls:=fun c ps q=>by
    obtain ⟨m1,e1⟩:=a.tbls c ps q
    obtain ⟨m2,e2⟩:=b.tbls c _ e1
    exact ⟨m1 ++ m2,by rw [e2,Array.append_assoc]⟩
theorem Un.kept (k:∀ b u,h.get? b = some u→h'.get? b = some u):Un fs ex H H h h':=
  ⟨fun b ob q _ _ _=>k b ob q,fun b ob q _ _ _=>⟨ob.slots,k b ob q⟩,fun _ _ _ n _=>n,fun b ob q _=>⟨ob,k b ob q⟩,fun _ _ q=>q,fun _ _ _ q=>q,fun _ ps q=>⟨#[],by rw [q]; simp⟩⟩
theorem Un.refl:Un fs ex H H h h:=Un.kept fun _ _ q=>q
theorem Un.laid (k:∀ b u,h.get? b = some u→h'.get? b = some u) (hp:h.objs.size≤a) (hn:H a = none):Un fs ex H (upd H a o) h h' where
  keep:=fun b u q _ _ _=>k b u q
  slot:=fun b u q _ _ _=>⟨u.slots,k b u q⟩
  free:=fun b u q n _=>by rw [upd_ne (Nat.ne_of_lt (Nat.lt_of_lt_of_le (Heap.lt_size q) hp))]; exact n
  there:=fun b u q _=>⟨u,k b u q⟩
  tups:=fun b xs q=>by rw [upd_ne (ne_of_none q hn)]; exact q
  frzs:=fun b u xs q=>by rw [upd_ne (ne_of_none q hn)]; exact q
  tbls:=fun b ps q=>⟨#[],by rw [upd_ne (ne_of_none q hn),q]; simp⟩
theorem Un.write (mu:Mut (H x)) (he:e = x∨H e = some (.own x)) (k:∀ b u,b≠e→h.get? b = some u→h'.get? b = some u) (heo:∃ u,h'.get? e = some u):Un fs ex H (upd H x o) h h':=by
  have hx:∀ b,H b = none→b≠x:=fun b n z=>by subst z; rw [n] at mu; exact mu
  have hb:∀ b,H b = none→b≠e:=fun b n z=>by
    subst z
    rcases he with r | r
    · exact hx b n r
    · rw [n] at r; cases r
  have hm:∀ b u,H b = some u→¬ Mut (some u)→b≠x:=fun b u q nm z=>by subst z; rw [q] at mu; exact nm mu
  refine ⟨fun b u q n _ _=>k b u (hb b n) q,fun b u q n _ _=>⟨u.slots,k b u (hb b n) q⟩,fun b u q n _=>by rw [upd_ne (hx b n)]; exact n,fun b u q _=>?_,
    fun b xs q=>by rw [upd_ne (hm b _ q fun z=>z)]; exact q,fun b u xs q=>by rw [upd_ne (hm b _ q fun z=>z)]; exact q,fun b ps q=>⟨#[],by rw [upd_ne (hm b _ q fun z=>z),q]; simp⟩⟩
  by_cases hbe:b = e
  · subst hbe; exact heo
  · exact ⟨u,k b u hbe q⟩
theorem Un.mono (u:Un fs ex H H1 h h1) (hs:∀ b∈fs,b∈fs') (hx:∀ b∈ex,b∈ex'):Un fs' ex' H H1 h h1:=
  ⟨fun b ob q n hb he=>u.keep b ob q n (fun z=>hb (hs b z)) fun z=>he (hx b z),fun _ _ q n _ he=>u.any q n fun z=>he (hx _ z),fun b ob q n he=>u.free b ob q n fun z=>he (hx b z),fun b ob q he=>u.there b ob q fun z=>he (hx b z),u.tups,u.frzs,u.tbls⟩
end
def trk (h:Heap) (H:Hp):List Addr:=(List.range h.objs.size).filter fun a=>(H a).isSome
def hidT (h:Heap) (H:Hp):Heap:=PySem.W.hideAll h (trk h H)
theorem hidT_size (h:Heap) (H:Hp):(hidT h H).objs.size = h.objs.size:=PySem.W.hideAll_size _ _
theorem hidT_get {h:Heap} {H:Hp} {b:Addr} {o:Obj} (e:h.get? b = some o) (n:H b = none):(hidT h H).get? b = some o:=
  PySem.W.hideAll_get _ e fun hm=>by
    have q:(H b).isSome = true:=(List.mem_filter.mp hm).2
    rw [n] at q; simp at q
theorem of_hidT {h:Heap} {H:Hp} {b:Addr} {o:Obj} (e:(hidT h H).get? b = some o):h.get? b = some o∧H b = none:=by
  have e':h.get? b = some o:=PySem.W.of_hideAll (trk h H) e
  refine ⟨e',?_⟩
  cases q:H b with
  | none=>rfl
  | some x=>
    have hm:b∈trk h H:=List.mem_filter.mpr ⟨List.mem_range.mpr (Heap.lt_size e'),by simp [q]⟩
    have z:(hidT h H).get? b = none:=PySem.W.hideAll_none (trk h H) hm
    rw [z] at e; cases e
def allNews (g h:Heap) (L:Addr):List (Addr×Obj):=(List.range h.objs.size).filterMap fun a=>if a = L∨(g.get? a).isSome = true then none else (h.get? a).map fun o=>(a,o)
def rest (g h:Heap) (L d:Addr):List (Addr×Obj):=(allNews g h L).filter fun p=>decide (p.1≠d)
end L2
namespace L2
open PySem PySem.Spec PyProof.Rows
structure Mod (K:PySem.W.Frag) (mg:Str→Option Value) (base:Heap):Prop where
  kin:K.In base
  glob:base.Ns mainGlobals mg
  blt:∃ mb,base.Ns builtinsNs mb∧∀ x:Str,x≠"__name__"→mb x = bootBuiltins x
  nolimit:base.NoLimit
structure Cx where
  prog:Program
  w:World
  K:PySem.W.Frag
  mg:Str→Option Value
  base:Heap
  A:Around
  N:List Str
  s₀:Shared
  H₀:Hp
  env:Env
  outer:List Env
  stack:List Env
  ex:List Addr
  fn:Str→Bool
  calm:Bool
  pn:List (Addr×Obj)
  xe:Value→Shared→Prop
def frs (l:List Env):List Addr:=l.filterMap (·.frame)
abbrev Cx.fs (X:Cx):List Addr:=frs X.outer
def Vis (sc:Scope) (x:Str):Prop:=sc.names.lookup x = some .local∨sc.names.lookup x = some .cell∨sc.names.lookup x = some .free
def Loc (sc:Scope) (x:Str):Prop:=sc.names.lookup x = some .local∨sc.names.lookup x = some .cell
def Look (env:Env) (h:Heap) (m:Str→Option Value) (x:Str) (u:Value):Prop:=
  (env.kindOf x = some .local∧m x = some u)∨((env.kindOf x = some .cell∨env.kindOf x = some .free)∧∃ c,env.cells.lookup x = some c∧h.IsCell c (some u))
structure Cx.Ok (X:Cx):Prop where
  mod:Mod X.K X.mg X.base
  kind:X.env.scope.kind = .function
  glob:X.env.globals = mainGlobals
  blt:X.env.builtins = builtinsNs
  above:X.s₀.heap.objs.size≤X.env.locals
  inj:∀ x y c,X.env.cells.lookup x = some c→X.env.cells.lookup y = some c→x = y
  has:∀ x,(X.env.kindOf x = some .cell∨X.env.kindOf x = some .free)→∃ c,X.env.cells.lookup x = some c
  cab:∀ x c,X.fn x = true→X.env.cells.lookup x = some c→X.s₀.heap.objs.size≤c
  hd:X.calm = true→X.A.handled = none
  frames:X.A.frames = some X.stack
  stk:X.stack = X.outer∨(X.stack = X.env :: X.outer∧X.env.frame = some X.env.locals)
  exf:∀ b∈X.ex,b≠X.env.locals∧∀ x c,X.env.cells.lookup x = some c→c≠b
  bs:∀ b o,X.base.get? b = some o→X.s₀.heap.get? b = some o∧X.H₀ b = none
  bsz:X.base.objs.size≤X.s₀.heap.objs.size
  noex:∀ b o,X.base.get? b = some o→b ∉ X.ex
  exfs:∀ b∈X.ex,b ∉ X.fs
  funs:X.s₀.heap.FunFrames X.base X.outer
  frf:∀ b∈X.fs,X.H₀ b = none
structure Inv (X:Cx) (pins:List (Addr×Obj)) (σ:List (Option V)) (H:Hp) (s:Shared):Prop where
  ok:X.Ok
  os:s.os = X.s₀.os
  bare:AllBare s.gens
  base:Un X.fs X.ex X.H₀ H X.s₀.heap s.heap
  loc:∃ m,s.heap.Ns X.env.locals m∧∀ (i:Nat) (x:Str) (v:V),X.N[i]? = some x→σ[i]? = some (some v)→Vis X.env.scope x→∃ u,RelV v u∧Look X.env s.heap m x u
  cell:∀ x c,X.env.cells.lookup x = some c→∃ v,s.heap.IsCell c v
  free:H X.env.locals = none
  freeC:∀ x c,X.env.cells.lookup x = some c→H c = none
  pin:∀ p∈X.pn ++ pins,s.heap.get? p.1 = some p.2∧H p.1 = none∧p.1≠X.env.locals∧p.1 ∉ X.fs∧∀ v,p.2.data≠.cell v
  hok:HOk X.prog X.w H s.heap
  len:σ.length = X.N.length
section
variable {X:Cx} {pins:List (Addr×Obj)} {σ:List (Option V)} {H H':Hp} {s:Shared} {h':Heap}
theorem Cx.Ok.nofr (ok:X.Ok) {b:Addr} {o:Obj} (e:X.base.get? b = some o):b ∉ X.fs:=fun hb=>by
  have:=(ok.funs.mem hb).1
  rw [e] at this; cases this
theorem Inv.bs (I:Inv X pins σ H s):∀ b o,X.base.get? b = some o→s.heap.get? b = some o∧H b = none:=fun b o e=>
  ⟨I.base.keep b o (I.ok.bs b o e).1 (I.ok.bs b o e).2 (I.ok.nofr e) (I.ok.noex b o e),I.base.free b o (I.ok.bs b o e).1 (I.ok.bs b o e).2 (I.ok.noex b o e)⟩
theorem Inv.bk (I:Inv X pins σ H s):∀ b o,X.base.get? b = some o→s.heap.get? b = some o:=fun b o e=>(I.bs b o e).1
theorem Inv.mod (I:Inv X pins σ H s):Mod X.K X.mg X.base:=I.ok.mod
theorem Inv.kIn (I:Inv X pins σ H s):X.K.In s.heap:=I.ok.mod.kin.keeps I.bk
theorem Inv.nolimit (I:Inv X pins σ H s):s.heap.NoLimit:=I.ok.mod.nolimit.keeps I.bk
theorem Inv.fr (I:Inv X pins σ H s):∃ m,Fr X.base X.env.locals s.heap m:=
  let ⟨m,hn,_⟩:=I.loc
  ⟨m,hn,I.bk,Nat.le_trans I.ok.bsz I.ok.above⟩
theorem Inv.lt (I:Inv X pins σ H s):X.env.locals < s.heap.objs.size:=let ⟨_,hn,_⟩:=I.loc; hn.lt
theorem Inv.sz (I:Inv X pins σ H s):X.s₀.heap.objs.size≤s.heap.objs.size:=Nat.le_trans I.ok.above (Nat.le_of_lt I.lt)
theorem Inv.nofs (I:Inv X pins σ H s) {a:Addr} (h:s.heap.objs.size≤a):a ∉ X.fs:=fun hb=>by
  obtain ⟨_,o,ho,_⟩:=I.ok.funs.mem hb
  exact absurd (Nat.lt_of_lt_of_le (Heap.lt_size ho) (Nat.le_trans I.sz h)) (Nat.lt_irrefl _)
theorem Inv.cne (I:Inv X pins σ H s):∀ x c,X.env.cells.lookup x = some c→c≠X.env.locals:=fun x c e z=>by
  obtain ⟨v,o,ho,hd⟩:=I.cell x c e
  obtain ⟨m,⟨o',es,ep,ho',hd',_⟩,_⟩:=I.loc
  rw [z,ho'] at ho; cases ho; rw [hd'] at hd; cases hd
theorem Inv.funs (I:Inv X pins σ H s):s.heap.FunFrames X.base X.outer:=by
  have all:∀ (l:List Env),(∀ b∈frs l,b∈X.fs)→X.s₀.heap.FunFrames X.base l→s.heap.FunFrames X.base l:=by
    intro l
    induction l with
    | nil=>intro _ _; trivial
    | cons env r ih=>
      intro hs hl
      obtain ⟨hk,⟨L,o,hf,hn,ho,hd⟩,hr⟩:=hl
      have hL:L∈X.fs:=hs L (by unfold frs; rw [List.filterMap_cons,hf]; exact List.mem_cons_self)
      obtain ⟨sl,e⟩:=I.base.slot L o ho (I.ok.frf L hL) hL fun z=>I.ok.exfs L z hL
      exact ⟨hk,⟨L,_,hf,hn,e,hd⟩,ih (fun b hb=>hs b (by unfold frs; rw [List.filterMap_cons,hf]; exact List.mem_cons_of_mem _ hb)) hr⟩
  exact all X.outer (fun _ hb=>hb) I.ok.funs
theorem Inv.stack (I:Inv X pins σ H s):s.heap.FunFrames X.base X.stack:=by
  rcases I.ok.stk with e | ⟨e,hf⟩
  · rw [e]; exact I.funs
  · rw [e]
    obtain ⟨m,hn,_⟩:=I.loc
    refine .cons (by rw [I.ok.kind]; decide) hf hn ?_ I.funs
    exact Heap.get?_none_of_le (Nat.le_trans I.ok.bsz I.ok.above)
theorem Inv.stkSub (I:Inv X pins σ H s):∀ b∈frs X.stack,b∈X.env.locals :: X.fs:=fun b hb=>by
  rcases I.ok.stk with e | ⟨e,hf⟩
  · rw [e] at hb; exact List.mem_cons_of_mem _ hb
  · rw [e] at hb
    unfold frs at hb
    rw [List.filterMap_cons,hf] at hb
    exact hb
theorem Inv.stkFree (I:Inv X pins σ H s):∀ b∈frs X.stack,H b = none:=fun b hb=>by
  rcases List.mem_cons.mp (I.stkSub b hb) with e | hb
  · rw [e]; exact I.free
  · obtain ⟨_,o,ho,_⟩:=I.ok.funs.mem hb
    exact I.base.free b o ho (I.ok.frf b hb) fun z=>I.ok.exfs b z hb
theorem Inv.step {g':Array GenState} {t':Nat} {d':Drawn} {ch:List Addr} (I:Inv X pins σ H s)
    (hch:∀ b∈ch,(b∈X.ex∨X.s₀.heap.objs.size≤b)∧b≠X.env.locals∧(∀ x c,X.env.cells.lookup x = some c→c≠b)∧∀ p∈X.pn ++ pins,p.1≠b)
    (keep:∀ b o,b≠X.env.locals→b ∉ X.fs→b ∉ ch→s.heap.get? b = some o→H b = none→h'.get? b = some o)
    (slot:∀ b o,b≠X.env.locals→b∈X.fs→b ∉ ch→s.heap.get? b = some o→H b = none→∃ sl,h'.get? b = some { o with slots:=sl }) (free:∀ b o,b ∉ ch→s.heap.get? b = some o→H b = none→H' b = none)
    (there:∀ b o,b ∉ ch→s.heap.get? b = some o→∃ o',h'.get? b = some o')
    (tups:∀ b xs,H b = some (.tup xs)→H' b = some (.tup xs)) (frzs:∀ b o u,H b = some (.frz o u)→H' b = some (.frz o u)) (tbls:∀ b ps,H b = some (.tbl ps)→∃ more,H' b = some (.tbl (ps ++ more)))
    (ns:∀ m,s.heap.Ns X.env.locals m→h'.Ns X.env.locals m) (hok:HOk X.prog X.w H' h') (hg:AllBare g') :
    Inv X pins σ H' { s with heap:=h',gens:=g',drawn:=d',toks:=t' }:=by
  have neL:∀ b o,X.s₀.heap.get? b = some o→b≠X.env.locals:=fun b o e=>Nat.ne_of_lt (Nat.lt_of_lt_of_le (Heap.lt_size e) I.ok.above)
  have neC:∀ b o,X.s₀.heap.get? b = some o→b ∉ X.ex→b ∉ ch:=fun b o e hx hb=>by
    rcases (hch b hb).1 with z | z
    · exact hx z
    · exact absurd (Nat.lt_of_lt_of_le (Heap.lt_size e) z) (Nat.lt_irrefl _)
  have cellK:∀ x c,X.env.cells.lookup x = some c→∀ v,s.heap.IsCell c v→h'.IsCell c v:=fun x c e v ⟨o,ho,hd⟩=>by
    have nch:c ∉ ch:=fun z=>(hch c z).2.2.1 x c e rfl
    by_cases hc:c∈X.fs
    · obtain ⟨sl,q⟩:=slot c o (I.cne x c e) hc nch ho (I.freeC x c e)
      exact ⟨_,q,hd⟩
    · exact ⟨o,keep c o (I.cne x c e) hc nch ho (I.freeC x c e),hd⟩
  refine ⟨I.ok,I.os,hg,⟨fun b o e n hb hx=>?_,fun b o e n hb hx=>?_,fun b o e n hx=>?_,fun b o e hx=>?_,fun b xs e=>tups b xs (I.base.tups b xs e),fun b o xs e=>frzs b o xs (I.base.frzs b o xs e),fun b ps e=>?_⟩,?_,fun x c e=>?_,?_,fun x c e=>?_,fun p hp=>?_,hok,I.len⟩
  · exact keep b o (neL b o e) hb (neC b o e hx) (I.base.keep b o e n hb hx) (I.base.free b o e n hx)
  · obtain ⟨sl,e1⟩:=I.base.slot b o e n hb hx
    obtain ⟨sl',e2⟩:=slot b _ (neL b o e) hb (neC b o e hx) e1 (I.base.free b o e n hx)
    exact ⟨sl',e2⟩
  · obtain ⟨o',e1⟩:=I.base.there b o e hx
    exact free b o' (neC b o e hx) e1 (I.base.free b o e n hx)
  · obtain ⟨o',e1⟩:=I.base.there b o e hx
    exact there b o' (neC b o e hx) e1
  · obtain ⟨m1,e1⟩:=I.base.tbls b ps e
    obtain ⟨m2,e2⟩:=tbls b _ e1
    exact ⟨m1 ++ m2,by rw [e2,Array.append_assoc]⟩
  · obtain ⟨m,hn,hl⟩:=I.loc
    refine ⟨m,ns m hn,fun i x v e1 e2 e3=>?_⟩
    obtain ⟨u,r,l⟩:=hl i x v e1 e2 e3
    refine ⟨u,r,?_⟩
    rcases l with l | ⟨k,c,e,z⟩
    · exact .inl l
    · exact .inr ⟨k,c,e,cellK x c e _ z⟩
  · obtain ⟨v,z⟩:=I.cell x c e
    exact ⟨v,cellK x c e v z⟩
  · obtain ⟨m,⟨o,_,_,ho,_⟩,_⟩:=I.loc
    exact free _ o (fun z=>(hch _ z).2.1 rfl) ho I.free
  · obtain ⟨v,o,ho,hd⟩:=I.cell x c e
    exact free c o (fun z=>(hch c z).2.2.1 x c e rfl) ho (I.freeC x c e)
  · obtain ⟨e,n,ne,nf,d⟩:=I.pin p hp
    have nch:p.1 ∉ ch:=fun z=>(hch p.1 z).2.2.2 p hp rfl
    exact ⟨keep p.1 p.2 ne nf nch e n,free p.1 p.2 nch e n,ne,nf,d⟩
theorem Inv.un {t':Nat} (I:Inv X pins σ H s) (u:Un X.fs [] H H' s.heap h') (hok:HOk X.prog X.w H' h'):Inv X pins σ H' { s with heap:=h',toks:=t' }:=by
  obtain ⟨m,⟨o,es,ep,ho,r⟩,_⟩:=id I.loc
  obtain ⟨sl,hL⟩:=u.any ho I.free (by simp)
  exact I.step (g':=s.gens) (d':=s.drawn) (ch:=[]) (fun _ z=>nomatch z) (fun b o _ hb _ e n=>u.keep b o e n hb (by simp)) (fun b o _ hb _ e n=>u.slot b o e n hb (by simp)) (fun b o _ e n=>u.free b o e n (by simp)) (fun b o _ e=>u.there b o e (by simp)) u.tups u.frzs u.tbls (fun m' hm=>by
    obtain ⟨o',es',ep',ho',r'⟩:=hm
    rw [ho] at ho'; cases ho'
    exact ⟨_,es',ep',hL,r'⟩) hok I.bare
theorem Inv.call {g':Array GenState} {t':Nat} {d':Drawn} {ch:List Addr} (I:Inv X pins σ H s) (u:Un (frs X.stack) ch H H' s.heap h') (hok:HOk X.prog X.w H' h') (hg:AllBare g')
    (hch:∀ b∈ch,(b∈X.ex∨X.s₀.heap.objs.size≤b)∧b≠X.env.locals∧(∀ x c,X.env.cells.lookup x = some c→c≠b)∧∀ p∈X.pn ++ pins,p.1≠b) :
    Inv X pins σ H' { s with heap:=h',gens:=g',drawn:=d',toks:=t' }:=by
  obtain ⟨m,⟨o,es,ep,ho,r⟩,_⟩:=id I.loc
  obtain ⟨sl,hL⟩:=u.any ho I.free fun z=>(hch _ z).2.1 rfl
  exact I.step (ch:=ch) hch (fun b o hL hb hc e n=>u.keep b o e n (fun z=>(List.mem_cons.mp (I.stkSub b z)).elim hL hb) hc) (fun b o _ _ hc e n=>u.any e n hc) (fun b o hc e n=>u.free b o e n hc) (fun b o hc e=>u.there b o e hc) u.tups u.frzs u.tbls (fun m' hm=>by
    obtain ⟨o',es',ep',ho',r'⟩:=hm
    rw [ho] at ho'; cases ho'
    exact ⟨_,es',ep',hL,r'⟩) hok hg
theorem Inv.turned {t':Nat} {it:Addr} (I:Inv X pins σ H s) (k:∀ b o,b≠it→s.heap.get? b = some o→h'.get? b = some o) (hn:H it = none) (hL:it≠X.env.locals)
    (h1:it∈X.ex∨X.s₀.heap.objs.size≤it) (h2:∀ x c,X.env.cells.lookup x = some c→c≠it) (h3:∀ p∈X.pn ++ pins,p.1≠it):Inv X pins σ H { s with heap:=h',toks:=t' }:=by
  have nit:∀ b u,H b = some u→b≠it:=fun b u e z=>by rw [z,hn] at e; cases e
  refine I.step (g':=s.gens) (d':=s.drawn) (ch:=[it]) (fun b hb=>?_) (fun b o _ _ hc e _=>k b o (fun z=>hc (by simp [z])) e) (fun b o _ _ hc e _=>⟨o.slots,k b o (fun z=>hc (by simp [z])) e⟩) (fun _ _ _ _ n=>n)
    (fun b o hc e=>⟨o,k b o (fun z=>hc (by simp [z])) e⟩) (fun _ _ e=>e) (fun _ _ _ e=>e) (fun b ps e=>⟨#[],by rw [e]; simp⟩) (fun m hm=>?_) (fun b u e=>?_) I.bare
  · have e:b = it:=by simpa using hb
    subst e
    exact ⟨h1,hL,h2,h3⟩
  · obtain ⟨o,es,ep,ho,r⟩:=hm
    exact ⟨o,es,ep,k _ o (Ne.symm hL) ho,r⟩
  · refine (I.hok b u e).stay (fun c v hc q=>k c v ?_ q) (fun _ q=>q) fun _ _ q=>q
    rcases hc with z | z
    · rw [z]; exact nit b u e
    · exact nit c _ z
theorem Inv.tok (I:Inv X pins σ H s) (t:Nat):Inv X pins σ H { s with toks:=t }:=I.un (h':=s.heap) (t':=t) Un.refl I.hok
theorem Inv.kept {t':Nat} (I:Inv X pins σ H s) (k:∀ b u,s.heap.get? b = some u→h'.get? b = some u):Inv X pins σ H { s with heap:=h',toks:=t' }:=I.un (Un.kept k) (I.hok.kept k)
theorem Inv.laid {a:Addr} {o:HO} {t':Nat} (I:Inv X pins σ H s) (k:∀ b u,s.heap.get? b = some u→h'.get? b = some u) (hp:s.heap.objs.size≤a) (new:ObjOk X.prog X.w (upd H a o) h' a o) :
    Inv X pins σ (upd H a o) { s with heap:=h',toks:=t' }:=I.un (Un.laid k hp (I.hok.fresh hp)) (I.hok.laid k hp new)
theorem Inv.write {x e:Addr} {o:HO} {t':Nat} (I:Inv X pins σ H s) (mu:Mut (H x)) (he:e = x∨H e = some (.own x)) (k:∀ b u,b≠e→s.heap.get? b = some u→h'.get? b = some u) (heo:∃ u,h'.get? e = some u)
    (new:ObjOk X.prog X.w (upd H x o) h' x o):Inv X pins σ (upd H x o) { s with heap:=h',toks:=t' }:=I.un (Un.write mu he k heo) (I.hok.write mu he k heo new)
theorem Inv.pins_of {pins':List (Addr×Obj)} (I:Inv X pins σ H s) (h:∀ p∈pins',s.heap.get? p.1 = some p.2∧H p.1 = none∧p.1≠X.env.locals∧p.1 ∉ X.fs∧∀ v,p.2.data≠.cell v):Inv X pins' σ H s:=
  ⟨I.ok,I.os,I.bare,I.base,I.loc,I.cell,I.free,I.freeC,fun p hp=>(List.mem_append.mp hp).elim (fun z=>I.pin p (List.mem_append_left _ z)) (h p),I.hok,I.len⟩
theorem nodup_ix {N:List Str} (hN:N.Nodup) {i j:Nat} {x:Str} (a:N[i]? = some x) (b:N[j]? = some x):i = j:=by
  obtain ⟨h1,e1⟩:=List.getElem?_eq_some_iff.mp a
  obtain ⟨h2,e2⟩:=List.getElem?_eq_some_iff.mp b
  exact (List.getElem_inj hN).mp (e1.trans e2.symm)
theorem store_ok2 {M:Model} {A:Around} {E:Value→Shared→Prop} {i:Nat} {x:Str} {v:V} {u:Value} {Q:Unit→Shared→Prop} (I:Inv X pins σ H s) (hN:X.N.Nodup) (hi:X.N[i]? = some x) (hx:Loc X.env.scope x) (r:RelV v u)
    (h:∀ s',Inv X pins (σ.set i (some v)) H s'→(∃ a,Heap.SameBut a s.heap s'.heap∧(a = X.env.locals∨X.env.cells.lookup x = some a))→Q () s') (hf:X.fn x = true∨X.env.scope.names.lookup x = some .local:=by first | exact .inl rfl | exact .inr rfl | assumption):wpAny M A (storeName X.env x u) Q E s:=by
  obtain ⟨m,hn,hl⟩:=id I.loc
  have hcls:(X.env.scope.kind == .class || (X.env.scope.kind == .module && X.env.locals != X.env.globals)) = false:=by rw [I.ok.kind]; rfl
  have hiσ:i < σ.length:=by rw [I.len]; exact (List.getElem?_eq_some_iff.mp hi).1
  have cne:=I.cne
  have tracked:∀ {a:Addr} {h':Heap},(∃ o,s.heap.get? a = some o∧H a = none)→Heap.SameBut a s.heap h'→HOk X.prog X.w H h':=fun {a h'} ha hs b ob e=>by
    obtain ⟨_,_,hfree⟩:=ha
    refine (I.hok b ob e).stay (fun c w' hc q=>(hs.2 c ?_).trans q) (fun _ q=>q) fun _ _ q=>q
    rintro rfl
    rcases hc with rfl | hc
    · rw [hfree] at e; cases e
    · rw [hfree] at hc; cases hc
  rcases hx with hk | hk
  · refine wpAny_storeName_local hk hn (fun h' hn' hs=>?_) hcls
    obtain ⟨oL,_,_,hoL,_⟩:=id hn
    refine h _ ⟨I.ok,I.os,I.bare,⟨fun b o e n hb hx=>?_,fun b o e n hb hx=>?_,I.base.free,fun b o e hx=>?_,I.base.tups,I.base.frzs,I.base.tbls⟩,⟨_,hn',fun j y v' e1 e2 e3=>?_⟩,fun y c e=>?_,I.free,I.freeC,fun p hp=>?_,tracked ⟨oL,hoL,I.free⟩ hs,by simpa using I.len⟩ ⟨_,hs,.inl rfl⟩
    · exact (hs.2 b (Nat.ne_of_lt (Nat.lt_of_lt_of_le (Heap.lt_size e) I.ok.above))).trans (I.base.keep b o e n hb hx)
    · obtain ⟨sl,e1⟩:=I.base.slot b o e n hb hx
      exact ⟨sl,(hs.2 b (Nat.ne_of_lt (Nat.lt_of_lt_of_le (Heap.lt_size e) I.ok.above))).trans e1⟩
    · obtain ⟨o',e1⟩:=I.base.there b o e hx
      exact ⟨o',(hs.2 b (Nat.ne_of_lt (Nat.lt_of_lt_of_le (Heap.lt_size e) I.ok.above))).trans e1⟩
    · by_cases hj:j = i
      · subst hj
        rw [hi] at e1; cases e1
        rw [List.getElem?_set_self hiσ] at e2
        cases e2
        exact ⟨u,r,.inl ⟨hk,by simp⟩⟩
      · rw [List.getElem?_set_ne (Ne.symm hj)] at e2
        obtain ⟨u',r',q⟩:=hl j y v' e1 e2 e3
        refine ⟨u',r',?_⟩
        rcases q with ⟨k,e⟩ | ⟨k,c,e,z⟩
        · refine .inl ⟨k,?_⟩
          have:y≠x:=fun e=>hj (nodup_ix hN e1 (e ▸ hi))
          simp [this,e]
        · exact .inr ⟨k,c,e,z.sameBut hs (cne y c e)⟩
    · obtain ⟨w',z⟩:=I.cell y c e
      exact ⟨w',z.sameBut hs (cne y c e)⟩
    · obtain ⟨e,n,ne,nf,d⟩:=I.pin p hp
      exact ⟨(hs.2 p.1 ne).trans e,n,ne,nf,d⟩
  · have hfn:X.fn x = true:=by
      rcases hf with z | z
      · exact z
      · rw [z] at hk; cases hk
    obtain ⟨c,hc⟩:=I.ok.has x (.inl hk)
    obtain ⟨w',z⟩:=I.cell x c hc
    refine wpAny_storeName_cell I.ok.kind hk hc z (fun h' hc' hs=>?_)
    obtain ⟨oc,hoc,hocd⟩:=id z
    refine h { s with heap:=h' } ⟨I.ok,I.os,I.bare,⟨fun b o e n hb hx=>?_,fun b o e n hb hx=>?_,I.base.free,fun b o e hx=>?_,I.base.tups,I.base.frzs,I.base.tbls⟩,⟨m,hn.sameBut hs (Ne.symm (cne x c hc)),fun j y v' e1 e2 e3=>?_⟩,fun y c' e=>?_,I.free,I.freeC,fun p hp=>?_,tracked ⟨oc,hoc,I.freeC x c hc⟩ hs,by simpa using I.len⟩ ⟨c,hs,.inr hc⟩
    · exact (hs.2 b (Nat.ne_of_lt (Nat.lt_of_lt_of_le (Heap.lt_size e) (I.ok.cab x c hfn hc)))).trans (I.base.keep b o e n hb hx)
    · obtain ⟨sl,e1⟩:=I.base.slot b o e n hb hx
      exact ⟨sl,(hs.2 b (Nat.ne_of_lt (Nat.lt_of_lt_of_le (Heap.lt_size e) (I.ok.cab x c hfn hc)))).trans e1⟩
    · obtain ⟨o',e1⟩:=I.base.there b o e hx
      exact ⟨o',(hs.2 b (Nat.ne_of_lt (Nat.lt_of_lt_of_le (Heap.lt_size e) (I.ok.cab x c hfn hc)))).trans e1⟩
    · by_cases hj:j = i
      · subst hj
        rw [hi] at e1; cases e1
        rw [List.getElem?_set_self hiσ] at e2
        cases e2
        exact ⟨u,r,.inr ⟨.inl hk,c,hc,hc'⟩⟩
      · rw [List.getElem?_set_ne (Ne.symm hj)] at e2
        obtain ⟨u',r',q⟩:=hl j y v' e1 e2 e3
        refine ⟨u',r',?_⟩
        rcases q with q | ⟨k,c',e,z'⟩
        · exact .inl q
        · refine .inr ⟨k,c',e,z'.sameBut hs ?_⟩
          rintro rfl
          exact hj (nodup_ix hN e1 (I.ok.inj _ _ _ e hc ▸ hi))
    · by_cases hcc:c' = c
      · subst hcc; exact ⟨_,hc'⟩
      · obtain ⟨w2,z2⟩:=I.cell y c' e
        exact ⟨w2,z2.sameBut hs hcc⟩
    · obtain ⟨e,n,ne,nf,d⟩:=I.pin p hp
      refine ⟨(hs.2 p.1 ?_).trans e,n,ne,nf,d⟩
      intro q
      rw [q,hoc] at e
      have q':oc = p.2:=Option.some.inj e
      exact d w' (by rw [← q']; exact hocd)
theorem store_ok {M:Model} {A:Around} {E:Value→Shared→Prop} {i:Nat} {x:Str} {v:V} {u:Value} {Q:Unit→Shared→Prop} (I:Inv X pins σ H s) (hN:X.N.Nodup) (hi:X.N[i]? = some x) (hx:Loc X.env.scope x) (r:RelV v u)
    (h:∀ s',Inv X pins (σ.set i (some v)) H s'→Q () s') (hf:X.fn x = true∨X.env.scope.names.lookup x = some .local:=by first | exact .inl rfl | exact .inr rfl | assumption):wpAny M A (storeName X.env x u) Q E s:=
  store_ok2 I hN hi hx r (fun s' I' _=>h s' I') hf
theorem Inv.call' {s':Shared} {ch:List Addr} (I:Inv X pins σ H s) (ho:s'.os = s.os) (u:Un (frs X.stack) ch H H' s.heap s'.heap) (hok:HOk X.prog X.w H' s'.heap) (hg:AllBare s'.gens)
    (hch:∀ b∈ch,(b∈X.ex∨X.s₀.heap.objs.size≤b)∧b≠X.env.locals∧(∀ x c,X.env.cells.lookup x = some c→c≠b)∧∀ p∈X.pn ++ pins,p.1≠b):Inv X pins σ H' s':=by
  obtain ⟨h',g',d',t',o'⟩:=s'
  have e:o' = s.os:=ho
  subst e
  exact I.call (g':=g') (t':=t') (d':=d') u hok hg hch
end
abbrev XK:=Value→Option Addr→Hp→Prop
abbrev St:=List (Option V)
abbrev VK:=V→Hp→Prop
abbrev TE:=St→Hp→VK→Prop
abbrev TT:=St→Hp→(Bool→Hp→Prop)→Prop
abbrev TA:=St→Hp→(List V→Hp→Prop)→Prop
structure Ends where
  nx:St→Hp→Prop
  rt:VK
  bk:St→Hp→Prop:=fun _ _=>False
  ct:St→Hp→Prop:=fun _ _=>False
abbrev TS:=Ends→St→Hp→Prop
def EP (X:Cx) (pins:List (Addr×Obj)) (σ:St) (Q:VK) (u:Value) (s':Shared):Prop:=∃ v H',Inv X pins σ H' s'∧RelV v u∧Q v H'
def TP (X:Cx) (pins:List (Addr×Obj)) (σ:St) (Q:Bool→Hp→Prop) (b:Bool) (s':Shared):Prop:=∃ H',Inv X pins σ H' s'∧Q b H'
def AP (X:Cx) (pins:List (Addr×Obj)) (σ:St) (Q:List V→Hp→Prop) (us:List Value) (s':Shared):Prop:=∃ vs H',Inv X pins σ H' s'∧Vals vs us∧Q vs H'
def SP (X:Cx) (pins:List (Addr×Obj)) (D:Ends) (f:Flow) (s':Shared):Prop:=
  match f with
  | .next=>∃ σ' H',Inv X pins σ' H' s'∧D.nx σ' H'
  | .brk=>∃ σ' H',Inv X pins σ' H' s'∧D.bk σ' H'
  | .cont=>∃ σ' H',Inv X pins σ' H' s'∧D.ct σ' H'
  | .ret u=>∃ v σ' H',Inv X pins σ' H' s'∧RelV v u∧D.rt v H'
def PE (X:Cx) (e:Expr) (t:TE):Prop:=
  ∀ (pins:List (Addr×Obj)) (s:Shared) (σ:St) (H:Hp) (Q:VK),Inv X pins σ H s→t σ H Q→wpAny (model X.prog X.w) X.A (eval e X.env) (EP X pins σ Q) X.xe s
def PT (X:Cx) (e:Expr) (t:TT):Prop:=
  ∀ (pins:List (Addr×Obj)) (s:Shared) (σ:St) (H:Hp) (Q:Bool→Hp→Prop),Inv X pins σ H s→t σ H Q→wpAny (model X.prog X.w) X.A (isTrue e X.env (eval e X.env)) (TP X pins σ Q) X.xe s
def PW (X:Cx) (e:Expr) (t:TT):Prop:=
  ∀ (whole:Sem Value) (pins:List (Addr×Obj)) (s:Shared) (σ:St) (H:Hp) (Q:Bool→Hp→Prop),Inv X pins σ H s→t σ H Q→wpAny (model X.prog X.w) X.A (isTrue e X.env whole) (TP X pins σ Q) X.xe s
theorem PW.pt {X:Cx} {e:Expr} {t:TT} (h:PW X e t):PT X e t:=h _
def PA (X:Cx) (es:List Expr) (t:TA):Prop:=
  ∀ (pos:Pos) (pins:List (Addr×Obj)) (s:Shared) (σ:St) (H:Hp) (Q:List V→Hp→Prop),Inv X pins σ H s→t σ H Q→wpAny (model X.prog X.w) X.A (spliced (backTo pos (starEach es X.env))) (AP X pins σ Q) X.xe s
def PS (X:Cx) (st:Stmt) (t:TS):Prop:=
  ∀ (pins:List (Addr×Obj)) (s:Shared) (σ:St) (H:Hp) (D:Ends),Inv X pins σ H s→t D σ H→wpAny (model X.prog X.w) X.A (exec st X.env) (SP X pins D) X.xe s
def PSs (X:Cx) (st:List Stmt) (t:TS):Prop:=
  ∀ (pins:List (Addr×Obj)) (s:Shared) (σ:St) (H:Hp) (D:Ends),Inv X pins σ H s→t D σ H→wpAny (model X.prog X.w) X.A (execs st X.env) (SP X pins D) X.xe s
theorem thn {α:Type} {t:Sem α} {Q Q':α→Shared→Prop} {M:Model} {A:Around} {E:Value→Shared→Prop} {s:Shared} (h:wpAny M A t Q E s) (hQ:∀ a s,Q a s→Q' a s):wpAny M A t Q' E s:=wpAny_mono h hQ fun _ _ x=>x
end L2
namespace L2
open PySem PySem.Spec PyProof.Rows
section
variable {X:Cx}
def tVar (i:Nat):TE:=fun σ H Q=>∃ v,σ[i]? = some (some v)∧Q v H
def tC (v:V):TE:=fun _ H Q=>Q v H
theorem pe_var {i:Nat} {x:Str} {pos:Pos} (hN:X.N[i]? = some x) (hv:Vis X.env.scope x) (hd:(x == ("__debug__":Str)) = false:=by decide) (hcd:(x == ("__classdict__":Str)) = false:=by decide):PE X (.Name x pos) (tVar i):=by
  intro pins s σ H Q I h
  obtain ⟨v,e,h⟩:=h
  obtain ⟨m,hn,hl⟩:=I.loc
  obtain ⟨u,r,l⟩:=hl i x v hN e hv
  have fin:EP X pins σ Q u s:=⟨v,H,I,r,h⟩
  rcases l with ⟨hk,hm⟩ | ⟨hk,c,hc,hcell⟩
  · exact wpAny_Name (wpAny_loadName_local I.ok.kind hk hn hm fin) hd
  · rcases hk with hk | hk
    · exact wpAny_Name (wpAny_loadName_cell I.ok.kind hk hc hcell fin) hd
    · exact wpAny_Name (wpAny_loadName_free I.ok.kind hk hc hcell fin hcd) hd
theorem pe_int {i j pos}:PE X (.Constant (.int i) j pos) (tC (.int i)):=fun _ _ _ H _ I h=>wpAny_Constant_int ⟨.int i,H,I.tok _,⟨_,rfl⟩,h⟩
theorem pe_bl {b j pos}:PE X (.Constant (.bool b) j pos) (tC (.bl b)):=fun _ _ _ H _ I h=>Constant_bool ⟨.bl b,H,I,rfl,h⟩
theorem pe_non {j pos}:PE X (.Constant .none j pos) (tC .non):=fun _ _ _ H _ I h=>Constant_none ⟨.non,H,I,rfl,h⟩
theorem pe_str {x j pos}:PE X (.Constant (.str x) j pos) (tC (.str x)):=fun _ _ _ H _ I h=>Calls.Constant_str ⟨.str x,H,I.tok _,⟨_,rfl⟩,h⟩
def Gl (X:Cx) (x:Str):Prop:=X.env.kindOf x = some .globalImplicit
theorem ld_glob {E:Value→Shared→Prop} {pins:List (Addr×Obj)} {s:Shared} {σ:St} {H:Hp} {x:Str} {u:Value} {pos:Pos} {Q:Value→Shared→Prop} (I:Inv X pins σ H s) (hg:Gl X x) (hm:X.mg x = some u) (h:Q u s)
    (hd:(x == ("__debug__":Str)) = false:=by decide):wpAny (model X.prog X.w) X.A (eval (.Name x pos) X.env) Q E s:=
  Calls.Name_function_global I.ok.kind hg (Calls.loadGlobal_global (by rw [I.ok.glob]; exact I.mod.glob.keeps I.bk) hm h) hd
theorem ld_blt {E:Value→Shared→Prop} {pins:List (Addr×Obj)} {s:Shared} {σ:St} {H:Hp} {x:Str} {u:Value} {pos:Pos} {Q:Value→Shared→Prop} (I:Inv X pins σ H s) (hg:Gl X x) (hm:X.mg x = none) (hv:bootBuiltins x = some u) (h:Q u s)
    (hn:x≠"__name__":=by decide) (hd:(x == ("__debug__":Str)) = false:=by decide):wpAny (model X.prog X.w) X.A (eval (.Name x pos) X.env) Q E s:=by
  obtain ⟨mb,h1,h2⟩:=I.mod.blt
  exact Calls.Name_function_global I.ok.kind hg (Calls.loadGlobal_builtin (by rw [I.ok.glob]; exact I.mod.glob.keeps I.bk) hm (by rw [I.ok.blt]; exact h1.keeps I.bk) ((h2 x hn).trans hv) h) hd
theorem pe_glob {x:Str} {v:V} {u:Value} {pos:Pos} (hg:Gl X x) (hm:X.mg x = some u) (r:RelV v u) (hd:(x == ("__debug__":Str)) = false:=by decide):PE X (.Name x pos) (tC v):=
  fun _ _ _ H _ I h=>ld_glob I hg hm ⟨v,H,I,r,h⟩ hd
theorem pe_bltn {x:Str} {v:V} {u:Value} {pos:Pos} (hg:Gl X x) (hm:X.mg x = none) (hv:bootBuiltins x = some u) (r:RelV v u) (hn:x≠"__name__":=by decide) (hd:(x == ("__debug__":Str)) = false:=by decide):PE X (.Name x pos) (tC v):=
  fun _ _ _ H _ I h=>ld_blt I hg hm hv ⟨v,H,I,r,h⟩ hn hd
variable {a b:Expr} {ta tb:TE} {pos:Pos}
def PC (X:Cx) (op:CmpOp) (a b:Expr) (t:TE):Prop:=
  ∀ (pins:List (Addr×Obj)) (s:Shared) (σ:St) (H:Hp) (Q:VK),Inv X pins σ H s→t σ H Q→
    wpAny (model X.prog X.w) X.A (eval a X.env) (fun v s₁=>wpAny (model X.prog X.w) X.A (eval b X.env) (fun u s₂=>wpAny (model X.prog X.w) X.A (compareOp op v u) (EP X pins σ Q) X.xe s₂) X.xe s₁) X.xe s
theorem nobehind (b:Expr) {op:CmpOp} (h:op≠.In) (h2:op≠.NotIn):behindInMarks op b = false:=by
  have e1:(op == CmpOp.In) = false:=by cases op <;> first | rfl | exact absurd rfl h
  have e2:(op == CmpOp.NotIn) = false:=by cases op <;> first | rfl | exact absurd rfl h2
  cases b <;> simp [behindInMarks,e1,e2]
def tIsN (ta:TE):TE:=fun σ H Q=>ta σ H fun x H1=>Q (.bl (decide (x = .non))) H1
def tNotN (ta:TE):TE:=fun σ H Q=>ta σ H fun x H1=>Q (.bl (!decide (x = .non))) H1
theorem RelV.none_iff {x:V} {v:Value} (r:RelV x v):(v == Value.none) = decide (x = .non):=by
  cases x with
  | non=>cases r; rfl
  | bl _=>cases r; rfl
  | int _=>obtain ⟨t,rfl⟩:=r; rfl
  | str _=>obtain ⟨t,rfl⟩:=r; rfl
  | byt _=>obtain ⟨t,rfl⟩:=r; rfl
  | flt _=>obtain ⟨t,rfl⟩:=r; rfl
  | ref _=>cases r; rfl
  | ty _=>cases r; rfl
theorem pc_isN {j pos'} (ha:PE X a ta):PC X .Is a (.Constant .none j pos') (tIsN ta):=by
  intro pins s σ H Q I h
  refine thn (ha pins s σ H _ I h) fun v s1 ⟨x,H1,I1,r1,q1⟩=>?_
  exact Constant_none (is_none_gen ⟨.bl _,H1,I1,by rw [r1.none_iff]; rfl,q1⟩)
theorem pc_notN {j pos'} (ha:PE X a ta):PC X .IsNot a (.Constant .none j pos') (tNotN ta):=by
  intro pins s σ H Q I h
  refine thn (ha pins s σ H _ I h) fun v s1 ⟨x,H1,I1,r1,q1⟩=>?_
  exact Constant_none (isnot_none_gen ⟨.bl _,H1,I1,by rw [r1.none_iff]; rfl,q1⟩)
def tB (t:TE):TT:=fun σ H Q=>t σ H fun x H1=>∃ c,x = .bl c∧Q c H1
theorem pt_cmp {op:CmpOp} {t:TE} (h:PC X op a b t) (h1:behindInMarks op b = false:=by first | exact nobehind _ (by decide) (by decide) | rfl):PT X (.Compare a [op] [b] pos) (tB t):=by
  intro pins s σ H Q I hw
  refine wpAny_isTrue_Compare1 (thn (h pins s σ H _ I hw) fun v s1 h1=>thn h1 fun u s2 h2=>thn h2 fun c s3 ⟨x,H1,I1,r1,q1⟩=>?_) h1
  obtain ⟨d,rfl,q⟩:=q1
  cases r1
  exact wpAny_truthy_bool ⟨H1,I1,q⟩
theorem pt_val {e:Expr} {t:TE} (h:PE X e t) (he:∀ whole,isTrue e X.env whole = (do let v ← whole; standAt e.pos; holding [v] (truthy v)):=by intro _; rfl):PT X e (tB t):=by
  intro pins s σ H Q I hw
  refine isTrue_plain (thn (h pins s σ H _ I hw) fun v s1 ⟨x,H1,I1,r1,q1⟩=>?_) (he _)
  obtain ⟨d,rfl,q⟩:=q1
  cases r1
  exact wpAny_truthy_bool ⟨H1,I1,q⟩
variable {tA tB':TT} {rest:List Expr}
def tAnd (t u:TT):TT:=fun σ H Q=>t σ H fun c H1=>if c = true then u σ H1 Q else Q false H1
def tOr (t u:TT):TT:=fun σ H Q=>t σ H fun c H1=>if c = true then Q true H1 else u σ H1 Q
def tNot (t:TT):TT:=fun σ H Q=>t σ H fun c H1=>Q (!c) H1
theorem pw_and1 (ha:PT X a tA):PW X (.BoolOp .And [a] pos) tA:=by
  intro wh pins s σ H Q I h
  refine isTrue_and (thn (ha pins s σ H Q I h) fun c s1 e=>?_)
  cases c with
  | true=>exact isTrue_and_nil e
  | false=>exact e
theorem pw_or1 (ha:PT X a tA):PW X (.BoolOp .Or [a] pos) tA:=by
  intro wh pins s σ H Q I h
  refine isTrue_or (thn (ha pins s σ H Q I h) fun c s1 e=>?_)
  cases c with
  | false=>exact isTrue_or_nil e
  | true=>exact e
theorem pw_and (ha:PT X a tA) (hb:PW X (.BoolOp .And (b :: rest) pos) tB'):PW X (.BoolOp .And (a :: b :: rest) pos) (tAnd tA tB'):=by
  intro wh pins s σ H Q I h
  refine isTrue_and (thn (ha pins s σ H _ I h) fun c s1 ⟨H1,I1,q1⟩=>?_)
  cases c with
  | true=>exact hb wh pins s1 σ H1 Q I1 q1
  | false=>exact ⟨H1,I1,q1⟩
theorem pw_or (ha:PT X a tA) (hb:PW X (.BoolOp .Or (b :: rest) pos) tB'):PW X (.BoolOp .Or (a :: b :: rest) pos) (tOr tA tB'):=by
  intro wh pins s σ H Q I h
  refine isTrue_or (thn (ha pins s σ H _ I h) fun c s1 ⟨H1,I1,q1⟩=>?_)
  cases c with
  | true=>exact ⟨H1,I1,q1⟩
  | false=>exact hb wh pins s1 σ H1 Q I1 q1
theorem pt_not (ha:PT X a tA):PT X (.UnaryOp .Not a pos) (tNot tA):=by
  intro pins s σ H Q I h
  exact isTrue_not (ha pins s σ H (fun c H1=>Q (!c) H1) I h)
def tAndV (ta tb:TE):TE:=fun σ H Q=>ta σ H fun x H1=>∃ c,x = .bl c∧if c = true then tb σ H1 Q else Q (.bl false) H1
theorem pe_one {op} {t:TE} (h:PE X a t):PE X (.BoolOp op [a] pos) t:=fun pins s σ H Q I hw=>BoolOp_one (h pins s σ H Q I hw)
theorem pe_and (ha:PE X a ta) (hb:PE X (.BoolOp .And (b :: rest) pos) tb):PE X (.BoolOp .And (a :: b :: rest) pos) (tAndV ta tb):=by
  intro pins s σ H Q I h
  refine BoolOp_and (thn (ha pins s σ H _ I h) fun v s1 ⟨x,H1,I1,r1,q1⟩=>?_)
  obtain ⟨c,rfl,q1⟩:=q1
  cases r1
  refine wpAny_truthy_bool ?_
  cases c with
  | true=>exact hb pins s1 σ H1 Q I1 q1
  | false=>exact ⟨.bl false,H1,I1,rfl,q1⟩
def tIf (t:TT) (ta tb:TE):TE:=fun σ H Q=>t σ H fun c H1=>if c = true then ta σ H1 Q else tb σ H1 Q
theorem pe_ifExp {c:Expr} (hc:PT X c tA) (ha:PE X a ta) (hb:PE X b tb):PE X (.IfExp c a b pos) (tIf tA ta tb):=by
  intro pins s σ H Q I h
  refine wpAny_IfExp (thn (hc pins s σ H _ I h) fun d s1 ⟨H1,I1,q1⟩=>?_)
  cases d with
  | true=>exact ha pins s1 σ H1 Q I1 q1
  | false=>exact hb pins s1 σ H1 Q I1 q1
end
end L2
namespace L2
open PySem PySem.Spec PyProof.Rows
def SqL (K:PySem.W.Frag) (H:Hp) (a:Addr) (xs:List V):Prop:=
  Rd H a (.lst xs)∨
    ∃ (o:Obj) (its:Array Value) (n:Nat),K.lookup a = some o∧o.cls = .type "list"∧o.dict = none∧o.data = .seq its n∧its.size≤sizeLine∧Vals xs its.toList
def SqT (K:PySem.W.Frag) (H:Hp) (a:Addr) (xs:List V):Prop:=
  Rd H a (.tup xs)∨
    ∃ (o:Obj) (its:Array Value) (n:Nat),K.lookup a = some o∧o.cls = .type "tuple"∧o.data = .seq its n∧its.size≤sizeLine∧Vals xs its.toList
def absV:Value→Option V
  | .none=>some .non
  | .bool b=>some (.bl b)
  | .int i _=>some (.int i)
  | .str x _=>some (.str x)
  | .bytes b _=>some (.byt b)
  | .float b _=>some (.flt b)
  | .ref a=>some (.ref a)
  | .type n=>some (.ty n)
  | _=>none
theorem RelV.abs {x:V} {u:Value} (r:RelV x u):absV u = some x:=by
  cases x with
  | non=>cases r; rfl
  | bl _=>cases r; rfl
  | int _=>obtain ⟨t,rfl⟩:=r; rfl
  | str _=>obtain ⟨t,rfl⟩:=r; rfl
  | byt _=>obtain ⟨t,rfl⟩:=r; rfl
  | flt _=>obtain ⟨t,rfl⟩:=r; rfl
  | ref _=>cases r; rfl
  | ty _=>cases r; rfl
theorem RelV.inj {x y:V} {u:Value} (r:RelV x u) (q:RelV y u):x = y:=Option.some.inj (r.abs.symm.trans q.abs)
theorem Vals.inj:∀ {xs ys:List V} {us:List Value},Vals xs us→Vals ys us→xs = ys
  | _,_,_,.nil,.nil=>rfl
  | _,_,_,.cons r t,.cons r' t'=>by rw [r.inj r',Vals.inj t t']
section
variable {X:Cx} {pins:List (Addr×Obj)} {σ:St} {H:Hp} {s:Shared} {a:Addr} {xs ys:List V}
theorem SqL.of {K:PySem.W.Frag} (h:H a = some (.lst xs)):SqL K H a xs:=.inl (.inl h)
theorem SqT.of {K:PySem.W.Frag} (h:H a = some (.tup xs)):SqT K H a xs:=.inl (.inl h)
theorem Inv.list (I:Inv X pins σ H s) (h:SqL X.K H a xs):∃ its:List Value,Vals xs its∧PlainL s.heap a its.toArray∧xs.length≤sizeLine:=by
  rcases h with h | ⟨o,its,n,hk,hc,hd,hs,hz,r⟩
  · obtain ⟨z,its,n,r,e⟩:=h.ok I.hok
    exact ⟨its,r,⟨_,n,e,rfl,rfl,rfl⟩,z⟩
  · refine ⟨its.toList,r,⟨o,n,I.kIn a o hk,hc,hd,by simpa using hs⟩,?_⟩
    have e:=r.length
    simp only [Array.length_toList] at e
    omega
theorem Inv.tuple (I:Inv X pins σ H s) (h:SqT X.K H a xs):∃ its:List Value,Vals xs its∧IsTup s.heap a its.toArray∧xs.length≤sizeLine:=by
  rcases h with h | ⟨o,its,n,hk,hc,hs,hz,r⟩
  · obtain ⟨z,its,r,p⟩:=h.ok I.hok
    exact ⟨its,r,p,z⟩
  · refine ⟨its.toList,r,⟨o,I.kIn a o hk,hc,n,by simpa using hs⟩,?_⟩
    have e:=r.length
    simp only [Array.length_toList] at e
    omega
theorem Inv.list_inj (I:Inv X pins σ H s) (h:SqL X.K H a xs) (h':SqL X.K H a ys):xs = ys:=by
  obtain ⟨its,r,⟨o,n,e,_,_,d⟩,_⟩:=I.list h
  obtain ⟨its',r',⟨o',n',e',_,_,d'⟩,_⟩:=I.list h'
  rw [e] at e'; cases e'
  rw [d] at d'
  injection d' with d1 _
  have:its = its':=by simpa using congrArg Array.toList d1
  subst this
  exact r.inj r'
theorem Inv.tuple_inj (I:Inv X pins σ H s) (h:SqT X.K H a xs) (h':SqT X.K H a ys):xs = ys:=by
  obtain ⟨its,r,⟨o,e,_,n,d⟩,_⟩:=I.tuple h
  obtain ⟨its',r',⟨o',e',_,n',d'⟩,_⟩:=I.tuple h'
  rw [e] at e'; cases e'
  rw [d] at d'
  injection d' with d1 _
  have:its = its':=by simpa using congrArg Array.toList d1
  subst this
  exact r.inj r'
end
abbrev Cx.wish (X:Cx) (E:Value→Shared→Prop):Cx:={ X with xe:=E }
abbrev Cx.nox (X:Cx):Cx:=X.wish fun _ _=>False
theorem Cx.Ok.wish {X:Cx} (ok:X.Ok) (E:Value→Shared→Prop):(X.wish E).Ok:=
  ⟨ok.mod,ok.kind,ok.glob,ok.blt,ok.above,ok.inj,ok.has,ok.cab,ok.hd,ok.frames,ok.stk,ok.exf,ok.bs,ok.bsz,ok.noex,ok.exfs,ok.funs,ok.frf⟩
theorem Cx.Ok.unwish {X:Cx} {E:Value→Shared→Prop} (ok:(X.wish E).Ok):X.Ok:=
  ⟨ok.mod,ok.kind,ok.glob,ok.blt,ok.above,ok.inj,ok.has,ok.cab,ok.hd,ok.frames,ok.stk,ok.exf,ok.bs,ok.bsz,ok.noex,ok.exfs,ok.funs,ok.frf⟩
section
variable {X:Cx} {pins:List (Addr×Obj)} {σ:St} {H:Hp} {s:Shared} {E:Value→Shared→Prop}
theorem Inv.wish (I:Inv X pins σ H s) (E:Value→Shared→Prop):Inv (X.wish E) pins σ H s:=⟨I.ok.wish E,I.os,I.bare,I.base,I.loc,I.cell,I.free,I.freeC,I.pin,I.hok,I.len⟩
theorem Inv.unwish (I:Inv (X.wish E) pins σ H s):Inv X pins σ H s:=⟨I.ok.unwish,I.os,I.bare,I.base,I.loc,I.cell,I.free,I.freeC,I.pin,I.hok,I.len⟩
theorem SP.unwish {D:Ends} {f:Flow} {s':Shared} (h:SP (X.wish E) pins D f s'):SP X pins D f s':=by
  cases f with
  | next=>obtain ⟨σ',H',I,q⟩:=h; exact ⟨σ',H',I.unwish,q⟩
  | brk=>obtain ⟨σ',H',I,q⟩:=h; exact ⟨σ',H',I.unwish,q⟩
  | cont=>obtain ⟨σ',H',I,q⟩:=h; exact ⟨σ',H',I.unwish,q⟩
  | ret u=>obtain ⟨v,σ',H',I,r,q⟩:=h; exact ⟨v,σ',H',I.unwish,r,q⟩
theorem PE.nox {e:Expr} {t:TE} (h:PE X.nox e t):PE X e t:=fun pins s σ H Q I hw=>
  wpAny_mono (h pins s σ H Q (I.wish _) hw) (fun _ _ ⟨v,H',I',r,q⟩=>⟨v,H',I'.unwish,r,q⟩) fun _ _ z=>False.elim z
theorem PT.nox {e:Expr} {t:TT} (h:PT X.nox e t):PT X e t:=fun pins s σ H Q I hw=>
  wpAny_mono (h pins s σ H Q (I.wish _) hw) (fun _ _ ⟨H',I',q⟩=>⟨H',I'.unwish,q⟩) fun _ _ z=>False.elim z
theorem PSs.nox {st:List Stmt} {t:TS} (h:PSs X.nox st t):PSs X st t:=fun pins s σ H D I hw=>
  wpAny_mono (h pins s σ H D (I.wish _) hw) (fun _ _ q=>q.unwish) fun _ _ z=>False.elim z
end
section
variable {X:Cx} {st:Stmt} {rest:List Stmt} {t u:TS} {e:Expr} {te:TE} {pos:Pos}
def tNext:TS:=fun D σ H=>D.nx σ H
def tSeq (t u:TS):TS:=fun D σ H=>t { D with nx:=u D } σ H
theorem pss_nil:PSs X [] tNext:=fun _ _ σ H _ I h=>wpAny_execs_nil ⟨σ,H,I,h⟩
theorem pss_cons (h1:PS X st t) (h2:PSs X rest u):PSs X (st :: rest) (tSeq t u):=by
  intro pins s σ H D I h
  refine wpAny_execs_cons (thn (h1 pins s σ H { D with nx:=u D } I h) fun f s1 q=>?_)
  cases f with
  | next=>
    obtain ⟨σ',H',I',q⟩:=q
    exact h2 pins s1 σ' H' D I' q
  | ret v=>exact q
  | brk=>exact q
  | cont=>exact q
theorem pss_one (h1:PS X st t):PSs X [st] t:=by
  intro pins s σ H D I h
  refine wpAny_execs_cons (thn (h1 pins s σ H D I h) fun f s1 q=>?_)
  cases f with
  | next=>exact wpAny_execs_nil q
  | ret v=>exact q
  | brk=>exact q
  | cont=>exact q
theorem Inv.quiet {pins:List (Addr×Obj)} {σ:St} {H:Hp} {s:Shared} (I:Inv X pins σ H s):interactive X.env = false:=by simp [interactive,I.ok.kind]
def tDrop (te:TE):TS:=fun D σ H=>te σ H fun _ H1=>D.nx σ H1
theorem ps_expr (he:PE X e te) (hs:swapsWith e none pos.line X.env = pure false:=by rfl):PS X (.Expr e pos) (tDrop te):=by
  intro pins s σ H D I h
  exact wpAny_Expr_any (thn (he pins s σ H _ I h) fun v s1 ⟨x,H1,I1,r1,q1⟩=>⟨σ,H1,I1,q1⟩) I.quiet hs
def tRet (te:TE):TS:=fun D σ H=>te σ H D.rt
theorem ps_ret (he:PE X e te):PS X (.Return (some e) pos) (tRet te):=by
  intro pins s σ H D I h
  exact wpAny_Return_some (thn (he pins s σ H _ I h) fun v s1 ⟨x,H1,I1,r1,q1⟩=>⟨x,σ,H1,I1,r1,q1⟩)
def tIfS (c:TT) (t u:TS):TS:=fun D σ H=>c σ H fun b H1=>if b = true then t D σ H1 else u D σ H1
theorem ps_if {c:Expr} {a b:List Stmt} {tc:TT} (hc:PT X c tc) (ha:PSs X a t) (hb:PSs X b u):PS X (.If c a b pos) (tIfS tc t u):=by
  intro pins s σ H D I h
  refine wpAny_If (thn (hc pins s σ H _ I h) fun d s1 ⟨H1,I1,q1⟩=>?_)
  cases d with
  | true=>exact ha pins s1 σ H1 D I1 q1
  | false=>exact hb pins s1 σ H1 D I1 q1
end
abbrev TG:=V→St→Hp→(St→Hp→Prop)→Prop
abbrev TGs:=List V→St→Hp→(St→Hp→Prop)→Prop
def PG (X:Cx) (target:Expr) (t:TG):Prop:=
  ∀ (pins:List (Addr×Obj)) (s:Shared) (σ:St) (H:Hp) (v:V) (u:Value) (Q:St→Hp→Prop),Inv X pins σ H s→RelV v u→t v σ H Q→
    wpAny (model X.prog X.w) X.A (assign target X.env u) (fun _ s'=>∃ σ' H',Inv X pins σ' H' s'∧Q σ' H') X.xe s
def PGs (X:Cx) (ts:List Expr) (t:TGs):Prop:=
  ∀ (pins:List (Addr×Obj)) (s:Shared) (σ:St) (H:Hp) (vs:List V) (us:List Value) (Q:St→Hp→Prop),Inv X pins σ H s→Vals vs us→t vs σ H Q→
    wpAny (model X.prog X.w) X.A (assignInOrder ((assignEach ts X.env).map (·.2)) us) (fun _ s'=>∃ σ' H',Inv X pins σ' H' s'∧Q σ' H') X.xe s
section
variable {X:Cx} {pos:Pos}
def gName (i:Nat):TG:=fun v σ H Q=>Q (σ.set i (some v)) H
theorem pg_name {i:Nat} {x:Str} (hN:X.N.Nodup) (hi:X.N[i]? = some x) (hx:Loc X.env.scope x) (hf:X.fn x = true∨X.env.scope.names.lookup x = some .local:=by first | exact .inl rfl | exact .inr rfl | assumption):PG X (.Name x pos) (gName i):=by
  intro pins s σ H v u Q I r h
  exact wpAny_assign_Name (store_ok I hN hi hx r (fun s' I'=>⟨_,H,I',h⟩) hf)
def gNil:TGs:=fun vs σ H Q=>vs = []∧Q σ H
def gCons (t:TG) (u:TGs):TGs:=fun vs σ H Q=>∃ v r,vs = v :: r∧t v σ H fun σ' H'=>u r σ' H' Q
theorem pgs_nil:PGs X [] gNil:=by
  intro pins s σ H vs us Q I r h
  obtain ⟨e,h⟩:=h
  subst e
  cases r
  exact assignInOrder_nil ⟨σ,H,I,h⟩
theorem pgs_cons {e:Expr} {es:List Expr} {t:TG} {u:TGs} (h1:PG X e t) (h2:PGs X es u)
    (hs:(assignEach (e :: es) X.env).map (·.2) = assign e X.env :: (assignEach es X.env).map (·.2):=by rfl):PGs X (e :: es) (gCons t u):=by
  intro pins s σ H vs us Q I r h
  obtain ⟨v,vr,e1,h⟩:=h
  subst e1
  cases r with
  | cons r rr=>
    rw [hs]
    refine assignInOrder_cons (thn (h1 pins s σ H _ _ _ I r h) fun _ s1 ⟨σ1,H1,I1,q1⟩=>?_)
    exact h2 pins s1 σ1 H1 _ _ Q I1 rr q1
def gTup (K:PySem.W.Frag) (n:Nat) (t:TGs):TG:=fun v σ H Q=>∃ a xs,v = .ref a∧SqT K H a xs∧xs.length = n∧t xs σ H Q
theorem pg_tup {es:List Expr} {k:Nat} {t:TGs} {n:Nat} (hc:X.calm = true) (h:PGs X es t)
    (hn:(assignEach es X.env).length = n:=by rfl) (hst:(assignEach es X.env).findIdx? (·.1) = none:=by rfl):PG X (.Tuple es k pos) (gTup X.K n t):=by
  intro pins s σ H v u Q I r hw
  obtain ⟨a,xs,e1,hq,hl,hw⟩:=hw
  subst e1
  cases r
  obtain ⟨its,rv,ht,hz⟩:=I.tuple hq
  refine assign_Tuple_tuple (I.ok.hd hc) ht (by simp [hn,← hl,rv.length]) hst fun h' hx=>?_
  have I1:Inv X pins σ H { s with heap:=h' }:=I.kept (t':=s.toks) fun b o e=>hx b o (Nat.ne_of_lt (Heap.lt_size e)) e
  exact h pins _ σ H xs _ Q I1 (by simpa using rv) hw
def tAsg (te:TE) (g:TG):TS:=fun D σ H=>te σ H fun x H1=>g x σ H1 D.nx
theorem ps_set {i:Nat} {x:Str} {e:Expr} {te:TE} {pos':Pos} (hN:X.N.Nodup) (hi:X.N[i]? = some x) (hx:Loc X.env.scope x) (he:PE X e te) (hs:swapsWith e (some (.Name x pos')) pos.line X.env = pure false:=by rfl) (hf:X.fn x = true∨X.env.scope.names.lookup x = some .local:=by first | exact .inl rfl | exact .inr rfl | assumption) :
    PS X (.Assign [.Name x pos'] e pos) (tAsg te (gName i)):=by
  intro pins s σ H D I h
  refine wpAny_Assign_Name (thn (he pins s σ H _ I h) fun v s1 ⟨y,H1,I1,r1,q1⟩=>?_) hs
  exact store_ok I1 hN hi hx r1 (fun s2 I2=>⟨_,H1,I2,q1⟩) hf
end
section
variable {X:Cx} {pos:Pos}
end
structure It where
  go:Nat→Hp→Prop
  yld:Nat→Hp→V→Hp→Prop
  stop:Nat→Hp→Prop
def FpOk (X:Cx) (pins:List (Addr×Obj)) (H:Hp) (b:Addr):Prop:=
  H b = none∧b≠X.env.locals∧b ∉ X.fs∧(b∈X.ex∨X.s₀.heap.objs.size≤b)∧(∀ x c,X.env.cells.lookup x = some c→c≠b)∧∀ p∈X.pn ++ pins,p.1≠b
theorem Inv.fpOk {X:Cx} {pins:List (Addr×Obj)} {σ:St} {H H':Hp} {s:Shared} {b:Addr} (I:Inv X pins σ H s) (hb:s.heap.objs.size≤b) (hn:H' b = none):FpOk X pins H' b:=by
  refine ⟨hn,Nat.ne_of_gt (Nat.lt_of_lt_of_le I.lt hb),I.nofs hb,.inr (Nat.le_trans I.sz hb),fun x c e z=>?_,fun p hp z=>?_⟩
  · obtain ⟨v,q⟩:=I.cell x c e
    exact absurd (Nat.lt_of_lt_of_le q.lt (by rw [z]; exact hb)) (Nat.lt_irrefl _)
  · exact absurd (Nat.lt_of_lt_of_le (Heap.lt_size (I.pin p hp).1) (by rw [z]; exact hb)) (Nat.lt_irrefl _)
structure Turn (P:Program) (w:World) (K:PySem.W.Frag) (tg:Expr) (J:It) (fp:List Addr) (it:Addr) (tn:Nat→Heap→Prop):Prop where
  mem:it∈fp
  obj:∀ i h,tn i h→∀ b∈fp,∃ o,h.get? b = some o∧∀ v,o.data≠.cell v
  keep:∀ i h h',tn i h→(∀ b∈fp,∀ o,h.get? b = some o→h'.get? b = some o)→tn i h'
  item:∀ (X:Cx),X.prog = P→X.w = w→X.K = K→X.calm = true→∀ (i:Nat) (pins:List (Addr×Obj)) (s:Shared) (σ:St) (H:Hp) (E:Value→Shared→Prop),Inv X pins σ H s→(∀ b∈fp,FpOk X pins H b)→tn i s.heap→J.go i H→
    wpAny (model P w) X.A (pyNext (.ref it)) (fun r s1=>∃ u,r = some u∧
      wpAny (model P w) X.A (letOwnedTupleGo tg (.ref it) u) (fun _ s2=>∃ x H',Inv X pins σ H' s2∧RelV x u∧J.yld i H x H'∧tn (i + 1) s2.heap∧∀ b∈fp,H' b = none) E s1) E s
  done:∀ (X:Cx),X.prog = P→X.w = w→X.K = K→X.calm = true→∀ (i:Nat) (pins:List (Addr×Obj)) (s:Shared) (σ:St) (H:Hp) (E:Value→Shared→Prop),Inv X pins σ H s→(∀ b∈fp,FpOk X pins H b)→tn i s.heap→J.stop i H→
    wpAny (model P w) X.A (pyNext (.ref it)) (fun r s1=>r = none∧Inv X pins σ H s1) E s
  self:∀ (A:Around) (i:Nat) (s:Shared) (Q:Value→Shared→Prop) (E:Value→Shared→Prop),tn i s.heap→Q (.ref it) s→wpAny (model P w) A (pyIter (.ref it)) Q E s
abbrev TI:=St→Hp→(It→Hp→Prop)→Prop
def PIE (X:Cx) (pins:List (Addr×Obj)) (σ:St) (tg:Expr) (R:It→Hp→Prop) (itv:Value) (s2:Shared):Prop:=
  ∃ (it:Addr) (fp:List Addr) (tn:Nat→Heap→Prop) (J:It) (H':Hp),itv = .ref it∧Inv X pins σ H' s2∧Turn X.prog X.w X.K tg J fp it tn∧tn 0 s2.heap∧(∀ b∈fp,FpOk X pins H' b)∧R J H'
def PI (X:Cx) (tg iter:Expr) (wi:TI):Prop:=
  ∀ (pins:List (Addr×Obj)) (s:Shared) (σ:St) (H:Hp) (R:It→Hp→Prop),Inv X pins σ H s→wi σ H R→
    wpAny (model X.prog X.w) X.A (eval iter X.env) (fun v s1=>wpAny (model X.prog X.w) X.A (pyIter v) (PIE X pins σ tg R) X.xe s1) X.xe s
theorem go_of {M:Model} {A:Around} {E:Value→Shared→Prop} {s:Shared} {tg:Expr} {it:Addr} {u:Value} {o:Obj} {n:String} {vs:Array Value} {Q:Unit→Shared→Prop} (ho:s.heap.get? it = some o) (hc:o.cls = .type n) (hd:o.data = .fields vs)
    (hn:["enumerate","zip","dict_itemiterator","dict_reverseitemiterator","odict_iterator","itertools.zip_longest","itertools.pairwise"].contains n = false) (hQ:Q () s):wpAny M A (letOwnedTupleGo tg (.ref it) u) Q E s:=by
  unfold letOwnedTupleGo
  cases tg <;> first
    | exact wpAny_pure hQ
    | (cases u <;> first
        | exact wpAny_pure hQ
        | (refine wpAny_bind (wpAny_load ho ?_)
           rw [hc,hd]
           show wpAny M A (if (["enumerate","zip","dict_itemiterator","dict_reverseitemiterator","odict_iterator","itertools.zip_longest","itertools.pairwise"].contains n && vs[0]? == some (rawInt _)) = true then _ else _) Q E s
           rw [if_neg (by intro h; rw [hn,Bool.false_and] at h; cases h)]
           exact wpAny_pure hQ))
def Itl (K:PySem.W.Frag) (a:Addr):It:=
  ⟨fun i H=>∃ xs x,SqL K H a xs∧xs[i]? = some x,fun i H x H'=>H' = H∧∀ xs,SqL K H a xs→xs[i]? = some x,fun i H=>∃ xs,SqL K H a xs∧xs.length≤i⟩
def Itr (lo:Int) (n:Nat):It:=⟨fun i _=>i < n,fun i H x H'=>H' = H∧x = .int (lo + i),fun i _=>n≤i⟩
theorem turn_list {P:Program} {w:World} {K:PySem.W.Frag} {tg:Expr} (a it:Addr):Turn P w K tg (Itl K a) [it] it (fun i h=>h.IsListIter it a i) where
  mem:=by simp
  obj:=fun i h st b hb=>by
    have e:b = it:=by simpa using hb
    subst e
    obtain ⟨o,e,c,d⟩:=st
    exact ⟨o,e,fun v z=>by rw [d] at z; cases z⟩
  keep:=fun i h h' st k=>st.at fun o e=>k it (by simp) o e
  item:=by
    intro X hP hw hK hc i pins s σ H E I hf st hg
    subst hP hw hK
    obtain ⟨xs,x,hq,hx⟩:=hg
    obtain ⟨its,rv,p,hz⟩:=I.list hq
    obtain ⟨u,hu,ru⟩:=rv.get hx
    obtain ⟨f0,f1,f2,f3,f4,f5⟩:=hf it (by simp)
    refine wpAny_pyNext_list_item st p.isList (x:=u) (by simpa using hu) fun h' st' sb=>?_
    have I1:Inv X pins σ H { s with heap:=h' }:=I.turned (t':=s.toks) (fun b o hb e=>(sb.2 b hb).trans e) f0 f1 f3 f4 f5
    obtain ⟨o,e,c,d⟩:=id st'
    exact ⟨u,rfl,go_of (s:={ s with heap:=h' }) e c d (by decide) ⟨x,H,I1,ru,⟨rfl,fun ys hy=>by rw [I.list_inj hy hq]; exact hx⟩,st',fun b hb=>(hf b hb).1⟩⟩
  done:=by
    intro X hP hw hK hc i pins s σ H E I hf st hg
    subst hP hw hK
    obtain ⟨xs,hq,hx⟩:=hg
    obtain ⟨its,rv,p,hz⟩:=I.list hq
    obtain ⟨f0,f1,f2,f3,f4,f5⟩:=hf it (by simp)
    have hl:=rv.length
    exact wpAny_pyNext_list_end (I.ok.hd hc) st p.isList (by simp; omega) fun h' eb=>⟨rfl,I.turned (t':=s.toks) (fun b o hb e=>eb b o hb e) f0 f1 f3 f4 f5⟩
  self:=fun _ _ _ _ _ st h=>wpAny_pyIter_listiter st h
theorem turn_range {P:Program} {w:World} {K:PySem.W.Frag} {tg:Expr} (it:Addr) (lo:Int) (n:Nat):Turn P w K tg (Itr lo n) [it] it (fun i h=>IsRangeIter h it (lo + (i:Nat) * 1) ((n:Int) - (i:Nat)) 1) where
  mem:=by simp
  obj:=fun i h st b hb=>by
    have e:b = it:=by simpa using hb
    subst e
    exact ⟨_,st,fun v z=>by
      have z':Data.fields _ = Data.cell v:=z
      cases z'⟩
  keep:=fun i h h' st k=>k it (by simp) _ st
  item:=by
    intro X hP hw hK hc i pins s σ H E I hf st hg
    subst hP hw hK
    obtain ⟨f0,f1,f2,f3,f4,f5⟩:=hf it (by simp)
    have W:=Walks.range (prog:=X.prog) (w:=X.w) (I.ok.hd hc) it lo 1 n
    refine W.item i s _ _ hg st fun v h' tk hv st' kk=>?_
    obtain ⟨t,rfl⟩:=hv
    have I1:Inv X pins σ H { s with heap:=h',toks:=tk }:=I.turned (fun b o hb e=>kk b o (by simpa using hb) e) f0 f1 f3 f4 f5
    refine ⟨_,rfl,go_of (s:={ s with heap:=h',toks:=tk }) (n:="range_iterator") st' rfl rfl (by decide) ⟨.int (lo + i),H,I1,⟨t,?_⟩,⟨rfl,rfl⟩,st',fun b hb=>(hf b hb).1⟩⟩
    rw [Int.mul_one]
  done:=by
    intro X hP hw hK hc i pins s σ H E I hf st hg
    subst hP hw hK
    obtain ⟨f0,f1,f2,f3,f4,f5⟩:=hf it (by simp)
    exact wpAny_pyNext_range_end (I.ok.hd hc) st (by have:n≤i:=hg; omega) fun h' eb=>⟨rfl,I.turned (t':=s.toks) (fun b o hb e=>eb b o hb e) f0 f1 f3 f4 f5⟩
  self:=fun _ _ _ _ _ st h=>wpAny_pyIter_rangeiter st h
end L2
namespace L2
open PySem PySem.Spec PyProof.Rows
section
variable {X:Cx} {tg:Expr}
def iList (K:PySem.W.Frag) (tl:TE):TI:=fun σ H R=>tl σ H fun x H1=>∃ a,x = .ref a∧(∃ xs,SqL K H1 a xs)∧R (Itl K a) H1
theorem pi_list {l:Expr} {tl:TE} (hl:PE X l tl):PI X tg l (iList X.K tl):=by
  intro pins s σ H R I h
  refine thn (hl pins s σ H _ I h) fun v s1 ⟨x,H1,I1,r1,q1⟩=>?_
  obtain ⟨a,e,⟨xs,hq⟩,q⟩:=q1
  subst e
  cases r1
  obtain ⟨its,rv,p,hz⟩:=I1.list hq
  refine wpAny_pyIter_list p.isList ?_
  refine ⟨s1.heap.objs.size,[s1.heap.objs.size],_,_,H1,rfl,I1.kept (t':=s1.toks) fun b o e=>Heap.get?_push_of_some _ e,turn_list a _,⟨_,Heap.get?_push_size _ rfl,rfl,rfl⟩,fun b hb=>?_,q⟩
  have e:b = s1.heap.objs.size:=by simpa using hb
  subst e
  exact I1.fpOk (Nat.le_refl _) (I1.hok.fresh (Nat.le_refl _))
theorem range_it {pins:List (Addr×Obj)} {σ:St} {H:Hp} {s:Shared} {R:It→Hp→Prop} {E:Value→Shared→Prop} {lo hi:Int} {t u v:Tok} {tk:Nat} (I:Inv X pins σ H s) (h1:-(2 ^ 62)≤lo) (h2:lo < 2 ^ 62) (h3:-(2 ^ 62)≤hi) (h4:hi < 2 ^ 62)
    (q:R (Itr lo (hi - lo).toNat) H):wpAny (model X.prog X.w) X.A (pyIter (.ref s.heap.objs.size)) (PIE X pins σ tg R) E { s with heap:=s.heap.push { cls:=.type "range",data:=.fields #[.int lo t,.int hi u,.int 1 v] },toks:=tk }:=by
  refine wpAny_pyIter_range (IsRange.new ..) (small_one h1 h2 h3 h4) ?_
  have I1:Inv X pins σ H { s with heap:=s.heap.push { cls:=.type "range",data:=.fields #[.int lo t,.int hi u,.int 1 v] },toks:=tk }:=I.kept fun b o e=>Heap.get?_push_of_some _ e
  refine ⟨(s.heap.push { cls:=.type "range",data:=.fields #[.int lo t,.int hi u,.int 1 v] }).objs.size,[(s.heap.push { cls:=.type "range",data:=.fields #[.int lo t,.int hi u,.int 1 v] }).objs.size],_,_,H,rfl,
    I1.kept (t':=tk) fun b o e=>Heap.get?_push_of_some _ e,turn_range _ lo (hi - lo).toNat,?_,fun b hb=>?_,q⟩
  · have e1:lo + ((0:Nat):Int) * 1 = lo:=by simp
    have e2:(((hi - lo).toNat:Nat):Int) - ((0:Nat):Int) = Builtin.Range.rangeSize lo hi 1:=by rw [rangeSize_one]; split <;> omega
    show IsRangeIter _ _ (lo + ((0:Nat):Int) * 1) ((((hi - lo).toNat:Nat):Int) - ((0:Nat):Int)) 1
    rw [e1,e2]
    exact Heap.get?_push_size _ rfl
  · have e:b = (s.heap.push { cls:=.type "range",data:=.fields #[.int lo t,.int hi u,.int 1 v] }).objs.size:=by simpa using hb
    subst e
    exact I1.fpOk (Nat.le_refl _) (I1.hok.fresh (Nat.le_refl _))
def iRng1 (ta:TA):TI:=fun σ H R=>ta σ H fun vs H1=>∃ j:Int,vs = [.int j]∧-(2 ^ 62)≤j∧j < 2 ^ 62∧R (Itr 0 j.toNat) H1
theorem pi_range1 {a:Expr} {ta:TA} {p pos:Pos} (hg:Gl X "range") (hm:X.mg "range" = none) (ha:PA X [a] ta) (hs:starEach [a] X.env = [(false,eval a X.env)]:=by rfl):PI X tg (.Call (.Name "range" p) [a] [] pos) (iRng1 ta):=by
  intro pins s σ H R I h
  refine Call_ (ld_blt I hg hm boot_range (PyProof.Rows.callWith_type1 (thn (ha pos pins s σ H _ I h) fun us s1 ⟨vs,H1,I1,r1,q1⟩=>?_) hs rfl))
  obtain ⟨j,e,q1,q2,q⟩:=q1
  subst e
  cases r1 with
  | cons r rr=>
    cases rr
    obtain ⟨t,rfl⟩:=r
    exact call_range_1 (range_it I1 (by omega) (by omega) q1 q2 (by simpa using q))
def tFor (wi:TI) (g:TG) (tb:TS):TS:=fun D σ H=>wi σ H fun J H1=>∃ W:Nat→Nat→St→Hp→Prop,(∃ m,W 0 m σ H1)∧∀ i m σ H,W i m σ H→
  (J.stop i H∧D.nx σ H)∨(J.go i H∧∃ N:St→Hp→Prop,(∀ σ' H',N σ' H'→∃ m',m' < m∧W (i + 1) m' σ' H')∧∀ x H',J.yld i H x H'→g x σ H' fun σ2 H2=>tb { D with nx:=N,ct:=N,bk:=D.nx } σ2 H2)
def pinsAt (fp:List Addr) (h:Heap):List (Addr×Obj):=fp.filterMap fun b=>(h.get? b).map fun o=>(b,o)
theorem mem_pinsAt {fp:List Addr} {h:Heap} {b:Addr} {o:Obj} (hb:b∈fp) (e:h.get? b = some o):(b,o)∈pinsAt fp h:=List.mem_filterMap.mpr ⟨b,hb,by rw [e]; rfl⟩
theorem of_pinsAt {fp:List Addr} {h:Heap} {p:Addr×Obj} (hp:p∈pinsAt fp h):p.1∈fp∧h.get? p.1 = some p.2:=by
  obtain ⟨b,hb,e⟩:=List.mem_filterMap.mp hp
  cases q:h.get? b with
  | none=>rw [q] at e; cases e
  | some o=>
    rw [q] at e
    have e':(b,o) = p:=Option.some.inj e
    subst e'
    exact ⟨hb,q⟩
theorem Inv.pinned {pins:List (Addr×Obj)} {σ:St} {H:Hp} {s:Shared} {fp:List Addr} (I:Inv X pins σ H s) (hf:∀ b∈fp,FpOk X pins H b) (ho:∀ b∈fp,∃ o,s.heap.get? b = some o∧∀ v,o.data≠.cell v):Inv X (pins ++ pinsAt fp s.heap) σ H s:=
  I.pins_of fun p hp=>(List.mem_append.mp hp).elim (fun z=>I.pin p (List.mem_append_right _ z)) fun z=>by
    obtain ⟨hb,e⟩:=of_pinsAt z
    obtain ⟨f0,f1,f2,_⟩:=hf p.1 hb
    obtain ⟨o,e',d⟩:=ho p.1 hb
    rw [e] at e'; cases e'
    exact ⟨e,f0,f1,f2,d⟩
theorem Inv.unpinned {pins pl:List (Addr×Obj)} {σ:St} {H:Hp} {s:Shared} (I:Inv X (pins ++ pl) σ H s):Inv X pins σ H s:=I.pins_of fun p hp=>I.pin p (List.mem_append_right _ (List.mem_append_left _ hp))
theorem ps_for {iter:Expr} {body:List Stmt} {wi:TI} {g:TG} {tb:TS} {pos:Pos} (hp:PassesOwn (model X.prog X.w) X.A X.env X.xe) (hc:X.calm = true) (hi:PI X tg iter wi) (hg:PG X tg g) (hb:PSs X body tb)
    (hs:∀ x,foldedSetIterable iter X.env x = pure x:=by intro _; rfl):PS X (.For tg iter body [] pos) (tFor wi g tb):=by
  intro pins s σ H D I h
  refine wpAny_For (thn (hi pins s σ H _ I h) fun v s1 h1=>thn h1 fun itv s2 h2=>?_) hs
  obtain ⟨it,fp,tn,J,H2,e,I2,T,st2,f2,W,⟨m0,w0⟩,turn⟩:=h2
  subst e
  have stat:∀ {H':Hp},(∀ b∈fp,H' b = none)→∀ b∈fp,FpOk X pins H' b:=fun hn b hb=>⟨hn b hb,(f2 b hb).2⟩
  refine codeAny_forLoop_any (fun n s'=>∃ i σ' H',Inv X pins σ' H' s'∧tn i s'.heap∧(∀ b∈fp,H' b = none)∧W i n σ' H') ?_ m0 ⟨0,σ,H2,I2,st2,fun b hb=>(f2 b hb).1,w0⟩
  rintro n s3 ⟨i,σ3,H3,I3,st3,fr3,w3⟩
  rcases turn i n σ3 H3 w3 with ⟨stop,qn⟩ | ⟨go,N,hN,step⟩
  · refine wpAny_passesOwn hp (thn (T.done X rfl rfl rfl hc i pins s3 σ3 H3 X.xe I3 (stat fr3) st3 stop) fun r s4 ⟨hr,I4⟩=>?_)
    subst hr
    exact wpAny_execs_nil ⟨σ3,H3,I4,qn⟩
  · refine wpAny_passesOwn hp (thn (T.item X rfl rfl rfl hc i pins s3 σ3 H3 X.xe I3 (stat fr3) st3 go) fun r s4 ⟨u,hr,h4⟩=>?_)
    subst hr
    refine wpAny_passesOwn hp (thn h4 fun _ s5 ⟨x,H5,I5,r5,y5,st5,fr5⟩=>?_)
    have I5':=I5.pinned (stat fr5) (T.obj _ _ st5)
    refine wpAny_passesOwn hp (thn (hg _ s5 σ3 H5 x u _ I5' r5 (step x H5 y5)) fun _ s6 ⟨σ6,H6,I6,q6⟩=>?_)
    refine wpAny_passesOwn hp (thn (hb _ s6 σ6 H6 _ I6 q6) fun f s7 q7=>?_)
    have again:∀ {σ7:St} {H7:Hp},Inv X (pins ++ pinsAt fp s5.heap) σ7 H7 s7→N σ7 H7→∃ m,m < n∧∃ i σ' H',Inv X pins σ' H' s7∧tn i s7.heap∧(∀ b∈fp,H' b = none)∧W i m σ' H':=fun {σ7 H7} I7 n7=>by
      obtain ⟨m',hm,w7⟩:=hN σ7 H7 n7
      refine ⟨m',hm,i + 1,σ7,H7,I7.unpinned,T.keep _ _ _ st5 fun b hb o e=>(I7.pin (b,o) (List.mem_append_right _ (List.mem_append_right _ (mem_pinsAt hb e)))).1,fun b hb=>?_,w7⟩
      obtain ⟨o,e,d⟩:=T.obj _ _ st5 b hb
      exact (I7.pin (b,o) (List.mem_append_right _ (List.mem_append_right _ (mem_pinsAt hb e)))).2.1
    cases f with
    | next=>obtain ⟨σ7,H7,I7,n7⟩:=q7; exact again I7 n7
    | cont=>obtain ⟨σ7,H7,I7,n7⟩:=q7; exact again I7 n7
    | brk=>obtain ⟨σ7,H7,I7,q7⟩:=q7; exact ⟨σ7,H7,I7.unpinned,q7⟩
    | ret v=>obtain ⟨x7,σ7,H7,I7,r7,q7⟩:=q7; exact ⟨x7,σ7,H7,I7.unpinned,r7,q7⟩
end
theorem for_list {K:PySem.W.Frag} {a:Addr} {xs:List V} {g:TG} {tb:TS} {D:Ends} {σ:St} {H:Hp} (Pv:Nat→St→Hp→Prop) (h0:Pv 0 σ H) (hl:∀ i σ H,i≤xs.length→Pv i σ H→SqL K H a xs)
    (hs:∀ i x σ H,xs[i]? = some x→Pv i σ H→g x σ H fun σ2 H2=>tb { D with nx:=Pv (i + 1),ct:=Pv (i + 1),bk:=D.nx } σ2 H2) (hd:∀ σ H,Pv xs.length σ H→D.nx σ H) :
    ∃ W:Nat→Nat→St→Hp→Prop,(∃ m,W 0 m σ H)∧∀ i m σ H,W i m σ H→
      ((Itl K a).stop i H∧D.nx σ H)∨((Itl K a).go i H∧∃ N:St→Hp→Prop,(∀ σ' H',N σ' H'→∃ m',m' < m∧W (i + 1) m' σ' H')∧∀ x H',(Itl K a).yld i H x H'→g x σ H' fun σ2 H2=>tb { D with nx:=N,ct:=N,bk:=D.nx } σ2 H2):=by
  refine ⟨fun i m σ H=>m = xs.length - i∧i≤xs.length∧Pv i σ H,⟨xs.length,by simp,Nat.zero_le _,h0⟩,?_⟩
  rintro i m σ H ⟨rfl,hi,p⟩
  have q:=hl i σ H hi p
  by_cases hlt:i < xs.length
  · refine .inr ⟨⟨xs,xs[i],q,by simp [hlt]⟩,Pv (i + 1),fun σ' H' p'=>⟨xs.length - (i + 1),by omega,rfl,hlt,p'⟩,fun x H' y=>?_⟩
    obtain ⟨e,y⟩:=y
    subst e
    exact hs i x σ _ (y xs q) p
  · have e:i = xs.length:=by omega
    subst e
    exact .inl ⟨⟨xs,q,Nat.le_refl _⟩,hd σ H p⟩
theorem for_range {lo:Int} {n:Nat} {g:TG} {tb:TS} {D:Ends} {σ:St} {H:Hp} (Pv:Nat→St→Hp→Prop) (h0:Pv 0 σ H)
    (hs:∀ i σ H,i < n→Pv i σ H→g (.int (lo + i)) σ H fun σ2 H2=>tb { D with nx:=Pv (i + 1),ct:=Pv (i + 1),bk:=D.nx } σ2 H2) (hd:∀ σ H,Pv n σ H→D.nx σ H) :
    ∃ W:Nat→Nat→St→Hp→Prop,(∃ m,W 0 m σ H)∧∀ i m σ H,W i m σ H→
      ((Itr lo n).stop i H∧D.nx σ H)∨((Itr lo n).go i H∧∃ N:St→Hp→Prop,(∀ σ' H',N σ' H'→∃ m',m' < m∧W (i + 1) m' σ' H')∧∀ x H',(Itr lo n).yld i H x H'→g x σ H' fun σ2 H2=>tb { D with nx:=N,ct:=N,bk:=D.nx } σ2 H2):=by
  refine ⟨fun i m σ H=>m = n - i∧i≤n∧Pv i σ H,⟨n,by simp,Nat.zero_le _,h0⟩,?_⟩
  rintro i m σ H ⟨rfl,hi,p⟩
  by_cases hlt:i < n
  · refine .inr ⟨hlt,Pv (i + 1),fun σ' H' p'=>⟨n - (i + 1),by omega,rfl,hlt,p'⟩,fun x H' y=>?_⟩
    obtain ⟨e,y⟩:=y
    subst e y
    exact hs i σ _ hlt p
  · have e:i = n:=by omega
    subst e
    exact .inl ⟨Nat.le_refl _,hd σ H p⟩
end L2
namespace L2
open PySem PySem.Spec PyProof.Rows
abbrev R2:=V→V→Hp→VK→Prop
def OpR (X:Cx) (f:Value→Value→Sem Value) (r:R2):Prop:=
  ∀ (pins:List (Addr×Obj)) (s:Shared) (σ:St) (H:Hp) (x y:V) (v u:Value) (Q:VK),Inv X pins σ H s→RelV x v→RelV y u→r x y H Q→
    wpAny (model X.prog X.w) X.A (f v u) (EP X pins σ Q) X.xe s
def UnR (X:Cx) (f:Value→Sem Value) (r:V→Hp→VK→Prop):Prop:=
  ∀ (pins:List (Addr×Obj)) (s:Shared) (σ:St) (H:Hp) (x:V) (v:Value) (Q:VK),Inv X pins σ H s→RelV x v→r x H Q→
    wpAny (model X.prog X.w) X.A (f v) (EP X pins σ Q) X.xe s
def CallR (X:Cx) (f:Value) (r:List V→Hp→VK→Prop):Prop:=
  ∀ (pins:List (Addr×Obj)) (s:Shared) (σ:St) (H:Hp) (xs:List V) (us:List Value) (Q:VK),Inv X pins σ H s→Vals xs us→r xs H Q→
    wpAny (model X.prog X.w) X.A (call f us) (EP X pins σ Q) X.xe s
def tOp (r:R2) (ta tb:TE):TE:=fun σ H Q=>ta σ H fun x H1=>tb σ H1 fun y H2=>r x y H2 Q
def tUn (r:V→Hp→VK→Prop) (ta:TE):TE:=fun σ H Q=>ta σ H fun x H1=>r x H1 Q
def rI (C:Int→Int→Prop) (g:Int→Int→V):R2:=fun x y H Q=>∃ i j,x = .int i∧y = .int j∧C i j∧Q (g i j) H
def rI0 (g:Int→Int→V):R2:=fun x y H Q=>∃ i j,x = .int i∧y = .int j∧Q (g i j) H
def rU (g:Int→V):V→Hp→VK→Prop:=fun x H Q=>∃ i,x = .int i∧Q (g i) H
section
variable {X:Cx} {a b c:Expr} {ta tb tc:TE} {pos:Pos}
theorem binT (ha:PE X a ta) (hb:PE X b tb) {pins:List (Addr×Obj)} {s:Shared} {σ:St} {H:Hp} {R:V→V→Hp→Prop} (I:Inv X pins σ H s)
    (h:ta σ H fun x H1=>tb σ H1 fun y H2=>R x y H2) {Q:Value→Shared→Prop} {f:Value→Value→Sem Value}
    (hf:∀ v u s2 x y H2,Inv X pins σ H2 s2→RelV x v→RelV y u→R x y H2→wpAny (model X.prog X.w) X.A (f v u) Q X.xe s2) :
    wpAny (model X.prog X.w) X.A (eval a X.env) (fun v s₁=>wpAny (model X.prog X.w) X.A (eval b X.env) (fun u s₂=>wpAny (model X.prog X.w) X.A (f v u) Q X.xe s₂) X.xe s₁) X.xe s:=by
  refine thn (ha pins s σ H _ I h) fun v s1 ⟨x,H1,I1,r1,q1⟩=>?_
  refine thn (hb pins s1 σ H1 _ I1 q1) fun u s2 ⟨y,H2,I2,r2,q2⟩=>?_
  exact hf v u s2 x y H2 I2 r1 r2 q2
theorem pe_op {op:Operator} {r:R2} (ho:OpR X (binaryOp op) r) (ha:PE X a ta) (hb:PE X b tb):PE X (.BinOp a op b pos) (tOp r ta tb):=by
  intro pins s σ H Q I h
  exact wpAny_BinOp (binT ha hb I h fun v u s2 x y H2 I2 rx ry q=>ho pins s2 σ H2 x y v u Q I2 rx ry q)
theorem pe_un {op:UnaryOp} {r:V→Hp→VK→Prop} (ho:UnR X (unaryOp op) r) (ha:PE X a ta):PE X (.UnaryOp op a pos) (tUn r ta):=by
  intro pins s σ H Q I h
  exact UnaryOp_ (thn (ha pins s σ H _ I h) fun v s1 ⟨x,H1,I1,r1,q1⟩=>ho pins s1 σ H1 x v Q I1 r1 q1)
theorem opI {f:Value→Value→Sem Value} {C:Int→Int→Prop} {g:Int→Int→Int}
    (rule:∀ (i j:Int) (t u:Tok) (s:Shared) (Q:Value→Shared→Prop) (E:Value→Shared→Prop),C i j→Q (.int (g i j) s.toks) { s with toks:=s.toks + 1 }→wpAny (model X.prog X.w) X.A (f (.int i t) (.int j u)) Q E s) :
    OpR X f (rI C fun i j=>.int (g i j)):=by
  intro pins s σ H x y v u Q I rx ry h
  obtain ⟨i,j,rfl,rfl,hc,q⟩:=h
  obtain ⟨t,rfl⟩:=rx
  obtain ⟨t',rfl⟩:=ry
  exact rule i j t t' s _ _ hc ⟨.int (g i j),H,I.tok _,⟨_,rfl⟩,q⟩
theorem opI0 {f:Value→Value→Sem Value} {g:Int→Int→Int}
    (rule:∀ (i j:Int) (t u:Tok) (s:Shared) (Q:Value→Shared→Prop) (E:Value→Shared→Prop),Q (.int (g i j) s.toks) { s with toks:=s.toks + 1 }→wpAny (model X.prog X.w) X.A (f (.int i t) (.int j u)) Q E s) :
    OpR X f (rI0 fun i j=>.int (g i j)):=by
  intro pins s σ H x y v u Q I rx ry h
  obtain ⟨i,j,rfl,rfl,q⟩:=h
  obtain ⟨t,rfl⟩:=rx
  obtain ⟨t',rfl⟩:=ry
  exact rule i j t t' s _ _ ⟨.int (g i j),H,I.tok _,⟨_,rfl⟩,q⟩
theorem opB0 {f:Value→Value→Sem Value} {g:Int→Int→Bool}
    (rule:∀ (i j:Int) (t u:Tok) (s:Shared) (Q:Value→Shared→Prop) (E:Value→Shared→Prop),Q (.bool (g i j)) s→wpAny (model X.prog X.w) X.A (f (.int i t) (.int j u)) Q E s) :
    OpR X f (rI0 fun i j=>.bl (g i j)):=by
  intro pins s σ H x y v u Q I rx ry h
  obtain ⟨i,j,rfl,rfl,q⟩:=h
  obtain ⟨t,rfl⟩:=rx
  obtain ⟨t',rfl⟩:=ry
  exact rule i j t t' s _ _ ⟨.bl (g i j),H,I,rfl,q⟩
def CDiv (i j:Int):Prop:=0 < j∧j < 1073741824
def CPow (i j:Int):Prop:=0≤j∧j≤1000000∧i.natAbs < 2 ^ 64
def CMul (i j:Int):Prop:=(-(2 ^ 64) < i∧i < 2 ^ 64)∨(-(2 ^ 64) < j∧j < 2 ^ 64)
theorem CMul.ok {i j:Int} (h:CMul i j):IntMulOk i j:=by
  rcases h with ⟨h1,h2⟩ | ⟨h1,h2⟩
  · exact .of_left (intBits_le_64 h1 h2)
  · exact .of_right (intBits_le_64 h1 h2)
theorem op_add:OpR X (binaryOp .Add) (rI0 fun i j=>.int (i + j)):=opI0 fun _ _ _ _ _ _ _ q=>add_int q
theorem op_mul:OpR X (binaryOp .Mult) (rI CMul fun i j=>.int (i * j)):=opI fun _ _ _ _ _ _ _ hc q=>mul_int q hc.ok
theorem op_fdiv:OpR X (binaryOp .FloorDiv) (rI CDiv fun i j=>.int (i / j)):=opI fun i j _ _ _ _ _ hc q=>by
  have h1:(0:Int) < j:=hc.1
  have h2:j < 1073741824:=hc.2
  exact floordiv_int (by omega) (by rw [Int.fdiv_eq_ediv_of_nonneg i (by omega)]; exact q) (.inl (PyProof.noPylong_small (by omega)))
theorem op_mod:OpR X (binaryOp .Mod) (rI (fun _ j=>0 < j) fun i j=>.int (i % j)):=opI fun i j _ _ _ _ _ hc q=>by
  have h1:(0:Int) < j:=hc
  exact mod_int' (by omega) (by rw [Int.fmod_eq_emod_of_nonneg i (by omega)]; exact q)
theorem op_pow:OpR X (binaryOp .Pow) (rI CPow fun i j=>.int (i ^ j.toNat)):=opI fun _ _ _ _ _ _ _ hc q=>pow_int_small hc.1 hc.2.1 hc.2.2 q
theorem unI {f:Value→Sem Value} {g:Int→Int}
    (rule:∀ (i:Int) (t:Tok) (s:Shared) (Q:Value→Shared→Prop) (E:Value→Shared→Prop),Q (.int (g i) s.toks) { s with toks:=s.toks + 1 }→wpAny (model X.prog X.w) X.A (f (.int i t)) Q E s) :
    UnR X f (rU fun i=>.int (g i)):=by
  intro pins s σ H x v Q I rx h
  obtain ⟨i,rfl,q⟩:=h
  obtain ⟨t,rfl⟩:=rx
  exact rule i t s _ _ ⟨.int (g i),H,I.tok _,⟨_,rfl⟩,q⟩
theorem un_neg:UnR X (unaryOp .USub) (rU fun i=>.int (-i)):=unI fun _ _ _ _ _ q=>neg_int q
end
def scal:V→V→Bool
  | .non,.non=>true | .non,.int _=>true | .int _,.non=>true | .non,.bl _=>true | .bl _,.non=>true | .non,.str _=>true | .str _,.non=>true
  | .int _,.int _=>true | .bl _,.bl _=>true | .str _,.str _=>true | .byt _,.byt _=>true
  | .int _,.str _=>true | .str _,.int _=>true | .bl _,.str _=>true | .str _,.bl _=>true
  | _,_=>false
def rEq:R2:=fun x y H Q=>scal x y = true∧Q (.bl (decide (x = y))) H
def rNe:R2:=fun x y H Q=>scal x y = true∧Q (.bl (!decide (x = y))) H
theorem dec_int {i j:Int}:decide (V.int i = V.int j) = (i == j):=by
  rw [Bool.eq_iff_iff]
  simp
theorem dec_bl {i j:Bool}:decide (V.bl i = V.bl j) = (i == j):=by
  rw [Bool.eq_iff_iff]
  simp
theorem dec_str {i j:Str}:decide (V.str i = V.str j) = (i == j):=by
  rw [Bool.eq_iff_iff]
  simp
theorem dec_byt {i j:Array UInt8}:decide (V.byt i = V.byt j) = (i.toList == j.toList):=by
  rw [Bool.eq_iff_iff]
  cases i
  cases j
  simp
section
variable {X:Cx} {a b c:Expr} {ta tb tc:TE} {pos:Pos}
theorem fin_bl {pins:List (Addr×Obj)} {σ:St} {H:Hp} {s:Shared} {Q:VK} {k k':Bool} (I:Inv X pins σ H s) (q:Q (.bl k) H) (e:k = k'):EP X pins σ Q (.bool k') s:=by
  subst e
  exact ⟨.bl k,H,I,rfl,q⟩
theorem op_eq:OpR X (compareOp .Eq) rEq:=by
  intro pins s σ H x y v u Q I rx ry h
  obtain ⟨hs,q⟩:=h
  cases x with
  | non=>
    cases rx
    cases y with
    | non=>cases ry; exact PySem.EqNone.eq_none_none (fin_bl I q (by simp))
    | bl j=>cases ry; exact PySem.EqNone.eq_none_bool (fin_bl I q (by simp))
    | int j=>obtain ⟨t',rfl⟩:=ry; exact PySem.EqNone.eq_none_int (fin_bl I q (by simp))
    | str j=>obtain ⟨t',rfl⟩:=ry; exact PySem.EqNone.eq_none_str (fin_bl I q (by simp))
    | _=>exact absurd (show false = true from hs) Bool.false_ne_true
  | bl i=>
    cases rx
    cases y with
    | non=>cases ry; exact PySem.EqNone.eq_bool_none (fin_bl I q (by simp))
    | bl j=>cases ry; exact eq_bool (fin_bl I q dec_bl)
    | str j=>obtain ⟨t',rfl⟩:=ry; exact PySem.EqMixed.eq_bool_str (fin_bl I q (by simp))
    | _=>exact absurd (show false = true from hs) Bool.false_ne_true
  | int i=>
    obtain ⟨t,rfl⟩:=rx
    cases y with
    | non=>cases ry; exact PySem.EqNone.eq_int_none (fin_bl I q (by simp))
    | int j=>obtain ⟨t',rfl⟩:=ry; exact eq_int (fin_bl I q dec_int)
    | str j=>obtain ⟨t',rfl⟩:=ry; exact PySem.EqMixed.eq_int_str (fin_bl I q (by simp))
    | _=>exact absurd (show false = true from hs) Bool.false_ne_true
  | str i=>
    obtain ⟨t,rfl⟩:=rx
    cases y with
    | non=>cases ry; exact PySem.EqNone.eq_str_none (fin_bl I q (by simp))
    | bl j=>cases ry; exact PySem.EqMixed.eq_str_bool (fin_bl I q (by simp))
    | int j=>obtain ⟨t',rfl⟩:=ry; exact PySem.EqMixed.eq_str_int (fin_bl I q (by simp))
    | str j=>obtain ⟨t',rfl⟩:=ry; exact eq_str (fin_bl I q dec_str)
    | _=>exact absurd (show false = true from hs) Bool.false_ne_true
  | byt i=>
    obtain ⟨t,rfl⟩:=rx
    cases y with
    | byt j=>obtain ⟨t',rfl⟩:=ry; exact PySem.W.eq_bytes (fin_bl I q dec_byt)
    | _=>exact absurd (show false = true from hs) Bool.false_ne_true
  | _=>cases y <;> exact absurd (show false = true from hs) Bool.false_ne_true
theorem op_ne:OpR X (compareOp .NotEq) rNe:=by
  intro pins s σ H x y v u Q I rx ry h
  obtain ⟨hs,q⟩:=h
  cases x with
  | non=>
    cases rx
    cases y with
    | non=>cases ry; exact PySem.EqNone.ne_none_none (fin_bl I q (by simp))
    | bl j=>cases ry; exact PySem.EqNone.ne_none_bool (fin_bl I q (by simp))
    | int j=>obtain ⟨t',rfl⟩:=ry; exact PySem.EqNone.ne_none_int (fin_bl I q (by simp))
    | str j=>obtain ⟨t',rfl⟩:=ry; exact PySem.EqNone.ne_none_str (fin_bl I q (by simp))
    | _=>exact absurd (show false = true from hs) Bool.false_ne_true
  | bl i=>
    cases rx
    cases y with
    | non=>cases ry; exact PySem.EqNone.ne_bool_none (fin_bl I q (by simp))
    | bl j=>cases ry; exact ne_bool (fin_bl I q (congrArg not dec_bl))
    | str j=>obtain ⟨t',rfl⟩:=ry; exact PySem.EqMixed.ne_bool_str (fin_bl I q (by simp))
    | _=>exact absurd (show false = true from hs) Bool.false_ne_true
  | int i=>
    obtain ⟨t,rfl⟩:=rx
    cases y with
    | non=>cases ry; exact PySem.EqNone.ne_int_none (fin_bl I q (by simp))
    | int j=>obtain ⟨t',rfl⟩:=ry; exact ne_int (fin_bl I q (congrArg not dec_int))
    | str j=>obtain ⟨t',rfl⟩:=ry; exact PySem.EqMixed.ne_int_str (fin_bl I q (by simp))
    | _=>exact absurd (show false = true from hs) Bool.false_ne_true
  | str i=>
    obtain ⟨t,rfl⟩:=rx
    cases y with
    | non=>cases ry; exact PySem.EqNone.ne_str_none (fin_bl I q (by simp))
    | bl j=>cases ry; exact PySem.EqMixed.ne_str_bool (fin_bl I q (by simp))
    | int j=>obtain ⟨t',rfl⟩:=ry; exact PySem.EqMixed.ne_str_int (fin_bl I q (by simp))
    | str j=>obtain ⟨t',rfl⟩:=ry; exact ne_str (fin_bl I q (congrArg not dec_str))
    | _=>exact absurd (show false = true from hs) Bool.false_ne_true
  | byt i=>
    obtain ⟨t,rfl⟩:=rx
    cases y with
    | byt j=>obtain ⟨t',rfl⟩:=ry; exact PySem.W.ne_bytes (fin_bl I q (congrArg not dec_byt))
    | _=>exact absurd (show false = true from hs) Bool.false_ne_true
  | _=>cases y <;> exact absurd (show false = true from hs) Bool.false_ne_true
theorem op_lt:OpR X (compareOp .Lt) (rI0 fun i j=>.bl (decide (i < j))):=opB0 fun _ _ _ _ _ _ _ q=>lt_int q
theorem op_le:OpR X (compareOp .LtE) (rI0 fun i j=>.bl (decide (i≤j))):=opB0 fun _ _ _ _ _ _ _ q=>le_int q
theorem op_gt:OpR X (compareOp .Gt) (rI0 fun i j=>.bl (decide (j < i))):=opB0 fun _ _ _ _ _ _ _ q=>gt_int q
theorem op_in_str:OpR X (compareOp .In) (fun x y H Q=>∃ i j,x = .str i∧y = .str j∧Q (.bl (!(Builtin.Str.occurrences j i 0 j.length 1).isEmpty)) H):=by
  intro pins s σ H x y v u Q I rx ry h
  obtain ⟨i,j,rfl,rfl,q⟩:=h
  obtain ⟨t,rfl⟩:=rx
  obtain ⟨t',rfl⟩:=ry
  exact in_str (fin_bl I q rfl)
theorem nomark (b:Expr) {op:CmpOp} (h:op≠.In:=by decide) (h2:op≠.NotIn:=by decide):behindInMarks op b = false:=by
  have e1:(op == CmpOp.In) = false:=by cases op <;> first | rfl | exact absurd rfl h
  have e2:(op == CmpOp.NotIn) = false:=by cases op <;> first | rfl | exact absurd rfl h2
  cases b <;> simp [behindInMarks,e1,e2]
theorem pe_cmpR {op:CmpOp} {r:R2} (ho:OpR X (compareOp op) r) (ha:PE X a ta) (hb:PE X b tb) (hm:behindInMarks op b = false):PE X (.Compare a [op] [b] pos) (tOp r ta tb):=by
  intro pins s σ H Q I h
  exact wpAny_Compare1 (binT ha hb I h fun v u s2 x y H2 I2 rx ry q=>ho pins s2 σ H2 x y v u Q I2 rx ry q) hm
def tTest (t:TE):TT:=fun σ H Q=>t σ H fun x H'=>∃ k,x = .bl k∧Q k H'
theorem pt_cmpR {op:CmpOp} {r:R2} (ho:OpR X (compareOp op) r) (ha:PE X a ta) (hb:PE X b tb) (hm:behindInMarks op b = false):PT X (.Compare a [op] [b] pos) (tTest (tOp r ta tb)):=by
  intro pins s σ H Q I h
  refine wpAny_isTrue_Compare1 (thn (ha pins s σ H _ I h) fun v s1 ⟨x,H1,I1,r1,q1⟩=>thn (hb pins s1 σ H1 _ I1 q1) fun u s2 ⟨y,H2,I2,r2,q2⟩=>
    thn (ho pins s2 σ H2 x y v u _ I2 r1 r2 q2) fun c s3 ⟨z,H3,I3,r3,k,e,q3⟩=>?_) hm
  subst e
  cases r3
  exact wpAny_truthy_bool ⟨H3,I3,q3⟩
def tChain (r r':R2) (ta tb tc:TE):TE:=fun σ H Q=>ta σ H fun x H1=>tb σ H1 fun y H2=>r x y H2 fun z H3=>∃ k,z = .bl k∧
  (if k = true then tc σ H3 fun w' H4=>r' y w' H4 Q else Q (.bl false) H3)
theorem pt_chain {op op':CmpOp} {r r':R2} (ho:OpR X (compareOp op) r) (ho':OpR X (compareOp op') r') (ha:PE X a ta) (hb:PE X b tb) (hc:PE X c tc)
    (hm:lastMarks [op,op'] [b,c] = false:=by with_unfolding_all rfl):PT X (.Compare a [op,op'] [b,c] pos) (tTest (tChain r r' ta tb tc)):=by
  intro pins s σ H Q I h
  refine isTrue_chain (thn (ha pins s σ H _ I h) fun v s1 ⟨x,H1,I1,r1,q1⟩=>test_link (thn (hb pins s1 σ H1 _ I1 q1) fun u s2 ⟨y,H2,I2,r2,q2⟩=>
    thn (ho pins s2 σ H2 x y v u _ I2 r1 r2 q2) fun d s3 ⟨z,H3,I3,r3,k,e,q3⟩=>?_)) hm
  subst e
  cases r3
  refine wpAny_truthy_bool ?_
  cases k with
  | false=>
    obtain ⟨k',e',q'⟩:=q3
    cases e'
    exact ite_ff ⟨H3,I3,q'⟩
  | true=>
    refine ite_tt (test_last (thn (hc pins s3 σ H3 _ I3 q3) fun w' s4 ⟨z',H4,I4,r4,q4⟩=>thn (ho' pins s4 σ H4 y z' u w' _ I4 r2 r4 q4) fun d' s5 ⟨z2,H5,I5,r5,k2,e2,q5⟩=>?_))
    subst e2
    cases r5
    exact wpAny_truthy_bool ⟨H5,I5,q5⟩
theorem line63:(sizeLine:Nat) < 2 ^ 63:=by rw [sizeLine_eq]; decide
theorem op_add_str:OpR X (binaryOp .Add) (fun x y H Q=>∃ i j,x = .str i∧y = .str j∧i.length + j.length≤sizeLine∧Q (.str (i ++ j)) H):=by
  intro pins s σ H x y v u Q I rx ry h
  obtain ⟨i,j,rfl,rfl,hz,q⟩:=h
  obtain ⟨t,rfl⟩:=rx
  obtain ⟨t',rfl⟩:=ry
  exact add_str (fun t' tk=>⟨.str (i ++ j),H,I.tok _,⟨_,rfl⟩,q⟩) hz
theorem vals1 {x:V} {us:List Value} (r:Vals [x] us):∃ u,us = [u]∧RelV x u:=by
  cases r with
  | cons r1 r2=>cases r2; exact ⟨_,rfl,r1⟩
theorem vals2 {x y:V} {us:List Value} (r:Vals [x,y] us):∃ u w',us = [u,w']∧RelV x u∧RelV y w':=by
  cases r with
  | cons r1 r2=>
    cases r2 with
    | cons r3 r4=>cases r4; exact ⟨_,_,rfl,r1,r3⟩
theorem call_int1:CallR X (.type "int") (fun xs H Q=>(∃ i,xs = [.int i]∧Q (.int i) H)∨∃ k,xs = [.bl k]∧Q (.int (if k then 1 else 0)) H):=by
  intro pins s σ H xs us Q I r h
  rcases h with ⟨i,rfl,q⟩ | ⟨k,rfl,q⟩
  · obtain ⟨u,rfl,t,rfl⟩:=vals1 r
    exact call_int_int ⟨.int i,H,I,⟨_,rfl⟩,q⟩
  · obtain ⟨u,rfl,r1⟩:=vals1 r
    cases r1
    exact call_int_bool ⟨.int (if k then 1 else 0),H,I.tok _,⟨_,rfl⟩,q⟩
end
end L2
namespace L2
open PySem PySem.Spec PyProof.Rows
structure ObjM (h:Heap) (x dx C:Addr) (mA:Str→Option Value):Prop where
  obj:h.get? x = some (PySem.W.instObj C dx)
  ns:h.Ns1 dx mA
  ne:dx≠x
theorem lookIn_ns {h:Heap} {dx:Addr} {mA:Str→Option Value} (n:h.Ns1 dx mA):∃ od,h.get? dx = some od∧∀ name,PySem.W.lookIn name od = some (mA name):=by
  obtain ⟨o,es,ep,ho,hd,hk,_,hm⟩:=n
  refine ⟨o,ho,fun name=>?_⟩
  have e:=hm name
  unfold nsFind findBy at e
  rw [← Array.find?_toList] at e
  unfold PySem.W.lookIn
  rw [hd]
  dsimp only
  split
  · rename_i y q
    rw [q] at e
    exact congrArg some e
  · rename_i q
    rw [q] at e
    have a:es.toList.any (·.refKey) = false:=by
      rw [List.any_eq_false]
      intro y hy
      obtain ⟨z,t,hkey⟩:=hk y (Array.mem_toList_iff.mp hy)
      simp [DictEntry.refKey,hkey]
    have a':¬ es.toList.any (·.refKey) = true:=by rw [a]; exact Bool.false_ne_true
    rw [if_neg a']
    exact congrArg some e
theorem ObjM.look {h:Heap} {x dx C:Addr} {mA:Str→Option Value} (I:ObjM h x dx C mA):∃ od,PySem.W.InstAt h x (PySem.W.instObj C dx) C (some od)∧∀ name,PySem.W.lookIn name od = some (mA name):=
  let ⟨od,ho,hl⟩:=lookIn_ns I.ns
  ⟨od,⟨I.obj,rfl,rfl,ho⟩,hl⟩
section
variable {prog:Program} {w:World} {A:Around} {E:Value→Shared→Prop} {s:Shared} {K:PySem.W.Frag} {x dx C f:Addr} {mA:Str→Option Value} {name:Str} {v:Value}
end
section
variable {P:Program} {w:World} {H H':Hp} {h h':Heap} {a C dx:Addr} {fs fs':List (Str×V)}
theorem ins_get (hok:HOk P w H h) (e:H a = some (.ins C dx fs)):∃ mA,ObjM h a dx C mA∧(∀ f,RelO (fs.lookup f) (mA f))∧PySem.Within mA (fs.map (·.1))∧fs.length≤1000∧H dx = some (.own a):=by
  obtain ⟨d,z,ne,ob,mA,n,r,q⟩:=(show ObjOk P w H h a (.ins C dx fs) from hok a _ e)
  exact ⟨mA,⟨ob,n,ne⟩,r,q,z,d⟩
end
structure Cls (K:PySem.W.Frag) (C:Addr):Prop where
  pg:PySem.W.plainGet K C Str.empty = true
  hd:PySem.W.hasDictIn K C = true
  po:PySem.W.plainOver K C = true
  sa:PySem.W.findIn K (.ref C) "__setattr__" = some (some (.builtin "object.__setattr__"))
theorem Cls.get {K:PySem.W.Frag} {C:Addr} (c:Cls K C) (f:Str):PySem.W.plainGet K C f = true:=c.pg
structure Con (K:PySem.W.Frag) (C:Addr) (f:Str) (v:V) (u:Value):Prop where
  at_:PySem.W.findIn K (.ref C) f = some (some u)
  rel:RelV v u
  get:PySem.W.specialIn K u "__get__" = some none
  cp:PySem.W.copiedNames.contains f = false
structure Meth (K:PySem.W.Frag) (C:Addr) (m:Str) (f:Addr):Prop where
  at_:PySem.W.findIn K (.ref C) m = some (some (.ref f))
  fn:PySem.W.isFn K (.ref f) = true
  kp:PySem.W.keepIn K (.ref f) = true
section
variable {X:Cx} {pins:List (Addr×Obj)} {σ:St} {H:Hp} {s:Shared} {a C dx:Addr} {fs:List (Str×V)} {f:Str} {v:V} {A:Around} {E:Value→Shared→Prop}
theorem Inv.made (I:Inv X pins σ H s):Inv X pins σ (upd (upd H s.heap.objs.size (.own (s.heap.objs.size + 1))) (s.heap.objs.size + 1) (.ins C s.heap.objs.size []))
    { s with heap:=(s.heap.push PySem.W.emptyDict).push (PySem.W.instObj C s.heap.objs.size) }:=by
  have e1:(s.heap.push PySem.W.emptyDict).get? s.heap.objs.size = some PySem.W.emptyDict:=Heap.get?_push_size s.heap rfl
  have e2:((s.heap.push PySem.W.emptyDict).push (PySem.W.instObj C s.heap.objs.size)).get? (s.heap.objs.size + 1) = some (PySem.W.instObj C s.heap.objs.size):=by
    have:=Heap.get?_push_size (s.heap.push PySem.W.emptyDict) (o:=PySem.W.instObj C s.heap.objs.size) rfl
    rwa [Heap.size_push] at this
  have e3:(s.heap.push PySem.W.emptyDict).Ns s.heap.objs.size (fun _=>none):=⟨PySem.W.emptyDict,#[],_,e1,rfl,(fun e he=>absurd he (by simp)),fun _=>rfl⟩
  have I1:=I.laid (a:=s.heap.objs.size) (o:=.own (s.heap.objs.size + 1)) (h':=s.heap.push PySem.W.emptyDict) (t':=s.toks) (fun b u q=>Heap.get?_push_of_some _ q) (Nat.le_refl _) ⟨_,e1⟩
  refine I1.laid (a:=s.heap.objs.size + 1) (o:=.ins C s.heap.objs.size []) (t':=s.toks) (fun b u q=>Heap.get?_push_of_some _ q) (Nat.le_of_eq (Heap.size_push _ _)) ?_
  have ne:s.heap.objs.size≠s.heap.objs.size + 1:=Nat.ne_of_lt (Nat.lt_succ_self _)
  refine ⟨by rw [upd_ne ne,upd_same],Nat.zero_le _,ne,e2,fun _=>none,(Heap.Ns1.of_empty e3).at fun o q=>Heap.get?_push_of_some _ q,fun _=>True.intro,fun y hy=>absurd rfl hy⟩
end
section
variable {X:Cx} {o e value:Expr} {f:Str} {pos pos' tpos:Pos} {ta tv:TE}
end
section
variable {X:Cx} {pins:List (Addr×Obj)} {σ:St} {H:Hp} {s:Shared} {A:Around} {E:Value→Shared→Prop} {Q:Value→Shared→Prop} {c:Value} {b:Bool}
inductive TyOf (K:PySem.W.Frag) (H:Hp):V→Value→Prop where
  | non:TyOf K H .non (.type "NoneType")
  | bl (x:Bool):TyOf K H (.bl x) (.type "bool")
  | int (i:Int):TyOf K H (.int i) (.type "int")
  | str (x:Str):TyOf K H (.str x) (.type "str")
  | flt (x:UInt64):TyOf K H (.flt x) (.type "float")
  | lst {a:Addr} {xs:List V} (e:H a = some (.lst xs)):TyOf K H (.ref a) (.type "list")
  | frz {a:Addr} {o:Obj} {xs:List V} (e:H a = some (.frz o (.lst xs))):TyOf K H (.ref a) (.type "list")
  | tup {a:Addr} {xs:List V} (e:H a = some (.tup xs)):TyOf K H (.ref a) (.type "tuple")
  | dK {a:Addr} {kvs:List (Key×V)} (e:H a = some (.dK kvs)):TyOf K H (.ref a) (.type "dict")
  | dT {a:Addr} {kvs:List (List Key×V)} (e:H a = some (.dT kvs)):TyOf K H (.ref a) (.type "dict")
  | ins {a C dx:Addr} {fs:List (Str×V)} (e:H a = some (.ins C dx fs)) (cl:Cls K C) (ha:PySem.W.findIn K (.ref C) "__class__" = some (some (.builtin "object.__class__")))
      (hn:PySem.W.specialIn K (.builtin "object.__class__") "__get__" = some (some (.builtin "getset_descriptor.__get__"))) (htk:PySem.W.takesIn K (.builtin "object.__class__") = some true)
      (hm:PySem.W.mroIn K C (.type "object") = some true):TyOf K H (.ref a) (.ref C)
theorem isinst_ok {x:V} {u t:Value} (I:Inv X pins σ H s) (rx:RelV x u) (ty:TyOf X.K H x t) (e:PySem.W.kitOne X.K t c = some b) (h:∀ tk,Q (.bool b) { s with toks:=tk }) :
    wpAny (model X.prog X.w) A (call (.builtin "isinstance") [u,c]) Q E s:=by
  cases ty with
  | non=>cases (show u = Value.none from rx); exact PySem.W.kia_one PySem.W.kitx_none I.kIn True.intro e (fun z=>nomatch z) h
  | bl y=>cases (show u = Value.bool y from rx); exact PySem.W.kia_one PySem.W.kitx_bool I.kIn True.intro e (fun z=>nomatch z) h
  | int i=>obtain ⟨t,q⟩:=(show ∃ t,u = Value.int i t from rx); cases q; exact PySem.W.kia_one PySem.W.kitx_int I.kIn True.intro e (fun z=>nomatch z) h
  | str y=>obtain ⟨t,q⟩:=(show ∃ t,u = Value.str y t from rx); cases q; exact PySem.W.kia_one PySem.W.kitx_str I.kIn True.intro e (fun z=>nomatch z) h
  | flt y=>obtain ⟨t,q⟩:=(show ∃ t,u = Value.float y t from rx); cases q; exact PySem.W.kia_one PySem.W.kitx_float I.kIn True.intro e (fun z=>nomatch z) h
  | @lst a xs ea=>
    cases (show u = Value.ref a from rx)
    obtain ⟨_,_,n,_,h1⟩:=(show ObjOk X.prog X.w H s.heap a (.lst xs) from I.hok a _ ea)
    exact PySem.W.kia_one PySem.W.kitx_list I.kIn ⟨_,h1,rfl⟩ e (fun z=>nomatch z) h
  | @frz a ob xs ea=>
    cases (show u = Value.ref a from rx)
    obtain ⟨_,_,_,n,_,h1⟩:=(show ObjOk X.prog X.w H s.heap a (.frz ob (.lst xs)) from I.hok a _ ea)
    exact PySem.W.kia_one PySem.W.kitx_list I.kIn ⟨_,h1,rfl⟩ e (fun z=>nomatch z) h
  | @tup a xs ea=>
    cases (show u = Value.ref a from rx)
    obtain ⟨_,_,_,p⟩:=(show ObjOk X.prog X.w H s.heap a (.tup xs) from I.hok a _ ea)
    obtain ⟨o,h1,h2,_⟩:=p
    exact PySem.W.kia_one PySem.W.kitx_tuple I.kIn ⟨o,h1,h2⟩ e (fun z=>nomatch z) h
  | @dK a kvs ea=>
    cases (show u = Value.ref a from rx)
    obtain ⟨_,_,vs,_,p⟩:=(show ObjOk X.prog X.w H s.heap a (.dK kvs) from I.hok a _ ea)
    obtain ⟨o,es,ep,h1,h2,_⟩:=p
    exact PySem.W.kia_one PySem.W.kitx_dict I.kIn ⟨o,h1,h2.1⟩ e (fun z=>nomatch z) h
  | @dT a kvs ea=>
    cases (show u = Value.ref a from rx)
    obtain ⟨_,_,xs,_,o,es,ep,h1,h2,_⟩:=(show ObjOk X.prog X.w H s.heap a (.dT kvs) from I.hok a _ ea)
    exact PySem.W.kia_one PySem.W.kitx_dict I.kIn ⟨o,h1,h2.1⟩ e (fun z=>nomatch z) h
  | @ins a C dx fs ea cl ha hn htk hm=>
    cases (show u = Value.ref a from rx)
    obtain ⟨mA,O,_⟩:=ins_get I.hok ea
    obtain ⟨od,J,_⟩:=O.look
    exact PySem.W.kia_one (PySem.W.kitx_own (cl.get _) cl.hd ha hn htk hm) I.kIn J e (fun z=>nomatch z) h
end
end L2
namespace L2
open PySem PySem.Spec PyProof.Rows
structure Room (k:Nat) (A:Around):Prop where
  hd:A.handled = none
  dp:A.depth + 3 * k + 5 < recursionLimit
  un:A.units + 16 * k + 200 < cLine
theorem Room.mono {j k:Nat} {A:Around} (r:Room k A) (h:j≤k):Room j A:=⟨r.hd,by have:=r.dp; omega,by have:=r.un; omega⟩
theorem Room.deeper {k:Nat} {A:Around} (r:Room (k + 1) A) (env:Env):Room k (A.deeper env):=
  ⟨r.hd,by have:=r.dp; show A.depth + 1 + 3 * k + 5 < _; omega,by have:=r.un; show A.units + 3 + 16 * k + 200 < _; omega⟩
theorem Room.in1 {k:Nat} {A:Around} (r:Room (k + 1) A):Room k A.in1:=
  ⟨r.hd,by have:=r.dp; show A.depth + 3 * k + 5 < _; omega,by have:=r.un; show A.units + 1 + 16 * k + 200 < _; omega⟩
theorem Room.depth {k:Nat} {A:Around} (r:Room k A):A.depth < recursionLimit:=by have:=r.dp; omega
theorem Room.units {k:Nat} {A:Around} (r:Room k A):A.units + 64 < cLine:=by have:=r.un; omega
def tNil:TA:=fun _ H Q=>Q [] H
def tCons (ta:TE) (tr:TA):TA:=fun σ H Q=>ta σ H fun x H1=>tr σ H1 fun xs H2=>Q (x :: xs) H2
section
variable {X:Cx} {e:Expr} {es:List Expr} {te:TE} {t:TA} {pos:Pos}
theorem pa_nil:PA X [] tNil:=fun _ _ _ _ H Q I h=>Calls.spliced_nil ⟨[],H,I,.nil,h⟩
theorem pa_cons (ha:PE X e te) (hr:PA X es t) (hs:starEach (e :: es) X.env = (false,eval e X.env) :: starEach es X.env:=by rfl):PA X (e :: es) (tCons te t):=by
  intro pos pins s σ H Q I h
  rw [hs]
  show wpAny _ _ (spliced ((false,eval e X.env) :: backTo pos (starEach es X.env))) _ _ s
  refine Calls.spliced_cons (thn (ha pins s σ H _ I h) fun u s1 ⟨x,H1,I1,r1,q1⟩=>?_)
  exact thn (hr pos pins s1 σ H1 _ I1 q1) fun us s2 ⟨xs,H2,I2,r2,q2⟩=>⟨x :: xs,H2,I2,.cons r1 r2,q2⟩
def tTup (t:TA):TE:=fun σ H Q=>t σ H fun xs H1=>xs.length≤sizeLine∧∀ p,H1 p = none→Q (.ref p) (upd H1 p (.tup xs))
def tLst (t:TA):TE:=fun σ H Q=>t σ H fun xs H1=>xs.length≤sizeLine∧∀ p,H1 p = none→Q (.ref p) (upd H1 p (.lst xs))
theorem pe_tup {x1} (h:PA X es t):PE X (.Tuple es x1 pos) (tTup t):=by
  intro pins s σ H Q I hq
  refine wpAny_Tuple_spliced (thn (h pos pins s σ H _ I hq) fun us s1 ⟨xs,H1,I1,r,z,q⟩=>⟨by rw [← r.length]; exact z,?_⟩)
  have hf:H1 s1.heap.objs.size = none:=I1.hok.fresh (Nat.le_refl _)
  refine ⟨.ref s1.heap.objs.size,upd H1 s1.heap.objs.size (.tup xs),I1.laid (t':=s1.toks) (fun b u e=>Heap.get?_push_of_some _ e) (Nat.le_refl _) ?_,rfl,q _ hf⟩
  exact ⟨z,us,r,⟨_,Heap.get?_push_size _ rfl,rfl,_,rfl⟩⟩
theorem pe_lst (h:PA X es t):PE X (.List es pos) (tLst t):=by
  intro pins s σ H Q I hq
  refine wpAny_List_spliced (thn (h pos pins s σ H _ I hq) fun us s1 ⟨xs,H1,I1,r,z,q⟩=>⟨by rw [← r.length]; exact z,?_⟩)
  have hf:H1 s1.heap.objs.size = none:=I1.hok.fresh (Nat.le_refl _)
  refine ⟨.ref s1.heap.objs.size,upd H1 s1.heap.objs.size (.lst xs),I1.laid (t':=s1.toks) (fun b u e=>Heap.get?_push_of_some _ e) (Nat.le_refl _) ?_,rfl,q _ hf⟩
  exact ⟨z,us,0,r,Heap.get?_push_size _ rfl⟩
end
abbrev Sp:=List V→Hp→VK→XK→Prop
abbrev CXT:=List Env→Hp→Shared→XK→Value→Shared→Prop
structure Env0 (P:Program) (w:World) (K:PySem.W.Frag) (mg:Str→Option Value) (base:Heap) (A:Around) (outer:List Env) (s:Shared) (H:Hp):Prop where
  frames:A.frames = some outer
  mod:Mod K mg base
  bs:∀ b o,base.get? b = some o→s.heap.get? b = some o∧H b = none
  bsz:base.objs.size≤s.heap.objs.size
  funs:s.heap.FunFrames base outer
  frf:∀ b∈frs outer,H b = none
  hok:HOk P w H s.heap
  bare:AllBare s.gens
def CE (outer:List Env) (P:Program) (w:World) (H:Hp) (s:Shared) (Q:VK) (u:Value) (s':Shared):Prop:=
  ∃ v H',s'.os = s.os∧AllBare s'.gens∧Un (frs outer) [] H H' s.heap s'.heap∧HOk P w H' s'.heap∧RelV v u∧Q v H'
def CR (CX:CXT) (outer:List Env) (P:Program) (w:World) (H:Hp) (s:Shared) (Q:VK) (E:XK) (r:Result) (s':Shared):Prop:=
  match r with
  | .ok (.ret u)=>CE outer P w H s Q u s'
  | .ok _=>False
  | .error e=>CX outer H s E e s'
structure FnOk (P:Program) (w:World) (K:PySem.W.Frag) (mg:Str→Option Value) (base:Heap) (CX:CXT) (k:Nat) (f:Addr) (fd:FuncData) (ps:List Str) (sp:Sp):Prop where
  len:∀ vs H Q E,sp vs H Q E→vs.length = ps.length
  run:∀ (A:Around) (outer:List Env) (s:Shared) (H:Hp) (args:Args) (us:List Value) (vs:List V) (Q:VK) (E:XK),Room k A→Env0 P w K mg base A outer s H→BindsTo s fd args (ps.zip us)→Vals vs us→sp vs H Q E→
    codeAny (model P w) A (.call (.ref f) args) (CR CX outer P w H s Q E) s
theorem FnOk.mono {P:Program} {w:World} {K:PySem.W.Frag} {mg:Str→Option Value} {base:Heap} {CX:CXT} {j k:Nat} {f:Addr} {fd:FuncData} {ps:List Str} {sp:Sp} (F:FnOk P w K mg base CX j f fd ps sp) (h:j≤k) :
    FnOk P w K mg base CX k f fd ps sp:=⟨F.len,fun A outer s H args us vs Q E hr=>F.run A outer s H args us vs Q E (hr.mono h)⟩
theorem Env0.in1 {P:Program} {w:World} {K:PySem.W.Frag} {mg:Str→Option Value} {base:Heap} {A:Around} {outer:List Env} {s:Shared} {H:Hp} (e:Env0 P w K mg base A outer s H) :
    Env0 P w K mg base A.in1 outer s H:=⟨e.frames,e.mod,e.bs,e.bsz,e.funs,e.frf,e.hok,e.bare⟩
section
variable {X:Cx} {pins:List (Addr×Obj)} {σ:St} {H:Hp} {s s':Shared}
theorem Inv.env0 (I:Inv X pins σ H s):Env0 X.prog X.w X.K X.mg X.base X.A X.stack s H:=
  ⟨I.ok.frames,I.ok.mod,I.bs,Nat.le_trans I.ok.bsz I.sz,I.stack,I.stkFree,I.hok,I.bare⟩
theorem Inv.after {Q:VK} {u:Value} (I:Inv X pins σ H s) (h:CE X.stack X.prog X.w H s Q u s'):EP X pins σ Q u s':=by
  obtain ⟨v,H',os,bare,un,hok,r,q⟩:=h
  obtain ⟨hh,g,d,t,os'⟩:=s'
  obtain rfl:os' = s.os:=os
  exact ⟨v,H',I.call (h':=hh) (g':=g) (d':=d) (t':=t) (ch:=[]) un hok bare (fun b z=>absurd z (by simp)),r,q⟩
end
def tCall (sp:Sp) (dvs:List V) (E:XK) (t:TA):TE:=fun σ H Q=>t σ H fun vs H1=>sp (vs ++ dvs) H1 Q E
def Binds (K:PySem.W.Frag) (fd:FuncData) (ps:List Str) (ds:List Value):Prop:=
  ∀ (s:Shared) (us:List Value),K.In s.heap→(us ++ ds).length = ps.length→BindsTo s fd ⟨us,[]⟩ (ps.zip (us ++ ds))
theorem Binds.all {K:PySem.W.Frag} {fd:FuncData} {ps:List Str} (h:∀ us:List Value,us.length = ps.length→bindArgs fd ⟨us,[]⟩ = pure (ps.zip us)):Binds K fd ps []:=fun s us _ hl=>by
  rw [List.append_nil] at hl ⊢
  exact .of_eq (h us hl)
def Passes (CX:CXT) (X:Cx) (E:XK):Prop:=∀ (pins:List (Addr×Obj)) (σ:St) (H:Hp) (s:Shared) (e:Value) (s':Shared),Inv X pins σ H s→CX X.stack H s E e s'→X.xe e s'
section
variable {X:Cx} {CX:CXT} {k:Nat} {f C:Addr} {fd:FuncData} {ps:List Str} {sp:Sp} {dvs:List V} {ds:List Value} {E:XK} {x m:Str} {p pos apos:Pos} {e o:Expr} {es:List Expr} {ta:TE} {t:TA}
theorem run_fn {pins:List (Addr×Obj)} {σ:St} {H:Hp} {s:Shared} {Q:VK} {us:List Value} {vs:List V} (F:FnOk X.prog X.w X.K X.mg X.base CX k f fd ps sp) (hr:Room k X.A) (hb:Binds X.K fd ps ds) (hd:Vals dvs ds) (hx:Passes CX X E)
    (I:Inv X pins σ H s) (r:Vals vs us) (h:sp (vs ++ dvs) H Q E):wpAny (model X.prog X.w) X.A (call (.ref f) us) (EP X pins σ Q) X.xe s:=by
  have r2:Vals (vs ++ dvs) (us ++ ds):=r.append hd
  have hl:(us ++ ds).length = ps.length:=by rw [← r2.length]; exact F.len _ _ _ _ h
  refine wpAny_call (codeAny_mono (F.run X.A X.stack s H ⟨us,[]⟩ (us ++ ds) (vs ++ dvs) Q E hr I.env0 (hb s us I.kIn hl) r2 h) fun r s' hq=>?_)
  cases r with
  | error e=>exact hx pins σ H s e s' I hq
  | ok fl=>
    cases fl with
    | ret u=>exact I.after hq
    | next=>exact False.elim hq
    | brk=>exact False.elim hq
    | cont=>exact False.elim hq
theorem pe_call (F:FnOk X.prog X.w X.K X.mg X.base CX k f fd ps sp) (hr:Room k X.A) (hg:Gl X x) (hm:X.mg x = some (.ref f)) (hk:PySem.W.keepIn X.K (.ref f) = true) (hb:Binds X.K fd ps ds) (hd:Vals dvs ds) (hx:Passes CX X E)
    (ha:PA X (e :: es) t) (hdb:(x == ("__debug__":Str)) = false:=by decide) (he:starEach (e :: es) X.env = (false,eval e X.env) :: starEach es X.env:=by rfl) (hpl:(backTo pos (starEach es X.env)).any (·.1) = false:=by rfl) :
    PE X (.Call (.Name x p) (e :: es) [] pos) (tCall sp dvs E t):=by
  intro pins s σ H Q I h
  refine wpAny_Call_Name_kw (ld_glob I hg hm ?_ hdb)
  refine PySem.W.callWith_K (h₀:=X.base) I.ok.mod.kin hk (thn (ha pos pins s σ H _ I h) fun us s1 ⟨vs,H1,I1,r,q⟩=>⟨I1.kIn,?_⟩) he hpl
  exact run_fn F hr hb hd hx I1 r q
structure Mk (K:PySem.W.Frag) (C f:Addr):Prop where
  makes:PySem.W.makesIn K C = true
  init:PySem.W.findIn K (.ref C) "__init__" = some (some (.ref f))
  fn:PySem.W.isFn K (.ref f) = true
  kp:PySem.W.keepIn K (.ref C) = true
end
section
variable {X:Cx} {CX:CXT} {k:Nat} {f C:Addr} {fd:FuncData} {ps ks:List Str} {sp:Sp} {E:XK} {x m:Str} {p pos apos kpos:Pos} {e o:Expr} {es:List Expr} {kws:List Keyword} {te ta:TE} {t tk:TA} {nm:Option Str}
structure KBinds (K:PySem.W.Frag) (fd:FuncData) (ps ks:List Str) (g:List Value→List Value→List Value) (gV:List V→List V→List V):Prop where
  to:∀ (s:Shared) (us ws:List Value),K.In s.heap→(g us ws).length = ps.length→BindsTo s fd ⟨us,ks.zip ws⟩ (ps.zip (g us ws))
  rel:∀ {vs:List V} {us:List Value} {zs:List V} {ws:List Value},Vals vs us→Vals zs ws→Vals (gV vs zs) (g us ws)
variable {g:List Value→List Value→List Value} {gV:List V→List V→List V}
end
structure FnScope (N P:List Str) (sc:Scope):Prop where
  kind:sc.kind = .function
  co:sc.isCoroutine = false
  gen:sc.isGenerator = false
  nd:N.Nodup
  pre:N.take P.length = P
  par:∀ x∈P,sc.names.lookup x = some .local∨sc.names.lookup x = some .cell
  nofree:∀ y∈sc.names,y.2≠.free
theorem bindL_out {kindOf:Str→Option NameKind} {x:Str}:∀ {binds:List (Str×Value)} {m:Str→Option Value},(∀ v,(x,v) ∉ binds)→bindL kindOf binds m x = m x
  | [],_,_=>rfl
  | (n,v) :: r,m,h=>by
    unfold bindL
    rw [bindL_out fun w hw=>h w (List.mem_cons_of_mem _ hw)]
    split
    · have:x≠n:=by rintro rfl; exact h v List.mem_cons_self
      simp [this]
    · rfl
theorem bindC_out {kindOf:Str→Option NameKind} {x:Str}:∀ {binds:List (Str×Value)} {m:Str→Option Value},(∀ v,(x,v) ∉ binds)→bindC kindOf binds m x = m x
  | [],_,_=>rfl
  | (n,v) :: r,m,h=>by
    unfold bindC
    rw [bindC_out fun w hw=>h w (List.mem_cons_of_mem _ hw)]
    split
    · rfl
    · have:x≠n:=by rintro rfl; exact h v List.mem_cons_self
      simp [this]
theorem bindL_get {kindOf:Str→Option NameKind} {x:Str} {v:Value}:∀ {P:List Str} {vs:List Value} {i:Nat} {m:Str→Option Value},P.Nodup→P[i]? = some x→vs[i]? = some v→kindOf x = some .local→
    bindL kindOf (P.zip vs) m x = some v
  | [],_,_,_,_,h,_,_=>by simp at h
  | _ :: _,[],_,_,_,_,h,_=>by simp at h
  | p :: P,w :: vs,0,m,nd,h1,h2,hk=>by
    simp at h1 h2; subst h1; subst h2
    show bindL kindOf ((p,w) :: P.zip vs) m p = _
    unfold bindL
    rw [bindL_out fun v hv=>(List.nodup_cons.mp nd).1 (List.of_mem_zip hv).1,if_pos hk]
    simp
  | p :: P,w :: vs,i + 1,m,nd,h1,h2,hk=>by
    show bindL kindOf ((p,w) :: P.zip vs) m x = _
    unfold bindL
    exact bindL_get (i:=i) (List.nodup_cons.mp nd).2 (by simpa using h1) (by simpa using h2) hk
theorem bindC_get {kindOf:Str→Option NameKind} {x:Str} {v:Value}:∀ {P:List Str} {vs:List Value} {i:Nat} {m:Str→Option Value},P.Nodup→P[i]? = some x→vs[i]? = some v→kindOf x≠some .local→
    bindC kindOf (P.zip vs) m x = some v
  | [],_,_,_,_,h,_,_=>by simp at h
  | _ :: _,[],_,_,_,_,h,_=>by simp at h
  | p :: P,w :: vs,0,m,nd,h1,h2,hk=>by
    simp at h1 h2; subst h1; subst h2
    show bindC kindOf ((p,w) :: P.zip vs) m p = _
    unfold bindC
    rw [bindC_out fun v hv=>(List.nodup_cons.mp nd).1 (List.of_mem_zip hv).1,if_neg hk]
    simp
  | p :: P,w :: vs,i + 1,m,nd,h1,h2,hk=>by
    show bindC kindOf ((p,w) :: P.zip vs) m x = _
    unfold bindC
    exact bindC_get (i:=i) (List.nodup_cons.mp nd).2 (by simpa using h1) (by simpa using h2) hk
def start (N:List Str) (vs:List V):St:=vs.map some ++ List.replicate (N.length - vs.length) none
def cxOf (CX:CXT) (P:Program) (w:World) (K:PySem.W.Frag) (mg:Str→Option Value) (base:Heap) (N:List Str) (qual:Str) (scope:Scope) (f:Addr) (cd:Value) (A:Around) (outer:List Env) (s:Shared) (H:Hp) (E:XK):Cx where
  prog:=P
  w:=w
  K:=K
  mg:=mg
  base:=base
  A:=A.deeper (envOfC qual scope s.heap.objs.size f cd)
  N:=N
  s₀:=s
  H₀:=H
  env:=envOfC qual scope s.heap.objs.size f cd
  outer:=outer
  stack:=envOfC qual scope s.heap.objs.size f cd :: outer
  ex:=[]
  calm:=true
  fn:=fun _=>true
  pn:=[]
  xe:=fun e s'=>wpAny (model P w) (A.deeper (envOfC qual scope s.heap.objs.size f cd)) (leaving (envOfC qual scope s.heap.objs.size f cd) e) (fun _ s''=>CX outer H s E e s'') (fun e' s''=>CX outer H s E e' s'') s'
theorem cell_has {sc:Scope} {n:Nat} {x:Str} (h:sc.names.lookup x = some .cell):∃ c,(cellsFrom n sc.names []).lookup x = some c:=by
  have q:=PySem.W.cellsFrom_some sc.names n [] (.inl h)
  exact Option.isSome_iff_exists.mp q
theorem inv_start {CX:CXT} {P:Program} {w:World} {K:PySem.W.Frag} {mg:Str→Option Value} {base:Heap} {N ps:List Str} {qual:Str} {scope:Scope} {f:Addr} {cd:Value} {A:Around} {outer:List Env} {s s1:Shared} {H:Hp} {E:XK} {us:List Value} {vs:List V}
    (S:FnScope N ps scope) (hd:A.handled = none) (e0:Env0 P w K mg base A outer s H) (hl:vs.length = ps.length) (r:Vals vs us)
    (x:InCallC s s.heap.objs.size (bindL (envOfC qual scope s.heap.objs.size f cd).kindOf (ps.zip us) fun _=>none) (cellsFrom (s.heap.objs.size + 1) scope.names []) (bindC (envOfC qual scope s.heap.objs.size f cd).kindOf (ps.zip us) fun _=>none) s1) :
    Inv (cxOf CX P w K mg base N qual scope f cd A outer s H E) [] (start N vs) H s1:=by
  have hpl:ps.length≤N.length:=by have:=congrArg List.length S.pre; rw [List.length_take] at this; omega
  obtain ⟨h1,tk,rfl,hk⟩:=x.done
  have noA:∀ b:Addr,b ∉ (cxOf CX P w K mg base N qual scope f cd A outer s H E).ex:=fun b z=>absurd (show b∈([]:List Addr) from z) (by simp)
  refine ⟨⟨e0.mod,S.kind,rfl,rfl,Nat.le_refl _,fun y z c h1 h2=>?_,fun y hy=>?_,fun y c _ h=>?_,fun _=>hd,Around.frames_deeper e0.frames,.inr ⟨rfl,rfl⟩,fun b z=>absurd z (noA b),e0.bs,e0.bsz,fun b _ _=>noA b,fun b z=>absurd z (noA b),e0.funs,e0.frf⟩,
    rfl,e0.bare,Un.kept hk,⟨_,x.toInCall.ns,fun i y v h1 h2 h3=>?_⟩,fun y c h=>⟨_,x.cell y c h⟩,e0.hok.fresh (Nat.le_refl _),fun y c h=>?_,fun p hp=>absurd (show p∈([]:List (Addr×Obj)) from hp) (by simp),e0.hok.kept hk,?_⟩
  · exact name_of_addr x.apart (PySem.mem_of_lookup h1) (PySem.mem_of_lookup h2)
  · have hy:scope.names.lookup y = some .cell∨scope.names.lookup y = some .free:=hy
    rcases hy with hy | hy
    · exact cell_has hy
    · exact absurd rfl (S.nofree _ (PySem.mem_of_lookup hy))
  · exact Nat.le_of_lt (x.above y c (PySem.mem_of_lookup h))
  · have hi:i < vs.length:=by
      unfold start at h2
      by_cases hi:i < vs.length
      · exact hi
      · rw [List.getElem?_append_right (by simpa using hi)] at h2
        rw [List.getElem?_replicate] at h2
        split at h2 <;> cases h2
    have ha:vs[i]? = some v:=by
      unfold start at h2
      rw [List.getElem?_append_left (by simpa using hi),List.getElem?_map] at h2
      cases e:vs[i]? with
      | none=>rw [e] at h2; cases h2
      | some a=>rw [e] at h2; cases h2; rfl
    obtain ⟨u,hu,rv⟩:=r.get ha
    have hp:ps[i]? = some y:=by
      rw [← S.pre,List.getElem?_take_of_lt (by omega)]; exact h1
    have ndP:ps.Nodup:=by rw [← S.pre]; exact S.nd.sublist (List.take_sublist _ _)
    refine ⟨u,rv,?_⟩
    rcases S.par y (List.mem_of_getElem? hp) with k | k
    · exact .inl ⟨k,bindL_get ndP hp hu k⟩
    · obtain ⟨c,e⟩:=cell_has (n:=s.heap.objs.size + 1) k
      refine .inr ⟨.inl k,c,e,?_⟩
      have q:=x.cell y c e
      rw [bindC_get ndP hp hu (by show scope.names.lookup y≠_; rw [k]; decide)] at q
      exact q
  · exact e0.hok.fresh (Nat.le_of_lt (x.above y c (PySem.mem_of_lookup h)))
  · unfold start
    show _ = N.length
    rw [List.length_append,List.length_map,List.length_replicate]
    omega
theorem fn_of {CX:CXT} {P:Program} {w:World} {K:PySem.W.Frag} {mg:Str→Option Value} {base:Heap} {k:Nat} {f:Addr} {name qual:Str} {params:Arguments} {body:List Stmt} {scope:Scope} {dV kV doc pm cdv ct oc:Value} {an od:Option Addr}
    {osl:Array (Option Value)} {N ps:List Str} {sp:Sp} (lk:K.lookup f = some ⟨oc,od,.func (PySem.W.fnOf name qual params body scope dV kV doc pm an cdv ct),osl⟩) (hcd:PySem.W.codeIn K cdv qual = true) (S:FnScope N ps scope)
    (len:∀ vs H Q E,sp vs H Q E→vs.length = ps.length)
    (hbody:∀ (A:Around) (outer:List Env) (s:Shared) (H:Hp) (vs:List V) (Q:VK) (E:XK),Room k (A.deeper (envOfC qual scope s.heap.objs.size f cdv))→sp vs H Q E→
      ∃ t,PSs (cxOf CX P w K mg base N qual scope f cdv A outer s H E) body t∧t { nx:=fun _ H'=>Q .non H',rt:=Q } (start N vs) H) :
    FnOk P w K mg base CX (k + 1) f (PySem.W.fnOf name qual params body scope dV kV doc pm an cdv ct) ps sp:=by
  refine ⟨len,fun A outer s H args us vs Q E hr e0 hb r hsp=>?_⟩
  have hl:=len _ _ _ _ hsp
  have KX:K.In s.heap:=e0.mod.kin.keeps fun b o e=>(e0.bs b o e).1
  have lim:s.heap.NoLimit:=e0.mod.nolimit.keeps fun b o e=>(e0.bs b o e).1
  have hkind:∀ y∈ps.zip us,scope.names.lookup y.1 = some .local∨(scope.names.lookup y.1 = some .cell∧((cellsFrom (s.heap.objs.size + 1) scope.names []).lookup y.1).isSome = true):=fun ⟨n,v⟩ hy=>by
    rcases S.par n (List.of_mem_zip hy).1 with q | q
    · exact .inl q
    · exact .inr ⟨q,PySem.W.cellsFrom_some _ _ _ (.inl q)⟩
  refine codeAny_call_function hr.depth (KX _ _ lk) rfl S.co S.gen rfl (PySem.W.codeRec_of KX hcd) (hb _ _ _ _ ?_)
  refine wpAny_newFunctionEnv_cells S.kind hkind fun env he s1 x=>?_
  subst he
  refine ⟨lim.keeps x.toInCall.keep,codeAny_func ?_⟩
  obtain ⟨t,ht,hq⟩:=hbody A outer s H vs Q E (hr.deeper _) hsp
  have I:Inv (cxOf CX P w K mg base N qual scope f cdv A outer s H E) [] (start N vs) H s1:=inv_start S hr.hd e0 hl r x
  refine wpAny_mono (ht [] s1 (start N vs) H _ I hq) (fun fl s' hs=>?_) fun e s' hs=>hs
  have fin:∀ {σ':St} {H':Hp} {v:V} {u:Value},Inv (cxOf CX P w K mg base N qual scope f cdv A outer s H E) [] σ' H' s'→RelV v u→Q v H'→CE outer P w H s Q u s':=
    fun {σ' H' v u} J rv q=>⟨v,H',J.os,J.bare,J.base,J.hok,rv,q⟩
  cases fl with
  | ret u=>
    obtain ⟨v,σ',H',J,rv,q⟩:=hs
    exact fin J rv q
  | next=>
    obtain ⟨σ',H',J,q⟩:=hs
    exact fin (v:=V.non) (u:=Value.none) J rfl q
  | brk=>
    obtain ⟨_,_,_,q⟩:=hs
    exact False.elim q
  | cont=>
    obtain ⟨_,_,_,q⟩:=hs
    exact False.elim q
end L2
namespace L2
open PySem PySem.Spec PyProof.Rows
section
variable {X:Cx} {x:Str} {p pos:Pos} {e:Expr} {es:List Expr} {t:TA} {id T:String} {r:List V→Hp→VK→Prop}
def tCB (r:List V→Hp→VK→Prop) (t:TA):TE:=fun σ H Q=>t σ H fun vs H1=>r vs H1 Q
theorem pe_callB (hc:CallR X (.builtin id) r) (hg:Gl X x) (hm:X.mg x = none) (hv:bootBuiltins x = some (.builtin id)) (ha:PA X (e :: es) t) (hn:x≠"__name__":=by decide) (hdb:(x == ("__debug__":Str)) = false:=by decide)
    (he:starEach (e :: es) X.env = (false,eval e X.env) :: starEach es X.env:=by rfl) (hpl:(backTo pos (starEach es X.env)).any (·.1) = false:=by rfl):PE X (.Call (.Name x p) (e :: es) [] pos) (tCB r t):=by
  intro pins s σ H Q I h
  refine wpAny_Call_Name_kw (ld_blt I hg hm hv ?_ hn hdb)
  exact PyProof.Rows.callWith_builtin1 (thn (ha pos pins s σ H _ I h) fun us s1 ⟨vs,H1,I1,r1,q1⟩=>hc pins s1 σ H1 vs us Q I1 r1 q1) he hpl
theorem pe_callTy (hc:CallR X (.type T) r) (hg:Gl X x) (hm:X.mg x = none) (hv:bootBuiltins x = some (.type T)) (ha:PA X (e :: es) t) (hn:x≠"__name__":=by decide) (hdb:(x == ("__debug__":Str)) = false:=by decide)
    (he:starEach (e :: es) X.env = (false,eval e X.env) :: starEach es X.env:=by rfl) (hpl:(backTo pos (starEach es X.env)).any (·.1) = false:=by rfl):PE X (.Call (.Name x p) (e :: es) [] pos) (tCB r t):=by
  intro pins s σ H Q I h
  refine wpAny_Call_Name_kw (ld_blt I hg hm hv ?_ hn hdb)
  exact PyProof.Rows.callWith_type1 (thn (ha pos pins s σ H _ I h) fun us s1 ⟨vs,H1,I1,r1,q1⟩=>hc pins s1 σ H1 vs us Q I1 r1 q1) he hpl
end
end L2
namespace HT
open PySem PyProof.Rows
section
open PySem.SeqAt
open PySem.AutoSeq1 (wpAny_loadPart')
open PySem.MeetsSeq PySem.MeetsSeq2 PySem.MeetsSeq3
end
section
variable {prog:Program} {w:World} {A:Around} {E:Value→Shared→Prop} {s:Shared}
theorem cat_tup {t b:Addr} {vs ws:List Value} {Q:Value→Shared→Prop} (ht:IsTup s.heap t vs.toArray) (hb:IsTup s.heap b ws.toArray) (hv:vs≠[])
    (h1:ws = []→Q (.ref t) s) (h2:ws≠[]→Q (.ref s.heap.objs.size) { s with heap:=s.heap.push { cls:=.type "tuple",data:=.seq (vs ++ ws).toArray } })
    (hsz:vs.length + ws.length≤sizeLine):wpAny (model prog w) A (binaryOp .Add (.ref t) (.ref b)) Q E s:=by
  obtain ⟨⟨cls,dd,data,sl⟩,ho,hc,n,hd⟩:=id ht
  obtain ⟨⟨cls2,dd2,data2,sl2⟩,ho2,hc2,n2,hd2⟩:=id hb
  simp only at hc hd hc2 hd2
  subst hc hd hc2 hd2
  have e:vs.toArray ++ ws.toArray = (vs ++ ws).toArray:=by simp
  by_cases hw:ws = []
  · exact concat_meets ⟨_,ho,rfl⟩ ⟨_,ho2,rfl⟩ noFill_tuple_add seq_tuple_add PySem.F.slot_tuple_add PySem.F.entry_tuple_add (PySem.F.args_tuple_add_2 _ _)
      (tuple_addW1 t b vs.toArray ws.toArray n n2 dd dd2 sl sl2 (by simpa using hv) (by simp [hw])) ⟨ho,ho2,h1 hw⟩
  · refine concat_meets ⟨_,ho,rfl⟩ ⟨_,ho2,rfl⟩ noFill_tuple_add seq_tuple_add PySem.F.slot_tuple_add PySem.F.entry_tuple_add (PySem.F.args_tuple_add_2 _ _)
      (tuple_addW2 t b vs.toArray ws.toArray n n2 dd dd2 sl sl2 (by simpa using hv) (by simpa using hw) (by rw [List.size_toArray,List.size_toArray]; exact hsz)) ⟨ho,ho2,?_⟩
    rw [e]
    exact h2 hw
def sIx (n d:Nat):Option Int→Nat
  | none=>d
  | some v=>if v < 0 then (v + (n:Int)).toNat else min v.toNat n
theorem sIx_none (n d:Nat):sIx n d none = d:=rfl
theorem sIx_nat (n d k:Nat):sIx n d (some (k:Int)) = min k n:=by
  show (if (k:Int) < 0 then ((k:Int) + (n:Int)).toNat else min (k:Int).toNat n) = min k n
  rw [if_neg (by omega),Int.toNat_natCast]
theorem sIx_le (n d:Nat) (hd:d≤n) (o:Option Int):sIx n d o≤n:=by
  cases o with
  | none=>exact hd
  | some v=>
    show (if v < 0 then (v + (n:Int)).toNat else min v.toNat n)≤n
    by_cases hv:v < 0
    · rw [if_pos hv]; omega
    · rw [if_neg hv]; exact Nat.min_le_right _ _
theorem clip_eq (v:Int) (n d:Nat):(if v < 0 then max (v + (n:Int)) 0 else min v (n:Int)) = ((sIx n d (some v):Nat):Int):=by
  show (if v < 0 then max (v + (n:Int)) 0 else min v (n:Int)) = (((if v < 0 then (v + (n:Int)).toNat else min v.toNat n):Nat):Int)
  by_cases hv:v < 0
  · simp only [if_pos hv]; omega
  · simp only [if_neg hv]; omega
theorem adjust_gen (lo hi:Option Int) (n:Nat):Builtin.Slice.sliceAdjust lo hi 1 (n:Int) = (((sIx n 0 lo:Nat):Int),((sIx n n hi:Nat):Int)):=by
  have h1:¬ ((1:Int) < 0):=by omega
  unfold Builtin.Slice.sliceAdjust
  simp only [h1,if_false]
  refine Prod.ext ?_ ?_
  · cases lo with
    | none=>rfl
    | some v=>exact clip_eq v n 0
  · cases hi with
    | none=>rfl
    | some v=>exact clip_eq v n n
theorem places_gen (i j:Nat):Builtin.Slice.slicePlaces (i:Int) (j:Int) 1 = j - i:=by
  unfold Builtin.Slice.slicePlaces
  have h1:(1:Int) > 0:=by omega
  simp only [h1,if_true,Int.ediv_one]
  split <;> omega
theorem slicePart_ {v:Value} {o:Option Int} {Q:Option Int→Shared→Prop} (p:IsPart v o) (h:Q o s):wpAny (model prog w) A (Builtin.Slice.slicePartIndex v) Q E s:=by
  cases p with
  | none=>exact slicePart_none h
  | int i t=>exact slicePart_int h
theorem sliceApplied_gen {sl:Addr} {vl vu:Value} {lo hi:Option Int} {n:Nat} {Q:Int×Int×Nat→Shared→Prop} (hs:s.heap.IsSliceOf sl vl vu .none) (pl:IsPart vl lo) (pu:IsPart vu hi)
    (h:Q (((sIx n 0 lo:Nat):Int),1,sIx n n hi - sIx n 0 lo) s):wpAny (model prog w) A (Builtin.Slice.sliceApplied (.ref sl) (pure (n:Int))) Q E s:=by
  obtain ⟨os,hos,hcs,hds⟩:=id hs
  unfold Builtin.Slice.sliceApplied Builtin.Slice.sliceFields
  refine wpAny_bind (wpAny_bind (wpAny_field hos hds (x:=vl) rfl (wpAny_bind (wpAny_field hos hds (x:=vu) rfl (wpAny_bind (wpAny_field hos hds (x:=.none) rfl (wpAny_pure ?_)))))))
  refine wpAny_bind (slicePart_none ?_)
  show wpAny _ _ (if ((1:Int) == 0) = true then _ else _) _ _ s
  rw [if_neg (by decide)]
  refine wpAny_bind (slicePart_ pl (wpAny_bind (slicePart_ pu (wpAny_bind (wpAny_pure ?_)))))
  show wpAny _ _ (match Builtin.Slice.sliceAdjust lo hi 1 (n:Int) with | (lo,hi)=>pure (lo,(1:Int),Builtin.Slice.slicePlaces lo hi 1)) _ _ s
  rw [adjust_gen lo hi n]
  show wpAny _ _ (pure (((sIx n 0 lo:Nat):Int),(1:Int),Builtin.Slice.slicePlaces ((sIx n 0 lo:Nat):Int) ((sIx n n hi:Nat):Int) 1)) _ _ s
  rw [places_gen]
  exact wpAny_pure h
theorem pick_gen (xs:Array Value) (i k:Nat):((List.range k).filterMap fun (m:Nat)=>xs[((i:Int) + (m:Int) * 1).toNat]?).toArray = ((xs.toList.drop i).take k).toArray:=by
  have e:(fun (m:Nat)=>xs[((i:Int) + (m:Int) * 1).toNat]?) = fun m=>xs[i + m]?:=by
    funext m
    have:((i:Int) + (m:Int) * 1).toNat = i + m:=by omega
    rw [this]
  rw [e]
  have:=pick_run xs i k
  rw [List.filterMap_map] at this
  have e2:((fun x=>xs[x]?)∘fun x=>i + x) = fun m=>xs[i + m]?:=rfl
  rw [e2] at this
  rw [this]
theorem getItem_tuple_cut {t sl:Addr} {items:Array Value} {vl vu:Value} {lo hi:Option Int} {Q:Value→Shared→Prop} (ht:IsTup s.heap t items) (hs:s.heap.IsSliceOf sl vl vu .none) (pl:IsPart vl lo) (pu:IsPart vu hi)
    (hw:¬ (sIx items.size 0 lo = 0∧sIx items.size items.size hi = items.size))
    (h:Q (.ref s.heap.objs.size) { s with heap:=s.heap.push { cls:=.type "tuple",data:=.seq ((items.toList.drop (sIx items.size 0 lo)).take (sIx items.size items.size hi - sIx items.size 0 lo)).toArray } })
    (hsz:items.size≤sizeLine):wpAny (model prog w) A (getItem (.ref t) (.ref sl)) Q E s:=by
  have htake:sizeOk (.seq ((items.toList.drop (sIx items.size 0 lo)).take (sIx items.size items.size hi - sIx items.size 0 lo)).toArray):=by
    show ((items.toList.drop (sIx items.size 0 lo)).take (sIx items.size items.size hi - sIx items.size 0 lo)).toArray.size≤sizeLine
    rw [List.size_toArray,List.length_take,List.length_drop,Array.length_toList]
    omega
  have hj:sIx items.size items.size hi≤items.size:=sIx_le _ _ (Nat.le_refl _) hi
  obtain ⟨os,hos,hcs,hds⟩:=id hs
  have hTs:s.TypeIs (.ref sl) "slice":=⟨os,hos,hcs⟩
  unfold getItem
  try with_reducible refine wpAny_holding ?_
  first | refine wpAny_bind (wpAny_pure ?_) | skip
  refine wpAny_bind (wpAny_sequenceKey ht.typeIs (by decide) ?_)
  refine wpAny_bind (wpAny_callSpecial?_slot (name:=Str.ofString "__getitem__") ht.typeIs PyProof.Rows.slot_tuple_getitem
    (wpAny_call_entry PyProof.Rows.slot_tuple_getitem ht.typeIs entry_tuple_getitem ?_ (args_tuple_getitem _ _)))
  show wpAny _ _ (Builtin.Tuple.tupleItemsOf (.ref t) >>= _) _ _ s
  refine wpAny_bind (tupleItemsOf_ ht ?_)
  refine wpAny_bind (wpAny_typeOf hTs ?_)
  rw [if_pos (by decide)]
  refine wpAny_bind (sliceApplied_gen hs pl pu ?_)
  have hno:¬ ((((sIx items.size 0 lo:Nat):Int) == 0 && (1:Int) == 1 && (sIx items.size items.size hi - sIx items.size 0 lo) == items.size) = true):=by
    intro q
    rw [Bool.and_eq_true,Bool.and_eq_true] at q
    have q1:((sIx items.size 0 lo:Nat):Int) = 0:=eq_of_beq q.1.1
    have q2:sIx items.size items.size hi - sIx items.size 0 lo = items.size:=eq_of_beq q.2
    exact hw ⟨by omega,by omega⟩
  show wpAny _ _ (if (((sIx items.size 0 lo:Nat):Int) == 0 && (1:Int) == 1 && (sIx items.size items.size hi - sIx items.size 0 lo) == items.size) = true then _ else _) _ _ s
  rw [if_neg hno,pick_gen]
  first
    | exact wpAny_bind (m:=Builtin.Tuple.tupleExact _) (wpAny_newObj_type (wpAny_pure ⟨_,rfl,wpAny_pure h⟩) htake)
    | exact wpAny_bind (m:=Builtin.Tuple.tupleExact _) (wpAny_newObj_type (wpAny_bind (wpAny_pure (wpAny_pure ⟨_,rfl,wpAny_pure h⟩))) htake)
    | exact wpAny_bind (wpAny_bind (m:=Builtin.Tuple.tupleExact _) (wpAny_newObj_type (wpAny_pure (wpAny_pure ⟨_,rfl,wpAny_pure h⟩)) htake))
    | exact wpAny_bind (wpAny_bind (m:=Builtin.Tuple.tupleExact _) (wpAny_newObj_type (wpAny_pure ⟨_,rfl,wpAny_pure h⟩) htake))
end
end HT
namespace L2
open PySem PySem.Spec PyProof.Rows
abbrev TO:=St→Hp→(Option Int→Hp→Prop)→Prop
def PO (X:Cx) (e:Option Expr) (t:TO):Prop:=
  ∀ (pins:List (Addr×Obj)) (s:Shared) (σ:St) (H:Hp) (Q:Option Int→Hp→Prop),Inv X pins σ H s→t σ H Q→
    wpAny (model X.prog X.w) X.A (evalPart e X.env) (fun u s'=>∃ o H',Inv X pins σ H' s'∧IsPart u o∧Q o H') X.xe s
def tNoPart:TO:=fun _ H Q=>Q none H
def tPart (t:TE):TO:=fun σ H Q=>t σ H fun x H1=>∃ i,x = .int i∧Q (some i) H1
section
variable {X:Cx} {e:Expr} {te:TE} {lo hi:Option Expr} {tl th:TO} {pos p2:Pos}
theorem po_none:PO X none tNoPart:=by
  intro pins s σ H Q I h
  rw [evalPart_none]
  exact wpAny_pure ⟨none,H,I,.none,h⟩
theorem po_some (h:PE X e te):PO X (some e) (tPart te):=by
  intro pins s σ H Q I hw
  rw [evalPart_some]
  refine thn (h pins s σ H _ I hw) fun u s1 ⟨x,H1,I1,r1,q1⟩=>?_
  obtain ⟨i,rfl,q⟩:=q1
  obtain ⟨t,rfl⟩:=r1
  exact ⟨some i,H1,I1,.int i t,q⟩
def SlR (X:Cx) (r:V→Option Int→Option Int→Hp→VK→Prop):Prop:=
  ∀ (pins:List (Addr×Obj)) (s:Shared) (σ:St) (H:Hp) (x:V) (v vl vu:Value) (lo hi:Option Int) (sl:Addr) (Q:VK),Inv X pins σ H s→RelV x v→s.heap.IsSliceOf sl vl vu .none→IsPart vl lo→IsPart vu hi→r x lo hi H Q→
    ∃ T id,typeLookup (.type T) "__getitem__" = pure (some (.builtin id))∧s.TypeIs v T∧wpAny (model X.prog X.w) X.A (getItem v (.ref sl)) (EP X pins σ Q) X.xe s
def tSl (r:V→Option Int→Option Int→Hp→VK→Prop) (te:TE) (tl th:TO):TE:=fun σ H Q=>te σ H fun x H1=>tl σ H1 fun l H2=>th σ H2 fun u H3=>r x l u H3 Q
theorem pe_slice {r:V→Option Int→Option Int→Hp→VK→Prop} (hr:SlR X r) (he:PE X e te) (hl:PO X lo tl) (hu:PO X hi th):PE X (.Subscript e (.Slice lo hi none p2) pos) (tSl r te tl th):=by
  intro pins s σ H Q I h
  refine Subscript_ (thn (he pins s σ H _ I h) fun v s1 ⟨x,H1,I1,r1,q1⟩=>?_)
  refine wpAny_Slice (thn (hl pins s1 σ H1 _ I1 q1) fun vl s2 ⟨l,H2,I2,pl,q2⟩=>thn (hu pins s2 σ H2 _ I2 q2) fun vu s3 ⟨u,H3,I3,pu,q3⟩=>?_)
  rw [evalPart_none]
  refine wpAny_pure ?_
  have I4:Inv X pins σ H3 { s3 with heap:=s3.heap.push { cls:=.type "slice",data:=.fields #[vl,vu,.none] } }:=I3.kept (t':=s3.toks) fun b ob q=>Heap.get?_push_of_some _ q
  obtain ⟨T,id,hT,ht,hg⟩:=hr pins { s3 with heap:=s3.heap.push { cls:=.type "slice",data:=.fields #[vl,vu,.none] } } σ H3 x v vl vu l u s3.heap.objs.size Q I4 r1 (Heap.IsSliceOf.new ..) pl pu q3
  show wpAny (model X.prog X.w) X.A (subscriptTail e (.Slice lo hi none p2) v (.ref s3.heap.objs.size)) (EP X pins σ Q) X.xe { s3 with heap:=s3.heap.push { cls:=.type "slice",data:=.fields #[vl,vu,.none] } }
  exact tail_any (ops:=[.ref s3.heap.objs.size,v]) ht hT hg (by with_unfolding_all rfl)
def cutV (xs:List V) (lo hi:Option Int):List V:=(xs.drop (HT.sIx xs.length 0 lo)).take (HT.sIx xs.length xs.length hi - HT.sIx xs.length 0 lo)
theorem cutV_length (xs:List V) (lo hi:Option Int):(cutV xs lo hi).length≤xs.length:=by
  unfold cutV
  rw [List.length_take,List.length_drop]
  omega
def rSlT (K:PySem.W.Frag):V→Option Int→Option Int→Hp→VK→Prop:=fun x lo hi H Q=>∃ a xs,x = .ref a∧SqT K H a xs∧
  ¬ (HT.sIx xs.length 0 lo = 0∧HT.sIx xs.length xs.length hi = xs.length)∧∀ p,H p = none→Q (.ref p) (upd H p (.tup (cutV xs lo hi)))
theorem sl_tup:SlR X (rSlT X.K):=by
  intro pins s σ H x v vl vu lo hi sl Q I rx hs pl pu h
  obtain ⟨a,xs,rfl,hx,hw,q⟩:=h
  cases rx
  obtain ⟨its,r,ht,hz⟩:=I.tuple hx
  have hlen:its.toArray.size = xs.length:=by rw [List.size_toArray]; exact r.length.symm
  refine ⟨"tuple",_,PyProof.Rows.slot_tuple_getitem.lookup,ht.typeIs,?_⟩
  refine HT.getItem_tuple_cut ht hs pl pu (by rw [hlen]; exact hw) ?_ (by rw [hlen]; exact hz)
  rw [hlen]
  refine ⟨.ref s.heap.objs.size,_,I.laid (t':=s.toks) (o:=.tup (cutV xs lo hi)) (fun b ob q=>Heap.get?_push_of_some _ q) (Nat.le_refl _) ?_,rfl,q _ (I.hok.fresh (Nat.le_refl _))⟩
  exact ⟨Nat.le_trans (cutV_length xs lo hi) hz,_,(r.drop (HT.sIx xs.length 0 lo)).take (HT.sIx xs.length xs.length hi - HT.sIx xs.length 0 lo),IsTup.new _ _⟩
def rCatT (K:PySem.W.Frag):R2:=fun x y H Q=>∃ a b xs ys,x = .ref a∧y = .ref b∧SqT K H a xs∧SqT K H b ys∧xs≠[]∧xs.length + ys.length≤sizeLine∧
  (ys = []→Q (.ref a) H)∧(ys≠[]→∀ p,H p = none→Q (.ref p) (upd H p (.tup (xs ++ ys))))
theorem Vals.nil_iff {xs:List V} {us:List Value} (r:Vals xs us):us = []↔xs = []:=by
  cases r with
  | nil=>simp
  | cons _ _=>simp
theorem op_catT:OpR X (binaryOp .Add) (rCatT X.K):=by
  intro pins s σ H x y v u Q I rx ry h
  obtain ⟨a,b,xs,ys,rfl,rfl,ha,hb,hx,hz,q1,q2⟩:=h
  cases rx
  cases ry
  obtain ⟨its,r1,p1,_⟩:=I.tuple ha
  obtain ⟨its2,r2,p2,_⟩:=I.tuple hb
  refine HT.cat_tup p1 p2 (fun z=>hx (r1.nil_iff.mp z)) (fun z=>⟨.ref a,H,I,rfl,q1 (r2.nil_iff.mp z)⟩) (fun z=>?_) (by rw [← r1.length,← r2.length]; exact hz)
  refine ⟨.ref s.heap.objs.size,_,I.laid (t':=s.toks) (o:=.tup (xs ++ ys)) (fun b ob q=>Heap.get?_push_of_some _ q) (Nat.le_refl _) ?_,rfl,q2 (fun w=>z (r2.nil_iff.mpr w)) _ (I.hok.fresh (Nat.le_refl _))⟩
  exact ⟨by rw [List.length_append]; exact hz,_,r1.append r2,IsTup.new _ _⟩
end
end L2
namespace L2
open PySem PySem.Spec PyProof.Rows
def ixN (n:Nat) (i:Int):Option Nat:=if 0≤i then (if i < n then some i.toNat else none) else if -(n:Int)≤i then some (i + n).toNat else none
def atI {α:Type} (xs:List α) (i:Int):Option α:=(ixN xs.length i).bind fun j=>xs[j]?
theorem ixN_seq {n:Nat} {i:Int} {j:Nat} (h:ixN n i = some j):seqIndex? i n = some j∧j < n∧-(n:Int)≤i∧i < n:=by
  unfold ixN at h
  by_cases h0:0≤i
  · rw [if_pos h0] at h
    by_cases h1:i < n
    · rw [if_pos h1] at h
      have e:i.toNat = j:=Option.some.inj h
      exact ⟨by rw [seqIndex_of h0 h1,e],by omega,by omega,h1⟩
    · rw [if_neg h1] at h; cases h
  · rw [if_neg h0] at h
    by_cases h1:-(n:Int)≤i
    · rw [if_pos h1] at h
      have e:(i + n).toNat = j:=Option.some.inj h
      exact ⟨by rw [seqIndex_neg (by omega) h1,e],by omega,h1,by omega⟩
    · rw [if_neg h1] at h; cases h
theorem atI_get {α:Type} {xs:List α} {i:Int} {v:α} (h:atI xs i = some v):∃ j,seqIndex? i xs.length = some j∧xs[j]? = some v∧j < xs.length∧-(xs.length:Int)≤i∧i < xs.length:=by
  unfold atI at h
  cases e:ixN xs.length i with
  | none=>rw [e] at h; cases h
  | some j=>
    rw [e] at h
    obtain ⟨h1,h2,h3,h4⟩:=ixN_seq e
    exact ⟨j,h1,h,h2,h3,h4⟩
theorem atI_nat {α:Type} {xs:List α} {j:Nat} {v:α} (h:xs[j]? = some v):atI xs (j:Int) = some v:=by
  have hj:j < xs.length:=(List.getElem?_eq_some_iff.mp h).1
  have e:ixN xs.length (j:Int) = some j:=by
    unfold ixN
    rw [if_pos (by omega),if_pos (by omega)]; simp
  unfold atI; rw [e]; exact h
theorem atI_last {α:Type} (xs:List α) (v:α):atI (xs ++ [v]) (-1) = some v:=by
  have hl:(xs ++ [v]).length = xs.length + 1:=by simp
  have e:ixN (xs ++ [v]).length (-1) = some xs.length:=by
    unfold ixN
    rw [hl,if_neg (by decide),if_pos (by omega)]
    congr 1
    omega
  unfold atI
  rw [e]
  show (xs ++ [v])[xs.length]? = some v
  simp
def PlainIx (b:Expr):Prop:=∀ o i,subscripted b false o i = operate [o,i] (getItem o i)
def IxR (X:Cx) (r:R2):Prop:=
  ∀ (value slice:Expr) (pins:List (Addr×Obj)) (s:Shared) (σ:St) (H:Hp) (x y:V) (v u:Value) (Q:VK),Inv X pins σ H s→RelV x v→RelV y u→r x y H Q→
    subscripted slice false v u = operate [v,u] (getItem v u)→wpAny (model X.prog X.w) X.A (subscriptTail value slice v u) (EP X pins σ Q) X.xe s
def MtR (X:Cx) (id:String) (r:V→List V→Hp→VK→Prop):Prop:=
  ∀ (pins:List (Addr×Obj)) (s:Shared) (σ:St) (H:Hp) (x:V) (xs:List V) (v:Value) (us:List Value) (Q:VK),Inv X pins σ H s→RelV x v→Vals xs us→r x xs H Q→
    wpAny (model X.prog X.w) X.A (call (.builtin id) (v :: us)) (EP X pins σ Q) X.xe s
section
variable {X:Cx} {a b:Expr} {ta tb:TE} {pos:Pos}
theorem pe_ix {r:R2} (hr:IxR X r) (ha:PE X a ta) (hb:PE X b tb) (hs:PlainIx b):PE X (.Subscript a b pos) (tOp r ta tb):=by
  intro pins s σ H Q I h
  exact Subscript_ (binT ha hb I h fun v u s2 x y H2 I2 rx ry q=>hr a b pins s2 σ H2 x y v u Q I2 rx ry q (hs _ _))
def rIxL (K:PySem.W.Frag):R2:=fun x y H Q=>∃ p xs i v,x = .ref p∧y = .int i∧SqL K H p xs∧atI xs i = some v∧Q v H
def rIxT (K:PySem.W.Frag):R2:=fun x y H Q=>∃ p xs i v,x = .ref p∧y = .int i∧SqT K H p xs∧atI xs i = some v∧Q v H
def rIxS:R2:=fun x y H Q=>∃ z i c,x = .str z∧y = .int i∧z.length≤sizeLine∧atI z.cps.toList i = some c∧Q (.str ⟨#[c]⟩) H
theorem ix_list:IxR X (rIxL X.K):=by
  intro value slice pins s σ H x y v u Q I rx ry h hs
  obtain ⟨p,xs,i,z,rfl,rfl,hq,he,q⟩:=h
  cases rx
  obtain ⟨t,rfl⟩:=ry
  obtain ⟨its,r,pl,hz⟩:=I.list hq
  obtain ⟨j,h1,h2,h3,h4,h5⟩:=atI_get he
  obtain ⟨w,ew,rw'⟩:=r.get h2
  have hl:=r.length
  have hn:=line63
  have fin:EP X pins σ Q w s:=⟨z,H,I,rw',q⟩
  by_cases h0:0≤i
  · have hj:i.toNat = j:=by
      rw [seqIndex_of h0 h5] at h1
      exact Option.some.inj h1
    exact item_listR pl.isList h0 (by omega) (by rw [hj]; simpa using ew) fin hs
  · have hj:(i + (its.toArray.size:Int)).toNat = j:=by
      rw [seqIndex_neg (by omega) h4] at h1
      rw [List.size_toArray,← hl]
      exact Option.some.inj h1
    exact subscriptTail_builtinR (x:=w) pl.isList.typeIs slot_list_getitem.lookup
      (wpAny_getItem_list_neg (Q:=fun r s'=>r = w∧EP X pins σ Q r s') pl.isList (by omega) (by rw [List.size_toArray] <;> omega) (by omega) (by rw [hj]; simpa using ew) ⟨rfl,fin⟩) hs
theorem ix_tup:IxR X (rIxT X.K):=by
  intro value slice pins s σ H x y v u Q I rx ry h hs
  obtain ⟨p,xs,i,z,rfl,rfl,hq,he,q⟩:=h
  cases rx
  obtain ⟨t,rfl⟩:=ry
  obtain ⟨its,r,pl,hz⟩:=I.tuple hq
  obtain ⟨j,h1,h2,h3,h4,h5⟩:=atI_get he
  obtain ⟨w,ew,rw'⟩:=r.get h2
  have hl:=r.length
  have hn:=line63
  have fin:EP X pins σ Q w s:=⟨z,H,I,rw',q⟩
  exact subscriptTail_builtinR (x:=w) pl.typeIs slot_tuple_getitem.lookup
    (getItem_tuple (j:=j) (Q:=fun r s'=>r = w∧EP X pins σ Q r s') pl (by omega) (by omega) (by rw [List.size_toArray,← hl]; exact h1) (by simpa using ew) ⟨rfl,fin⟩) hs
theorem ix_str:IxR X rIxS:=by
  intro value slice pins s σ H x y v u Q I rx ry h hs
  obtain ⟨z,i,c,rfl,rfl,hz,he,q⟩:=h
  obtain ⟨t,rfl⟩:=rx
  obtain ⟨t',rfl⟩:=ry
  obtain ⟨j,h1,h2,h3,h4,h5⟩:=atI_get he
  have hl:z.cps.toList.length = z.length:=by simp [Str.length]
  rw [hl] at h1 h4 h5
  have hn:=line63
  exact tail_any (typeIs_str s z t) slot_str_getitem.lookup (getItem_str (c:=c) (by
    have e1:decide (i < -(2 ^ 63:Int)) = false:=decide_eq_false (by omega)
    have e2:decide (i ≥ 2 ^ 63) = false:=decide_eq_false (by omega)
    rw [e1,e2,Bool.or_false]) (by rw [h1]; simpa using h2) ⟨.str ⟨#[c]⟩,H,I.tok _,⟨_,rfl⟩,q⟩) hs
theorem Inv.lst {pins:List (Addr×Obj)} {σ:St} {H:Hp} {s:Shared} {p:Addr} {xs:List V} (I:Inv X pins σ H s) (h:H p = some (.lst xs)) :
    ∃ (its:List Value) (n:Nat),Vals xs its∧s.heap.get? p = some { cls:=.type "list",data:=.seq its.toArray n }∧xs.length≤sizeLine:=by
  obtain ⟨z,its,n,r,e⟩:=I.hok p _ h
  exact ⟨its,n,r,e,z⟩
theorem slice_bounds (lo hi:Option Int) (n:Nat):(sliceBounds lo hi none n).1 = ((HT.sIx n 0 lo:Nat):Int)∧(sliceBounds lo hi none n).2.1 = ((HT.sIx n n hi:Nat):Int)∧(sliceBounds lo hi none n).2.2 = 1:=by
  refine ⟨?_,?_,rfl⟩
  · cases lo with
    | none=>simp [sliceBounds,HT.sIx]
    | some i=>
      simp only [sliceBounds,HT.sIx,Option.getD_none,show (1:Int) > 0 by decide,if_true]
      by_cases h:i < 0
      · simp only [h,if_true] <;> omega
      · simp only [h,if_false] <;> omega
  · cases hi with
    | none=>simp [sliceBounds,HT.sIx]
    | some i=>
      simp only [sliceBounds,HT.sIx,Option.getD_none,show (1:Int) > 0 by decide,if_true]
      by_cases h:i < 0
      · simp only [h,if_true] <;> omega
      · simp only [h,if_false] <;> omega
theorem slicePick_cut (its:List Value) (lo hi:Option Int):slicePick its.toArray lo hi none = ((its.drop (HT.sIx its.length 0 lo)).take (HT.sIx its.length its.length hi - HT.sIx its.length 0 lo)).toArray:=by
  obtain ⟨h1,h2,h3⟩:=slice_bounds lo hi its.toArray.size
  unfold slicePick
  rw [h1,h2,h3]
  simp only [sliceRange_one,pick_run,List.size_toArray] <;> rfl
def rSlL (K:PySem.W.Frag):V→Option Int→Option Int→Hp→VK→Prop:=fun x lo hi H Q=>∃ a xs,x = .ref a∧SqL K H a xs∧∀ p,H p = none→Q (.ref p) (upd H p (.lst (cutV xs lo hi)))
theorem sl_list:SlR X (rSlL X.K):=by
  intro pins s σ H x v vl vu lo hi sl Q I rx hs pl pu h
  obtain ⟨a,xs,rfl,hx,q⟩:=h
  cases rx
  obtain ⟨its,r,ht,hz⟩:=I.list hx
  have hlen:=r.length
  refine ⟨"list",_,slot_list_getitem.lookup,ht.isList.typeIs,?_⟩
  refine wpAny_getItem_list_slice ht.isList hs pl pu .none (by simp) ?_ (by rw [List.size_toArray] <;> omega)
  rw [slicePick_cut,← hlen]
  refine ⟨.ref s.heap.objs.size,_,I.laid (t':=s.toks) (o:=.lst (cutV xs lo hi)) (fun b ob q=>Heap.get?_push_of_some _ q) (Nat.le_refl _) ?_,rfl,q _ (I.hok.fresh (Nat.le_refl _))⟩
  exact ⟨Nat.le_trans (cutV_length xs lo hi) hz,_,0,(r.drop (HT.sIx xs.length 0 lo)).take (HT.sIx xs.length xs.length hi - HT.sIx xs.length 0 lo),Heap.get?_push_size _ rfl⟩
def flatV:V→Bool
  | .non=>true
  | .bl _=>true
  | .int _=>true
  | .str _=>true
  | _=>false
def eqV:V→V→Bool
  | .non,.non=>true
  | .bl a,.bl b=>a == b
  | .bl a,.int b=>(if a then 1 else 0) == b
  | .int a,.bl b=>a == (if b then 1 else 0)
  | .int a,.int b=>a == b
  | .str a,.str b=>a == b
  | _,_=>false
theorem eqAt_V {A:Around} {s:Shared} {y x:V} {u v:Value} (ry:RelV y u) (rx:RelV x v) (fy:flatV y = true) (fx:flatV x = true):SeqAt.EqAt A s u v (eqV y x):=by
  cases y with
  | non=>
    cases ry
    cases x with
    | non=>cases rx; exact SeqAt.EqAt.same _
    | bl b=>cases rx; exact SeqAt.EqAt.none_bool b
    | int b=>obtain ⟨t,rfl⟩:=rx; exact SeqAt.EqAt.none_int b t
    | str b=>obtain ⟨t,rfl⟩:=rx; exact SeqAt.EqAt.none_str b t
    | _=>exact absurd (show false = true from fx) Bool.false_ne_true
  | bl a=>
    cases ry
    cases x with
    | non=>cases rx; exact SeqAt.EqAt.bool_none a
    | bl b=>cases rx; exact SeqAt.EqAt.bool_bool a b
    | int b=>obtain ⟨t,rfl⟩:=rx; exact SeqAt.EqAt.bool_int a b t
    | str b=>obtain ⟨t,rfl⟩:=rx; exact SeqAt.EqAt.bool_str a b t
    | _=>exact absurd (show false = true from fx) Bool.false_ne_true
  | int a=>
    obtain ⟨t',rfl⟩:=ry
    cases x with
    | non=>cases rx; exact SeqAt.EqAt.int_none a t'
    | bl b=>cases rx; exact SeqAt.EqAt.int_bool a t' b
    | int b=>obtain ⟨t,rfl⟩:=rx; exact SeqAt.EqAt.int_int a t' b t
    | str b=>obtain ⟨t,rfl⟩:=rx; exact SeqAt.EqAt.int_str a t' b t
    | _=>exact absurd (show false = true from fx) Bool.false_ne_true
  | str a=>
    obtain ⟨t',rfl⟩:=ry
    cases x with
    | non=>cases rx; exact SeqAt.EqAt.str_none a t'
    | bl b=>cases rx; exact SeqAt.EqAt.str_bool a t' b
    | int b=>obtain ⟨t,rfl⟩:=rx; exact SeqAt.EqAt.str_int a t' b t
    | str b=>obtain ⟨t,rfl⟩:=rx; exact SeqAt.EqAt.str_str a t' b t
    | _=>exact absurd (show false = true from fx) Bool.false_ne_true
  | _=>exact absurd (show false = true from fy) Bool.false_ne_true
def eqU (x:V) (u:Value):Bool:=match u with
  | .none=>eqV .non x
  | .bool b=>eqV (.bl b) x
  | .int i _=>eqV (.int i) x
  | .str z _=>eqV (.str z) x
  | _=>false
theorem eqU_of {x y:V} {u:Value} (r:RelV y u) (f:flatV y = true):eqU x u = eqV y x:=by
  cases y with
  | non=>cases r; rfl
  | bl b=>cases r; rfl
  | int i=>obtain ⟨t,rfl⟩:=r; rfl
  | str z=>obtain ⟨t,rfl⟩:=r; rfl
  | _=>exact absurd (show false = true from f) Bool.false_ne_true
theorem any_eqU {x:V}:∀ {xs:List V} {us:List Value},Vals xs us→xs.all flatV = true→us.any (eqU x) = xs.any fun y=>eqV y x
  | _,_,.nil,_=>rfl
  | y :: xs,u :: us,.cons r t,f=>by
    rw [List.all_cons,Bool.and_eq_true] at f
    rw [List.any_cons,List.any_cons,eqU_of r f.1,any_eqU t f.2]
theorem mem_eqAt {A:Around} {s:Shared} {x:V} {v:Value} (rx:RelV x v) (fx:flatV x = true):∀ {xs:List V} {us:List Value},Vals xs us→xs.all flatV = true→∀ u∈us,SeqAt.EqAt A s u v (eqU x u)
  | _,_,.nil,_=>fun u hu=>by cases hu
  | y :: xs,u :: us,.cons r t,f=>fun u' hu=>by
    rw [List.all_cons,Bool.and_eq_true] at f
    rcases List.mem_cons.mp hu with rfl | hu
    · rw [eqU_of r f.1]; exact eqAt_V r rx f.1 fx
    · exact mem_eqAt rx fx t f.2 u' hu
def inV (x:V) (xs:List V):Bool:=xs.any fun y=>eqV y x
def rIn (K:PySem.W.Frag) (neg:Bool):R2:=fun x y H Q=>∃ p xs,y = .ref p∧(SqL K H p xs∨SqT K H p xs)∧flatV x = true∧xs.all flatV = true∧Q (.bl (if neg then !inV x xs else inV x xs)) H
theorem op_in_seq:OpR X (compareOp .In) (rIn X.K false):=by
  intro pins s σ H x y v u Q I rx ry h
  obtain ⟨p,xs,rfl,hq,fx,fs,q⟩:=h
  cases ry
  rcases hq with hq | hq
  · obtain ⟨its,r,pl,hz⟩:=I.list hq
    refine SeqAt.in_listAt (eqU x) pl.isList (fun w hw=>mem_eqAt rx fx r fs w (by simpa using hw)) ⟨.bl _,H,I,rfl,?_⟩
    rw [show its.toArray.any (eqU x) = its.any (eqU x) by simp,any_eqU r fs]
    exact q
  · obtain ⟨its,r,pl,hz⟩:=I.tuple hq
    refine SeqAt.in_tupleAt (eqU x) pl (fun w hw=>mem_eqAt rx fx r fs w (by simpa using hw)) ⟨.bl _,H,I,rfl,?_⟩
    rw [show its.toArray.any (eqU x) = its.any (eqU x) by simp,any_eqU r fs]
    exact q
theorem call_len_seq:CallR X (.builtin "len") (fun xs H Q=>∃ p ys,xs = [.ref p]∧(SqL X.K H p ys∨SqT X.K H p ys)∧Q (.int ys.length) H):=by
  intro pins s σ H xs us Q I r h
  obtain ⟨p,ys,rfl,hq,q⟩:=h
  obtain ⟨u,rfl,rx⟩:=vals1 r
  cases rx
  have hn:=line63
  rcases hq with hq | hq
  · obtain ⟨its,r',pl,hz⟩:=I.list hq
    have hlen:=r'.length
    exact Calls.call_len_list pl.isList (by simp only [List.size_toArray] <;> omega) ⟨.int ys.length,H,I.tok _,⟨s.toks + 1,by rw [List.size_toArray,hlen]⟩,q⟩
  · obtain ⟨its,r',pl,hz⟩:=I.tuple hq
    have hlen:=r'.length
    exact len_tuple pl (by simp only [List.size_toArray] <;> omega) ⟨.int ys.length,H,I.tok _,⟨s.toks + 1,by rw [List.size_toArray,hlen]⟩,q⟩
theorem call_len_str:CallR X (.builtin "len") (fun xs H Q=>∃ z,xs = [.str z]∧z.length≤sizeLine∧Q (.int z.length) H):=by
  intro pins s σ H xs us Q I r h
  obtain ⟨z,rfl,hz,q⟩:=h
  obtain ⟨u,rfl,t,rfl⟩:=vals1 r
  have hn:=line63
  exact len_str (by omega) ⟨.int z.length,H,I.tok _,⟨_,rfl⟩,q⟩
theorem call_tuple_of:CallR X (.type "tuple") (fun xs H Q=>∃ p ys,xs = [.ref p]∧((SqL X.K H p ys∧∀ l,H l = none→Q (.ref l) (upd H l (.tup ys)))∨(SqT X.K H p ys∧Q (.ref p) H))):=by
  intro pins s σ H xs us Q I r h
  obtain ⟨p,ys,rfl,h⟩:=h
  obtain ⟨u,rfl,rx⟩:=vals1 r
  cases rx
  rcases h with ⟨hq,q⟩ | ⟨hq,q⟩
  · obtain ⟨its,r',pl,hz⟩:=I.list hq
    have hlen:=r'.length
    refine call_tuple_list pl.isList (fun h' kp=>?_) (by simp only [List.size_toArray] <;> omega)
    have I1:Inv X pins σ H { s with heap:=h' }:=I.kept (t':=s.toks) kp
    have I2:Inv X pins σ (upd H h'.objs.size (.tup ys)) { s with heap:=h'.push { cls:=.type "tuple",data:=.seq its.toArray } }:=
      I1.laid (t':=s.toks) (fun b o e=>Heap.get?_push_of_some _ e) (Nat.le_refl _) (show ObjOk X.prog X.w _ _ _ (.tup ys) from ⟨hz,its,r',IsTup.new _ _⟩)
    exact ⟨.ref h'.objs.size,_,I2,rfl,q _ (I1.hok.fresh (Nat.le_refl _))⟩
  · obtain ⟨its,r',pl,hz⟩:=I.tuple hq
    exact call_tuple_same pl ⟨.ref p,H,I,rfl,q⟩
def tyV (K:PySem.W.Frag) (T:String) (x:V) (H:Hp):Prop:=match x with
  | .str _=>T = "str"
  | .int _=>T = "int"
  | .ref p=>(T = "list"∧∃ xs,SqL K H p xs)∨(T = "tuple"∧∃ o,K.lookup p = some o∧o.cls = .type "tuple"∧o.dict = none)∨
      (T = "dict"∧((∃ kvs,H p = some (.dK kvs))∨∃ kvs,H p = some (.dT kvs)))∨(T = "set"∧∃ S n,H p = some (.set S n))
  | _=>False
theorem tyV_is {pins:List (Addr×Obj)} {σ:St} {H:Hp} {s:Shared} {T:String} {x:V} {v:Value} (I:Inv X pins σ H s) (r:RelV x v) (ty:tyV X.K T x H) :
    s.TypeIs v T∧∀ a,v = .ref a→∃ ob,s.heap.get? a = some ob∧ob.dict = none:=by
  cases x with
  | str z=>
    obtain ⟨t,rfl⟩:=r
    cases (show T = "str" from ty)
    exact ⟨typeIs_str s z t,fun _ e=>nomatch e⟩
  | int i=>
    obtain ⟨t,rfl⟩:=r
    cases (show T = "int" from ty)
    exact ⟨typeIs_int s i t,fun _ e=>nomatch e⟩
  | ref p=>
    cases r
    rcases ty with ⟨rfl,xs,hq⟩ | ⟨rfl,o,hk,hc,hd⟩ | ⟨rfl,hk⟩ | ⟨rfl,S,n,hk⟩
    · obtain ⟨its,_,pl,_⟩:=I.list hq
      refine ⟨pl.isList.typeIs,fun a e=>?_⟩
      cases e
      obtain ⟨o,n,e,c,hd,_⟩:=pl
      exact ⟨o,e,hd⟩
    · refine ⟨⟨o,I.kIn p o hk,hc⟩,fun a e=>?_⟩
      cases e
      exact ⟨o,I.kIn _ o hk,hd⟩
    · have z:∃ o,s.heap.get? p = some o∧o.ExactDict:=by
        rcases hk with ⟨kvs,hk⟩ | ⟨kvs,hk⟩
        · obtain ⟨_,_,_,_,o,_,_,e,ex,_⟩:=I.hok p _ hk
          exact ⟨o,e,ex⟩
        · obtain ⟨_,_,_,_,o,_,_,e,ex,_⟩:=I.hok p _ hk
          exact ⟨o,e,ex⟩
      obtain ⟨o,e,ex⟩:=z
      refine ⟨⟨o,e,ex.1⟩,fun a e2=>?_⟩
      cases e2
      exact ⟨o,e,ex.2.1⟩
    · obtain ⟨o,_,_,_,e,ex,_⟩:=I.hok p _ hk
      refine ⟨⟨o,e,ex.1⟩,fun a e2=>?_⟩
      cases e2
      exact ⟨o,e,ex.2.1⟩
  | _=>exact False.elim ty
def tBM (K:PySem.W.Frag) (T:String) (r:V→List V→Hp→VK→Prop) (to:TE) (t:TA):TE:=fun σ H Q=>to σ H fun x H1=>tyV K T x H1∧t σ H1 fun xs H2=>r x xs H2 Q
variable {o e:Expr} {es:List Expr} {to:TE} {t:TA} {name:Str} {apos cpos:Pos} {T id:String} {r:V→List V→Hp→VK→Prop}
theorem pe_bm (pa:PlainAttrs T) (slot:Slot T name id) (hty:typeOf (.builtin id) = pure (.type "method_descriptor")) (hm:MtR X id r) (ho:PE X o to) (ha:PA X (e :: es) t)
    (hbase:attributeBase o name X.env (eval o X.env) = eval o X.env:=by rfl)
    (hfew:((backTo cpos (starEach (e :: es) X.env)).all (fun x=>!x.1) && (backToKw cpos (keywordEach [] X.env)).all (fun x=>x.1.isSome)
      && decide ((e :: es).length + ([]:List Keyword).length + (if ([]:List Keyword).isEmpty then 0 else 1) < 30)) = true:=by rfl)
    (hline:(apos.endLine == cpos.line) = true:=by rfl) (hs:starEach (e :: es) X.env = (false,eval e X.env) :: starEach es X.env:=by rfl) (hplain:(backTo cpos (starEach es X.env)).any (·.1) = false:=by rfl) :
    PE X (.Call (.Attribute o name apos) (e :: es) [] cpos) (tBM X.K T r to t):=by
  intro pins s σ H Q I h
  refine wpAny_Call_method_late hbase hfew hline rfl (thn (ho pins s σ H _ I h) fun v s1 ⟨x,H1,I1,r1,ty,q1⟩=>?_)
  obtain ⟨h1,h2⟩:=tyV_is I1 r1 ty
  refine ⟨T,id,pa,slot,hty,h1,h2,?_⟩
  have hA:=ha cpos pins s1 σ H1 _ I1 q1
  rw [hs] at hA ⊢
  refine Calls.callWith_builtin (by show (false || (backTo cpos (starEach es X.env)).any (·.1)) = false; rw [hplain] <;> rfl) (Calls.evalArgs_plain ?_)
  exact thn hA fun us s2 ⟨vs,H2,I2,r2,q2⟩=>hm pins s2 σ H2 x vs v us Q I2 r1 r2 q2
end
end L2
namespace L2
open PySem PySem.Spec PyProof.Rows
def MtM (X:Cx) (id:String) (r:V→List V→Hp→VK→Prop):Prop:=
  ∀ (pins:List (Addr×Obj)) (s:Shared) (σ:St) (H:Hp) (x:V) (xs:List V) (v:Value) (us:List Value) (Q:VK),Inv X pins σ H s→RelV x v→Vals xs us→r x xs H Q→
    wpAny (model X.prog X.w) X.A (call (.builtin id) (v :: us)) (EP X pins σ Q) X.xe s
theorem Vals.one:∀ {x:V} {us:List Value},Vals [x] us→∃ u,us = [u]∧RelV x u
  | _,_,.cons r .nil=>⟨_,rfl,r⟩
theorem Vals.two:∀ {x y:V} {us:List Value},Vals [x,y] us→∃ u v,us = [u,v]∧RelV x u∧RelV y v
  | _,_,_,.cons r (.cons q .nil)=>⟨_,_,rfl,r,q⟩
theorem Vals.zero:∀ {us:List Value},Vals [] us→us = []
  | _,.nil=>rfl
theorem Vals.dropLast {xs:List V} {us:List Value} (h:Vals xs us):Vals xs.dropLast us.dropLast:=by
  induction h with
  | nil=>exact .nil
  | cons r t ih=>
    cases t with
    | nil=>exact .nil
    | cons q t'=>exact .cons r ih
theorem Vals.reverse {xs:List V} {us:List Value} (h:Vals xs us):Vals xs.reverse us.reverse:=by
  induction h with
  | nil=>exact .nil
  | cons r t ih=>rw [List.reverse_cons,List.reverse_cons]; exact Vals.append ih (.cons r .nil)
theorem Vals.rep {xs:List V} {us:List Value} (h:Vals xs us):∀ k:Nat,Vals (List.replicate k xs).flatten (List.replicate k us).flatten
  | 0=>.nil
  | k + 1=>by
    rw [List.replicate_succ,List.replicate_succ,List.flatten_cons,List.flatten_cons]
    exact Vals.append h (Vals.rep h k)
theorem foldl_rep (its:List Value):∀ (k:Nat) (acc:List Value),
    List.foldl (fun x1 x2=>x1 ++ x2) acc.toArray (List.replicate k its.toArray) = (acc ++ (List.replicate k its).flatten).toArray
  | 0,acc=>by simp
  | k + 1,acc=>by
    have e:acc.toArray ++ its.toArray = (acc ++ its).toArray:=by simp
    have e2:(acc ++ its) ++ (List.replicate k its).flatten = acc ++ (List.replicate (k + 1) its).flatten:=by
      rw [List.replicate_succ,List.flatten_cons,List.append_assoc]
    rw [← e2,← foldl_rep its k (acc ++ its),← e,List.replicate_succ,List.foldl_cons]
section
variable {X:Cx} {pins:List (Addr×Obj)} {σ:St} {H:Hp} {s:Shared} {l b:Addr} {xs ys zs:List V}
theorem Inv.lset {its its':List Value} {n:Nat} {f:Array Value→Array Value} {t':Nat} (I:Inv X pins σ H s) (hH:H l = some (.lst xs))
    (e:s.heap.get? l = some { cls:=.type "list",data:=.seq its.toArray n }) (hf:f its.toArray = its'.toArray) (hv:Vals ys its') (hz:ys.length≤sizeLine) :
    Inv X pins σ (upd H l (.lst ys)) { s with heap:=s.heap.update l (Obj.mapSeq f),toks:=t' }:=by
  have q:=PySem.IsL.update e f
  rw [hf] at q
  refine I.write (x:=l) (e:=l) (by rw [hH]; exact trivial) (.inl rfl) (fun b' u hb hu=>(Heap.get?_update_other s.heap (Obj.mapSeq f) (Ne.symm hb)).trans hu) ⟨_,q⟩ ?_
  exact ⟨hz,its',_,hv,q⟩
theorem Inv.lnew {its:List Value} {t':Nat} (I:Inv X pins σ H s) (hv:Vals ys its) (hz:ys.length≤sizeLine) :
    Inv X pins σ (upd H s.heap.objs.size (.lst ys)) { s with heap:=s.heap.push { cls:=.type "list",data:=.seq its.toArray },toks:=t' }:=
  I.laid (fun _ _ q=>Heap.get?_push_of_some _ q) (Nat.le_refl _) ⟨hz,its,0,hv,Heap.get?_push_size _ rfl⟩
theorem Inv.fresh (I:Inv X pins σ H s):H s.heap.objs.size = none:=I.hok.fresh (Nat.le_refl _)
theorem Inv.lstM (I:Inv X pins σ H s) (hH:H l = some (.lst xs)):xs.length≤sizeLine∧∃ (its:List Value) (n:Nat),Vals xs its∧xs.length = its.length∧s.heap.get? l = some { cls:=.type "list",data:=.seq its.toArray n }:=by
  obtain ⟨z,its,n,r,e⟩:=I.hok l _ hH
  exact ⟨z,its,n,r,r.length,e⟩
theorem notLongL {n:Nat} (h:n≤sizeLine):Builtin.List.listTooLong n = false:=by
  unfold Builtin.List.listTooLong
  exact decide_eq_false (by omega)
end
section
variable {X:Cx}
def rAppend:V→List V→Hp→VK→Prop:=fun x vs H Q=>∃ l xs y,x = .ref l∧vs = [y]∧H l = some (.lst xs)∧xs.length < sizeLine∧Q .non (upd H l (.lst (xs ++ [y])))
theorem mt_append:MtM X "list.append" rAppend:=by
  intro pins s σ H x vs v us Q I rx rv h
  obtain ⟨l,xs,y,rfl,rfl,hH,hz,q⟩:=h
  cases rx
  obtain ⟨u,rfl,ru⟩:=rv.one
  obtain ⟨z,its,n,r,hl,e⟩:=I.lstM hH
  refine call_meets F.slot_list_append ⟨_,e,rfl⟩ F.entry_list_append (F.args_list_append_2 _ _) (PySem.list_append l its.toArray n u (by rw [List.size_toArray]; omega)) ⟨e,?_⟩
  refine ⟨.non,_,I.lset (its':=its ++ [u]) hH e (by simp) (r.append (.cons ru .nil)) ?_,rfl,q⟩
  rw [List.length_append,List.length_singleton]
  omega
def rRep:R2:=fun x y H Q=>∃ l k xs,x = .ref l∧y = .int k∧H l = some (.lst xs)∧-(2 ^ 63)≤k∧k < 2 ^ 63∧xs.length * k.toNat≤sizeLine∧
  ∀ p,H p = none→Q (.ref p) (upd H p (.lst (List.replicate k.toNat xs).flatten))
theorem len_rep {α:Type} (xs:List α) (k:Nat):(List.replicate k xs).flatten.length = k * xs.length:=by
  induction k with
  | zero=>simp
  | succ k ih=>rw [List.replicate_succ,List.flatten_cons,List.length_append,ih,Nat.succ_mul,Nat.add_comm]
theorem op_rep:OpR X (binaryOp .Mult) rRep:=by
  intro pins s σ H x y v u Q I rx ry h
  obtain ⟨l,k,xs,rfl,rfl,hH,h1,h2,hz,q⟩:=h
  cases rx
  obtain ⟨t,rfl⟩:=ry
  obtain ⟨z,its,n,r,hl,e⟩:=I.lstM hH
  have hlen:its.toArray.size * k.toNat≤sizeLine:=by rw [List.size_toArray,← hl]; exact hz
  have hcap:¬ its.toArray.size * k.toNat > (2 ^ 63 - 1) / 8:=by
    have:(sizeLine:Nat)≤(2 ^ 63 - 1) / 8:=by decide
    omega
  have hfit:¬ (!Builtin.List.listFitsIndex k) = true:=by
    rw [fitsIndex_both h1 h2]
    exact Bool.false_ne_true
  have hlong:¬ Builtin.List.listTooLong (its.toArray.size * k.toNat) = true:=by
    rw [notLongL hlen]
    exact Bool.false_ne_true
  have hnew:List.foldl (fun x1 x2=>x1 ++ x2) #[] (List.replicate (if its.toArray.isEmpty = true then 0 else k.toNat) its.toArray) = (List.replicate k.toNat its).flatten.toArray:=by
    have f0:∀ m:Nat,List.foldl (fun x1 x2=>x1 ++ x2) #[] (List.replicate m its.toArray) = (List.replicate m its).flatten.toArray:=fun m=>by
      have:=foldl_rep its m []
      rw [List.nil_append] at this
      exact this
    rw [f0]
    cases its with
    | nil=>simp
    | cons a r'=>rw [if_neg (by simp)]
  refine wpAny_binaryOp_repeat_ref (T:="list") (U:="int") (by decide) ⟨_,e,rfl⟩ (fun s'=>typeIs_int s' k t) noFill_list_mul F.fills_int_mul F.slot_int_rmul repeat_list F.slot_int_index.lookup
    (call_meets F.slot_int_rmul (typeIs_int s k t) F.entry_int_rmul (F.args_int_rmul_2 _ _) (int___rmul___int_list k t l its.toArray n)
      ⟨e,rfl,⟨_,e,rfl⟩,call_meets F.slot_list_mul ⟨_,e,rfl⟩ F.entry_list_mul (F.args_list_mul_2 _ _) (AutoListH.list___mul___list_int_3 l its.toArray n k t hfit hcap hlong) ⟨e,?_⟩⟩)
  rw [hnew]
  exact ⟨.ref _,_,I.lnew (t':=s.toks) (r.rep k.toNat) (by rw [len_rep,Nat.mul_comm]; exact hz),rfl,q _ I.fresh⟩
end
section
variable {prog:Program} {w:World} {A:Around} {E:Value→Shared→Prop} {s:Shared}
end
section
variable {X:Cx}
end
end L2
namespace Att
open PySem PySem.W PySem.Calls PyProof.Rows
theorem ints_of_wellAll {P:Params} {h:Heap}:∀ (ns:List Int) (vs:List Value),WellAll P h vs (ns.map WData.int)→IntsAre vs ns:=by
  intro ns
  induction ns with
  | nil=>
    intro vs w
    rw [List.map_nil] at w
    cases w
    exact .nil
  | cons n ns ih=>
    intro vs w
    rw [List.map_cons] at w
    cases w with
    | cons a b=>
      cases a
      exact .cons _ _ (ih _ b)
theorem script_of {l:OpenLaw} {n:Nat} (hn:l.most = some n) {P:Params} {h:Heap} {args:List WData} {vals:List Value}
    (hpre:l.row.toRowW.claim.pre args = true) (hwl:WellAll P h vals args) :
    ∃ a vs ns,vals = [Value.ref a]∧args = [WData.list (ns.map WData.int)]∧h.get? a = some { cls:=.type "list",data:=.seq vs.toArray }∧IntsAre vs ns∧ns.length≤n:=by
  have hsh:WShape.hasAll [] args [.list .int] = true:=(pre_splitW hpre).1
  have hc:l.pre.holds [] { args:=args } = true:=(pre_splitW hpre).2
  obtain ⟨d,r,rfl,h1,h2⟩:=hasAllW_cons hsh
  obtain rfl:=hasAllW_nil h2
  obtain ⟨xs,rfl,h3⟩:=hasW_list h1
  obtain ⟨ns,rfl⟩:=items_int h3
  have hlen:ns.length≤n:=by
    unfold OpenLaw.pre at hc
    have h4:(WTm.not (.lt (.lit (.int (n:Int))) (.len (.arg 0)))).holds [] { args:=[.list (ns.map .int)] } = true:=by
      have h4:=(holds_andW hc).1
      rw [hn] at h4
      exact h4
    have h5:=condW_of h4 (w_not (w_lt w_lit (w_len_list (w_arg rfl))))
    rw [List.length_map] at h5
    refine Nat.le_of_not_lt fun q=>?_
    have q':(n:Int) < ((ns.length:Nat):Int):=by omega
    first
      | (rw [decide_eq_true q'] at h5; exact absurd h5 (by decide))
      | (simp at h5; omega)
  cases hwl with
  | cons w1 w2=>
    cases w2
    cases w1 with
    | list ho hall=>exact ⟨_,_,ns,rfl,rfl,ho,ints_of_wellAll ns _ hall,hlen⟩
theorem post_true (l:OpenLaw) (args:List WData):l.row.toRowW.claim.post args (.bool true) args = true:=
  postW_of (r:=l.row.toRowW) (X:=(true == true))
    (show WShape.has [] (.bool true) .bool = true by first | rfl | decide | simp [WShape.has,WShape.arms,WShape.armsAll])
    (show (WTm.eq .res (.lit (.bool true))).value [] { args:=args,res:=some (.bool true),after:=args } = some (.bool (true == true)) from w_eq_bool (w_res rfl) w_lit) rfl
theorem attach_call {l:OpenLaw} {n:Nat} {q:Program} {loose:List Str} {XP:(Str→Option Value)→Heap→Prop} {YP:World→Heap→Prop} {d:DefRec}
    (hn:l.most = some n) (hdf:d.params.defaults = [])
    (call:∀ (w:World) (s₀ s₁:Shared) (mg mb:Str→Option Value) (fa:Addr) (o:Obj) (pm cd doc:Value) (a:Addr) (vs:List Value) (ns:List Int),
      Ground q loose [] XP w s₀ mg mb s₁.heap→YP w s₁.heap→
      s₁.heap.get? fa = some o→o.data = .func (docDef d.name d.params d.body d.scope pm cd doc)→s₁.heap.CodeRec cd d.name→mg d.name = some (.ref fa)→
      s₁.heap.get? a = some { cls:=.type "list",data:=.seq vs.toArray }→IntsAre vs ns→ns.length≤n→s₁.gens = #[]→
      codeAny (model l.prog w) callerA (.call (.ref fa) ⟨[.ref a],[]⟩) (fun r s'=>r = .ok (.ret (.bool true))∧OldK s₁.heap s'.heap∧s'.os = s₁.os∧AllBare s'.gens) s₁) :
    WalkO q loose XP YP l.row.toRowW d [] (fun f vs=>PySem.call f vs):=by
  intro w s₀ s₁ mg mb G Y fa o pm cd doc dV kV ho hd hcd hD hmg hg args vals as hpre hlay hrd hwl hlo
  obtain rfl:dV = .none:=Dflts.none hD hdf
  obtain rfl:kV = .none:=Dflts.noKw hD
  obtain ⟨a,vs,ns,rfl,rfl,hobj,hints,hlen⟩:=script_of hn hpre hwl
  refine enter_call (codeAny_mono (call w s₀ s₁ mg mb fa o pm cd doc a vs ns G Y ho (fd_plain hd) hcd hmg hobj hints hlen hg) fun r s' hq=>?_)
  obtain ⟨rfl,h2,h3,h4⟩:=hq
  exact ⟨.inl ⟨.bool true,.bool true,[],rfl,fun _=>rfl,.bool true,post_true l _,fun _=>⟨List.Pairwise.nil,fun _ hm=>(nomatch hm)⟩⟩,h2,h3,h4⟩
section
variable {prog:Program} {w:World} {A:Around} {E:Value→Shared→Prop} {s:Shared} {K:Frag}
end
end Att
namespace L2
open PySem PySem.Spec PyProof.Rows
theorem vals_ints:∀ {vs:List Value} {ns:List Int},IntsAre vs ns→Vals (ns.map V.int) vs
  | _,_,.nil=>.nil
  | _,_,.cons n t h=>.cons ⟨t,rfl⟩ (vals_ints h)
def Only (H:Hp):Prop:=∀ b,H b = none∨∃ o xs,H b = some (.frz o (.lst xs))
theorem law_call {P:Program} {w:World} {K:PySem.W.Frag} {mg mb:Str→Option Value} {CX:CXT} {k:Nat} {fa a:Addr} {fd:FuncData} {x:Str} {sp:Sp} {s₁:Shared} {vs:List Value} {ns:List Int}
    (KX:K.In s₁.heap) (hns:s₁.heap.Ns mainGlobals mg) (hb:s₁.heap.Ns builtinsNs mb) (hbb:∀ x:Str,x≠"__name__"→mb x = bootBuiltins x) (hlim:s₁.heap.NoLimit) (hg:s₁.gens = #[])
    (ha:s₁.heap.get? a = some { cls:=.type "list",data:=.seq vs.toArray }) (hi:IntsAre vs ns) (hl:ns.length≤sizeLine) (hr:Room k callerA)
    (F:∀ base:Heap,K.In base→base.Ns mainGlobals mg→FnOk P w K mg base CX k fa fd [x] sp) (hbind:∀ (s:Shared) (u:Value),BindsTo s fd ⟨[u],[]⟩ [(x,u)])
    (hsp:∀ H:Hp,Only H→SqL K H a (ns.map V.int)→sp [.ref a] H (fun v _=>v = .bl true) fun _ _ _=>False)
    (hCX:∀ H e s',CX [] H s₁ (fun _ _ _=>False) e s'→False) :
    codeAny (model P w) callerA (.call (.ref fa) ⟨[.ref a],[]⟩) (fun r s'=>r = .ok (.ret (.bool true))∧OldK s₁.heap s'.heap∧s'.os = s₁.os∧AllBare s'.gens) s₁:=by
  have rv:=vals_ints hi
  have lenV:=hi.length
  have core:∀ H:Hp,Only H→SqL K H a (ns.map V.int)→HOk P w H s₁.heap→(∀ b,H b≠none→b = a)→(H a≠none→K.lookup a = none)→
      codeAny (model P w) callerA (.call (.ref fa) ⟨[.ref a],[]⟩) (fun r s'=>r = .ok (.ret (.bool true))∧OldK s₁.heap s'.heap∧s'.os = s₁.os∧AllBare s'.gens) s₁:=by
    intro H hO hS hok hA hK
    have base_of:∀ {b:Addr} {o:Obj},s₁.heap.get? b = some o→H b = none→(hidT s₁.heap H).get? b = some o:=fun e n=>hidT_get e n
    have noA:∀ {b:Addr} {o:Obj} {es:Array DictEntry} {ep:Nat},s₁.heap.get? b = some o→o.data = .dict es ep→H b = none:=fun {b o es ep} e d=>by
      cases q:H b with
      | none=>rfl
      | some u=>
        have e':b = a:=hA b (by rw [q]; simp)
        subst e'
        rw [ha] at e; cases e
        have d':Data.seq vs.toArray _ = Data.dict es ep:=d
        cases d'
    have nsK:∀ {b:Addr} {m:Str→Option Value},s₁.heap.Ns b m→(hidT s₁.heap H).Ns b m:=fun {b m} ⟨o,es,ep,e,d,r⟩=>⟨o,es,ep,base_of e (noA e d),d,r⟩
    have hKb:K.In (hidT s₁.heap H):=fun b o e=>base_of (KX b o e) (by
      cases q:H b with
      | none=>rfl
      | some u=>
        have e':b = a:=hA b (by rw [q]; simp)
        subst e'
        rw [hK (by rw [q]; simp)] at e; cases e)
    have hM:Mod K mg (hidT s₁.heap H):=⟨hKb,nsK hns,⟨mb,nsK hb,hbb⟩,let ⟨mc,h1,h2⟩:=hlim; ⟨mc,nsK h1,h2⟩⟩
    have e0:Env0 P w K mg (hidT s₁.heap H) callerA [] s₁ H:=⟨rfl,hM,fun b o e=>of_hidT e,Nat.le_of_eq (hidT_size _ _),trivial,fun b hb=>absurd (show b∈([]:List Addr) from hb) (by simp),hok,.of_eq hg⟩
    refine codeAny_mono ((F _ hKb (nsK hns)).run callerA [] s₁ H ⟨[.ref a],[]⟩ [.ref a] [.ref a] _ _ hr e0 (hbind s₁ (.ref a)) (.cons rfl .nil) (hsp H hO hS)) fun r s' h=>?_
    cases r with
    | error e=>exact (hCX H e s' h).elim
    | ok fl=>
      cases fl with
      | next=>exact False.elim h
      | brk=>exact False.elim h
      | cont=>exact False.elim h
      | ret u=>
        obtain ⟨v,H',os,bare,un,hok',r',q⟩:=h
        have q':v = .bl true:=q
        subst q'
        obtain rfl:u = Value.bool true:=r'
        refine ⟨rfl,OldK.of_keep fun b o e=>?_,os,bare⟩
        cases q:H b with
        | none=>exact un.keep b o e q (by intro z; exact absurd (show b∈([]:List Addr) from z) (by simp)) (by simp)
        | some u=>
          rcases hO b with z | ⟨ob,xs,z⟩
          · rw [q] at z; cases z
          · have z2:=un.frzs b ob _ z
            obtain ⟨e1,_⟩:=hok b _ z
            obtain ⟨e2,_⟩:=hok' b _ z2
            rw [e] at e1; cases e1
            exact e2
  cases hk:K.lookup a with
  | some o=>
    have e:=KX a o hk
    rw [ha] at e
    cases e
    refine core (fun _=>none) (fun _=>.inl rfl) (.inr ⟨_,vs.toArray,_,hk,rfl,rfl,rfl,by rw [List.size_toArray,lenV]; exact hl,by simpa using rv⟩) (fun b u z=>by have z':(none:Option HO) = some u:=z; cases z') (fun b z=>absurd rfl z) fun z=>absurd rfl z
  | none=>
    refine core (fun b=>if b = a then some (.frz { cls:=.type "list",data:=.seq vs.toArray } (.lst (ns.map V.int))) else none) (fun b=>?_) (.inl (.inr ⟨{ cls:=.type "list",data:=.seq vs.toArray },if_pos rfl⟩)) (fun b u z=>?_) (fun b z=>?_) fun _=>hk
    · by_cases hb:b = a
      · exact .inr ⟨_,_,if_pos hb⟩
      · exact .inl (if_neg hb)
    · by_cases hb:b = a
      · have z':=(if_pos hb).symm.trans z
        cases z'
        subst hb
        exact ⟨ha,by rw [List.length_map]; exact hl,vs,_,rv,ha⟩
      · have z':=(if_neg hb).symm.trans z
        cases z'
    · by_cases hb:b = a
      · exact hb
      · exact absurd (if_neg hb) z
end L2
namespace L2
open PySem PySem.Spec PyProof.Rows
theorem walk_of {l:PySem.W.OpenLaw} {n k:Nat} {q:Program} {loose:List Str} {XP:(Str→Option Value)→Heap→Prop} {YP:World→Heap→Prop} {d:DefRec} {K:Params→PySem.W.Frag} {CX:World→CXT} {sp:World→Sp} {x:Str}
    (hn:l.most = some n) (hn2:n≤sizeLine) (hdf:d.params.defaults = []) (hr:Room k callerA)
    (hY:∀ (w:World) (h:Heap),YP w h→(K w.params).In h)
    (F:∀ (w:World) (mg:Str→Option Value) (fa:Addr) (h:Heap),(K w.params).In h→h.Ns mainGlobals mg→mg d.name = some (.ref fa)→
      ∃ fd:FuncData,(∀ (s:Shared) (u:Value),BindsTo s fd ⟨[u],[]⟩ [(x,u)])∧
        ∀ base:Heap,(K w.params).In base→base.Ns mainGlobals mg→FnOk l.prog w (K w.params) mg base (CX w) k fa fd [x] (sp w))
    (hsp:∀ (w:World) (H:Hp) (a:Addr) (ns:List Int),ns.length≤n→Only H→SqL (K w.params) H a (ns.map V.int)→sp w [.ref a] H (fun v _=>v = .bl true) fun _ _ _=>False)
    (hCX:∀ (w:World) (H:Hp) (s:Shared) (e:Value) (s':Shared),CX w [] H s (fun _ _ _=>False) e s'→False) :
    PySem.W.WalkO q loose XP YP l.row.toRowW d [] (fun f vs=>PySem.call f vs):=by
  refine Att.attach_call hn hdf fun w s₀ s₁ mg mb fa o pm cd doc a vs ns G Y ho hd hcd hmg hobj hints hlen hg=>?_
  have KX:=hY w _ Y
  obtain ⟨fd,hb,hF⟩:=F w mg fa _ KX G.T.g hmg
  exact law_call KX G.T.g G.T.b G.T.builtins G.T.nolimit hg hobj hints (Nat.le_trans hlen hn2) hr hF hb (fun H hO hS=>hsp w H a ns hlen hO hS) fun H e s'=>hCX w H s₁ e s'
end L2
namespace L2
open PySem PySem.Spec PyProof.Rows
def defArgs (s:Stmt):Arguments:=match s with
  | .FunctionDef _ a _ _ _ _ _ _ _ _=>a
  | _=>{ posonlyargs:=[],args:=[],vararg:=none,kwonlyargs:=[],kw_defaults:=[],kwarg:=none,defaults:=[] }
def defBody (s:Stmt):List Stmt:=match s with
  | .FunctionDef _ _ b _ _ _ _ _ _ _=>b
  | _=>[]
def defScope (s:Stmt):Scope:=match s with
  | .FunctionDef _ _ _ _ _ _ sc _ _ _=>sc
  | _=>{ kind:=.function,names:=[],isGenerator:=false,isCoroutine:=false }
abbrev CX0:CXT:=fun _ _ _ _ _ _=>False
abbrev E0:XK:=fun _ _ _=>False
theorem pass0 {X:Cx}:Passes CX0 X E0:=fun _ _ _ _ _ _ _ h=>h.elim
structure Fun (K:PySem.W.Frag) (x qual:Str) (st:Stmt) (f:Addr) (fd:FuncData):Prop where
  ex:∃ (oc:Value) (od:Option Addr) (kV doc pm:Value) (an:Option Addr) (cdv ct:Value) (osl:Array (Option Value)),
    fd = PySem.W.fnOf x qual (defArgs st) (defBody st) (defScope st) .none kV doc pm an cdv ct∧K.lookup f = some ⟨oc,od,.func fd,osl⟩∧PySem.W.codeIn K cdv qual = true
  kp:PySem.W.keepIn K (.ref f) = true
section
variable {P:Program} {w:World} {K:PySem.W.Frag} {mg:Str→Option Value} {base:Heap}
theorem Fun.ok {x qual:Str} {st:Stmt} {f:Addr} {fd:FuncData} {N ps:List Str} {k:Nat} {sp:Sp} (F:Fun K x qual st f fd) (S:FnScope N ps (defScope st)) (len:∀ vs H Q E,sp vs H Q E→vs.length = ps.length)
    (hbody:∀ (cdv:Value) (A:Around) (outer:List Env) (s:Shared) (H:Hp) (vs:List V) (Q:VK) (E:XK),Room k (A.deeper (envOfC qual (defScope st) s.heap.objs.size f cdv))→sp vs H Q E→
      ∃ t,PSs (cxOf CX0 P w K mg base N qual (defScope st) f cdv A outer s H E).nox (defBody st) t∧t { nx:=fun _ H'=>Q .non H',rt:=Q } (start N vs) H):FnOk P w K mg base CX0 (k + 1) f fd ps sp:=by
  obtain ⟨oc,od,kV,doc,pm,an,cdv,ct,osl,rfl,lk,hcd⟩:=F.ex
  refine fn_of lk hcd S len fun A outer s H vs Q E hr hsp=>?_
  obtain ⟨t,h,q⟩:=hbody cdv A outer s H vs Q E hr hsp
  exact ⟨t,h.nox,q⟩
theorem Fun.binds {x qual:Str} {st:Stmt} {f:Addr} {fd:FuncData} {ps:List Str} (F:Fun K x qual st f fd)
    (h:∀ (kV doc pm:Value) (an:Option Addr) (cdv ct:Value) (us:List Value),us.length = ps.length→bindArgs (PySem.W.fnOf x qual (defArgs st) (defBody st) (defScope st) .none kV doc pm an cdv ct) ⟨us,[]⟩ = pure (ps.zip us)):Binds K fd ps []:=by
  obtain ⟨oc,od,kV,doc,pm,an,cdv,ct,osl,rfl,lk,hcd⟩:=F.ex
  exact .all (h kV doc pm an cdv ct)
theorem fun_mk {x qual:Str} {st:Stmt} {f:Addr} {oc:Value} {od an:Option Addr} {osl:Array (Option Value)} {kV doc pm cdv ct:Value} (l:K.lookup f = some ⟨oc,od,.func (PySem.W.fnOf x qual (defArgs st) (defBody st) (defScope st) .none kV doc pm an cdv ct),osl⟩)
    (c:PySem.W.codeIn K cdv qual = true) (k:PySem.W.keepIn K (.ref f) = true):Fun K x qual st f (PySem.W.fnOf x qual (defArgs st) (defBody st) (defScope st) .none kV doc pm an cdv ct):=⟨⟨oc,od,kV,doc,pm,an,cdv,ct,osl,rfl,l,c⟩,k⟩
end
theorem hu_of {A:Around} {k:Nat} (hr:Room k A):A.units + 1 < cLine:=Nat.lt_of_le_of_lt (Nat.add_le_add_left (by decide:1≤64) _) hr.units
section
variable {X:Cx}
theorem pv (i:Nat) {x:Str} {pos:Pos} (hN:X.N[i]? = some x:=by rfl) (hv:Vis X.env.scope x:=by first | exact Or.inl rfl | exact Or.inr (Or.inl rfl) | exact Or.inr (Or.inr rfl)) (hd:(x == ("__debug__":Str)) = false:=by decide)
    (hcd:(x == ("__classdict__":Str)) = false:=by decide):PE X (.Name x pos) (tVar i):=pe_var hN hv hd hcd
end
theorem ite2 {c A B:Prop} [Decidable c] (h1:c→A) (h2:¬ c→B):if c then A else B:=by
  by_cases h:c
  · rw [if_pos h]
    exact h1 h
  · rw [if_neg h]
    exact h2 h
def Same (H H':Hp):Prop:=∀ b o,H b = some o→H' b = some o
theorem Same.refl (H:Hp):Same H H:=fun _ _ h=>h
theorem Same.trans {H H1 H2:Hp} (a:Same H H1) (b:Same H1 H2):Same H H2:=fun c o h=>b c o (a c o h)
theorem Same.free {H H':Hp} (e:Same H H') {l:Addr} (h:H' l = Option.none):H l = Option.none:=by
  cases q:H l with
  | none=>rfl
  | some o=>
    rw [e l o q] at h
    cases h
theorem Same.seq {K:PySem.W.Frag} {H H':Hp} {a:Addr} {xs:List V} (e:Same H H') (h:SqL K H a xs):SqL K H' a xs:=by
  rcases h with (h | ⟨o,h⟩) | h
  · exact .inl (.inl (e _ _ h))
  · exact .inl (.inr ⟨o,e _ _ h⟩)
  · exact .inr h
end L2
set_option maxHeartbeats 1000000
namespace L2
open PySem PySem.Spec PyProof.Rows
section
variable {prog:Program} {w:World} {A:Around} {env:Env} {elt target iter:Expr} {ifs:List Expr} {scope:Scope} {pos:Pos} {it acc:Value}
abbrev testsOf (env:Env) (ifs:List Expr):Sem Bool:=forIn ifs true fun c r=>(if r = true then (do let ok ← isTrue c env (eval c env); pure (ForInStep.yield ok)) else pure (ForInStep.yield r))
abbrev OneTurn (prog:Program) (w:World) (A:Around) (env:Env) (elt target:Expr) (ifs:List Expr) (it acc:Value) (Ee:Value→Shared→Prop) (over on:Shared→Prop):Shared→Prop:=
  wpAny (model prog w) A (pyNext it) (fun | none,s1=>over s1 | some v,s1=>wpAny (model prog w) A (letOwnedTupleGo target it v) (fun _ s2=>wpAny (model prog w) A (assign target env v) (fun _ s3=>wpAny (model prog w) A (testsOf env ifs) (fun ok s4=>
    if ok = true then wpAny (model prog w) A (eval elt env) (fun x s5=>wpAny (model prog w) A (call (.builtin "list.append") [acc,x]) (fun _=>on) (fun _ _=>False) s5) Ee s4 else on s4) Ee s3) Ee s2) (fun _ _=>False) s1) (fun _ _=>False)
theorem comp_turnsX {R:Result→Shared→Prop} {Ee:Value→Shared→Prop} (I:Nat→Shared→Prop) (hE:∀ x s,Ee x s→notedBy (model prog w) A env (fun x s=>R (.error x) s) x s)
    (turn:∀ n s,I n s→OneTurn prog w A env elt target ifs it acc Ee (R (.ok .next)) (fun s'=>∃ m,m < n∧I m s') s) (n:Nat) {s:Shared} (h:I n s) :
    codeAny (model prog w) A (.compLoop (.ListComp elt [⟨target,iter,ifs,0⟩] scope pos) 0 it acc env) R s:=by
  have none':∀ {Z:Value→Shared→Prop} (x:Value) (s:Shared),False→Z x s:=fun _ _ z=>z.elim
  refine codeAny_loop rfl I (fun k s1 h1=>?_) n h
  change wpAny _ A ((compTurn (.ListComp elt [⟨target,iter,ifs,0⟩] scope pos) 0 it acc env).onRaise (fun x=>do noteFrame x env; theTreesLotGoes x)) _ _ s1
  refine wpAny_noted ?_
  rw [compTurn_list]
  refine wpAny_bind (wpAny_standAt (wpAny_bind (wpAny_mono (turn k s1 h1) (fun r s2 h2=>?_) none')))
  match r,h2 with
  | none,h2=>exact wpAny_pure h2
  | some v,h2=>
    refine wpAny_bind (wpAny_mono h2 (fun _ s3 h3=>wpAny_bind (wpAny_mono h3 (fun _ s4 h4=>wpAny_bind (wpAny_mono h4 (fun ok s5 h5=>?_) hE)) hE)) none')
    match ok,h5 with
    | false,h5=>exact wpAny_pure ⟨rfl,h5⟩
    | true,h5=>exact wpAny_bind (wpAny_bind (wpAny_mono h5 (fun x s6 h6=>wpAny_bind (wpAny_mono h6 (fun _ s7 h7=>wpAny_pure (wpAny_pure ⟨rfl,h7⟩)) none')) hE))
theorem comp_turns {R:Result→Shared→Prop} (I:Nat→Shared→Prop) (turn:∀ n s,I n s→OneTurn prog w A env elt target ifs it acc (fun _ _=>False) (R (.ok .next)) (fun s'=>∃ m,m < n∧I m s') s) (n:Nat) {s:Shared} (h:I n s) :
    codeAny (model prog w) A (.compLoop (.ListComp elt [⟨target,iter,ifs,0⟩] scope pos) 0 it acc env) R s:=comp_turnsX I (fun _ _ z=>z.elim) turn n h
end
def PIfs (X:Cx) (ifs:List Expr) (t:TT):Prop:=
  ∀ (pins:List (Addr×Obj)) (s:Shared) (σ:St) (H:Hp) (Q:Bool→Hp→Prop),Inv X pins σ H s→t σ H Q→
    wpAny (model X.prog X.w) X.A (forIn ifs true fun c r=>if r = true then do let ok ← isTrue c X.env (eval c X.env); pure (ForInStep.yield ok) else pure (ForInStep.yield r)) (TP X pins σ Q) X.xe s
def tYes:TT:=fun _ H Q=>Q true H
theorem pifs_nil {X:Cx}:PIfs X [] tYes:=fun _ _ _ H _ I h=>wpAny_tests_nil ⟨H,I,h⟩
theorem pifs_one {X:Cx} {c:Expr} {t:TT} (h:PT X c t):PIfs X [c] t:=fun pins s σ H Q I q=>wpAny_tests_one (h pins s σ H Q I q)
def cxComp (X:Cx) (scope:Scope) (cl:List (Str×Addr)) (N:List Str) (C:Addr) (s:Shared) (H:Hp) (fp:List Addr):Cx:=
  { prog:=X.prog,w:=X.w,K:=X.K,mg:=X.mg,base:=X.base,A:=X.A,N:=N,s₀:=s,H₀:=H,env:=compEnvC scope cl C X.env,outer:=X.stack,stack:=X.stack,ex:=fp,fn:=fun _=>false,calm:=X.calm,pn:=[],xe:=fun _ _=>False }
def stC (fr:List (Option Nat)) (σ:St):St:=fr.map fun o=>o.bind fun i=>(σ[i]?).bind id
def tCompK (fr:List (Option Nat)) (g:TG) (tt:TT) (te:TE) (σ:St) (Q:VK) (J:It) (H1:Hp):Prop:=∀ l,H1 l = none→∃ W:Nat→Nat→St→Hp→Prop,(∃ m,W 0 m (stC fr σ) (upd H1 l (.lst [])))∧∀ i m σ H,W i m σ H→
  (J.stop i H∧Q (.ref l) H)∨(J.go i H∧∀ x H',J.yld i H x H'→g x σ H' fun σ2 H2=>tt σ2 H2 fun b H3=>if b = true then te σ2 H3 fun v H4=>∃ xs,H4 l = some (.lst xs)∧xs.length < sizeLine∧∃ m',m' < m∧W (i + 1) m' σ2 (upd H4 l (.lst (xs ++ [v])))
    else ∃ m',m' < m∧W (i + 1) m' σ2 H3)
def tComp (fr:List (Option Nat)) (wi:TI) (g:TG) (tt:TT) (te:TE):TE:=fun σ H Q=>wi σ H (tCompK fr g tt te σ Q)
def compChk (XN:List Str) (xs sc:Scope) (N:List Str) (fr:List (Option Nat)):Bool:=
  decide (sc.kind = .function) && decide (fr.length = N.length) && (sc.names.all fun y=>!decide (y.2 = .cell)) && (sc.names.all fun y=>!decide (y.2 = .local) || decide (sc.names.lookup y.1 = some .local)) &&
  (sc.names.all fun y=>!decide (y.2 = .free) || (decide (xs.names.lookup y.1 = some .cell) || decide (xs.names.lookup y.1 = some .free))) &&
  ((N.zip fr).all fun p=>match p.2 with | none=>true | some i=>decide (XN[i]? = some p.1) && decide (sc.names.lookup p.1 = some .free))
def ClOk (cells:List (Str×Addr)):List (Str×Addr)→Prop
  | []=>True
  | p :: r=>cells.lookup p.1 = some p.2∧ClOk cells r
theorem ClOk.get {cells:List (Str×Addr)}:∀ {cl:List (Str×Addr)},ClOk cells cl→∀ {x:Str} {c:Addr},cl.lookup x = some c→cells.lookup x = some c
  | [],_,_,_,h=>by cases h
  | (y,d) :: r,k,x,c,h=>by
    rw [List.lookup_cons] at h
    cases e:x == y with
    | true=>
      rw [e] at h
      cases h
      rw [eq_of_beq e]
      exact k.1
    | false=>
      rw [e] at h
      exact ClOk.get k.2 h
def ClAll (cl:List (Str×Addr)):List (Str×NameKind)→Prop
  | []=>True
  | p :: r=>(p.2 = .free→∃ c,cl.lookup p.1 = some c)∧ClAll cl r
theorem ClAll.get {cl:List (Str×Addr)}:∀ {ns:List (Str×NameKind)},ClAll cl ns→∀ y∈ns,y.2 = .free→∃ c,cl.lookup y.1 = some c
  | [],_,_,h=>by cases h
  | p :: r,k,y,h=>by
    rcases List.mem_cons.mp h with rfl | h
    · exact k.1
    · exact ClAll.get k.2 y h
theorem relabel_cell {env:Env}:∀ {names:List (Str×NameKind)} {x:Str} {k:NameKind},(names.map fun (n,k)=>if (k == NameKind.free && env.scope.kind == .function && env.kindOf n == some .cell) then (n,NameKind.cell) else (n,k)).lookup x = some k→
    names.lookup x = some k∨(k = .cell∧names.lookup x = some .free)
  | [],_,_,h=>by cases h
  | (n,k0) :: r,x,k,h=>by
    have ih:=@relabel_cell env r x k
    by_cases hc:(k0 == NameKind.free && env.scope.kind == .function && env.kindOf n == some .cell) = true
    · simp only [List.map_cons,if_pos hc,List.lookup_cons] at h
      rw [List.lookup_cons]
      cases e:x == n with
      | true=>
        rw [e] at h
        cases h
        simp only [Bool.and_eq_true] at hc
        have:k0 = .free:=by simpa using hc.1.1
        exact .inr ⟨rfl,by rw [this]⟩
      | false=>rw [e] at h; exact ih h
    · simp only [List.map_cons,if_neg hc,List.lookup_cons] at h
      rw [List.lookup_cons]
      cases e:x == n with
      | true=>rw [e] at h; exact .inl h
      | false=>rw [e] at h; exact ih h
theorem relabel_free {env:Env}:∀ {names:List (Str×NameKind)} {x:Str},names.lookup x = some .free→
    (names.map fun (n,k)=>if (k == NameKind.free && env.scope.kind == .function && env.kindOf n == some .cell) then (n,NameKind.cell) else (n,k)).lookup x = some .cell∨
    (names.map fun (n,k)=>if (k == NameKind.free && env.scope.kind == .function && env.kindOf n == some .cell) then (n,NameKind.cell) else (n,k)).lookup x = some .free
  | [],_,h=>by cases h
  | (n,k0) :: r,x,h=>by
    have ih:=@relabel_free env r x
    rw [List.lookup_cons] at h
    by_cases hc:(k0 == NameKind.free && env.scope.kind == .function && env.kindOf n == some .cell) = true
    · simp only [List.map_cons,if_pos hc,List.lookup_cons]
      cases e:x == n with
      | true=>exact .inl rfl
      | false=>rw [e] at h; exact ih h
    · simp only [List.map_cons,if_neg hc,List.lookup_cons]
      cases e:x == n with
      | true=>rw [e] at h; exact .inr h
      | false=>rw [e] at h; exact ih h
section
variable {X:Cx}
theorem comp_core (N:List Str) (fr:List (Option Nat)) {elt tg iter:Expr} {ifs:List Expr} {scope:Scope} {pos fpos:Pos} {wi:TI} {g:TG} {tt:TT} {te:TE} {cl:List (Str×Addr)}
    (hc:X.calm = true) (hi:PI X tg iter wi) (hchk:compChk X.N X.env.scope scope N fr = true) (hclos:closureFor scope X.env = pure cl) (hcl:ClOk X.env.cells cl) (hall:ClAll cl scope.names)
    (hb:∀ (C:Addr) (s:Shared) (H:Hp) (fp:List Addr),PG (cxComp X scope cl N C s H fp) tg g∧PIfs (cxComp X scope cl N C s H fp) ifs tt∧PE (cxComp X scope cl N C s H fp) elt te)
    (hs:∀ x,foldedSetIterable iter X.env x = pure x) {pins:List (Addr×Obj)} {s:Shared} {σ:St} {H:Hp} {Q:VK} {use:Option (Value→Sem Unit)} {Qc:Value→Shared→Prop} (I:Inv X pins σ H s) (h:tComp fr wi g tt te σ H Q)
    (hfin:∀ (l:Addr) (H':Hp) (s':Shared) (C:Addr),Inv X pins σ H' s'→FpOk X pins H' C→(∃ m,s'.heap.Ns C m)→Q (.ref l) H'→compPost (model X.prog X.w) X.A X.xe use Qc (.ref l) C (.ok .next) s') :
    wpAny (model X.prog X.w) X.A (comprehension (.ListComp elt [⟨tg,iter,ifs,0⟩] scope pos) scope X.env fpos (newList []) (firstAsync [⟨tg,iter,ifs,0⟩]) (firstIter [⟨tg,iter,ifs,0⟩] X.env) use) Qc X.xe s:=by
  simp only [compChk,Bool.and_eq_true,decide_eq_true_eq,List.all_eq_true,Bool.or_eq_true,Bool.not_eq_true',decide_eq_false_iff_not] at hchk
  obtain ⟨⟨⟨⟨⟨hkind,hlen⟩,hcell⟩,hnames⟩,hfree⟩,hfr⟩:=hchk
  have hnames':∀ x∈scope.names,x.2 = .local→scope.names.lookup x.1 = some .local:=fun y hy e=>(hnames y hy).resolve_left fun z=>z e
  have hcell':∀ x∈scope.names,x.2≠.cell:=fun y hy=>hcell y hy
  refine wpAny_comprehension_free (use:=use) rfl hs hclos hkind hnames' (thn (hi pins s σ H _ I h) fun v s1 h1=>thn h1 fun itv s2 h2=>?_)
  obtain ⟨it,fp,tn,J,H2,e,I2,T,st2,f2,hQ⟩:=h2
  subst e
  refine wpAny_newObj_type (hd:=by size_fits) (wpAny_newFunctionEnv hcell' (by intro y hy; simp at hy) (fun h₁ hns hsb=>?_) hkind)
  dsimp only at hns hsb ⊢
  obtain ⟨W,⟨m0,w0⟩,turn⟩:=hQ s2.heap.objs.size I2.fresh
  have I3:Inv X pins σ (upd H2 s2.heap.objs.size (.lst [])) { s2 with heap:=s2.heap.push { cls:=.type "list",data:=.seq ([]:List Value).toArray },toks:=s2.toks }:=I2.lnew (its:=[]) .nil (Nat.zero_le _)
  generalize hh3:s2.heap.push { cls:=.type "list",dict:=none,data:=.seq ([]:List Value).toArray } = h3 at hns hsb ⊢
  rw [show s2.heap.push { cls:=.type "list",data:=.seq ([]:List Value).toArray } = h3 from hh3] at I3
  generalize hH3:upd H2 s2.heap.objs.size (.lst []) = H3 at I3 w0
  generalize hl:s2.heap.objs.size = l at turn hH3 ⊢
  have hl3:l < h3.objs.size:=by rw [← hh3,← hl,Heap.size_push]; exact Nat.lt_succ_self _
  generalize hs3:({ s2 with heap:=h3,toks:=s2.toks }:Shared) = s3 at I3
  have es3:s3.heap = h3:=by rw [← hs3]
  have eos:s3.os = s2.os:=by rw [← hs3]
  have egens:s3.gens = s2.gens:=by rw [← hs3]
  generalize hC:h3.objs.size = C at hns hsb ⊢
  have old:∀ b o,h3.get? b = some o→h₁.get? b = some o:=fun b o e=>
    hsb.extBut b o (by rw [← hC]; exact Nat.ne_of_lt (Heap.lt_size e)) (Heap.get?_push_of_some _ e)
  have f3:∀ b∈fp,FpOk X pins H3 b:=fun b hb=>by
    obtain ⟨g0,g1⟩:=f2 b hb
    refine ⟨?_,g1⟩
    rw [← hH3]
    have:b≠l:=by
      obtain ⟨o,e,_⟩:=T.obj _ _ st2 b hb
      rw [← hl]; exact Nat.ne_of_lt (Heap.lt_size e)
    rw [upd_ne this]; exact g0
  have st3:tn 0 h₁:=T.keep _ _ _ st2 fun b hb o e=>old b o (by rw [← hh3]; exact Heap.get?_push_of_some _ e)
  have ok:(cxComp X scope cl N C s3 H3 fp).Ok:=by
    refine ⟨I3.ok.mod,?_,I3.ok.glob,I3.ok.blt,?_,fun x y c e1 e2=>I3.ok.inj x y c (hcl.get e1) (hcl.get e2),fun x hx=>?_,fun x c hx=>(by cases hx),I3.ok.hd,I3.ok.frames,.inl rfl,fun b hb=>?_,fun b o e=>?_,?_,fun b o e hb=>?_,fun b hb hb2=>?_,?_,fun b hb=>?_⟩
    · exact hkind
    · show s3.heap.objs.size≤C
      rw [es3,hC]; exact Nat.le_refl _
    · have hx':(relabel scope X.env).names.lookup x = some .cell∨(relabel scope X.env).names.lookup x = some .free:=hx
      have:scope.names.lookup x = some .free:=by
        rcases hx' with z | z
        · rcases relabel_cell z with q | ⟨_,q⟩
          · exact absurd rfl (hcell' _ (PySem.mem_of_lookup q))
          · exact q
        · rcases relabel_cell z with q | ⟨q,_⟩
          · exact q
          · cases q
      exact hall.get _ (PySem.mem_of_lookup this) rfl
    · obtain ⟨g0,g1,g2,g3,g4,g5⟩:=f3 b hb
      obtain ⟨o,e,_⟩:=T.obj _ _ st2 b hb
      refine ⟨?_,fun x c e=>g4 x c (hcl.get e)⟩
      show b≠C
      rw [← hC]
      exact Nat.ne_of_lt (Heap.lt_size (by rw [← hh3]; exact Heap.get?_push_of_some _ e))
    · have q:=I3.bs b o e
      exact q
    · show X.base.objs.size≤s3.heap.objs.size
      exact Nat.le_trans I3.ok.bsz I3.sz
    · obtain ⟨g0,g1,g2,g3,g4,g5⟩:=f3 b hb
      rcases g3 with z | z
      · exact I3.ok.noex b o e z
      · exact absurd (Nat.lt_of_lt_of_le (Heap.lt_size e) (Nat.le_trans I3.ok.bsz z)) (Nat.lt_irrefl _)
    · obtain ⟨g0,g1,g2,g3,g4,g5⟩:=f3 b hb
      rcases List.mem_cons.mp (I3.stkSub b hb2) with z | z
      · exact g1 z
      · exact g2 z
    · show s3.heap.FunFrames X.base X.stack
      exact I3.stack
    · exact I3.stkFree b hb
  have I4:Inv (cxComp X scope cl N C s3 H3 fp) [] (stC fr σ) H3 { s2 with heap:=h₁,toks:=s2.toks + ([]:List (Str×Value)).length }:=by
    have hk3:∀ b o,s3.heap.get? b = some o→h₁.get? b = some o:=fun b o e=>old b o (by rw [← es3]; exact e)
    refine ⟨ok,eos.symm ▸ rfl,egens ▸ I3.bare,Un.kept hk3,⟨_,hns,fun i x v e1 e2 e3=>?_⟩,fun x c e=>?_,?_,fun x c e=>I3.freeC x c (hcl.get e),fun p hp=>(by cases hp),I3.hok.kept hk3,?_⟩
    ·
      have e1':N[i]? = some x:=e1
      have e2':(fr[i]?).map (fun o=>o.bind fun i=>(σ[i]?).bind id) = some (some v):=by
        have:(stC fr σ)[i]? = some (some v):=e2
        rw [stC,List.getElem?_map] at this
        exact this
      cases q:fr[i]? with
      | none=>rw [q] at e2'; cases e2'
      | some o=>
        rw [q] at e2'
        cases o with
        | none=>cases e2'
        | some j=>
          have e2'':(σ[j]?).bind id = some v:=Option.some.inj e2'
          obtain ⟨p1,p2⟩:X.N[j]? = some x∧scope.names.lookup x = some .free:=by
            have hz:(x,some j)∈N.zip fr:=by
              have:(N.zip fr)[i]? = some (x,some j):=by
                rw [List.getElem?_zip_eq_some]; exact ⟨e1',q⟩
              exact List.mem_of_getElem? this
            have:=hfr _ hz
            simpa using this
          have hv:X.env.scope.names.lookup x = some .cell∨X.env.scope.names.lookup x = some .free:=by
            rcases hfree _ (PySem.mem_of_lookup p2) with z | z
            · exact absurd rfl z
            · simpa using z
          have e3':σ[j]? = some (some v):=by
            cases q3:σ[j]? with
            | none=>rw [q3] at e2''; cases e2''
            | some w'=>rw [q3] at e2''; have:w' = some v:=e2''; rw [this]
          obtain ⟨m,hn,hl'⟩:=I3.loc
          obtain ⟨u,ru,lk⟩:=hl' j x v p1 e3' (.inr hv)
          refine ⟨u,ru,.inr ⟨relabel_free p2,?_⟩⟩
          rcases lk with ⟨lk,_⟩ | ⟨_,c,ec,cc⟩
          · have lk':X.env.scope.names.lookup x = some .local:=lk
            rcases hv with z | z <;> (rw [z] at lk'; cases lk')
          · obtain ⟨c',ec'⟩:=hall.get _ (PySem.mem_of_lookup p2) rfl
            have:=hcl.get ec'
            rw [ec] at this; cases this
            obtain ⟨o,ho,hd⟩:=cc
            exact ⟨c,ec',o,hk3 _ _ ho,hd⟩
    · obtain ⟨v,o,ho,hd⟩:=I3.cell x c (hcl.get e)
      exact ⟨v,o,hk3 _ _ ho,hd⟩
    · show H3 C = none
      exact I3.hok.fresh (by rw [es3,hC]; exact Nat.le_refl _)
    · show (stC fr σ).length = N.length
      rw [stC,List.length_map]; exact hlen
  obtain ⟨hg,ht,he⟩:=hb C s3 H3 fp
  have fpc:∀ {H':Hp},(∀ b∈fp,H' b = none)→∀ b∈fp,FpOk (cxComp X scope cl N C s3 H3 fp) [] H' b:=fun hn b hb=>by
    obtain ⟨q1,q2⟩:=ok.exf b hb
    exact ⟨hn b hb,q1,ok.exfs b hb,.inl hb,q2,fun p hp=>by cases hp⟩
  have fin:∀ (σ':St) (H':Hp) (s':Shared),Inv (cxComp X scope cl N C s3 H3 fp) [] σ' H' s'→Q (.ref l) H'→compPost (model X.prog X.w) X.A X.xe use Qc (.ref l) C (.ok .next) s':=fun σ' H' s' I' q=>by
    obtain ⟨m,hn,_⟩:=I'.loc
    have nC:∀ b o,s3.heap.get? b = some o→b≠C:=fun b o e=>by
      rw [← hC,← es3]; exact Nat.ne_of_lt (Heap.lt_size e)
    have fC:H' C = none:=I'.free
    have u:=I'.base
    refine hfin l H' s' C ?_ (I3.fpOk (by rw [es3,hC]; exact Nat.le_refl _) fC) ⟨m,hn⟩ q
    refine I3.call' (s':=s') (ch:=fp) I'.os ⟨fun b o e n hb hx=>u.keep b o e n hb hx,fun b o e n hb hx=>u.slot b o e n hb hx,u.free,fun b o e hx=>u.there b o e hx,u.tups,u.frzs,u.tbls⟩ (fun b o e=>I'.hok b o e) I'.bare fun b hb=>?_
    obtain ⟨g0,g1,g2,g3,g4,g5⟩:=f3 b hb
    exact ⟨g3,g1,g4,g5⟩
  have loop:codeAny (model X.prog X.w) X.A (.compLoop (.ListComp elt [⟨tg,iter,ifs,0⟩] scope pos) 0 (.ref it) (.ref l) (compEnvC scope cl C X.env)) (compPost (model X.prog X.w) X.A X.xe use Qc (.ref l) C)
      { s2 with heap:=h₁,toks:=s2.toks + ([]:List (Str×Value)).length }:=by
    refine comp_turns (fun n s'=>∃ i σ' H',Inv (cxComp X scope cl N C s3 H3 fp) [] σ' H' s'∧tn i s'.heap∧(∀ b∈fp,H' b = none)∧W i n σ' H') ?_ m0 ⟨0,_,H3,I4,st3,fun b hb=>(f3 b hb).1,w0⟩
    rintro n s5 ⟨i,σ5,H5,I5,st5,fr5,w5⟩
    rcases turn i n σ5 H5 w5 with ⟨stop,qn⟩ | ⟨go,step⟩
    · refine thn (T.done (cxComp X scope cl N C s3 H3 fp) rfl rfl rfl hc i [] s5 σ5 H5 (fun _ _=>False) I5 (fpc fr5) st5 stop) fun r s6 ⟨hr,I6⟩=>?_
      subst hr
      exact fin σ5 H5 s6 I6 qn
    · refine thn (T.item (cxComp X scope cl N C s3 H3 fp) rfl rfl rfl hc i [] s5 σ5 H5 (fun _ _=>False) I5 (fpc fr5) st5 go) fun r s6 ⟨u,hr,h6⟩=>?_
      subst hr
      refine thn h6 fun _ s7 ⟨x,H7,I7,r7,y7,st7,fr7⟩=>?_
      have I7':=I7.pinned (fpc fr7) (T.obj _ _ st7)
      refine thn (hg _ s7 σ5 H7 x u _ I7' r7 (step x H7 y7)) fun _ s8 ⟨σ8,H8,I8,q8⟩=>?_
      have again:∀ {σ9:St} {H9:Hp} {s9:Shared},Inv (cxComp X scope cl N C s3 H3 fp) ([] ++ pinsAt fp s7.heap) σ9 H9 s9→(∃ m',m' < n∧W (i + 1) m' σ9 H9)→∃ m,m < n∧∃ i σ' H',Inv (cxComp X scope cl N C s3 H3 fp) [] σ' H' s9∧tn i s9.heap∧(∀ b∈fp,H' b = none)∧W i m σ' H':=fun {σ9 H9 s9} I9 n9=>by
        obtain ⟨m',hm,w9⟩:=n9
        refine ⟨m',hm,i + 1,σ9,H9,I9.unpinned,T.keep _ _ _ st7 fun b hb o e=>(I9.pin (b,o) (List.mem_append_right _ (List.mem_append_right _ (mem_pinsAt hb e)))).1,fun b hb=>?_,w9⟩
        obtain ⟨o,e,d⟩:=T.obj _ _ st7 b hb
        exact (I9.pin (b,o) (List.mem_append_right _ (List.mem_append_right _ (mem_pinsAt hb e)))).2.1
      refine thn (ht _ s8 σ8 H8 _ I8 q8) fun ok s9 ⟨H9,I9,q9⟩=>?_
      cases ok with
      | false=>
        rw [if_neg Bool.false_ne_true] at q9 ⊢
        exact again I9 q9
      | true=>
        rw [if_pos rfl] at q9 ⊢
        refine thn (he _ s9 σ8 H9 _ I9 q9) fun y sa ⟨vy,Ha,Ia,ry,qa⟩=>?_
        obtain ⟨xs,hla,hsz,n9⟩:=qa
        refine thn (mt_append _ sa σ8 Ha (.ref l) [vy] (.ref l) [y] (fun _ Hb=>∃ m',m' < n∧W (i + 1) m' σ8 Hb) Ia rfl (.cons ry .nil) ⟨l,xs,vy,rfl,rfl,hla,hsz,n9⟩) fun _ sb ⟨_,Hb,Ib,_,qb⟩=>?_
        exact again Ib qb
  show codeAny (model X.prog X.w) X.A (.compStart (.ListComp elt [⟨tg,iter,ifs,0⟩] scope pos) 0 (.ref it) (.ref l) (compEnvC scope cl C X.env)) (compPost (model X.prog X.w) X.A X.xe use Qc (.ref l) C) { s2 with heap:=h₁,toks:=s2.toks + ([]:List (Str×Value)).length }
  exact codeAny_compStart_list loop (T.self _ 0 _ _ _ st3 loop)
theorem pe_comp (N:List Str) (fr:List (Option Nat)) {elt tg iter:Expr} {ifs:List Expr} {scope:Scope} {pos:Pos} {wi:TI} {g:TG} {tt:TT} {te:TE} {cl:List (Str×Addr)}
    (hc:X.calm = true) (hi:PI X tg iter wi) (hchk:compChk X.N X.env.scope scope N fr = true) (hclos:closureFor scope X.env = pure cl) (hcl:ClOk X.env.cells cl) (hall:ClAll cl scope.names)
    (hb:∀ (C:Addr) (s:Shared) (H:Hp) (fp:List Addr),PG (cxComp X scope cl N C s H fp) tg g∧PIfs (cxComp X scope cl N C s H fp) ifs tt∧PE (cxComp X scope cl N C s H fp) elt te)
    (hs:∀ x,foldedSetIterable iter X.env x = pure x:=by intro _; rfl) :
    PE X (.ListComp elt [⟨tg,iter,ifs,0⟩] scope pos) (tComp fr wi g tt te):=by
  intro pins s σ H Q I h
  rw [eval_ListComp]
  refine comp_core N fr hc hi hchk hclos hcl hall hb hs I h fun l H' s' C I' fC ⟨m,hn⟩ q=>?_
  refine ⟨m,hn,fun h'' hs''=>⟨.ref l,H',?_,rfl,q⟩⟩
  obtain ⟨f0,f1,f2,f3,f4,f5⟩:=fC
  exact I'.turned (t':=s'.toks) (fun b o hb e=>(hs''.2 b hb).trans e) f0 f1 f3 f4 f5
def compChk0 (sc:Scope):Bool:=
  decide (sc.kind = .function) && (sc.names.all fun y=>!decide (y.2 = .cell)) && (sc.names.all fun y=>!decide (y.2 = .local) || decide (sc.names.lookup y.1 = some .local)) && (sc.names.all fun y=>!decide (y.2 = .free))
theorem pe_comp0 (N:List Str) {elt tg iter:Expr} {ifs:List Expr} {scope:Scope} {pos:Pos} {wi:TI} {g:TG} {tt:TT} {te:TE}
    (hc:X.calm = true) (hi:PI X tg iter wi) (hchk:compChk0 scope = true)
    (hb:∀ (C:Addr) (s:Shared) (H:Hp) (fp:List Addr),PG (cxComp X scope [] N C s H fp) tg g∧PIfs (cxComp X scope [] N C s H fp) ifs tt∧PE (cxComp X scope [] N C s H fp) elt te)
    (hs:∀ x,foldedSetIterable iter X.env x = pure x:=by intro _; rfl) :
    PE X (.ListComp elt [⟨tg,iter,ifs,0⟩] scope pos) (tComp (N.map fun _=>none) wi g tt te):=by
  simp only [compChk0,Bool.and_eq_true,decide_eq_true_eq,List.all_eq_true,Bool.or_eq_true,Bool.not_eq_true',decide_eq_false_iff_not] at hchk
  obtain ⟨⟨⟨hkind,hcell⟩,hnames⟩,hfree⟩:=hchk
  refine pe_comp (cl:=[]) N (N.map fun _=>none) hc hi ?_ (closureFor_none fun x hx=>hfree x hx) trivial ?_ hb hs
  · simp only [compChk,Bool.and_eq_true,decide_eq_true_eq,List.all_eq_true,Bool.or_eq_true,Bool.not_eq_true',decide_eq_false_iff_not]
    refine ⟨⟨⟨⟨⟨hkind,by simp⟩,hcell⟩,hnames⟩,fun y hy=>.inl (hfree y hy)⟩,fun p hp=>?_⟩
    have:p.2∈N.map fun _=>(none:Option Nat):=(List.of_mem_zip hp).2
    obtain ⟨_,_,e⟩:=List.mem_map.mp this
    rw [← e]
  · have:∀ ns:List (Str×NameKind),(∀ y∈ns,y.2≠.free)→ClAll [] ns:=by
      intro ns
      induction ns with
      | nil=>intro _; exact trivial
      | cons p r ih=>intro h; exact ⟨fun e=>absurd e (h p List.mem_cons_self),ih fun y hy=>h y (List.mem_cons_of_mem _ hy)⟩
    exact this _ fun y hy=>hfree y hy
end
end L2
namespace L2
open PySem PySem.Spec PyProof.Rows
def Def (P:Program) (w:World) (K:PySem.W.Frag) (mg:Str→Option Value) (base:Heap) (k:Nat) (x:Str) (ps:List Str) (sp:Sp):Prop:=
  ∃ (f:Addr) (fd:FuncData),FnOk P w K mg base CX0 k f fd ps sp∧mg x = some (.ref f)∧PySem.W.keepIn K (.ref f) = true∧Binds K fd ps []
section
variable {X:Cx} {k:Nat} {x:Str} {ps:List Str} {sp:Sp} {e:Expr} {es:List Expr} {t:TA} {p pos:Pos}
theorem pe_fn (D:Def X.prog X.w X.K X.mg X.base k x ps sp) (hr:Room k X.A) (hg:Gl X x) (ha:PA X (e :: es) t)
    (hdb:(x == ("__debug__":Str)) = false:=by decide) (he:starEach (e :: es) X.env = (false,eval e X.env) :: starEach es X.env:=by rfl) (hpl:(backTo pos (starEach es X.env)).any (·.1) = false:=by rfl) :
    PE X (.Call (.Name x p) (e :: es) [] pos) (tCall sp [] E0 t):=by
  obtain ⟨f,fd,F,hm,hk,hb⟩:=D
  exact pe_call F hr hg hm hk hb .nil pass0 ha hdb he hpl
end
section
variable {X:Cx}
theorem pe_globI {x:Str} {i:Int} {pos:Pos} (hg:Gl X x) (hm:∃ t,X.mg x = some (.int i t)) (hd:(x == ("__debug__":Str)) = false:=by decide):PE X (.Name x pos) (tC (.int i)):=by
  obtain ⟨t,hm⟩:=hm
  exact pe_glob hg hm ⟨_,rfl⟩ hd
theorem pe_ty {x:Str} {T:String} {pos:Pos} (hg:Gl X x) (hm:X.mg x = none) (hv:bootBuiltins x = some (.type T)) (hn:x≠"__name__":=by decide) (hd:(x == ("__debug__":Str)) = false:=by decide):PE X (.Name x pos) (tC (.ty T)):=pe_bltn hg hm hv rfl hn hd
theorem pe_globS {x z:Str} {pos:Pos} (hg:Gl X x) (hm:∃ t,X.mg x = some (.str z t)) (hd:(x == ("__debug__":Str)) = false:=by decide):PE X (.Name x pos) (tC (.str z)):=by
  obtain ⟨t,hm⟩:=hm
  exact pe_glob hg hm ⟨_,rfl⟩ hd
end
theorem bt_isinstance:bootBuiltins "isinstance" = some (.builtin "isinstance"):=by decide +kernel
theorem bt_all:bootBuiltins "all" = some (.builtin "all"):=by decide +kernel
theorem bt_len:bootBuiltins "len" = some (.builtin "len"):=by decide +kernel
theorem bt_int:bootBuiltins "int" = some (.type "int"):=by decide +kernel
theorem bt_str:bootBuiltins "str" = some (.type "str"):=by decide +kernel
theorem bt_tuple:bootBuiltins "tuple" = some (.type "tuple"):=by decide +kernel
theorem kit_of {t c:String} {b:Bool} (h:(if (Value.type t == Value.type c) = true then some true else if PySem.W.kitMeta c = true then (fastBuiltinMro t).map (·.contains (.type c)) else none) = some b) (K:PySem.W.Frag) :
    PySem.W.kitOne K (.type t) (.type c) = some b:=h
section
variable {X:Cx}
def rIsi (K:PySem.W.Frag):List V→Hp→VK→Prop:=fun xs H Q=>∃ x c t b,xs = [x,.ty c]∧TyOf K H x t∧PySem.W.kitOne K t (.type c) = some b∧Q (.bl b) H
theorem call_isinst:CallR X (.builtin "isinstance") (rIsi X.K):=by
  intro pins s σ H xs us Q I r h
  obtain ⟨x,c,t,b,rfl,ty,e,q⟩:=h
  obtain ⟨u,v,rfl,ru,rv⟩:=vals2 r
  have ev:v = Value.type c:=rv
  subst ev
  exact isinst_ok I ru ty e fun tk=>⟨.bl b,H,I.tok _,rfl,q⟩
end
def pureV:V→Bool
  | .non=>true
  | .int _=>true
  | .str _=>true
  | _=>false
theorem pure_flat {x:V} (h:pureV x = true):flatV x = true:=by
  cases x <;> first | rfl | exact h
theorem pure_eq {x y:V} (hx:pureV x = true) (hy:pureV y = true):eqV x y = decide (x = y):=by
  cases x <;> first | exact absurd (show false = true from hx) Bool.false_ne_true | skip
  all_goals (cases y <;> first | exact absurd (show false = true from hy) Bool.false_ne_true | skip)
  · rfl
  · rfl
  · rfl
  · rfl
  · exact dec_int.symm
  · rfl
  · rfl
  · rfl
  · exact dec_str.symm
theorem range_all_dec:∀ (xs ys:List V),xs.length = ys.length→xs.all pureV = true→ys.all pureV = true→
    ((List.range xs.length).all fun i=>eqV (xs.getD i .non) (ys.getD i .non)) = decide (xs = ys):=by
  intro xs
  induction xs with
  | nil=>
    intro ys hl _ _
    cases ys with
    | nil=>rfl
    | cons _ _=>simp at hl
  | cons x xs ih=>
    intro ys hl hx hy
    cases ys with
    | nil=>simp at hl
    | cons y ys=>
      rw [List.all_cons,Bool.and_eq_true] at hx hy
      have q:=ih ys (by simpa using hl) hx.2 hy.2
      rw [List.length_cons,List.range_succ_eq_map,List.all_cons,List.all_map]
      have e0:((fun i=>eqV ((x :: xs).getD i .non) ((y :: ys).getD i .non))∘Nat.succ) = fun i=>eqV (xs.getD i .non) (ys.getD i .non):=by
        funext i; simp
      rw [e0,q]
      show (eqV x y && decide (xs = ys)) = _
      rw [pure_eq hx.1 hy.1]
      by_cases h1:x = y
      · by_cases h2:xs = ys <;> simp [h1,h2]
      · simp [h1]
theorem all_get {xs:List V} {us:List Value} (r:Vals xs us) {j:Nat} (hj:j < us.length):∃ x,xs[j]? = some x∧RelV x us[j]:=by
  have hl:=r.length
  obtain ⟨u,e1,e2⟩:=r.get (i:=j) (x:=xs[j]'(by omega)) (by simp [show j < xs.length by omega])
  refine ⟨xs[j]'(by omega),by simp [show j < xs.length by omega],?_⟩
  rw [List.getElem?_eq_getElem hj] at e1
  cases e1
  exact e2
section
variable {X:Cx}
def rEqL (K:PySem.W.Frag) (neg:Bool):R2:=fun x y H Q=>∃ a b xs ys,x = .ref a∧y = .ref b∧SqL K H a xs∧SqL K H b ys∧xs.all pureV = true∧ys.all pureV = true∧Q (.bl (if neg then !decide (xs = ys) else decide (xs = ys))) H
theorem rc_neLists {A:Around} {s:Shared} {a b:Addr} {xs ys:List V} {its its2:List Value} (hu:A.units < cLine) (r1:Vals xs its) (r2:Vals ys its2) (h1:s.heap.IsList a its.toArray) (h2:s.heap.IsList b its2.toArray)
    (f1:xs.all pureV = true) (f2:ys.all pureV = true):SeqAt.RcNeAt A s (.ref a) (.ref b) (!decide (xs = ys)):=by
  have l1:=r1.length
  have l2:=r2.length
  by_cases hl:xs.length = ys.length
  · have q:=SeqAt.RcNeAt.lists (A:=A) (s:=s) (e:=fun i=>eqV (xs.getD i .non) (ys.getD i .non)) h1 h2 (by simp; omega) hu (fun j g1 g2=>by
      have g1':j < its.length:=by simpa using g1
      have g2':j < its2.length:=by simpa using g2
      obtain ⟨x,e1,rx⟩:=all_get r1 g1'
      obtain ⟨y,e2,ry⟩:=all_get r2 g2'
      have p1:pureV x = true:=List.all_eq_true.mp f1 x (List.mem_of_getElem? e1)
      have p2:pureV y = true:=List.all_eq_true.mp f2 y (List.mem_of_getElem? e2)
      have:=eqAt_V (A:=A.in1) (s:=s) rx ry (pure_flat p1) (pure_flat p2)
      simpa [List.getD,e1,e2] using this)
    have e:(its.toArray.size) = xs.length:=by simp; omega
    rw [e,range_all_dec xs ys hl f1 f2] at q
    exact q
  · have e:decide (xs = ys) = false:=decide_eq_false fun z=>hl (by rw [z])
    rw [e]
    exact SeqAt.RcNeAt.lists_lengths h1 h2 (by simp; omega) hu
theorem op_neD (hu:X.A.units + 1 < cLine):OpR X (compareOp .NotEq) (rEqL X.K true):=by
  intro pins s σ H x y v u Q I rx ry h
  obtain ⟨a,b,xs,ys,rfl,rfl,h1,h2,f1,f2,q⟩:=h
  cases rx
  cases ry
  obtain ⟨its,r1,p1,_⟩:=I.list h1
  obtain ⟨its2,r2,p2,_⟩:=I.list h2
  exact rc_neLists (by omega) r1 r2 p1.isList p2.isList f1 f2 _ _ _ _ ⟨.bl _,H,I,rfl,q⟩
end
theorem boolsAre_of:∀ {bs:List Bool} {us:List Value},Vals (bs.map V.bl) us→LSm.BoolsAre us bs
  | [],_,.nil=>.nil
  | b :: bs,_,.cons r t=>by
    have e:_ = Value.bool b:=r
    subst e
    exact .cons b (boolsAre_of t)
section
variable {prog:Program} {w:World} {A:Around} {E:Value→Shared→Prop} {s:Shared} {l:Addr} {vs:List Value}
theorem all_kept {bs:List Bool} {Q:Value→Shared→Prop} (hh:A.handled = none) (hl:s.heap.IsList l vs.toArray) (hb:LSm.BoolsAre vs bs)
    (h:∀ h' tk,(∀ b o,s.heap.get? b = some o→h'.get? b = some o)→Q (.bool (bs.all id)) { s with heap:=h',toks:=tk }):wpAny (model prog w) A (call (.builtin "all") [.ref l]) Q E s:=by
  have below:l < s.heap.objs.size:=(fun ⟨_,e,_⟩=>Heap.lt_size e:s.heap.IsList l vs.toArray→_) hl
  have whole:((List.range vs.toArray.size).all fun i=>(bs[i]?).getD true) = bs.all id:=by rw [List.size_toArray,hb.length,LSm.range_all]
  exact call_all_walk (wpAny_pyIter_list hl ⟨s.heap.objs.size,[s.heap.objs.size,l],[s.heap.objs.size],vs.toArray.size,_,_,fun i=>(bs[i]?).getD true,rfl,Walks.list (A:=A.in1) hh _ l (Nat.ne_of_lt below) vs.toArray,⟨⟨_,Heap.get?_push_size _ rfl,rfl,rfl⟩,hl.push _⟩,
    (fun i v s' Q' E' hP hQ=>by
      obtain ⟨b,hg,hv⟩:=hb.get i v (by simpa using hP)
      have hQ':Q' b s':=by simpa [hg] using hQ
      subst hv
      exact wpAny_truthy_bool hQ'),
    fun h' tk hk=>whole ▸ h h' tk (LSm.kept_iter hk)⟩)
end
section
variable {X:Cx}
theorem call_all (hc:X.calm = true):CallR X (.builtin "all") (fun xs H Q=>∃ (a:Addr) (bs:List Bool),xs = [.ref a]∧SqL X.K H a (bs.map V.bl)∧Q (.bl (bs.all id)) H):=by
  intro pins s σ H xs us Q I r h
  obtain ⟨a,bs,rfl,h1,q⟩:=h
  obtain ⟨u,rfl,ru⟩:=vals1 r
  cases ru
  obtain ⟨its,r1,p1,_⟩:=I.list h1
  exact all_kept (I.ok.hd hc) p1.isList (boolsAre_of r1) fun h' tk hk=>⟨.bl _,H,I.kept hk,rfl,q⟩
def rCatS (K:PySem.W.Frag):R2:=fun x y H Q=>∃ l b xs zs,x = .ref l∧y = .ref b∧SqL K H l xs∧SqL K H b zs∧xs.length + zs.length≤sizeLine∧∀ p,H p = none→Q (.ref p) (upd H p (.lst (xs ++ zs)))
theorem op_catS:OpR X (binaryOp .Add) (rCatS X.K):=by
  intro pins s σ H x y v u Q I rx ry h
  obtain ⟨l,b,xs,zs,rfl,rfl,h1,h2,hz,q⟩:=h
  cases rx
  cases ry
  obtain ⟨its,r,p1,_⟩:=I.list h1
  obtain ⟨its2,r2,p2,_⟩:=I.list h2
  have l1:=r.length
  have l2:=r2.length
  obtain ⟨⟨cls,dd,data,sl⟩,ho,hc,n,hd⟩:=id p1.isList
  obtain ⟨⟨cls2,dd2,data2,sl2⟩,ho2,hc2,n2,hd2⟩:=id p2.isList
  simp only at hc hd hc2 hd2
  subst hc hd hc2 hd2
  have e:its.toArray ++ its2.toArray = (its ++ its2).toArray:=by simp
  refine concat_meets ⟨_,ho,rfl⟩ ⟨_,ho2,rfl⟩ noFill_list_add seq_list_add PySem.F.slot_list_add PySem.F.entry_list_add (PySem.F.args_list_add_2 _ _) (list_addW l b its.toArray its2.toArray n n2 dd dd2 sl sl2 (by rw [List.size_toArray,List.size_toArray]; omega)) ⟨ho,ho2,?_⟩
  rw [e]
  exact ⟨.ref _,_,I.lnew (t':=s.toks) (r.append r2) (by rw [List.length_append]; omega),rfl,q _ I.fresh⟩
end
theorem same_new {H:Hp} {p:Addr} (h:H p = none) (o:HO):Same H (upd H p o):=fun b u q=>by rw [upd_ne (ne_of_none q h)]; exact q
theorem same_upd {H H':Hp} {p:Addr} (s:Same H H') (h:H p = none) (o:HO):Same H (upd H' p o):=fun b u q=>by rw [upd_ne (ne_of_none q h)]; exact s b u q
theorem Same.get {H H':Hp} {a:Addr} {o:HO} (s:Same H H') (h:H a = some o):H' a = some o:=s a o h
theorem sizeLine_big:1000000≤sizeLine:=by decide
theorem small {n:Nat} (h:n≤1000000):n≤sizeLine:=Nat.le_trans h sizeLine_big
theorem smallLt {n:Nat} (h:n < 1000000):n < sizeLine:=Nat.lt_of_lt_of_le h sizeLine_big
theorem at_int {ns:List Int} {i:Int} (h0:0≤i) (h1:i < ns.length):atI (ns.map V.int) i = some (.int (ns.getD i.toNat 0)):=by
  have hk:i.toNat < ns.length:=by omega
  have ek:i = ((i.toNat:Nat):Int):=by omega
  have q:atI (ns.map V.int) ((i.toNat:Nat):Int) = some (.int (ns.getD i.toNat 0)):=atI_nat (by rw [List.getElem?_map,List.getElem?_eq_getElem hk]; simp [List.getD,List.getElem?_eq_getElem hk])
  rw [← ek] at q
  exact q
theorem cut_lo {xs:List V} {i:Int} (h:0≤i):cutV xs (some i) none = xs.drop i.toNat:=by
  unfold cutV
  rw [show i = ((i.toNat:Nat):Int) by omega,HT.sIx_nat,HT.sIx_none,Int.toNat_natCast]
  by_cases hl:i.toNat≤xs.length
  · rw [Nat.min_eq_left hl,List.take_of_length_le (by rw [List.length_drop]; exact Nat.le_refl _)]
  · rw [Nat.min_eq_right (by omega),List.drop_eq_nil_of_le (Nat.le_refl _),List.drop_eq_nil_of_le (by omega),List.take_nil]
theorem cut_hi {xs:List V} {j:Int} (h:0≤j):cutV xs none (some j) = xs.take j.toNat:=by
  unfold cutV
  rw [show j = ((j.toNat:Nat):Int) by omega,HT.sIx_nat,HT.sIx_none,Int.toNat_natCast,List.drop_zero,Nat.sub_zero]
  by_cases hl:j.toNat≤xs.length
  · rw [Nat.min_eq_left hl]
  · rw [Nat.min_eq_right (by omega),List.take_of_length_le (Nat.le_refl _),List.take_of_length_le (by omega)]
theorem cut_lohi {xs:List V} {i j:Int} (hi:0≤i) (hj:0≤j):cutV xs (some i) (some j) = (xs.drop i.toNat).take (j.toNat - i.toNat):=by
  unfold cutV
  rw [show i = ((i.toNat:Nat):Int) by omega,show j = ((j.toNat:Nat):Int) by omega,HT.sIx_nat,HT.sIx_nat,Int.toNat_natCast,Int.toNat_natCast]
  generalize i.toNat = a
  generalize j.toNat = b
  apply List.ext_getElem?
  intro k
  rw [List.getElem?_take,List.getElem?_take,List.getElem?_drop,List.getElem?_drop]
  by_cases ha:a≤xs.length
  · rw [Nat.min_eq_left ha]
    by_cases hb:b≤xs.length
    · rw [Nat.min_eq_left hb]
    · rw [Nat.min_eq_right (by omega)]
      by_cases h1:k < xs.length - a
      · rw [if_pos h1,if_pos (by omega)]
      · rw [if_neg h1]
        split
        · rw [List.getElem?_eq_none (by omega)]
        · rfl
  · rw [Nat.min_eq_right (show xs.length≤a by omega)]
    rw [List.getElem?_eq_none (by omega),List.getElem?_eq_none (by omega)]
    split <;> split <;> rfl
theorem iteFc {c:Bool} {A B:Prop} (h:c = false) (b:B):if c = true then A else B:=by
  subst h
  rw [if_neg Bool.false_ne_true]
  exact b
theorem iteTc {c:Bool} {A B:Prop} (h:c = true) (b:A):if c = true then A else B:=by
  subst h
  rw [if_pos rfl]
  exact b
theorem dec_true {c:Prop} [Decidable c] (h:decide c = true):c:=of_decide_eq_true h
theorem dec_false {c:Prop} [Decidable c] (h:¬ decide c = true):¬ c:=fun z=>h (decide_eq_true z)
def ItIs (J:It) (H:Hp) (xs:List V):Prop:=∀ H',Same H H'→∀ i:Nat,(i < xs.length→J.go i H')∧(∀ x H'',J.yld i H' x H''→H'' = H'∧(i < xs.length→xs[i]? = some x))∧(xs.length≤i→J.stop i H')
theorem itIs_range {lo:Int} {n:Nat} {H:Hp}:ItIs (Itr lo n) H ((List.range n).map fun (i:Nat)=>V.int (lo + (i:Int))):=fun H' s i=>
  ⟨fun hi=>(by simpa using hi:i < n),fun x H'' y=>⟨y.1,fun hi=>by
    have hi':i < n:=by simpa using hi
    rw [List.getElem?_map,List.getElem?_range hi',y.2]; rfl⟩,fun hi=>(by simpa using hi:n≤i)⟩
theorem comp_map {J:It} {xs:List V} {fr:List (Option Nat)} {k:Nat} {te:TE} {Q:VK} {σ:St} {H:Hp} (f:V→V) (hJ:ItIs J H xs) (hn:xs.length≤1000000)
    (helt:∀ (x:V) (H':Hp) (R:VK),x∈xs→Same H H'→(∀ H'',Same H' H''→R (f x) H'')→te ((stC fr σ).set k (some x)) H' R)
    (hQ:∀ l H',H l = none→Same H H'→H' l = some (.lst (xs.map f))→Q (.ref l) H') :
    tCompK fr (gName k) tYes te σ Q J H:=by
  intro l hl
  refine ⟨fun i m σ' H'=>m = xs.length - i∧i≤xs.length∧(∀ y,σ'.set k y = (stC fr σ).set k y)∧Same H H'∧H' l = some (.lst ((xs.take i).map f)),⟨xs.length,by simp,Nat.zero_le _,fun _=>rfl,same_new hl _,by rw [upd_same,List.take_zero,List.map_nil]⟩,?_⟩
  rintro i m σ' H' ⟨rfl,hi,hσ,hs,hl'⟩
  obtain ⟨h1,h2,h3⟩:=hJ H' hs i
  by_cases hlt:i < xs.length
  · refine .inr ⟨h1 hlt,fun x H'' y=>?_⟩
    obtain ⟨rfl,hx⟩:=h2 x H'' y
    have hx:=hx hlt
    show te (σ'.set k (some x)) H'' _
    rw [hσ]
    refine helt x H'' _ (List.mem_of_getElem? hx) hs fun H4 s4=>?_
    refine ⟨_,s4.get hl',smallLt (by rw [List.length_map,List.length_take]; omega),xs.length - (i + 1),by omega,rfl,hlt,fun y=>by rw [List.set_set],same_upd (hs.trans s4) hl _,?_⟩
    rw [upd_same,List.take_add_one,hx]
    simp
  · have e:i = xs.length:=by omega
    subst e
    exact .inl ⟨h3 (Nat.le_refl _),hQ l H' hl hs (by rw [hl',List.take_of_length_le (Nat.le_refl _)])⟩
section
variable {X:Cx} {K:PySem.W.Frag}
theorem ix_listK (h:X.K = K):IxR X (rIxL K):=by subst h; exact ix_list
end
theorem comp_filter {J:It} {xs:List V} {fr:List (Option Nat)} {k:Nat} {tt:TT} {te:TE} {Q:VK} {σ:St} {H:Hp} (p:V→Bool) (f:V→V) (hJ:ItIs J H xs) (hn:xs.length≤1000000)
    (htest:∀ (x:V) (H':Hp) (R:Bool→Hp→Prop),x∈xs→Same H H'→R (p x) H'→tt ((stC fr σ).set k (some x)) H' R)
    (helt:∀ (x:V) (H':Hp) (R:VK),x∈xs→p x = true→Same H H'→(∀ H'',Same H' H''→R (f x) H'')→te ((stC fr σ).set k (some x)) H' R)
    (hQ:∀ l H',H l = none→Same H H'→H' l = some (.lst ((xs.filter p).map f))→Q (.ref l) H'):tCompK fr (gName k) tt te σ Q J H:=by
  intro l hl
  refine ⟨fun i m σ' H'=>m = xs.length - i∧i≤xs.length∧(∀ y,σ'.set k y = (stC fr σ).set k y)∧Same H H'∧H' l = some (.lst (((xs.take i).filter p).map f)),⟨xs.length,by simp,Nat.zero_le _,fun _=>rfl,same_new hl _,by rw [upd_same]; rfl⟩,?_⟩
  rintro i m σ' H' ⟨rfl,hi,hσ,hs,hl'⟩
  obtain ⟨h1,h2,h3⟩:=hJ H' hs i
  by_cases hlt:i < xs.length
  · refine .inr ⟨h1 hlt,fun x H'' y=>?_⟩
    obtain ⟨rfl,hx⟩:=h2 x H'' y
    have hx:=hx hlt
    have hm:=List.mem_of_getElem? hx
    have et:(xs.take (i + 1)).filter p = (xs.take i).filter p ++ (if p x = true then [x] else []):=by
      rw [List.take_add_one,hx,List.filter_append]
      cases q:p x <;> simp [q]
    show tt (σ'.set k (some x)) H'' _
    rw [hσ]
    refine htest x H'' _ hm hs ?_
    refine ite2 (fun c=>?_) (fun c=>?_)
    · refine helt x H'' _ hm c hs fun H4 s4=>?_
      refine ⟨_,s4.get hl',smallLt ?_,xs.length - (i + 1),by omega,rfl,hlt,fun y=>by rw [List.set_set],same_upd (hs.trans s4) hl _,?_⟩
      · rw [List.length_map]
        have a:=List.length_filter_le p (xs.take i)
        rw [List.length_take] at a
        omega
      · rw [upd_same,et,if_pos c,List.map_append]; rfl
    · exact ⟨xs.length - (i + 1),by omega,rfl,hlt,fun y=>by rw [List.set_set],hs,by rw [hl',et,if_neg c,List.append_nil]⟩
  · have e:i = xs.length:=by omega
    subst e
    exact .inl ⟨h3 (Nat.le_refl _),hQ l H' hl hs (by rw [hl',List.take_of_length_le (Nat.le_refl _)])⟩
def Ok (H:Hp):V→Prop
  | .non=>True
  | .bl _=>True
  | .int _=>True
  | .str z=>z.length≤1000
  | .ref a=>(∃ xs,H a = some (.lst xs))∨∃ xs,H a = some (.tup xs)
  | _=>False
theorem Ok.same {H H':Hp} {v:V} (h:Ok H v) (s:Same H H'):Ok H' v:=by
  cases v <;> first | exact h | skip
  rcases h with ⟨xs,e⟩ | ⟨xs,e⟩
  · exact .inl ⟨xs,s.get e⟩
  · exact .inr ⟨xs,s.get e⟩
def tyN (H:Hp):V→String
  | .non=>"NoneType"
  | .bl _=>"bool"
  | .int _=>"int"
  | .str _=>"str"
  | .ref a=>match H a with
    | some (.lst _)=>"list"
    | some (.tup _)=>"tuple"
    | _=>"?"
  | _=>"?"
theorem Ok.ty {H:Hp} {v:V} (h:Ok H v) (K:PySem.W.Frag):TyOf K H v (.type (tyN H v)):=by
  cases v with
  | non=>exact .non
  | bl b=>exact .bl b
  | int i=>exact .int i
  | str z=>exact .str z
  | ref a=>
    rcases h with ⟨xs,e⟩ | ⟨xs,e⟩
    · have q:tyN H (.ref a) = "list":=by simp only [tyN,e]
      rw [q]; exact .lst e
    · have q:tyN H (.ref a) = "tuple":=by simp only [tyN,e]
      rw [q]; exact .tup e
  | _=>exact h.elim
def isA (t c:String):Bool:=t == c || (t == "bool" && c == "int")
theorem kit_any {t c:String} (K:PySem.W.Frag) (ht:t∈["NoneType","bool","int","str","list","tuple"]) (hc:c∈["bool","int","str","list","tuple"]):PySem.W.kitOne K (.type t) (.type c) = some (isA t c):=by
  have all:∀ t∈["NoneType","bool","int","str","list","tuple"],∀ c∈["bool","int","str","list","tuple"],(if (Value.type t == Value.type c) = true then some true else if PySem.W.kitMeta c = true then (fastBuiltinMro t).map (·.contains (.type c)) else none) = some (isA t c):=by decide +kernel
  exact kit_of (all t ht c hc) K
theorem Ok.tyMem {H:Hp} {v:V} (h:Ok H v):tyN H v∈["NoneType","bool","int","str","list","tuple"]:=by
  cases v with
  | ref a=>
    rcases h with ⟨xs,e⟩ | ⟨xs,e⟩
    · simp only [tyN,e]; decide
    · simp only [tyN,e]; decide
  | byt _=>exact h.elim
  | flt _=>exact h.elim
  | ty _=>exact h.elim
  | _=>simp only [tyN]; decide
theorem Ok.kit {H:Hp} {v:V} (h:Ok H v) (K:PySem.W.Frag) {c:String} (hc:c∈["bool","int","str","list","tuple"]:=by decide):PySem.W.kitOne K (.type (tyN H v)) (.type c) = some (isA (tyN H v) c):=kit_any K h.tyMem hc
theorem tyN_lst {H:Hp} {a:Addr} {xs:List V} (e:H a = some (.lst xs)):tyN H (.ref a) = "list":=by simp only [tyN,e]
theorem tyN_tup {H:Hp} {a:Addr} {xs:List V} (e:H a = some (.tup xs)):tyN H (.ref a) = "tuple":=by simp only [tyN,e]
theorem Ok.elim {H:Hp} {v:V} (ok:Ok H v) {C:Prop} (c1:v = .non→tyN H v = "NoneType"→C) (c2:∀ b,v = .bl b→tyN H v = "bool"→C) (c3:∀ i,v = .int i→tyN H v = "int"→C) (c4:∀ z,v = .str z→z.length≤1000→tyN H v = "str"→C)
    (c5:∀ a xs,v = .ref a→H a = some (.lst xs)→tyN H v = "list"→C) (c6:∀ a xs,v = .ref a→H a = some (.tup xs)→tyN H v = "tuple"→C):C:=by
  cases v with
  | non=>exact c1 rfl rfl
  | bl b=>exact c2 b rfl rfl
  | int i=>exact c3 i rfl rfl
  | str z=>exact c4 z rfl ok rfl
  | ref a=>
    rcases ok with ⟨xs,e⟩ | ⟨xs,e⟩
    · exact c5 a xs rfl e (tyN_lst e)
    · exact c6 a xs rfl e (tyN_tup e)
  | _=>exact (show False from ok).elim
end L2
namespace L2
open PySem PySem.Spec PyProof.Rows
def Itx (x:Str):It:=⟨fun i _=>i < x.cps.size,fun i H v H'=>H' = H∧∃ c,x.cps[i]? = some c∧v = .str ⟨#[c]⟩,fun i _=>x.cps.size≤i⟩
theorem turn_ascii {P:Program} {w:World} {K:PySem.W.Frag} {tg:Expr} (it:Addr) (x:Str) (t:Tok):Turn P w K tg (Itx x) [it] it (fun i h=>h.IsStrIter it "str_ascii_iterator" x t i) where
  mem:=by simp
  obj:=fun i h st b hb=>by
    have e:b = it:=by simpa using hb
    subst e
    obtain ⟨o,e,c,d⟩:=st
    exact ⟨o,e,fun v z=>by rw [d] at z; cases z⟩
  keep:=fun i h h' st k=>by
    obtain ⟨o,e,c,d⟩:=st
    exact ⟨o,k it (by simp) o e,c,d⟩
  item:=by
    intro X hP hw hK hc i pins s σ H E I hf st hg
    subst hP hw hK
    have hg':i < x.cps.size:=hg
    obtain ⟨f0,f1,f2,f3,f4,f5⟩:=hf it (by simp)
    refine wpAny_pyNext_ascii_item st (c:=x.cps[i]) (by simp [hg']) fun h' st' sb=>?_
    have I1:Inv X pins σ H { s with heap:=h',toks:=s.toks + 1 }:=I.turned (fun b o hb e=>(sb.2 b hb).trans e) f0 f1 f3 f4 f5
    obtain ⟨o,e,c,d⟩:=id st'
    exact ⟨_,rfl,go_of (s:={ s with heap:=h',toks:=s.toks + 1 }) e c d (by decide) ⟨.str ⟨#[x.cps[i]]⟩,H,I1,⟨_,rfl⟩,⟨rfl,_,by simp [hg'],rfl⟩,st',fun b hb=>(hf b hb).1⟩⟩
  done:=by
    intro X hP hw hK hc i pins s σ H E I hf st hg
    subst hP hw hK
    have hg':x.cps.size≤i:=hg
    obtain ⟨f0,f1,f2,f3,f4,f5⟩:=hf it (by simp)
    exact wpAny_pyNext_ascii_end (I.ok.hd hc) st (by simp [hg']) fun h' eb=>⟨rfl,I.turned (t':=s.toks) (fun b o hb e=>eb b o hb e) f0 f1 f3 f4 f5⟩
  self:=fun _ _ _ _ _ st h=>wpAny_pyIter_striter_ascii st h
theorem turn_wide {P:Program} {w:World} {K:PySem.W.Frag} {tg:Expr} (it:Addr) (x:Str) (t:Tok):Turn P w K tg (Itx x) [it] it (fun i h=>h.IsStrIter it "str_iterator" x t i) where
  mem:=by simp
  obj:=fun i h st b hb=>by
    have e:b = it:=by simpa using hb
    subst e
    obtain ⟨o,e,c,d⟩:=st
    exact ⟨o,e,fun v z=>by rw [d] at z; cases z⟩
  keep:=fun i h h' st k=>by
    obtain ⟨o,e,c,d⟩:=st
    exact ⟨o,k it (by simp) o e,c,d⟩
  item:=by
    intro X hP hw hK hc i pins s σ H E I hf st hg
    subst hP hw hK
    have hg':i < x.cps.size:=hg
    obtain ⟨f0,f1,f2,f3,f4,f5⟩:=hf it (by simp)
    refine wpAny_pyNext_wide_item st (c:=x.cps[i]) (by simp [hg']) fun h' st' sb=>?_
    have I1:Inv X pins σ H { s with heap:=h',toks:=s.toks + 1 }:=I.turned (fun b o hb e=>(sb.2 b hb).trans e) f0 f1 f3 f4 f5
    obtain ⟨o,e,c,d⟩:=id st'
    exact ⟨_,rfl,go_of (s:={ s with heap:=h',toks:=s.toks + 1 }) e c d (by decide) ⟨.str ⟨#[x.cps[i]]⟩,H,I1,⟨_,rfl⟩,⟨rfl,_,by simp [hg'],rfl⟩,st',fun b hb=>(hf b hb).1⟩⟩
  done:=by
    intro X hP hw hK hc i pins s σ H E I hf st hg
    subst hP hw hK
    have hg':x.cps.size≤i:=hg
    obtain ⟨f0,f1,f2,f3,f4,f5⟩:=hf it (by simp)
    exact wpAny_pyNext_wide_end (I.ok.hd hc) st (by simp [hg']) fun h' eb=>⟨rfl,I.turned (t':=s.toks) (fun b o hb e=>eb b o hb e) f0 f1 f3 f4 f5⟩
  self:=fun _ _ _ _ _ st h=>wpAny_pyIter_striter_wide st h
section
variable {X:Cx} {tg:Expr}
def iStr (tl:TE):TI:=fun σ H R=>tl σ H fun x H1=>∃ z,x = .str z∧R (Itx z) H1
theorem pi_str {l:Expr} {tl:TE} (hl:PE X l tl):PI X tg l (iStr tl):=by
  intro pins s σ H R I h
  refine thn (hl pins s σ H _ I h) fun v s1 ⟨x,H1,I1,r1,q1⟩=>?_
  obtain ⟨z,e,q⟩:=q1
  subst e
  obtain ⟨t,rfl⟩:=r1
  have fp:∀ b∈[s1.heap.objs.size],FpOk X pins H1 b:=fun b hb=>by
    have e:b = s1.heap.objs.size:=by simpa using hb
    subst e
    exact I1.fpOk (Nat.le_refl _) (I1.hok.fresh (Nat.le_refl _))
  cases ha:z.cps.all (· < 128)
  · exact wpAny_pyIter_wide ha ⟨s1.heap.objs.size,[s1.heap.objs.size],_,_,H1,rfl,I1.kept (t':=s1.toks) (fun b o e=>Heap.get?_push_of_some _ e),turn_wide _ z t,⟨_,Heap.get?_push_size _ rfl,rfl,rfl⟩,fp,q⟩
  · exact wpAny_pyIter_ascii ha ⟨s1.heap.objs.size,[s1.heap.objs.size],_,_,H1,rfl,I1.kept (t':=s1.toks) (fun b o e=>Heap.get?_push_of_some _ e),turn_ascii _ z t,⟨_,Heap.get?_push_size _ rfl,rfl,rfl⟩,fp,q⟩
end
theorem itIs_str {x:Str} {H:Hp}:ItIs (Itx x) H (x.cps.toList.map fun c=>V.str ⟨#[c]⟩):=fun H' s i=>
  ⟨fun hi=>(by simpa using hi:i < x.cps.size),fun v H'' y=>⟨y.1,fun hi=>by
    obtain ⟨_,c,hc,e⟩:=y
    rw [List.getElem?_map,Array.getElem?_toList,hc,e]; rfl⟩,fun hi=>(by simpa using hi:x.cps.size≤i)⟩
section
variable {X:Cx}
end
end L2
namespace L2
open PySem PySem.Spec PyProof.Rows
section
variable {X:Cx}
end
end L2
namespace L2
open PySem PySem.Spec PyProof.Rows
section
variable {X:Cx}
def rSlS:V→Option Int→Option Int→Hp→VK→Prop:=fun x lo hi H Q=>∃ z:Str,x = .str z∧z.length≤sizeLine∧Q (.str (PySem.Txt.slice z lo hi)) H
theorem sl_str:SlR X rSlS:=by
  intro pins s σ H x v vl vu lo hi sl Q I rx hs pl pu h
  obtain ⟨z,rfl,hz,q⟩:=h
  obtain ⟨t,rfl⟩:=rx
  refine ⟨"str",_,slot_str_getitem.lookup,typeIs_str _ _ _,?_⟩
  cases pl with
  | none=>
    cases pu with
    | none=>exact wpAny_getItem_str_slice (l:=none) (u:=none) (st:=none) hs rfl (post_val_or_str ⟨Nat.le_trans (PySem.Txt.slice_le z _ _) hz,fun t' k=>⟨.str _,H,I.tok k,⟨_,rfl⟩,q⟩⟩)
    | int j tj=>exact wpAny_getItem_str_slice (l:=none) (u:=some (j,tj)) (st:=none) hs rfl (post_val_or_str ⟨Nat.le_trans (PySem.Txt.slice_le z _ _) hz,fun t' k=>⟨.str _,H,I.tok k,⟨_,rfl⟩,q⟩⟩)
  | int i ti=>
    cases pu with
    | none=>exact wpAny_getItem_str_slice (l:=some (i,ti)) (u:=none) (st:=none) hs rfl (post_val_or_str ⟨Nat.le_trans (PySem.Txt.slice_le z _ _) hz,fun t' k=>⟨.str _,H,I.tok k,⟨_,rfl⟩,q⟩⟩)
    | int j tj=>exact wpAny_getItem_str_slice (l:=some (i,ti)) (u:=some (j,tj)) (st:=none) hs rfl (post_val_or_str ⟨Nat.le_trans (PySem.Txt.slice_le z _ _) hz,fun t' k=>⟨.str _,H,I.tok k,⟨_,rfl⟩,q⟩⟩)
theorem strsAre_of {ys:List Str}:∀ {us:List Value},Vals (ys.map V.str) us→StrsAre us ys:=by
  induction ys with
  | nil=>intro us r; rw [List.map_nil] at r; cases r; exact .nil
  | cons n ns ih=>
    intro us r
    rw [List.map_cons] at r
    cases r with
    | cons r1 r2=>
      obtain ⟨t,e⟩:=r1
      subst e
      exact .cons n t (ih r2)
def rJoin (K:PySem.W.Frag):V→List V→Hp→VK→Prop:=fun x vs H Q=>∃ (a:Addr) (z:Str) (ys:List Str),x = .str z∧vs = [.ref a]∧SqL K H a (ys.map V.str)∧(ys.map (·.length)).sum + ys.length * z.length≤16777216∧Q (.str (PySem.Txt.join z ys)) H
theorem mt_join (_:X.calm = true):MtR X "str.join" (rJoin X.K):=by
  intro pins s σ H x vs v us Q I rx rv h
  obtain ⟨a,z,ys,rfl,rfl,hq,hz,q⟩:=h
  obtain ⟨tk,rfl⟩:=rx
  obtain ⟨y,rfl,ry⟩:=rv.one
  cases ry
  obtain ⟨its,r1,p1,_⟩:=I.list hq
  exact join_list p1.isList (strsAre_of (by simpa using r1)) hz fun t' k=>⟨.str _,H,I.tok k,⟨_,rfl⟩,q⟩
end
end L2
namespace L2
open PySem PySem.Spec PyProof.Rows PySem.Builtin.Str
abbrev cod (z:Str):List Nat:=z.cps.toList
theorem cod_len (z:Str):(cod z).length = z.length:=by simp [Str.length]
theorem str_ext {x y:Str} (h:cod x = cod y):x = y:=by
  obtain ⟨a⟩:=x
  obtain ⟨b⟩:=y
  have:a = b:=Array.toList_inj.mp h
  rw [this]
theorem cod_app (a y:Str):cod (a ++ y) = cod a ++ cod y:=by
  show (a.cps ++ y.cps).toList = _
  simp
theorem sl_to (z:Str) {j:Int} (h0:0≤j):cod (PySem.Txt.slice z none (some j)) = (cod z).take j.toNat:=by
  have hc:StrLaws.sliceText z none (some j) = StrLaws.sliceText z none (some (min j z.length)):=by
    have e:strSliceIndices none (some j) 1 z.length = strSliceIndices none (some (min j z.length)) 1 z.length:=by
      unfold strSliceIndices
      have e1:(if j < 0 then j + (z.length:Int) else j) = j:=if_neg (by omega)
      have e2:(if min j (z.length:Int) < 0 then min j (z.length:Int) + (z.length:Int) else min j (z.length:Int)) = min j z.length:=if_neg (by omega)
      simp only [e1,e2]
      have e3:max 0 (min j (z.length:Int)) = max 0 (min (min j (z.length:Int)) z.length):=by omega
      rw [e3]
      simp only [if_pos (show (1:Int) > 0 by decide)]
    unfold StrLaws.sliceText
    rw [e]
  show cod (StrLaws.sliceText z none (some j)) = _
  rw [hc,StrLaws.sliceText_to ⟨by omega,by rw [cod_len z]; omega⟩]
  show ((cod z).drop 0).take (min j (z.length:Int) - 0).toNat = _
  rw [List.drop_zero]
  by_cases h:j≤z.length
  · congr 1; omega
  · have hl:=cod_len z
    rw [List.take_of_length_le (by omega),List.take_of_length_le (by omega)]
theorem mem_foldl_glue {c:Nat} {g:Array Nat} (hg:g.toList = []):∀ (xs:List Str) (acc:Array Nat),c∈(xs.foldl (fun acc p=>acc ++ g ++ p.cps) acc).toList→c∈acc.toList∨∃ x∈xs,c∈cod x
  | [],acc,h=>.inl h
  | x :: xs,acc,h=>by
    rcases mem_foldl_glue hg xs (acc ++ g ++ x.cps) h with q | ⟨y,hy,q⟩
    · rw [Array.toList_append,Array.toList_append,hg,List.append_nil] at q
      rcases List.mem_append.mp q with q | q
      · exact .inl q
      · exact .inr ⟨x,List.mem_cons_self,q⟩
    · exact .inr ⟨y,List.mem_cons_of_mem _ hy,q⟩
theorem join_mem {g:Str} {ys:List Str} {c:Nat} (hg:cod g = []) (h:c∈cod (PySem.Txt.join g ys)):∃ y∈ys,c∈cod y:=by
  unfold PySem.Txt.join glued at h
  rcases mem_foldl_glue (g:=g.cps) hg _ _ h with q | ⟨x,hx,q⟩
  · cases ys with
    | nil=>cases q
    | cons y ys=>exact ⟨y,List.mem_cons_self,q⟩
  · exact ⟨x,List.mem_of_mem_drop hx,q⟩
theorem join_len (g:Str) (ys:List Str):(PySem.Txt.join g ys).length = (ys.map (·.length)).sum + (ys.length - 1) * g.length:=size_glued g ys
end L2
namespace L2
open PySem PySem.Spec PyProof.Rows
section
variable {X:Cx}
end
theorem comp_rel {J:It} {xs:List V} {fr:List (Option Nat)} {k:Nat} {te:TE} {Q:VK} {σ:St} {H:Hp} (P:V→V→Hp→Prop) (hP:∀ x y H1 H2,P x y H1→Same H1 H2→P x y H2)
    (hU:∀ x y H1 l us us',P x y H1→H1 l = some (.lst us)→y≠.ref l→P x y (upd H1 l (.lst us'))) (hJ:ItIs J H xs) (hn:xs.length≤1000000)
    (helt:∀ (x:V) (H':Hp) (R:VK),x∈xs→Same H H'→(∀ y H'',Same H' H''→(∀ a,y = .ref a→H' a = none)→P x y H''→R y H'')→te ((stC fr σ).set k (some x)) H' R)
    (hQ:∀ l H' (ys:List V),H l = none→Same H H'→H' l = some (.lst ys)→ys.length = xs.length→(∀ (i:Nat) x y,xs[i]? = some x→ys[i]? = some y→P x y H'∧y≠.ref l)→Q (.ref l) H') :
    tCompK fr (gName k) tYes te σ Q J H:=by
  intro l hl
  refine ⟨fun i m σ' H'=>m = xs.length - i∧i≤xs.length∧(∀ y,σ'.set k y = (stC fr σ).set k y)∧Same H H'∧∃ ys:List V,H' l = some (.lst ys)∧ys.length = i∧(∀ (i:Nat) x y,xs[i]? = some x→ys[i]? = some y→P x y H'∧y≠.ref l),
    ⟨xs.length,by simp,Nat.zero_le _,fun _=>rfl,same_new hl _,[],upd_same,rfl,fun i x y _ h=>by simp at h⟩,?_⟩
  rintro i m σ' H' ⟨rfl,hi,hσ,hs,ys,hl',hlen,hp⟩
  obtain ⟨h1,h2,h3⟩:=hJ H' hs i
  by_cases hlt:i < xs.length
  · refine .inr ⟨h1 hlt,fun x H'' y=>?_⟩
    obtain ⟨rfl,hx⟩:=h2 x H'' y
    have hx:=hx hlt
    show te (σ'.set k (some x)) H'' _
    rw [hσ]
    refine helt x H'' _ (List.mem_of_getElem? hx) hs fun y H4 s4 fy py=>?_
    have yl:y≠.ref l:=fun z=>by rw [fy l z] at hl'; cases hl'
    refine ⟨_,s4.get hl',smallLt (by omega),xs.length - (i + 1),by omega,rfl,hlt,fun y=>by rw [List.set_set],same_upd (hs.trans s4) hl _,ys ++ [y],upd_same,by rw [List.length_append,hlen]; rfl,fun j x' y' hx' hy'=>?_⟩
    by_cases hj:j < ys.length
    · rw [List.getElem?_append_left hj] at hy'
      obtain ⟨q1,q2⟩:=hp j x' y' hx' hy'
      exact ⟨hU _ _ _ _ _ _ (hP _ _ _ _ q1 s4) (s4.get hl') q2,q2⟩
    · rw [List.getElem?_append_right (by omega)] at hy'
      by_cases hj2:j = ys.length
      · subst hj2
        rw [Nat.sub_self] at hy'
        cases (Option.some.inj hy':y = y')
        rw [hlen] at hx'
        cases (Option.some.inj (hx.symm.trans hx'):x = x')
        exact ⟨hU _ _ _ _ _ _ py (s4.get hl') yl,yl⟩
      · rw [List.getElem?_eq_none (by simp; omega)] at hy'
        cases hy'
  · have e:i = xs.length:=by omega
    subst e
    exact .inl ⟨h3 (Nat.le_refl _),hQ l H' ys hl hs hl' hlen hp⟩
end L2
namespace L2
open PySem PySem.Spec PyProof.Rows
section
variable {prog:Program} {w:World} {A:Around} {E:Value→Shared→Prop} {s:Shared}
end
section
variable {X:Cx} {pins:List (Addr×Obj)} {σ:St} {H:Hp} {s:Shared} {h':Heap}
end
theorem cw_type_kw {M:Model} {A:Around} {E:Value→Shared→Prop} {s:Shared} {pos:Pos} {T:String} {args:List (Bool×Sem Value)} {kws:List (Option Str×Sem Value)} {Q:Value→Shared→Prop} (hp:args.any (·.1) = false) (hk:kws.any (·.1.isNone) = false)
    (h:wpAny M A (evalArgs (.type T) true args kws) (fun z sz=>wpAny M A (call (.type T) z.pos z.kw) Q E sz) E s):wpAny M A (callWith pos (.type T) [] args kws) Q E s:=by
  unfold callWith
  refine wpAny_bind (wpAny_holding (wpAny_mono h (fun z sz hz=>wpAny_bind (wpAny_standAt ?_)) fun _ _ y=>y))
  simp only [hp,hk,Bool.or_false]
  refine wpAny_bind (wpAny_pure (wpAny_bind (wpAny_mono hz (fun v sv hv=>wpAny_bind (wpAny_holding (wpAny_point (wpAny_pure hv)))) fun _ _ y=>y)))
section
variable {X:Cx} {els:List Expr} {kk:Nat} {pp:Pos}
end
end L2
namespace L2
open PySem PySem.Spec PyProof.Rows
theorem pg_tupK {X:Cx} {K:PySem.W.Frag} {pos:Pos} {es:List Expr} {k:Nat} {t:TGs} {n:Nat} (hK:X.K = K) (hc:X.calm = true) (h:PGs X es t) (hn:(assignEach es X.env).length = n:=by rfl) (hs:(assignEach es X.env).findIdx? (·.1) = none:=by rfl):PG X (.Tuple es k pos) (gTup K n t):=by
  subst hK
  exact pg_tup hc h hn hs
section
variable {X:Cx}
end
theorem cut_last {xs:List V}:cutV xs none (some (-1)) = xs.dropLast:=by
  unfold cutV HT.sIx
  rw [List.dropLast_eq_take]
  simp only [List.drop_zero,Nat.sub_zero]
  rw [if_pos (by decide)]
  congr 1
  omega
end L2
namespace L2
open PySem PySem.Spec PyProof.Rows
section
variable {κ:Type} [DecidableEq κ]
def valV (kvs:List (κ×V)) (k:κ):Option V:=(kvs.find? fun kv=>decide (kv.1 = k)).map (·.2)
def putK (kvs:List (κ×V)) (k:κ) (v:V):List (κ×V):=
  if (kvs.any fun kv=>decide (kv.1 = k)) = true then kvs.map (fun kv=>if kv.1 = k then (kv.1,v) else kv) else kvs ++ [(k,v)]
def dropK (kvs:List (κ×V)) (k:κ):List (κ×V):=kvs.filter fun kv=>decide (kv.1≠k)
theorem valV_pos {p:κ×V} {r:List (κ×V)} {k:κ} (e:p.1 = k):valV (p :: r) k = some p.2:=by simp [valV,List.find?_cons,e]
theorem valV_neg {p:κ×V} {r:List (κ×V)} {k:κ} (e:¬ p.1 = k):valV (p :: r) k = valV r k:=by simp [valV,List.find?_cons,e]
theorem valV_any (k:κ):∀ kvs:List (κ×V),(kvs.any fun kv=>decide (kv.1 = k)) = (valV kvs k).isSome
  | []=>rfl
  | p :: r=>by
    rw [List.any_cons]
    by_cases e:p.1 = k
    · simp only [valV_pos e,decide_eq_true e,Bool.true_or,Option.isSome_some]
    · rw [valV_neg e,decide_eq_false e,Bool.false_or]; exact valV_any k r
theorem length_putK (kvs:List (κ×V)) (k:κ) (v:V):(putK kvs k v).length≤kvs.length + 1:=by
  unfold putK
  split
  · rw [List.length_map]; omega
  · rw [List.length_append,List.length_cons,List.length_nil]; omega
theorem RelO.isSome_eq {o:Option V} {u:Option Value} (r:RelO o u):o.isSome = u.isSome:=by
  cases o with
  | none=>cases u with
    | none=>rfl
    | some _=>exact (show False from r).elim
  | some _=>cases u with
    | none=>exact (show False from r).elim
    | some _=>rfl
theorem RelO.getD {o:Option V} {u:Option Value} {d:V} {d':Value} (r:RelO o u) (rd:RelV d d'):RelV (o.getD d) (u.getD d'):=by
  cases o with
  | none=>cases u with
    | none=>exact rd
    | some _=>exact (show False from r).elim
  | some _=>cases u with
    | none=>exact (show False from r).elim
    | some _=>exact r
theorem KV.val {kvs:List (κ×V)} {vs:List (κ×Value)} (r:KV kvs vs) (k:κ):RelO (valV kvs k) (valueAt vs k):=by
  unfold KV at r
  induction r with
  | nil=>exact True.intro
  | @cons p q ps qs h t ih=>
    obtain ⟨h1,h2⟩:=h
    by_cases e:p.1 = k
    · have e':q.1 = k:=h1.symm.trans e
      have b:valueAt (q :: qs) k = some q.2:=by simp [valueAt,List.find?_cons,e']
      rw [valV_pos e,b]; exact h2
    · have e':¬ q.1 = k:=fun z=>e (h1.trans z)
      have b:valueAt (q :: qs) k = valueAt qs k:=by simp [valueAt,List.find?_cons,e']
      rw [valV_neg e,b]; exact ih
theorem KV.any {kvs:List (κ×V)} {vs:List (κ×Value)} (r:KV kvs vs) (k:κ):(kvs.any fun kv=>decide (kv.1 = k)) = vs.any fun kv=>decide (kv.1 = k):=by
  unfold KV at r
  induction r with
  | nil=>rfl
  | cons h t ih=>rw [List.any_cons,List.any_cons,ih,h.1]
theorem KV.repl {kvs:List (κ×V)} {vs:List (κ×Value)} (r:KV kvs vs) (k:κ) {y:V} {u:Value} (ry:RelV y u) :
    KV (kvs.map fun kv=>if kv.1 = k then (kv.1,y) else kv) (vs.map fun kv=>if kv.1 = k then (kv.1,u) else kv):=by
  unfold KV at r ⊢
  induction r with
  | nil=>exact .nil
  | @cons p q ps qs h t ih=>
    rw [List.map_cons,List.map_cons]
    refine .cons ?_ ih
    obtain ⟨h1,h2⟩:=h
    by_cases e:p.1 = k
    · rw [if_pos e,if_pos (h1.symm.trans e)]; exact ⟨h1,ry⟩
    · rw [if_neg e,if_neg (fun z=>e (h1.trans z))]; exact ⟨h1,h2⟩
theorem KV.put {kvs:List (κ×V)} {vs:List (κ×Value)} (r:KV kvs vs) (k:κ) {y:V} {u:Value} (ry:RelV y u):KV (putK kvs k y) (stored vs k u):=by
  unfold putK stored
  rw [r.any k]
  by_cases e:(vs.any fun kv=>decide (kv.1 = k)) = true
  · rw [if_pos e,if_pos e]; exact r.repl k ry
  · rw [if_neg e,if_neg e]; exact Paired.snoc r ⟨rfl,ry⟩
theorem KV.drop {kvs:List (κ×V)} {vs:List (κ×Value)} (r:KV kvs vs) (k:κ):KV (dropK kvs k) (without vs k):=by
  unfold KV at r ⊢
  unfold dropK without
  induction r with
  | nil=>exact .nil
  | @cons p q ps qs h t ih=>
    obtain ⟨h1,h2⟩:=h
    rw [List.filter_cons,List.filter_cons]
    by_cases e:p.1 = k
    · have a:¬ decide (p.1≠k) = true:=by simp [e]
      have b:¬ decide (q.1≠k) = true:=by simp [h1.symm.trans e]
      rw [if_neg a,if_neg b]; exact ih
    · have e':¬ q.1 = k:=fun z=>e (h1.trans z)
      have a:decide (p.1≠k) = true:=by simp [e]
      have b:decide (q.1≠k) = true:=by simp [e']
      rw [if_pos a,if_pos b]; exact .cons ⟨h1,h2⟩ ih
theorem KV.keys {kvs:List (κ×V)} {vs:List (κ×Value)} (r:KV kvs vs):kvs.map (·.1) = vs.map (·.1):=by
  unfold KV at r
  induction r with
  | nil=>rfl
  | cons h t ih=>rw [List.map_cons,List.map_cons,ih,h.1]
theorem KV.length {kvs:List (κ×V)} {vs:List (κ×Value)} (r:KV kvs vs):kvs.length = vs.length:=Paired.length r
end
theorem kV_is {P:Program} {w:World} {k:Key} {u:Value} (r:RelV (kV k) u):(mixKind P w).is k u = true:=by
  cases k with
  | inl i=>obtain ⟨t,e⟩:=(show ∃ t,u = Value.int i t from r); subst e; exact mixKind_int P w i t
  | inr x=>obtain ⟨t,e⟩:=(show ∃ t,u = Value.str x t from r); subst e; exact mixKind_str P w x t
theorem items_are {P:Program} {w:World}:∀ {ks:List Key} {us:List Value},Vals (ks.map kV) us→ItemsAre (mixKind P w) ks us
  | [],_,r=>by rw [List.map_nil] at r; cases r; exact .nil
  | k :: ks,_,r=>by
    rw [List.map_cons] at r
    cases r with
    | cons h t=>exact .cons (kV_is h) (items_are t)
abbrev KT (H:Hp):List (List Key×V)→List (List Key×Addr×Value)→Prop:=Paired fun p q=>p.1 = q.1∧H q.2.1 = some (.tup (p.1.map kV))∧RelV p.2 q.2.2
theorem KT.val {H:Hp} {kvs:List (List Key×V)} {xs:List (List Key×Addr×Value)} (r:KT H kvs xs) (k:List Key):RelO (valV kvs k) ((atKey xs k).map (·.2)):=by
  induction r with
  | nil=>exact True.intro
  | @cons p q ps qs h t ih=>
    obtain ⟨h1,_,h2⟩:=h
    by_cases e:p.1 = k
    · have e':q.1 = k:=h1.symm.trans e
      have b:atKey (q :: qs) k = some q.2:=by simp [atKey,List.find?_cons,e']
      rw [valV_pos e,b]; exact h2
    · have e':¬ q.1 = k:=fun z=>e (h1.trans z)
      have b:atKey (q :: qs) k = atKey qs k:=by simp [atKey,List.find?_cons,e']
      rw [valV_neg e,b]; exact ih
theorem KT.repl {H:Hp} {kvs:List (List Key×V)} {xs:List (List Key×Addr×Value)} (r:KT H kvs xs) (k:List Key) {y:V} {u:Value} (ry:RelV y u) :
    KT H (kvs.map fun kv=>if kv.1 = k then (kv.1,y) else kv) (xs.map (putAt k u)):=by
  induction r with
  | nil=>exact .nil
  | @cons p q ps qs h t ih=>
    rw [List.map_cons,List.map_cons]
    refine .cons ?_ ih
    obtain ⟨h1,h2,h3⟩:=h
    unfold putAt
    by_cases e:p.1 = k
    · rw [if_pos e,if_pos (h1.symm.trans e)]; exact ⟨h1,h2,ry⟩
    · rw [if_neg e,if_neg (fun z=>e (h1.trans z))]; exact ⟨h1,h2,h3⟩
theorem KT.put {H:Hp} {kvs:List (List Key×V)} {xs:List (List Key×Addr×Value)} (r:KT H kvs xs) (k:List Key) {b:Addr} {y:V} {u:Value} (hb:H b = some (.tup (k.map kV))) (ry:RelV y u) :
    KT H (putK kvs k y) (storedH xs k b u):=by
  have e:(kvs.any fun kv=>decide (kv.1 = k)) = (atKey xs k).isSome:=by
    rw [valV_any,(r.val k).isSome_eq,Option.isSome_map]
  unfold putK storedH
  rw [e]
  by_cases q:(atKey xs k).isSome = true
  · rw [if_pos q,if_pos q]; exact r.repl k ry
  · rw [if_neg q,if_neg q]; exact Paired.snoc r ⟨rfl,hb,ry⟩
theorem KT.keeps {H H':Hp} {kvs:List (List Key×V)} {xs:List (List Key×Addr×Value)} (r:KT H kvs xs) (ht:∀ b ys,H b = some (.tup ys)→H' b = some (.tup ys)):KT H' kvs xs:=
  Paired.mapP r fun _ _ z=>⟨z.1,ht _ _ z.2.1,z.2.2⟩
section
variable {P:Program} {w:World} {H:Hp} {h:Heap} {a:Addr}
theorem rd_of {u:HO} (ok:HOk P w H h) (e:Rd H a u):ObjOk P w H h a u:=e.ok ok
theorem dk_rd {kvs:List (Key×V)} (ok:HOk P w H h) (e:Rd H a (.dK kvs)):kvs.length≤sizeLine∧(a == sysModules) = false∧∃ vs,KV kvs vs∧h.DictOf (mixKind P w) a vs:=
  show ObjOk P w H h a (.dK kvs) from rd_of ok e
theorem dk_of {kvs:List (Key×V)} (ok:HOk P w H h) (e:H a = some (.dK kvs)):kvs.length≤sizeLine∧(a == sysModules) = false∧∃ vs,KV kvs vs∧h.DictOf (mixKind P w) a vs:=dk_rd ok (.inl e)
theorem key_of {ks:List Key} (ok:HOk P w H h) (e:H a = some (.tup (ks.map kV))):(tupleKind (mixKind P w)).is h ks a:=by
  obtain ⟨_,its,r,o,h1,h2,n,h3⟩:=(show ObjOk P w H h a (.tup (ks.map kV)) from ok a _ e)
  exact ⟨o,its.toArray,n,h1,h2,h3,by simpa using items_are r⟩
theorem dt_rd {kvs:List (List Key×V)} (ok:HOk P w H h) (e:Rd H a (.dT kvs)):kvs.length≤sizeLine∧(a == sysModules) = false∧
    ∃ xs,KT H kvs xs∧h.DictOfH (tupleKind (mixKind P w)) a xs:=by
  obtain ⟨z,y,xs,r,o,es,ep,h1,h2,h3,h4,h5⟩:=(show ObjOk P w H h a (.dT kvs) from rd_of ok e)
  refine ⟨z,y,xs,r,o,es,ep,h1,h2,h3,h4,fun x hx=>?_,h5⟩
  have all:∀ {l:List (List Key×V)} {m:List (List Key×Addr×Value)},KT H l m→∀ x∈m,(tupleKind (mixKind P w)).is h x.1 x.2.1:=by
    intro l m q
    induction q with
    | nil=>intro x hx; exact nomatch hx
    | @cons p q ps qs hq t ih=>
      intro x hx
      rcases List.mem_cons.mp hx with e | hx
      · subst e
        exact key_of ok (by rw [← hq.1]; exact hq.2.1)
      · exact ih x hx
  exact all r x hx
end
def DGet (H:Hp) (a:Addr) (y:V) (r:Option V):Prop:=
  (∃ kvs k,Rd H a (.dK kvs)∧y = kV k∧r = valV kvs k)∨∃ kvs k b,Rd H a (.dT kvs)∧y = .ref b∧H b = some (.tup (k.map kV))∧r = valV kvs k
def DPut (H:Hp) (a:Addr) (y v:V) (H':Hp):Prop:=
  (∃ kvs k,H a = some (.dK kvs)∧y = kV k∧kvs.length < sizeLine∧H' = upd H a (.dK (putK kvs k v)))∨
  ∃ kvs k b,H a = some (.dT kvs)∧y = .ref b∧H b = some (.tup (k.map kV))∧kvs.length < sizeLine∧H' = upd H a (.dT (putK kvs k v))
theorem DGet.k {H:Hp} {a:Addr} {kvs:List (Key×V)} {k:Key} (e:H a = some (.dK kvs)):DGet H a (kV k) (valV kvs k):=.inl ⟨kvs,k,.inl e,rfl,rfl⟩
theorem DGet.t {H:Hp} {a b:Addr} {kvs:List (List Key×V)} {k:List Key} (e:H a = some (.dT kvs)) (eb:H b = some (.tup (k.map kV))):DGet H a (.ref b) (valV kvs k):=.inr ⟨kvs,k,b,.inl e,rfl,eb,rfl⟩
theorem DPut.k {H:Hp} {a:Addr} {kvs:List (Key×V)} {k:Key} {v:V} (e:H a = some (.dK kvs)) (hl:kvs.length < sizeLine):DPut H a (kV k) v (upd H a (.dK (putK kvs k v))):=.inl ⟨kvs,k,e,rfl,hl,rfl⟩
theorem DPut.t {H:Hp} {a b:Addr} {kvs:List (List Key×V)} {k:List Key} {v:V} (e:H a = some (.dT kvs)) (eb:H b = some (.tup (k.map kV))) (hl:kvs.length < sizeLine) :
    DPut H a (.ref b) v (upd H a (.dT (putK kvs k v))):=.inr ⟨kvs,k,b,e,rfl,eb,hl,rfl⟩
section
variable {X:Cx} {pins:List (Addr×Obj)} {σ:St} {H:Hp} {s:Shared} {a:Addr} {y v:V} {u r:Value} {o:Option V} {A:Around} {E:Value→Shared→Prop}
theorem Inv.big (I:Inv X pins σ H s):sysModules < s.heap.objs.size:=by
  have h:mainGlobals < s.heap.objs.size:=(I.mod.glob.keeps I.bk).lt
  exact Nat.lt_trans (by decide) h
theorem d_write {h':Heap} {t':Nat} {ob:HO} (I:Inv X pins σ H s) (mu:Mut (H a)) (hs:Heap.SameBut a s.heap h') (he:∃ q,h'.get? a = some q) (new:ObjOk X.prog X.w (upd H a ob) h' a ob) :
    Inv X pins σ (upd H a ob) { s with heap:=h',toks:=t' }:=
  I.write (x:=a) (e:=a) mu (.inl rfl) (fun b q hb z=>(hs.2 b hb).trans z) he new
theorem dk_new {P:Program} {w:World} {H':Hp} {h':Heap} {kvs:List (Key×V)} {vs:List (Key×Value)} (z:kvs.length≤sizeLine) (hd:(a == sysModules) = false) (rel:KV kvs vs) (dd:h'.DictOf (mixKind P w) a vs) :
    ObjOk P w H' h' a (.dK kvs):=⟨z,hd,vs,rel,dd⟩
end
section
variable {X:Cx} {pins:List (Addr×Obj)} {σ:St} {H:Hp} {s:Shared} {a:Addr} {kvs:List (Key×V)} {k:Key} {u:Value} {A:Around} {E:Value→Shared→Prop}
end
def NoSl (i:Expr):Prop:=∀ ov iv,subscripted i false ov iv = operate [ov,iv] (getItem ov iv)
theorem subD_of {prog:Program} {w:World} {A:Around} {E:Value→Shared→Prop} {s:Shared} {env:Env} {value slice:Expr} {pos:Pos} {T id:String} {Q:Value→Shared→Prop}
    (hl:typeLookup (.type T) "__getitem__" = pure (some (.builtin id))) (hs:NoSl slice)
    (h:wpAny (model prog w) A (eval value env) (fun o s₁=>wpAny (model prog w) A (eval slice env) (fun i s₂=>s₂.TypeIs o T∧wpAny (model prog w) A (getItem o i) Q E s₂) E s₁) E s) :
    wpAny (model prog w) A (eval (.Subscript value slice pos) env) Q E s:=by
  refine Subscript_ (wpAny_mono h (fun o s₁ h₁=>wpAny_mono h₁ (fun i s₂ h₂=>?_) fun _ _ x=>x) fun _ _ x=>x)
  obtain ⟨hT,h₂⟩:=h₂
  unfold subscriptTail
  refine wpAny_bind ?_
  rw [getitemInPython_of_ne hT.not_modules]
  refine wpAny_bind (wpAny_specialOf hT hl ?_)
  have fin:wpAny (model prog w) A (subscripted slice false o i) (fun r s₃=>wpAny (model prog w) A (letTemporaryGo value o r >>= fun _=>pure r) Q E s₃) E s₂:=by
    rw [hs o i]
    exact wpAny_operating (wpAny_mono h₂ (fun r s₃ h₃=>wpAny_bind (wpAny_letTemporaryGo (wpAny_pure h₃))) fun _ _ x=>x)
  first
    | exact wpAny_pure (wpAny_bind fin)
    | exact wpAny_bind (wpAny_pure (wpAny_bind fin))
    | exact wpAny_bind fin
section
variable {X:Cx} {o i e value:Expr} {pos pos' tpos:Pos} {td ty tv:TE}
end
theorem dk_empty {P:Program} {w:World} {H:Hp} (h:Heap) (hb:sysModules < h.objs.size):ObjOk P w H (h.push { cls:=.type "dict",data:=.dict #[] }) h.objs.size (.dK []):=
  ⟨Nat.zero_le _,beq_eq_false_iff_ne.mpr (Ne.symm (Nat.ne_of_lt hb)),[],.nil,Heap.DictOf.new h⟩
section
variable {X:Cx} {pos:Pos}
end
def tPairs:List (TE×TE)→St→Hp→(List (V×V)→Hp→Prop)→Prop
  | [],_,H,Q=>Q [] H
  | (tk,tv) :: r,σ,H,Q=>tk σ H fun x H1=>tv σ H1 fun y H2=>tPairs r σ H2 fun ps H3=>Q ((x,y) :: ps) H3
abbrev VV:List (V×V)→List (Value×Value)→Prop:=Paired fun p q=>RelV p.1 q.1∧RelV p.2 q.2
def PPs (X:Cx) (pos:Pos) (keys:List (Option Expr)) (values:List Expr) (trs:List (TE×TE)):Prop:=
  ∀ (pins:List (Addr×Obj)) (s:Shared) (σ:St) (H:Hp) (Q:List (V×V)→Hp→Prop),Inv X pins σ H s→tPairs trs σ H Q→
    wpAny (model X.prog X.w) X.A (evalPairs (pairTrees keys values X.env pos)) (fun vs s'=>∃ ps H',Inv X pins σ H' s'∧VV ps vs∧Q ps H') X.xe s
theorem pps_nil {X:Cx} {pos:Pos}:PPs X pos [] [] []:=fun pins s σ H Q I h=>pairTrees_nil_walk ⟨[],H,I,.nil,h⟩
theorem pps_cons {X:Cx} {pos:Pos} {k v:Expr} {ks:List (Option Expr)} {vs:List Expr} {tk tv:TE} {trs:List (TE×TE)} (hk:PE X k tk) (hv:PE X v tv) (hr:PPs X pos ks vs trs) :
    PPs X pos (some k :: ks) (v :: vs) ((tk,tv) :: trs):=fun pins s σ H Q I h=>
  pairTrees_cons_walk (thn (hk pins s σ H _ I h) fun u s1 ⟨x,H1,I1,rx,q1⟩=>thn (hv pins s1 σ H1 _ I1 q1) fun w2 s2 ⟨y,H2,I2,ry,q2⟩=>
    thn (hr pins s2 σ H2 _ I2 q2) fun ws s3 ⟨ps,H3,I3,rel,q3⟩=>⟨(x,y) :: ps,H3,I3,.cons ⟨rx,ry⟩ rel,q3⟩)
def mergeK (kvs more:List (Key×V)):List (Key×V):=more.foldl (fun acc kv=>putK acc kv.1 kv.2) kvs
theorem KV.merge:∀ {more:List (Key×V)} {rs:List (Key×Value)} {kvs:List (Key×V)} {vs:List (Key×Value)},KV more rs→KV kvs vs→KV (mergeK kvs more) (merged vs rs):=by
  intro more rs kvs vs r
  unfold KV at r
  induction r generalizing kvs vs with
  | nil=>intro q; exact q
  | @cons p q ps qs h t ih=>
    intro r0
    have e:KV (putK kvs p.1 p.2) (stored vs q.1 q.2):=by
      have:=r0.put p.1 h.2
      rw [← h.1]; exact this
    exact ih e
theorem length_mergeK:∀ (more kvs:List (Key×V)),(mergeK kvs more).length≤kvs.length + more.length
  | [],kvs=>by show kvs.length≤kvs.length + 0; omega
  | p :: r,kvs=>by
    have h1:=length_mergeK r (putK kvs p.1 p.2)
    have h2:=length_putK kvs p.1 p.2
    show (mergeK (putK kvs p.1 p.2) r).length≤_
    rw [List.length_cons]; omega
theorem carries_of {P:Program} {w:World}:∀ {kvs:List (Key×V)} {ws:List (Value×Value)},VV (kvs.map fun kv=>(kV kv.1,kv.2)) ws→∃ rs,Carries (mixKind P w) ws rs∧KV kvs rs
  | [],_,r=>by rw [List.map_nil] at r; cases r; exact ⟨[],True.intro,.nil⟩
  | p :: kvs,_,r=>by
    rw [List.map_cons] at r
    cases r with
    | @cons a b as bs h t=>
      obtain ⟨rs,c,q⟩:=carries_of (P:=P) (w:=w) t
      obtain ⟨b1,b2⟩:=b
      exact ⟨(p.1,b2) :: rs,⟨kV_is h.1,rfl,c⟩,.cons ⟨rfl,h.2⟩ q⟩
def tDisp (trs:List (TE×TE)):TE:=fun σ H Q=>∀ p,H p = none→tPairs trs σ (upd H p (.dK [])) fun ps H2=>H2 p = some (.dK [])∧∃ kvs:List (Key×V),ps = kvs.map (fun kv=>(kV kv.1,kv.2))∧kvs.length≤15∧Q (.ref p) (upd H2 p (.dK (mergeK [] kvs)))
theorem pe_disp {X:Cx} {pos:Pos} {keys:List (Option Expr)} {values:List Expr} {trs:List (TE×TE)} (h:PPs X pos keys values trs) (hall:keys.all (·.isSome) = true) (hl:keys.length = values.length) (h0:keys≠[])
    (h15:keys.length≤15):PE X (.Dict keys values pos) (tDisp trs):=by
  intro pins s σ H Q I q
  have hn:=I.hok.fresh (Nat.le_refl s.heap.objs.size)
  have I1:=I.laid (a:=s.heap.objs.size) (o:=.dK []) (h':=s.heap.push { cls:=.type "dict",data:=.dict #[] }) (t':=s.toks) (fun _ _ q=>Heap.get?_push_of_some _ q) (Nat.le_refl _) (dk_empty s.heap I.big)
  refine wpAny_Dict_walk (knd:=mixKind X.prog X.w) hall hl h0 h15 (thn (h pins _ σ _ _ I1 (q _ hn)) fun ws s2 ⟨ps,H2,I2,rel,e,kvs,ep,lk,q2⟩=>?_)
  subst ep
  obtain ⟨rs,c,rk⟩:=carries_of (P:=X.prog) (w:=X.w) rel
  obtain ⟨z,hd,vs0,r0,dd⟩:=dk_of I2.hok e
  cases r0
  refine ⟨rs,c,dd,fun h' dd' hs=>⟨.ref s.heap.objs.size,_,?_,rfl,q2⟩⟩
  have hz:(mergeK [] kvs).length≤sizeLine:=by
    have h1:=length_mergeK kvs []
    rw [List.length_nil] at h1
    rw [sizeLine_eq]; omega
  have he:∃ q,h'.get? s.heap.objs.size = some q:=let ⟨q,_,_,hq,_⟩:=dd'; ⟨q,hq⟩
  exact d_write I2 (by rw [e]; exact True.intro) hs he (dk_new hz hd (rk.merge .nil) dd')
structure M1 (X:Cx) (o:Expr) (m:Str) (apos:Pos) (e:Expr) (cpos:Pos):Prop where
  base:attributeBase o m X.env (eval o X.env) = eval o X.env
  few:((backTo cpos (starEach [e] X.env)).all (fun x=>!x.1) && (backToKw cpos (keywordEach [] X.env)).all (fun x=>x.1.isSome)
    && decide (([e]:List Expr).length + ([]:List Keyword).length + (if ([]:List Keyword).isEmpty then 0 else 1) < 30)) = true
  line:(apos.endLine == cpos.line) = true
  trees:backTo cpos (starEach [e] X.env) = [(false,eval e X.env)]
structure M2 (X:Cx) (o:Expr) (m:Str) (apos:Pos) (e f:Expr) (cpos:Pos):Prop where
  base:attributeBase o m X.env (eval o X.env) = eval o X.env
  few:((backTo cpos (starEach [e,f] X.env)).all (fun x=>!x.1) && (backToKw cpos (keywordEach [] X.env)).all (fun x=>x.1.isSome)
    && decide (([e,f]:List Expr).length + ([]:List Keyword).length + (if ([]:List Keyword).isEmpty then 0 else 1) < 30)) = true
  line:(apos.endLine == cpos.line) = true
  trees:backTo cpos (starEach [e,f] X.env) = [(false,eval e X.env),(false,eval f X.env)]
def IsD (H:Hp) (a:Addr):Prop:=(∃ kvs,Rd H a (.dK kvs))∨∃ kvs,Rd H a (.dT kvs)
theorem isD_at {X:Cx} {pins:List (Addr×Obj)} {σ:St} {H:Hp} {s:Shared} {a:Addr} (I:Inv X pins σ H s) (d:IsD H a) :
    s.TypeIs (.ref a) "dict"∧(∀ b,Value.ref a = .ref b→∃ ob,s.heap.get? b = some ob∧ob.dict = none)∧(a == sysModules) = false:=by
  rcases d with ⟨kvs,e⟩ | ⟨kvs,e⟩
  · obtain ⟨_,hd,vs,_,dd⟩:=dk_rd I.hok e
    refine ⟨dd.typeIs,fun b q=>?_,hd⟩
    cases q
    obtain ⟨ob,_,_,h1,h2,_⟩:=dd
    exact ⟨ob,h1,h2.2.1⟩
  · obtain ⟨_,hd,xs,_,dd⟩:=dt_rd I.hok e
    refine ⟨dd.typeIs,fun b q=>?_,hd⟩
    cases q
    obtain ⟨ob,_,_,h1,h2,_⟩:=dd
    exact ⟨ob,h1,h2.2.1⟩
section
variable {X:Cx} {pins:List (Addr×Obj)} {σ:St} {H:Hp} {s:Shared} {a:Addr} {y d:V} {u r:Value} {o:Option V} {A:Around} {E:Value→Shared→Prop}
theorem d_get2 {Q:Value→Shared→Prop} (hu:A.units + 1 < cLine) (I:Inv X pins σ H s) (g:DGet H a y o) (ry:RelV y u) (rd:RelV d r) (h:∀ w' s',Inv X pins σ H s'→RelV (o.getD d) w'→Q w' s') :
    wpAny (model X.prog X.w) A (call (.builtin "dict.get") [.ref a,u,r]) Q E s:=by
  rcases g with ⟨kvs,k,e,ey,l⟩ | ⟨kvs,k,b,e,ey,eb,l⟩
  · subst ey
    obtain ⟨z,hd,vs,rel,dd⟩:=dk_rd I.hok e
    refine call_meetsIn PySem.F.slot_dict_get dd.typeIs PySem.F.entry_dict_get (PySem.F.args_dict_get_3 _ _ _) (meets_dict_get_default (mixKind X.prog X.w) a (kV_is ry) hd r) ⟨_,dd.mapOf,h _ _ (I.tok _) ?_⟩
    rw [l]
    exact (rel.val k).getD rd
  · subst ey
    cases (show u = Value.ref b from ry)
    obtain ⟨z,hd,xs,rel,dd⟩:=dt_rd I.hok e
    refine call_meetsIn PySem.F.slot_dict_get dd.typeIs PySem.F.entry_dict_get (PySem.F.args_dict_get_3 _ _ _) (meetsH_dict_get_default (tupleKind (mixKind X.prog X.w)) a b hd r) ⟨tupleKind_room_in1 hu,k,xs,key_of I.hok eb,dd,h _ _ (I.tok _) ?_⟩
    rw [l]
    exact (rel.val k).getD rd
end
def tDGet2 (td ty tx:TE):TE:=fun σ H Q=>td σ H fun x H1=>∃ a,x = .ref a∧IsD H1 a∧ty σ H1 fun y H2=>tx σ H2 fun z H3=>∃ o,DGet H3 a y o∧Q (o.getD z) H3
section
variable {X:Cx} {o e f:Expr} {apos cpos:Pos} {td ty tx:TE}
theorem pe_dget2 (hu:X.A.units + 1 < cLine) (ho:PE X o td) (he:PE X e ty) (hf:PE X f tx) (m:M2 X o "get" apos e f cpos):PE X (.Call (.Attribute o "get" apos) [e,f] [] cpos) (tDGet2 td ty tx):=by
  intro pins s σ H Q I h
  refine wpAny_Call_method m.base m.few m.line PySem.F.plainAttrs_dict PySem.F.slot_dict_get PySem.F.type_dict_get (thn (ho pins s σ H _ I h) fun u s1 ⟨x,H1,I1,rx,a,ex,d,q1⟩=>?_)
  subst ex
  obtain rfl:u = Value.ref a:=rx
  obtain ⟨t1,t2,_⟩:=isD_at I1 d
  refine ⟨t1,t2,?_⟩
  rw [m.trees]
  refine Calls.callWith_builtin rfl (Calls.evalArgs_plain (Calls.spliced_cons (thn (he pins s1 σ H1 _ I1 q1) fun iv s2 ⟨y,H2,I2,ry,q2⟩=>
    Calls.spliced_cons (thn (hf pins s2 σ H2 _ I2 q2) fun fv s3 ⟨z,H3,I3,rz,ov,g,q3⟩=>Calls.spliced_nil ?_))))
  exact d_get2 hu I3 g ry rz fun w' s4 I4 rw'=>⟨_,H3,I4,rw',q3⟩
end
section
variable {X:Cx} {pins:List (Addr×Obj)} {σ:St} {H:Hp} {s:Shared} {a:Addr} {kvs:List (Key×V)} {A:Around} {E:Value→Shared→Prop}
end
section
variable {X:Cx} {pins:List (Addr×Obj)} {σ:St} {H:Hp} {s:Shared} {a:Addr} {y:V} {u:Value} {A:Around} {E:Value→Shared→Prop}
end
end L2
namespace L2
open PySem PySem.Spec PyProof.Rows
section
variable {X:Cx}
def rCatT3 (K:PySem.W.Frag):R2:=fun x y H Q=>∃ a b xs ys,x = .ref a∧y = .ref b∧SqT K H a xs∧SqT K H b ys∧xs.length + ys.length≤sizeLine∧
  (xs = []→Q (.ref b) H)∧(xs≠[]→ys = []→Q (.ref a) H)∧(xs≠[]→ys≠[]→∀ p,H p = none→Q (.ref p) (upd H p (.tup (xs ++ ys))))
theorem op_catT3:OpR X (binaryOp .Add) (rCatT3 X.K):=by
  intro pins s σ H x y v u Q I rx ry h
  obtain ⟨a,b,xs,ys,rfl,rfl,ha,hb,hz,q0,q1,q2⟩:=h
  by_cases hx:xs = []
  · subst hx
    cases rx
    cases ry
    obtain ⟨its,r1,p1,_⟩:=I.tuple ha
    obtain ⟨its2,r2,p2,_⟩:=I.tuple hb
    cases r1
    obtain ⟨⟨cls,dd,data,sl⟩,ho,hc,n,hd⟩:=id p1
    obtain ⟨⟨cls2,dd2,data2,sl2⟩,ho2,hc2,n2,hd2⟩:=id p2
    simp only at hc hd hc2 hd2
    subst hc hd hc2 hd2
    exact concat_meets ⟨_,ho,rfl⟩ ⟨_,ho2,rfl⟩ noFill_tuple_add seq_tuple_add PySem.F.slot_tuple_add PySem.F.entry_tuple_add (PySem.F.args_tuple_add_2 _ _) (tuple_addW0 a b _ _ n n2 dd dd2 sl sl2 rfl) ⟨ho,ho2,.ref b,H,I,rfl,q0 rfl⟩
  · exact op_catT pins s σ H _ _ v u Q I rx ry ⟨a,b,xs,ys,rfl,rfl,ha,hb,hx,hz,q1 hx,q2 hx⟩
end
inductive Tr where
  | non
  | bl (b:Bool)
  | int (i:Int)
  | str (z:Str)
  | tup (ts:List Tr)
  | lst (ts:List Tr)
mutual
def Rep (F:Addr→Prop) (H:Hp):Tr→V→Prop
  | .non,v=>v = .non
  | .bl b,v=>v = .bl b
  | .int i,v=>v = .int i
  | .str z,v=>v = .str z
  | .tup ts,v=>∃ a vs,v = .ref a∧H a = some (.tup vs)∧Reps F H ts vs
  | .lst ts,v=>∃ a vs,v = .ref a∧F a∧H a = some (.lst vs)∧Reps F H ts vs
def Reps (F:Addr→Prop) (H:Hp):List Tr→List V→Prop
  | [],vs=>vs = []
  | t :: ts,vs=>∃ v us,vs = v :: us∧Rep F H t v∧Reps F H ts us
end
mutual
def Tr.dep:Tr→Nat
  | .tup ts=>1 + Tr.deps ts
  | .lst ts=>1 + Tr.deps ts
  | _=>1
def Tr.deps:List Tr→Nat
  | []=>0
  | t :: ts=>max (Tr.dep t) (Tr.deps ts)
end
mutual
def Tr.ok:Tr→Prop
  | .str z=>z.length≤1000
  | .tup ts=>ts.length≤1000∧Tr.oks ts
  | .lst ts=>ts.length≤1000∧Tr.oks ts
  | _=>True
def Tr.oks:List Tr→Prop
  | []=>True
  | t :: ts=>Tr.ok t∧Tr.oks ts
end
mutual
theorem Rep.same {F:Addr→Prop} {H H':Hp} (s:Same H H'):∀ (t:Tr) (v:V),Rep F H t v→Rep F H' t v
  | .non,_,h=>h
  | .bl _,_,h=>h
  | .int _,_,h=>h
  | .str _,_,h=>h
  | .tup ts,_,⟨a,vs,e,ha,hr⟩=>⟨a,vs,e,s.get ha,Reps.same s ts vs hr⟩
  | .lst ts,_,⟨a,vs,e,fa,ha,hr⟩=>⟨a,vs,e,fa,s.get ha,Reps.same s ts vs hr⟩
theorem Reps.same {F:Addr→Prop} {H H':Hp} (s:Same H H'):∀ (ts:List Tr) (vs:List V),Reps F H ts vs→Reps F H' ts vs
  | [],_,h=>h
  | t :: ts,_,⟨v,us,e,h1,h2⟩=>⟨v,us,e,Rep.same s t v h1,Reps.same s ts us h2⟩
end
theorem Reps.len {F:Addr→Prop} {H:Hp}:∀ (ts:List Tr) (vs:List V),Reps F H ts vs→vs.length = ts.length
  | [],_,h=>by rw [show _ = [] from h]; rfl
  | t :: ts,_,⟨v,us,e,_,h2⟩=>by rw [e,List.length_cons,List.length_cons,Reps.len ts us h2]
theorem Reps.get {F:Addr→Prop} {H:Hp}:∀ {ts:List Tr} {vs:List V},Reps F H ts vs→∀ {i:Nat} {v:V},vs[i]? = some v→∃ t,ts[i]? = some t∧Rep F H t v
  | [],_,h,i,v,hv=>by rw [show _ = [] from h] at hv; simp at hv
  | t :: ts,_,⟨w,us,e,h1,h2⟩,0,v,hv=>by
    rw [e] at hv
    cases (Option.some.inj hv)
    exact ⟨t,rfl,h1⟩
  | t :: ts,_,⟨w,us,e,h1,h2⟩,i + 1,v,hv=>by
    rw [e] at hv
    obtain ⟨t',e1,e2⟩:=Reps.get h2 (i:=i) (v:=v) (by simpa using hv)
    exact ⟨t',by simpa using e1,e2⟩
theorem Reps.append {F:Addr→Prop} {H:Hp}:∀ {ts us:List Tr} {vs ws:List V},Reps F H ts vs→Reps F H us ws→Reps F H (ts ++ us) (vs ++ ws)
  | [],us,_,ws,h,h2=>by rw [show _ = [] from h]; exact h2
  | t :: ts,us,_,ws,⟨w,vs,e,h1,hr⟩,h2=>by
    rw [e]
    exact ⟨w,vs ++ ws,rfl,h1,Reps.append hr h2⟩
theorem Reps.one {F:Addr→Prop} {H:Hp} {t:Tr} {v:V} (h:Rep F H t v):Reps F H [t] [v]:=⟨v,[],rfl,h,rfl⟩
theorem Rep.ok {F:Addr→Prop} {H:Hp}:∀ {t:Tr} {v:V},Rep F H t v→t.ok→Ok H v
  | .non,_,h,_=>by rw [show _ = V.non from h]; trivial
  | .bl _,_,h,_=>by rw [show _ = V.bl _ from h]; trivial
  | .int _,_,h,_=>by rw [show _ = V.int _ from h]; trivial
  | .str z,_,h,o=>by rw [show _ = V.str z from h]; exact o
  | .tup ts,_,⟨a,vs,e,ha,_⟩,_=>by rw [e]; exact .inr ⟨vs,ha⟩
  | .lst ts,_,⟨a,vs,e,_,ha,_⟩,_=>by rw [e]; exact .inl ⟨vs,ha⟩
section
variable {X:Cx} {pins:List (Addr×Obj)} {σ:St} {H:Hp} {s:Shared} {F G:Addr→Prop}
mutual
theorem rep_eq (I:Inv X pins σ H s):∀ (t:Tr) (A:Around) (v u:V) (vv uu:Value),A.units + t.dep < cLine→Rep F H t v→Rep G H t u→RelV v vv→RelV u uu→SeqAt.EqAt A s vv uu true
  | .non,A,v,u,vv,uu,_,h1,h2,r1,r2=>by
    rw [show v = V.non from h1] at r1; rw [show u = V.non from h2] at r2
    cases r1; cases r2
    exact SeqAt.EqAt.same _
  | .bl b,A,v,u,vv,uu,_,h1,h2,r1,r2=>by
    rw [show v = V.bl b from h1] at r1; rw [show u = V.bl b from h2] at r2
    cases r1; cases r2
    exact SeqAt.EqAt.same _
  | .int i,A,v,u,vv,uu,_,h1,h2,r1,r2=>by
    have:=eqAt_V (A:=A) (s:=s) r1 r2 (by rw [show v = V.int i from h1]; rfl) (by rw [show u = V.int i from h2]; rfl)
    rw [show v = V.int i from h1,show u = V.int i from h2] at this
    have e:eqV (V.int i) (V.int i) = true:=by rw [pure_eq rfl rfl]; simp
    rw [e] at this
    exact this
  | .str z,A,v,u,vv,uu,_,h1,h2,r1,r2=>by
    have:=eqAt_V (A:=A) (s:=s) r1 r2 (by rw [show v = V.str z from h1]; rfl) (by rw [show u = V.str z from h2]; rfl)
    rw [show v = V.str z from h1,show u = V.str z from h2] at this
    have e:eqV (V.str z) (V.str z) = true:=by rw [pure_eq rfl rfl]; simp
    rw [e] at this
    exact this
  | .tup ts,A,v,u,vv,uu,hA,⟨a,vs,e1,ha,hr1⟩,⟨b,us,e2,hb,hr2⟩,r1,r2=>by
    subst e1 e2
    cases r1; cases r2
    by_cases hab:a = b
    · subst hab; exact SeqAt.EqAt.same _
    have hA':A.units + (1 + Tr.deps ts) < cLine:=hA
    obtain ⟨its,rv1,p1,_⟩:=I.tuple (SqT.of (K:=X.K) ha)
    obtain ⟨its2,rv2,p2,_⟩:=I.tuple (SqT.of (K:=X.K) hb)
    have l1:=rv1.length.symm.trans (Reps.len ts vs hr1)
    have l2:=rv2.length.symm.trans (Reps.len ts us hr2)
    have q:=SeqAt.RcAt.tuples (A:=A) (s:=s) (e:=fun _=>true) p1 p2 (by omega) (fun j g1 g2=>reps_eq I ts A.in1 vs us its its2 (by show A.units + 1 + Tr.deps ts < cLine; omega) hr1 hr2 rv1 rv2 j (by simpa using g1) (by simpa using g2))
    have e:((List.range (min its.toArray.size its2.toArray.size)).all (fun _=>true) && its.toArray.size == its2.toArray.size) = true:=by
      simp [l1,l2]
    rw [e] at q
    exact SeqAt.EqAt.of_refs hab q
  | .lst ts,A,v,u,vv,uu,hA,⟨a,vs,e1,_,ha,hr1⟩,⟨b,us,e2,_,hb,hr2⟩,r1,r2=>by
    subst e1 e2
    cases r1; cases r2
    by_cases hab:a = b
    · subst hab; exact SeqAt.EqAt.same _
    have hA':A.units + (1 + Tr.deps ts) < cLine:=hA
    obtain ⟨its,rv1,p1,_⟩:=I.list (SqL.of (K:=X.K) ha)
    obtain ⟨its2,rv2,p2,_⟩:=I.list (SqL.of (K:=X.K) hb)
    have l1:=rv1.length.symm.trans (Reps.len ts vs hr1)
    have l2:=rv2.length.symm.trans (Reps.len ts us hr2)
    have q:=SeqAt.RcAt.lists (A:=A) (s:=s) (e:=fun _=>true) p1.isList p2.isList (by simp [l1,l2]) (by omega) (fun j g1 g2=>reps_eq I ts A.in1 vs us its its2 (by show A.units + 1 + Tr.deps ts < cLine; omega) hr1 hr2 rv1 rv2 j (by simpa using g1) (by simpa using g2))
    have e:((List.range its.toArray.size).all (fun _=>true)) = true:=by simp
    rw [e] at q
    exact SeqAt.EqAt.of_refs hab q
theorem reps_eq (I:Inv X pins σ H s):∀ (ts:List Tr) (A:Around) (vs us:List V) (its its2:List Value),A.units + Tr.deps ts < cLine→Reps F H ts vs→Reps G H ts us→Vals vs its→Vals us its2→∀ (j:Nat) (g1:j < its.length) (g2:j < its2.length),SeqAt.EqAt A s its[j] its2[j] true
  | [],A,vs,us,its,its2,_,h1,h2,r1,r2=>fun j g1 g2=>by
    rw [show vs = [] from h1] at r1
    cases r1
    simp at g1
  | t :: ts,A,vs,us,its,its2,hA,⟨v,vr,e1,a1,b1⟩,⟨u,ur,e2,a2,b2⟩,r1,r2=>by
    subst e1 e2
    have hA':A.units + max (Tr.dep t) (Tr.deps ts) < cLine:=hA
    cases r1 with
    | cons p1 q1=>
      cases r2 with
      | cons p2 q2=>
        intro j g1 g2
        cases j with
        | zero=>exact rep_eq I t A v u _ _ (by omega) a1 a2 p1 p2
        | succ j=>exact reps_eq I ts A vr ur _ _ (by omega) b1 b2 q1 q2 j (by simpa using g1) (by simpa using g2)
end
end
section
variable {X:Cx}
def rNeR:R2:=fun x y H Q=>∃ t F G,t.dep≤100∧Rep F H t x∧Rep G H t y∧Q (.bl false) H
theorem op_neR (hu:X.A.units + 150 < cLine):OpR X (compareOp .NotEq) rNeR:=by
  intro pins s σ H x y v u Q I rx ry h
  obtain ⟨t,F,G,hd,h1,h2,q⟩:=h
  have scal:∀ z:V,pureV z = true∨(∃ b,z = .bl b)→x = z→y = z→wpAny (model X.prog X.w) X.A (compareOp .NotEq v u) (EP X pins σ Q) X.xe s:=fun z hz e1 e2=>by
    refine op_ne pins s σ H x y v u Q I rx ry ⟨?_,?_⟩
    · subst e1 e2
      rcases hz with hz | ⟨b,rfl⟩
      · cases y <;> first | rfl | exact absurd (show false = true from hz) Bool.false_ne_true
      · rfl
    · rw [e1,e2]; simpa using q
  cases t with
  | non=>exact scal _ (.inl rfl) h1 h2
  | bl b=>exact scal _ (.inr ⟨b,rfl⟩) h1 h2
  | int i=>exact scal (.int i) (.inl rfl) h1 h2
  | str z=>exact scal (.str z) (.inl rfl) h1 h2
  | tup ts=>
    obtain ⟨a,vs,rfl,ha,hr1⟩:=h1
    obtain ⟨b,us,rfl,hb,hr2⟩:=h2
    cases rx; cases ry
    have hd':1 + Tr.deps ts≤100:=hd
    obtain ⟨its,rv1,p1,_⟩:=I.tuple (SqT.of (K:=X.K) ha)
    obtain ⟨its2,rv2,p2,_⟩:=I.tuple (SqT.of (K:=X.K) hb)
    have l1:=rv1.length.symm.trans (Reps.len ts vs hr1)
    have l2:=rv2.length.symm.trans (Reps.len ts us hr2)
    have q2:=SeqAt.RcNeAt.tuples (A:=X.A) (s:=s) (e:=fun _=>true) p1 p2 (by omega) (fun j g1 g2=>reps_eq I ts X.A.in1 vs us its its2 (by show X.A.units + 1 + Tr.deps ts < cLine; omega) hr1 hr2 rv1 rv2 j (by simpa using g1) (by simpa using g2))
    have e:(!((List.range (min its.toArray.size its2.toArray.size)).all (fun _=>true) && its.toArray.size == its2.toArray.size)) = false:=by
      simp [l1,l2]
    rw [e] at q2
    exact q2 _ _ _ _ ⟨.bl _,H,I,rfl,q⟩
  | lst ts=>
    obtain ⟨a,vs,rfl,_,ha,hr1⟩:=h1
    obtain ⟨b,us,rfl,_,hb,hr2⟩:=h2
    cases rx; cases ry
    have hd':1 + Tr.deps ts≤100:=hd
    obtain ⟨its,rv1,p1,_⟩:=I.list (SqL.of (K:=X.K) ha)
    obtain ⟨its2,rv2,p2,_⟩:=I.list (SqL.of (K:=X.K) hb)
    have l1:=rv1.length.symm.trans (Reps.len ts vs hr1)
    have l2:=rv2.length.symm.trans (Reps.len ts us hr2)
    have q2:=SeqAt.RcNeAt.lists (A:=X.A) (s:=s) (e:=fun _=>true) p1.isList p2.isList (by simp [l1,l2]) (by omega) (fun j g1 g2=>reps_eq I ts X.A.in1 vs us its its2 (by show X.A.units + 1 + Tr.deps ts < cLine; omega) hr1 hr2 rv1 rv2 j (by simpa using g1) (by simpa using g2))
    have e:(!(List.range its.toArray.size).all (fun _=>true)) = false:=by simp
    rw [e] at q2
    exact q2 _ _ _ _ ⟨.bl _,H,I,rfl,q⟩
end
mutual
theorem Rep.mono {F G:Addr→Prop} {H:Hp} (h:∀ a,F a→G a):∀ (t:Tr) (v:V),Rep F H t v→Rep G H t v
  | .non,_,q=>q
  | .bl _,_,q=>q
  | .int _,_,q=>q
  | .str _,_,q=>q
  | .tup ts,_,⟨a,vs,e,ha,hr⟩=>⟨a,vs,e,ha,Reps.mono h ts vs hr⟩
  | .lst ts,_,⟨a,vs,e,fa,ha,hr⟩=>⟨a,vs,e,h a fa,ha,Reps.mono h ts vs hr⟩
theorem Reps.mono {F G:Addr→Prop} {H:Hp} (h:∀ a,F a→G a):∀ (ts:List Tr) (vs:List V),Reps F H ts vs→Reps G H ts vs
  | [],_,q=>q
  | t :: ts,_,⟨v,us,e,h1,h2⟩=>⟨v,us,e,Rep.mono h t v h1,Reps.mono h ts us h2⟩
end
mutual
theorem Rep.upd {F:Addr→Prop} {H:Hp} {l:Addr} {us us':List V} (hl:H l = some (.lst us)) (nl:¬ F l):∀ (t:Tr) (v:V),Rep F H t v→Rep F (upd H l (.lst us')) t v
  | .non,_,q=>q
  | .bl _,_,q=>q
  | .int _,_,q=>q
  | .str _,_,q=>q
  | .tup ts,_,⟨a,vs,e,ha,hr⟩=>⟨a,vs,e,by rw [upd_ne (ne_of ha hl (by intro z; cases z))]; exact ha,Reps.upd hl nl ts vs hr⟩
  | .lst ts,_,⟨a,vs,e,fa,ha,hr⟩=>⟨a,vs,e,fa,by rw [upd_ne (show a≠l from fun z=>nl (by rw [← z]; exact fa))]; exact ha,Reps.upd hl nl ts vs hr⟩
theorem Reps.upd {F:Addr→Prop} {H:Hp} {l:Addr} {us us':List V} (hl:H l = some (.lst us)) (nl:¬ F l):∀ (ts:List Tr) (vs:List V),Reps F H ts vs→Reps F (L2.upd H l (.lst us')) ts vs
  | [],_,q=>q
  | t :: ts,_,⟨v,ur,e,h1,h2⟩=>⟨v,ur,e,Rep.upd hl nl t v h1,Reps.upd hl nl ts ur h2⟩
end
def Tr.ty:Tr→String
  | .non=>"NoneType"
  | .bl _=>"bool"
  | .int _=>"int"
  | .str _=>"str"
  | .tup _=>"tuple"
  | .lst _=>"list"
theorem Rep.tyN {F:Addr→Prop} {H:Hp}:∀ {t:Tr} {v:V},Rep F H t v→L2.tyN H v = t.ty
  | .non,_,h=>by rw [show _ = V.non from h]; rfl
  | .bl _,_,h=>by rw [show _ = V.bl _ from h]; rfl
  | .int _,_,h=>by rw [show _ = V.int _ from h]; rfl
  | .str z,_,h=>by rw [show _ = V.str z from h]; rfl
  | .tup ts,_,⟨a,vs,e,ha,_⟩=>by rw [e]; simp only [L2.tyN,ha]; rfl
  | .lst ts,_,⟨a,vs,e,_,ha,_⟩=>by rw [e]; simp only [L2.tyN,ha]; rfl
theorem hu9_of {A:Around} {k:Nat} (hr:Room k A):A.units + 150 < cLine:=by have:=hr.un; omega
section
variable {σ:St} {H:Hp} {m k:Nat} {te:TE} {ta:TA}
theorem Reps.rep {F:Addr→Prop} {ts:List Tr} {vs:List V} (h:Reps F H ts vs):∀ n:Nat,Reps F H (List.replicate n ts).flatten (List.replicate n vs).flatten
  | 0=>rfl
  | n + 1=>by
    rw [List.replicate_succ,List.replicate_succ,List.flatten_cons,List.flatten_cons]
    exact Reps.append h (Reps.rep h n)
end
end L2
namespace L2
open PySem PySem.Spec PyProof.Rows
section
variable {X:Cx} {k:Nat} {x m:Str} {C:Addr} {ps:List Str} {sp:Sp} {e o:Expr} {es:List Expr} {t:TA} {ta:TE} {p apos pos:Pos}
end
end L2
namespace L2
open PySem PySem.Spec PyProof.Rows
section
variable {X:Cx} {els:List Expr} {kk:Nat} {pp:Pos}
end
end L2
namespace L2
open PySem PySem.Spec PyProof.Rows
section
variable {X:Cx} {tg:Expr}
end
end L2
namespace L2
open PySem PySem.Spec PyProof.Rows
section
variable {X:Cx}
structure M0 (X:Cx) (o:Expr) (m:Str) (apos cpos:Pos):Prop where
  base:attributeBase o m X.env (eval o X.env) = eval o X.env
  few:((backTo cpos (starEach [] X.env)).all (fun x=>!x.1) && (backToKw cpos (keywordEach [] X.env)).all (fun x=>x.1.isSome)
    && decide (([]:List Expr).length + ([]:List Keyword).length + (if ([]:List Keyword).isEmpty then 0 else 1) < 30)) = true
  line:(apos.endLine == cpos.line) = true
  trees:backTo cpos (starEach [] X.env) = []
end
theorem seq_mid {t u:TS} {D:Ends} {σ:St} {H:Hp} (M:St→Hp→Prop) (h1:∀ N:St→Hp→Prop,(∀ σ' H',M σ' H'→N σ' H')→t { D with nx:=N } σ H) (h2:∀ σ' H',M σ' H'→u D σ' H'):tSeq t u D σ H:=h1 (u D) h2
end L2
namespace L2
section
open PySem
open Sem (wp wp_bind' wp_mono)
def Fld2 (o:Obj):Prop:=∃ vs,o.data = .fields vs∧vs[2]? = some .none
def DictAt (h:Heap) (e:Addr) (d:Option Addr):Prop:=∃ o,h.objs[e]? = some o∧o.dict = d∧Fld2 o
def DK {α:Type} (t:Sem α):Prop:=∀ (M:Model) (Γ:Ctx) (Q:α→Pos→Shared→Prop) (E:Value→Pos→Shared→Prop) (p:Pos) (s:Shared) (e:Addr) (d:Option Addr),wp M Γ t Q E p s→DictAt s.heap e d→
  wp M Γ t (fun a p s'=>Q a p s'∧DictAt s'.heap e d) (fun v p s'=>E v p s'∧DictAt s'.heap e d) p s
variable {α β:Type}
theorem dk_pure (a:α):DK (pure a:Sem α):=fun _ _ _ _ _ _ _ _ h j=>⟨h,j⟩
theorem dk_unsup (w:String):DK (PySem.unsupported w:Sem α):=fun _ _ _ _ _ _ _ _ h _=>False.elim h
theorem dk_bind {m:Sem α} {f:α→Sem β} (h1:DK m) (h2:∀ a,DK (f a)):DK (m >>= f):=by
  intro M Γ Q E p s e d h j
  rw [wp_bind'] at h ⊢
  exact wp_mono M Γ m (fun a p' s' q=>h2 a M Γ Q E p' s' e d q.1 q.2) (fun _ _ _ q=>q) p s (h1 M Γ _ E p s e d h j)
theorem dk_load (a:Addr):DK (load a):=fun M Γ Q E p s e d ⟨o,q,h⟩ j=>⟨o,q,h,j⟩
theorem dk_stack:DK stack:=fun M Γ Q E p s e d h j=>⟨h,j⟩
theorem dk_alloc (o:Obj):DK (alloc o):=fun M Γ Q E p s e d h ⟨o1,q,hd⟩=>⟨h,o1,by
  show (s.heap.objs.push o)[e]? = some o1
  have hlt:e < s.heap.objs.size:=(Array.getElem?_eq_some_iff.mp q).1
  rw [Array.getElem?_push,if_neg (Nat.ne_of_lt hlt)]
  exact q,hd⟩
theorem dk_update (a:Addr) {f:Obj→Obj} (hf:∀ o,(f o).dict = o.dict∧(Fld2 o→Fld2 (f o))):DK (update a f):=fun M Γ Q E p s e d ⟨q0,h⟩ ⟨o1,q,hd,h2⟩=>⟨q0,h,by
  by_cases ea:a = e
  · subst ea
    refine ⟨f o1,?_,by rw [(hf o1).1]; exact hd,(hf o1).2 h2⟩
    show (s.heap.objs.modify a f)[a]? = some (f o1)
    rw [Array.getElem?_modify,if_pos rfl,q]; rfl
  · refine ⟨o1,?_,hd,h2⟩
    show (s.heap.objs.modify a f)[e]? = some o1
    rw [Array.getElem?_modify,if_neg ea]
    exact q⟩
theorem dk_ite {c:Prop} [Decidable c] {t u:Sem α} (h1:DK t) (h2:DK u):DK (if c then t else u):=by
  split
  · exact h1
  · exact h2
theorem dict_mapFields {i:Nat} (hi:i≠2) (x:Value) (o:Obj):(Obj.mapFields (·.setIfInBounds i x) o).dict = o.dict∧(Fld2 o→Fld2 (Obj.mapFields (·.setIfInBounds i x) o)):=by
  constructor
  · unfold Obj.mapFields
    split <;> rfl
  · rintro ⟨vs,h1,h2⟩
    obtain ⟨c,d,dt,sl⟩:=o
    dsimp only at h1
    subst h1
    exact ⟨_,rfl,by rw [Array.getElem?_setIfInBounds_ne hi]; exact h2⟩
theorem dk_fieldsOf (v:Value):DK (fieldsOf v):=by
  unfold fieldsOf
  split
  · refine dk_bind (dk_load _) fun o=>?_
    split
    · exact dk_pure _
    · exact dk_unsup _
  · exact dk_unsup _
theorem dk_field (v:Value) (i:Nat):DK (field v i):=by
  unfold field
  refine dk_bind (dk_fieldsOf v) fun vs=>?_
  split
  · exact dk_pure _
  · exact dk_unsup _
theorem dk_setField (v:Value) {i:Nat} (hi:i≠2) (x:Value):DK (setField v i x):=by
  unfold setField updateField
  split
  · refine dk_bind (dk_load _) fun o=>?_
    split
    · exact dk_ite (dk_update _ (dict_mapFields hi x)) (dk_unsup _)
    · exact dk_unsup _
  · exact dk_unsup _
theorem dk_newFields (ty:String) (vs:List Value):DK (newFields ty vs):=by
  unfold newFields newObj newObjAsIs
  dsimp only
  split
  · exact dk_bind (dk_unsup _) fun _=>dk_bind (dk_alloc _) fun _=>dk_pure _
  · exact dk_bind (dk_alloc _) fun _=>dk_pure _
theorem dk_newEntry (a b c d e:Value) (l:List Value):DK (EntryCells.newEntry a b c d e l):=dk_newFields _ _
theorem dk_frameEnvs:DK frameEnvs:=dk_bind dk_stack fun _=>dk_pure _
theorem dk_isImport (env:Env) (outer:List Env):DK (behindIsImport env outer):=by
  unfold behindIsImport
  refine dk_ite (dk_pure _) ?_
  refine dk_ite (dk_pure _) ?_
  exact dk_bind (dk_field _ _) fun _=>dk_pure _
theorem dk_keptBack (env:Env) (i:Bool) (outer:List Env):DK (keptBack env i outer):=by
  unfold keptBack
  split
  · refine dk_ite (dk_pure _) ?_
    refine dk_bind (dk_bind dk_stack fun _=>dk_pure _) fun _=>dk_pure _
  · exact dk_pure _
theorem dk_ready:∀ l:List Env,DK (readyFrames l)
  | []=>dk_pure _
  | env :: outer=>by
    unfold readyFrames
    split
    · refine dk_bind (dk_load _) fun o=>?_
      refine dk_ite (dk_pure _) ?_
      refine dk_bind (dk_isImport _ _) fun _=>dk_bind (dk_keptBack _ _ _) fun _=>dk_bind (dk_update _ fun _=>⟨rfl,fun h=>h⟩) fun _=>dk_ready outer
    · exact dk_unsup _
theorem dk_frameOf (env:Env):DK (frameOf env):=by
  unfold frameOf
  refine dk_bind dk_frameEnvs fun l=>?_
  refine dk_bind ?_ fun r=>?_
  · unfold frameObject
    split
    · exact dk_pure _
    · exact dk_bind (dk_ready _) fun _=>dk_pure _
  · split
    · exact dk_pure _
    · exact dk_unsup _
theorem dk_entryPlace (f:Addr) (b:Bool):DK (entryPlaceOf f b):=by
  unfold entryPlaceOf
  refine dk_bind dk_stack fun l=>?_
  split <;> exact dk_pure _
theorem dk_setFlight (e:Value) (f:Option Addr):DK (setFlight e f):=by
  unfold setFlight
  exact dk_bind (dk_field _ _) fun _=>dk_ite (dk_setField _ (by decide) _) (dk_pure _)
theorem dk_noteFrame (e:Value) (env:Env):DK (noteFrame e env):=by
  unfold noteFrame
  split
  · rename_i fa _
    refine dk_bind (dk_field _ _) fun head=>?_
    have rest:DK (do setField e 1 (← EntryCells.newEntry head (← frameOf env) .none (rawInt fa) .none (← entryPlaceOf fa (head != .none)))):=
      dk_bind (dk_frameOf _) fun _=>dk_bind (dk_entryPlace _ _) fun _=>dk_bind (dk_newEntry _ _ _ _ _ _) fun _=>dk_setField _ (by decide) _
    refine dk_ite ?_ rest
    refine dk_bind (dk_field _ _) fun _=>?_
    refine dk_ite (dk_pure _) ?_
    exact dk_bind (dk_setField _ (by decide) _) fun _=>rest
  · exact dk_unsup _
theorem dk_leaving (env:Env) (e:Value):DK (leaving env e):=dk_bind (dk_noteFrame _ _) fun _=>dk_setFlight _ _
theorem DK.also {t:Sem α} (k:DK t) {M:Model} {A:Around} {Q:α→Shared→Prop} {E:Value→Shared→Prop} {s:Shared} {e:Addr} {d:Option Addr} (j:DictAt s.heap e d) (h:wpAny M A t (fun a s'=>DictAt s'.heap e d→Q a s') E s):wpAny M A t Q E s:=fun Γ p hΓ=>
  wp_mono M Γ t (fun _ _ _ q=>q.1 q.2) (fun _ _ _ q=>q.1) p s (k M Γ _ _ p s e d (h Γ p hΓ) j)
theorem dk_throw (v:Value):DK (throw v:Sem α):=fun _ _ _ _ _ _ _ _ h j=>⟨h,j⟩
theorem dk_passOn (what:String) (e:Value) (env:Env):DK (passOn what e env:Sem α):=by
  unfold passOn
  refine dk_bind (dk_field _ _) fun _=>?_
  refine dk_ite (dk_bind (dk_unsup _) fun _=>?_) ?_
  · exact dk_bind (dk_setFlight _ _) fun _=>dk_throw _
  · exact dk_bind (dk_setFlight _ _) fun _=>dk_throw _
theorem DK.alsoE {t:Sem α} (k:DK t) {M:Model} {A:Around} {Q:α→Shared→Prop} {E:Value→Shared→Prop} {s:Shared} {e:Addr} {d:Option Addr} (j:DictAt s.heap e d) (h:wpAny M A t Q (fun v s'=>DictAt s'.heap e d→E v s') s):wpAny M A t Q E s:=fun Γ p hΓ=>
  wp_mono M Γ t (fun _ _ _ q=>q.1) (fun _ _ _ q=>q.1 q.2) p s (k M Γ _ _ p s e d (h Γ p hΓ) j)
theorem dict_of {h:Heap} {e:Addr} {o:Obj} (q:h.get? e = some o) (f:Fld2 o):DictAt h e o.dict:=by
  unfold Heap.get? at q
  split at q
  · cases q
  · exact ⟨o,q,rfl,f⟩
theorem DictAt.get {h:Heap} {e:Addr} {d:Option Addr} {o:Obj} (j:DictAt h e d) (q:h.get? e = some o):o.dict = d∧Fld2 o:=by
  obtain ⟨o1,e1,h1⟩:=j
  unfold Heap.get? at q
  rw [e1] at q
  split at q
  · cases q
  · cases q; exact h1
end
end L2
namespace L2
open PySem PySem.Spec PyProof.Rows
theorem ObjOk.get {P:Program} {w:World} {H:Hp} {h:Heap} {a:Addr} {o:HO} (x:ObjOk P w H h a o):∃ ob,h.get? a = some ob:=by
  cases o with
  | lst xs=>obtain ⟨_,_,_,_,e⟩:=x; exact ⟨_,e⟩
  | tup xs=>obtain ⟨_,_,_,ob,e,_⟩:=x; exact ⟨_,e⟩
  | dK kvs=>obtain ⟨_,_,_,_,o,_,_,e,_⟩:=x; exact ⟨_,e⟩
  | dT kvs=>obtain ⟨_,_,_,_,o,_,_,e,_⟩:=x; exact ⟨_,e⟩
  | set S n=>obtain ⟨o,_,_,_,e,_⟩:=x; exact ⟨_,e⟩
  | ins C dx fs=>obtain ⟨_,_,_,e,_⟩:=x; exact ⟨_,e⟩
  | own y=>obtain ⟨_,e⟩:=x; exact ⟨_,e⟩
  | xd fs=>obtain ⟨_,⟨_,_,_,e,_⟩,_⟩:=x; exact ⟨_,e⟩
  | rng lo hi=>obtain ⟨_,_,_,e⟩:=x; exact ⟨_,e⟩
  | frz ob u=>obtain ⟨e,_⟩:=x; exact ⟨_,e⟩
  | tbl ps=>exact ⟨_,x⟩
  | met f y=>exact ⟨_,x⟩
  | ext φ=>obtain ⟨_,e,_⟩:=x; exact e
structure Fly (P:Program) (w:World) (outer:List Env) (H:Hp) (s:Shared) (ea:Addr) (cls:Value) (H':Hp) (B:Heap) (a0:Value) (s':Shared):Prop where
  os:s'.os = s.os
  bare:AllBare s'.gens
  un:Un (frs outer) [] H H' s.heap s'.heap
  hok:HOk P w H' B
  fl:Heap.FlyingW B outer ea cls a0 s'.heap
  kp:∀ b o,s.heap.get? b = some o→H b = none→b ∉ frs outer→B.get? b = some o
  th:∀ b o,s.heap.get? b = some o→b ∉ frs outer→∃ o',B.get? b = some o'
  dj:∃ d,DictAt s'.heap ea d
def CXd (P:Program) (w:World):CXT:=fun outer H s E e s'=>∃ (ea:Addr) (cls:Value) (H':Hp) (B:Heap) (a0:Value),e = .ref ea∧Fly P w outer H s ea cls H' B a0 s'∧E cls none H'
section
variable {P:Program} {w:World} {outer:List Env} {H H':Hp} {s s':Shared} {ea:Addr} {cls a0:Value} {B h' base:Heap}
theorem Fly.stay (F:Fly P w outer H s ea cls H' B a0 s') (hl:s.heap.FunFrames base outer) (hn:∀ b∈frs outer,H b = none) (sB:B.StaysIn h') (up:s'.heap.UpToSlots h'):Un (frs outer) [] H H' s.heap h':=by
  have sl:∀ b o,s.heap.get? b = some o→b∈frs outer→∃ sl,h'.get? b = some { o with slots:=sl }:=fun b o q hb=>by
    obtain ⟨z,e⟩:=F.un.slot b o q (hn b hb) hb (by simp)
    obtain ⟨_,o',ho',hd⟩:=hl.mem hb
    rw [q] at ho'
    cases ho'
    exact up b { o with slots:=z } e hd
  refine ⟨fun b o q n hb _=>sB b o (F.kp b o q n hb),fun b o q _ hb _=>sl b o q hb,F.un.free,fun b o q _=>?_,F.un.tups,F.un.frzs,F.un.tbls⟩
  by_cases hb:b∈frs outer
  · obtain ⟨z,e⟩:=sl b o q hb
    exact ⟨_,e⟩
  · obtain ⟨o',e⟩:=F.th b o q hb
    exact ⟨o',sB b o' e⟩
theorem Fly.free (F:Fly P w outer H s ea cls H' B a0 s'):H' ea = none:=by
  cases e:H' ea with
  | none=>rfl
  | some u=>
    obtain ⟨ob,q⟩:=(F.hok ea u e).get
    rw [F.fl.2.1] at q
    cases q
end
section
variable {X:Cx} {pins:List (Addr×Obj)} {σ:St} {H H':Hp} {s s':Shared} {ea:Addr} {cls a0:Value} {B h':Heap}
theorem Inv.landed (I:Inv X pins σ H s) (F:Fly X.prog X.w X.stack H s ea cls H' B a0 s') (sB:B.StaysIn h') (up:s'.heap.UpToSlots h'):Inv X pins σ H' { s' with heap:=h' }:=
  I.call' (s':={ s' with heap:=h' }) (ch:=[]) F.os (F.stay I.stack I.stkFree sB up) (F.hok.kept sB) F.bare (fun b z=>nomatch z)
theorem Inv.hid (I:Inv X pins σ H s):HOk X.prog X.w H (PySem.W.hideAll s.heap (frs X.stack)):=fun b u e=>by
  refine (I.hok b u e).stay (fun c v hc q=>PySem.W.hideAll_get _ q fun z=>?_) (fun _ q=>q) fun _ _ q=>q
  have:=I.stkFree c z
  rcases hc with rfl | hc
  · rw [e] at this; cases this
  · rw [hc] at this; cases this
theorem Inv.hidFrames (I:Inv X pins σ H s):s.heap.FunFrames (PySem.W.hideAll s.heap (frs X.stack)) X.stack:=
  PySem.W.funFrames_hide I.stack fun env he a ha=>List.mem_filterMap.mpr ⟨env,he,ha⟩
theorem Inv.made1 {h1:Heap} {vs:List Value} {l:List Env} {t':Nat} (I:Inv X pins σ H s) (hx:Heap.MadeExcOf s.heap h1 ea cls vs) (fl:Heap.FlyingW (PySem.W.hideAll s.heap (frs X.stack)) l ea cls a0 h') (up:h1.UpToSlots h') :
    Un (frs X.stack) [] H H s.heap h':=by
  have sl:∀ b o,s.heap.get? b = some o→b∈frs X.stack→∃ sl,h'.get? b = some { o with slots:=sl }:=fun b o q hb=>by
    obtain ⟨_,o',ho',hd⟩:=I.stack.mem hb
    rw [q] at ho'
    cases ho'
    exact up b _ (hx.keeps b o q) hd
  refine ⟨fun b o q _ hb _=>fl.1 b o (PySem.W.hideAll_get _ q hb),fun b o q _ hb _=>sl b o q hb,fun b o _ n _=>n,fun b o q _=>?_,fun _ _ e=>e,fun _ _ _ e=>e,fun b ps e=>⟨#[],by rw [e]; simp⟩⟩
  by_cases hb:b∈frs X.stack
  · obtain ⟨z,e⟩:=sl b o q hb
    exact ⟨_,e⟩
  · exact ⟨o,fl.1 b o (PySem.W.hideAll_get _ q hb)⟩
end
def RUp (X:Cx) (E:XK):Prop:=∀ (pins:List (Addr×Obj)) (σ:St) (H:Hp) (s:Shared) (cls:Value) (h1:Heap) (ea:Addr) (vs:List Value),Inv X pins σ H s→Heap.MadeExcOf s.heap h1 ea cls vs→E cls none H→X.xe (.ref ea) { s with heap:=h1 }
section
variable {P:Program} {w:World} {K:PySem.W.Frag} {mg:Str→Option Value} {base:Heap} {N:List Str} {qual:Str} {scope:Scope} {f:Addr} {cd:Value} {A:Around} {outer:List Env} {s:Shared} {H:Hp} {E:XK}
theorem apart_up {pins:List (Addr×Obj)} {σ:St} {H1:Hp} {s1:Shared} (I:Inv (cxOf (CXd P w) P w K mg base N qual scope f cd A outer s H E) pins σ H1 s1) {b:Addr} {o:Obj} (q:s.heap.get? b = some o) (hb:b ∉ frs outer) :
    b ∉ frs (envOfC qual scope s.heap.objs.size f cd :: outer):=fun z=>by
  rcases List.mem_cons.mp (I.stkSub b z) with e | e
  · have h1:s.heap.objs.size≤b:=by rw [e]; exact I.ok.above
    exact absurd (Nat.lt_of_lt_of_le (Heap.lt_size q) h1) (Nat.lt_irrefl _)
  · exact hb e
theorem pass_up:Passes (CXd P w) (cxOf (CXd P w) P w K mg base N qual scope f cd A outer s H E) E:=by
  intro pins σ H1 s1 e s2 I h
  obtain ⟨ea,cls,H',B,a0,rfl,F,q⟩:=h
  have hfr:=I.ok.frames
  obtain ⟨d,dj⟩:=F.dj
  refine (dk_leaving _ _).also dj (wpAny_leaves_onW (L:=s.heap.objs.size) hfr rfl F.fl fun h' fl' up dj'=>?_)
  have un:=F.stay I.stack I.stkFree fl'.1 up
  have J:=I.call' (s':={ s2 with heap:=h' }) (ch:=[]) F.os un (F.hok.kept fl'.1) F.bare (fun b z=>nomatch z)
  refine ⟨ea,cls,H',B,a0,rfl,⟨J.os,F.bare,J.base,F.hok,fl',fun b o e n hb=>?_,fun b o e hb=>?_,⟨d,dj'⟩⟩,q⟩
  · exact F.kp b o (I.base.keep b o e n hb (by intro z; cases z)) (I.base.free b o e n (by intro z; cases z)) (apart_up I e hb)
  · obtain ⟨o1,e1⟩:=I.base.there b o e (by intro z; cases z)
    exact F.th b o1 e1 (apart_up I e hb)
theorem raise_up:RUp (cxOf (CXd P w) P w K mg base N qual scope f cd A outer s H E) E:=by
  intro pins σ H1 s1 cls h1 ea vs I hx q
  have hfr:=I.ok.frames
  obtain ⟨t0,ob,_⟩:=hx.there
  refine (dk_leaving _ _).also (s:={ s1 with heap:=h1 }) (dict_of ob ⟨_,rfl,rfl⟩) (wpAny_leaves_madeW (base:=PySem.W.hideAll s1.heap (frs (envOfC qual scope s.heap.objs.size f cd :: outer))) (h:=s1.heap) (L:=s.heap.objs.size) hfr rfl (fun b o e=>PySem.W.of_hideAll _ e) I.hidFrames hx fun h' t fl' _ _ up dj'=>?_)
  have un:=I.made1 (t':=s1.toks) hx fl' up
  have J:=I.call' (s':={ s1 with heap:=h' }) (ch:=[]) rfl un (I.hid.kept fl'.1) I.bare (fun b z=>nomatch z)
  refine ⟨ea,cls,H1,_,_,rfl,⟨J.os,I.bare,J.base,I.hid,fl',fun b o e n hb=>?_,fun b o e hb=>?_,⟨_,dj'⟩⟩,q⟩
  · exact PySem.W.hideAll_get _ (I.base.keep b o e n hb (by intro z; cases z)) (apart_up I e hb)
  · obtain ⟨o1,e1⟩:=I.base.there b o e (by intro z; cases z)
    exact ⟨o1,PySem.W.hideAll_get _ e1 (apart_up I e hb)⟩
end
abbrev bmVE:List Value:=[.type "ValueError",.type "Exception",.type "BaseException",.type "object"]
theorem exc_obj {K:PySem.W.Frag} {h:Heap} {C:Addr} (Kh:K.In h) (q:PySem.W.excIn K C bmVE "ValueError.__new__" = true) :
    ∃ bm N nm qn bs hd sn sub ab col dd k0 k1 k2 k3 k5 mN,h.get? C = some (excClassObj nm qn C N bs bm hd sn sub ab col dd k0 k1 k2 k3 k5 "ValueError.__new__")∧h.Ns N mN∧mN "__init__" = none∧OwnTail h bmVE bm:=by
  unfold PySem.W.excIn at q
  split at q
  · rename_i dx ck slots found
    split at q
    · rename_i C0 tl p0 p1 p2 p3 made p5 em es
      rw [Bool.and_eq_true,Bool.and_eq_true,Bool.and_eq_true,Bool.and_eq_true,Bool.and_eq_true] at q
      obtain ⟨⟨⟨⟨⟨z1,z2⟩,z3⟩,z4⟩,z5⟩,z6⟩:=q
      have y1:C0 = C:=beq_iff_eq.mp z1
      have y2:made = "ValueError.__new__":=beq_iff_eq.mp z2
      have y3:ck.hasDel = false:=by simpa using z3
      subst y1 y2
      obtain ⟨nm,bs,mro,ns,qn,hd,sn,sub,ab,col,del⟩:=ck
      simp only at em y3 z5 z6
      subst em y3
      have es':slots = #[p0,p1,p2,p3,some (.builtin "ValueError.__new__"),p5]:=by
        obtain ⟨l⟩:=slots
        simp only at es
        rw [es]
      subst es'
      exact ⟨tl,ns,nm,qn,bs,hd,sn,sub,ab,col,dx,p0,p1,p2,p3,p5,_,Kh _ _ found,.of_isNs (PySem.W.isNs_of_in Kh z5),PySem.W.nsMap_none_of_in Kh z5 (beq_iff_eq.mp z6),PySem.W.tail_of_in Kh z4⟩
    · cases q
  · cases q
section
variable {X:Cx} {E:XK} {x:Str} {C:Addr} {np cpos pos:Pos}
theorem ps_raise0 (R:RUp X E) (hc:X.calm = true) (hm:X.mg x = some (.ref C)) (hq:PySem.W.excIn X.K C bmVE "ValueError.__new__" = true) (hg:Gl X x) (hd:(x == ("__debug__":Str)) = false:=by decide) :
    PS X (.Raise (some (.Call (.Name x np) [] [] cpos)) none pos) (fun _ _ H=>E (.ref C) none H):=by
  intro pins s σ H D I h
  obtain ⟨tl,N,nm,q,bs,hdct,sn,sub,ab,col,dd,k0,k1,k2,k3,k5,mN,hC,hN,hni,T⟩:=exc_obj I.kIn hq
  refine wpAny_Raise_call_subT (C:=C) (nm:=nm) (q:=q) (N:=N) (bs:=bs) (bm:=tl) (hdct:=hdct) (sn:=sn) (sub:=sub) (ab:=ab) (col:=col) (dd:=dd) (k0:=k0) (k1:=k1) (k2:=k2) (k3:=k3) (k5:=k5)
    PySem.F.excBase_ValueError (mN:=mN) (T.hasType PySem.F.excBase_ValueError.hasBase) (I.ok.hd hc) rfl hni (ld_glob I hg hm ⟨rfl,?_⟩ hd)
  exact evalArgs_empty ⟨rfl,Nat.zero_le _,hC,hN,T,fun h' e hx=>R pins σ H s (.ref C) h' e [] I hx h⟩
end
abbrev XS:=Value→St→Hp→Prop
abbrev TX:=Ends→XS→St→Hp→Prop
def XP (X:Cx) (pins:List (Addr×Obj)) (Ex:XS) (e:Value) (s':Shared):Prop:=
  ∃ (ea:Addr) (cls:Value) (σ':St) (H1 H':Hp) (s1:Shared) (B:Heap) (a0:Value),e = .ref ea∧Inv X pins σ' H1 s1∧Fly X.prog X.w X.stack H1 s1 ea cls H' B a0 s'∧Ex cls σ' H'
def PX (X:Cx) (st:Stmt) (t:TX):Prop:=
  ∀ (pins:List (Addr×Obj)) (s:Shared) (σ:St) (H:Hp) (D:Ends) (Ex:XS),Inv X pins σ H s→t D Ex σ H→wpAny (model X.prog X.w) X.A (exec st X.env) (SP X pins D) (XP X pins Ex) s
def PXs (X:Cx) (st:List Stmt) (t:TX):Prop:=
  ∀ (pins:List (Addr×Obj)) (s:Shared) (σ:St) (H:Hp) (D:Ends) (Ex:XS),Inv X pins σ H s→t D Ex σ H→wpAny (model X.prog X.w) X.A (execs st X.env) (SP X pins D) (XP X pins Ex) s
def PEX (X:Cx) (e:Expr) (t:(Value→Hp→Prop)→TE):Prop:=
  ∀ (pins:List (Addr×Obj)) (s:Shared) (σ:St) (H:Hp) (Q:VK) (Ex:Value→Hp→Prop),Inv X pins σ H s→t Ex σ H Q→wpAny (model X.prog X.w) X.A (eval e X.env) (EP X pins σ Q) (XP X pins fun cls σ' H'=>σ' = σ∧Ex cls H') s
section
variable {X:Cx} {st:Stmt} {rest:List Stmt} {e:Expr} {pos:Pos}
theorem pxs_one {t:TX} (h1:PX X st t):PXs X [st] t:=by
  intro pins s σ H D Ex I h
  refine wpAny_execs_cons (thn (h1 pins s σ H D Ex I h) fun f s1 q=>?_)
  cases f with
  | next=>exact wpAny_execs_nil q
  | ret v=>exact q
  | brk=>exact q
  | cont=>exact q
theorem xp_of {pins:List (Addr×Obj)} {σ:St} {Ex:XS} {v:Value} {s:Shared} (h:XP X pins (fun cls σ' H'=>σ' = σ∧Ex cls σ H') v s):XP X pins Ex v s:=by
  obtain ⟨ea,cls,σ',H1,H',s1,B,a0,h1,h2,h3,h4,h5⟩:=h
  subst h4
  exact ⟨ea,cls,_,H1,H',s1,B,a0,h1,h2,h3,h5⟩
def xSet (i:Nat) (te:(Value→Hp→Prop)→TE):TX:=fun D Ex σ H=>te (fun cls H'=>Ex cls σ H') σ H fun x H1=>D.nx (σ.set i (some x)) H1
theorem px_set {i:Nat} {x:Str} {te:(Value→Hp→Prop)→TE} {pos':Pos} (hN:X.N.Nodup) (hi:X.N[i]? = some x) (hx:Loc X.env.scope x) (he:PEX X e te) (hs:swapsWith e (some (.Name x pos')) pos.line X.env = pure false:=by rfl)
    (hf:X.fn x = true∨X.env.scope.names.lookup x = some .local:=by first | exact .inl rfl | exact .inr rfl | assumption):PX X (.Assign [.Name x pos'] e pos) (xSet i te):=by
  intro pins s σ H D Ex I h
  refine wpAny_Assign_Name (wpAny_mono (he pins s σ H _ _ I h) (fun v s1 ⟨y,H1,I1,r1,q1⟩=>?_) fun _ _ z=>xp_of z) hs
  exact store_ok I1 hN hi hx r1 (fun s2 I2=>⟨_,H1,I2,q1⟩) hf
end
def DefX (P:Program) (w:World) (K:PySem.W.Frag) (mg:Str→Option Value) (base:Heap) (k:Nat) (x:Str) (ps:List Str) (sp:Sp):Prop:=
  ∃ (f:Addr) (fd:FuncData),FnOk P w K mg base (CXd P w) k f fd ps sp∧mg x = some (.ref f)∧PySem.W.keepIn K (.ref f) = true∧Binds K fd ps []
theorem Fun.okX {P:Program} {w:World} {K:PySem.W.Frag} {mg:Str→Option Value} {base:Heap} {x qual:Str} {st:Stmt} {f:Addr} {fd:FuncData} {N ps:List Str} {k:Nat} {sp:Sp} (F:Fun K x qual st f fd) (S:FnScope N ps (defScope st)) (len:∀ vs H Q E,sp vs H Q E→vs.length = ps.length)
    (hbody:∀ (cdv:Value) (A:Around) (outer:List Env) (s:Shared) (H:Hp) (vs:List V) (Q:VK) (E:XK),Room k (A.deeper (envOfC qual (defScope st) s.heap.objs.size f cdv))→sp vs H Q E→
      ∃ t,PSs (cxOf (CXd P w) P w K mg base N qual (defScope st) f cdv A outer s H E) (defBody st) t∧t { nx:=fun _ H'=>Q .non H',rt:=Q } (start N vs) H):FnOk P w K mg base (CXd P w) (k + 1) f fd ps sp:=by
  obtain ⟨oc,od,kV,doc,pm,an,cdv,ct,osl,rfl,lk,hcd⟩:=F.ex
  exact fn_of lk hcd S len fun A outer s H vs Q E hr hsp=>hbody cdv A outer s H vs Q E hr hsp
section
variable {X:Cx} {k:Nat} {x m:Str} {C:Addr} {ps:List Str} {sp:Sp} {E:XK} {e o:Expr} {es:List Expr} {t:TA} {ta:TE} {p pos apos:Pos}
theorem pe_fnX (D:DefX X.prog X.w X.K X.mg X.base k x ps sp) (hr:Room k X.A) (hg:Gl X x) (hx:Passes (CXd X.prog X.w) X E) (ha:PA X (e :: es) t)
    (hdb:(x == ("__debug__":Str)) = false:=by decide) (he:starEach (e :: es) X.env = (false,eval e X.env) :: starEach es X.env:=by rfl) (hpl:(backTo pos (starEach es X.env)).any (·.1) = false:=by rfl) :
    PE X (.Call (.Name x p) (e :: es) [] pos) (tCall sp [] E t):=by
  obtain ⟨f,fd,F,hm,hk,hb⟩:=D
  exact pe_call F hr hg hm hk hb .nil hx ha hdb he hpl
theorem run_fnX {CX:CXT} {f:Addr} {fd:FuncData} {pins:List (Addr×Obj)} {σ:St} {H:Hp} {s:Shared} {Q:VK} {us:List Value} {vs:List V} {Ex:Value→Hp→Prop} (F:FnOk X.prog X.w X.K X.mg X.base (CXd X.prog X.w) k f fd ps sp) (hr:Room k X.A) (hb:Binds X.K fd ps [])
    (I:Inv X pins σ H s) (r:Vals vs us) (h:sp (vs ++ []) H Q fun cls _ H'=>Ex cls H'):wpAny (model X.prog X.w) X.A (call (.ref f) us) (EP X pins σ Q) (XP X pins fun cls σ' H'=>σ' = σ∧Ex cls H') s:=by
  rw [List.append_nil] at h
  have hl:us.length = ps.length:=by rw [← r.length]; exact F.len _ _ _ _ h
  have hb':=hb s us I.kIn (by rw [List.append_nil]; exact hl)
  rw [List.append_nil] at hb'
  refine wpAny_call (codeAny_mono (F.run X.A X.stack s H ⟨us,[]⟩ us vs Q _ hr I.env0 hb' r h) fun r s' hq=>?_)
  cases r with
  | error e=>
    obtain ⟨ea,cls,H',B,a0,he,Fl,q⟩:=hq
    exact ⟨ea,cls,σ,H,H',s,B,a0,he,I,Fl,rfl,q⟩
  | ok fl=>
    cases fl with
    | ret u=>exact I.after hq
    | next=>exact False.elim hq
    | brk=>exact False.elim hq
    | cont=>exact False.elim hq
theorem pex_fn (D:DefX X.prog X.w X.K X.mg X.base k x ps sp) (hr:Room k X.A) (hg:Gl X x) (ha:PA X.nox (e :: es) t)
    (hdb:(x == ("__debug__":Str)) = false:=by decide) (he:starEach (e :: es) X.env = (false,eval e X.env) :: starEach es X.env:=by rfl) (hpl:(backTo pos (starEach es X.env)).any (·.1) = false:=by rfl) :
    PEX X (.Call (.Name x p) (e :: es) [] pos) (fun Ex=>tCall sp [] (fun cls _ H'=>Ex cls H') t):=by
  obtain ⟨f,fd,F,hm,hk,hb⟩:=D
  intro pins s σ H Q Ex I h
  refine wpAny_Call_Name_kw (ld_glob I hg hm ?_ hdb)
  refine PySem.W.callWith_K (h₀:=X.base) I.ok.mod.kin hk (wpAny_mono (ha pos pins s σ H _ (I.wish _) h) (fun us s1 ⟨vs,H1,I1,r,q⟩=>⟨I1.kIn,?_⟩) fun _ _ z=>False.elim z) he hpl
  exact run_fnX (CX:=CXd X.prog X.w) F hr hb I1.unwish r q
end
def Cx.held (X:Cx) (e:Value):Cx:={ X with A:=X.A.mark (some e),calm:=false,xe:=fun _ _=>False }
section
variable {X:Cx} {pins:List (Addr×Obj)} {σ:St} {H:Hp} {s:Shared} {e:Value}
theorem Inv.held (I:Inv X pins σ H s) (e:Value):Inv (X.held e) pins σ H s:=
  ⟨⟨I.ok.mod,I.ok.kind,I.ok.glob,I.ok.blt,I.ok.above,I.ok.inj,I.ok.has,I.ok.cab,(fun z=>nomatch z),I.ok.frames,I.ok.stk,I.ok.exf,I.ok.bs,I.ok.bsz,I.ok.noex,I.ok.exfs,I.ok.funs,I.ok.frf⟩,I.os,I.bare,I.base,I.loc,I.cell,I.free,I.freeC,I.pin,I.hok,I.len⟩
theorem Inv.unheld (J:Inv X pins σ H s) {σ':St} {H':Hp} {s':Shared} (I:Inv (X.held e) pins σ' H' s'):Inv X pins σ' H' s':=
  ⟨J.ok,I.os,I.bare,I.base,I.loc,I.cell,I.free,I.freeC,I.pin,I.hok,I.len⟩
theorem SP.unheld (J:Inv X pins σ H s) {D:Ends} {f:Flow} {s':Shared} (h:SP (X.held e) pins D f s'):SP X pins D f s':=by
  cases f with
  | next=>obtain ⟨σ',H',I,q⟩:=h; exact ⟨σ',H',J.unheld I,q⟩
  | brk=>obtain ⟨σ',H',I,q⟩:=h; exact ⟨σ',H',J.unheld I,q⟩
  | cont=>obtain ⟨σ',H',I,q⟩:=h; exact ⟨σ',H',J.unheld I,q⟩
  | ret u=>obtain ⟨v,σ',H',I,r,q⟩:=h; exact ⟨v,σ',H',J.unheld I,r,q⟩
end
section
variable {X:Cx} {x:Str} {c:Value} {body orelse suite:List Stmt} {b₀:Stmt} {np hpos pos:Pos}
end
end L2
namespace L2
open PySem PySem.Spec PyProof.Rows
section
variable {X:Cx}
end
theorem deps_map {α:Type} {f:α→Tr} {m:Nat}:∀ {xs:List α},(∀ x∈xs,(f x).dep≤m)→Tr.deps (xs.map f)≤m
  | [],_=>Nat.zero_le _
  | x :: xs,h=>Nat.max_le.mpr ⟨h x List.mem_cons_self,deps_map fun y hy=>h y (List.mem_cons_of_mem _ hy)⟩
theorem reps_of {F:Addr→Prop} {H:Hp}:∀ {ts:List Tr} {vs:List V},vs.length = ts.length→(∀ (i:Nat) t v,ts[i]? = some t→vs[i]? = some v→Rep F H t v)→Reps F H ts vs
  | [],[],_,_=>rfl
  | [],_ :: _,h,_=>by simp at h
  | _ :: _,[],h,_=>by simp at h
  | t :: ts,v :: vs,h,k=>⟨v,vs,rfl,k 0 t v rfl rfl,reps_of (by simpa using h) fun i t' v' h1 h2=>k (i + 1) t' v' (by simpa using h1) (by simpa using h2)⟩
end L2
namespace L2
open PySem PySem.Spec PyProof.Rows
section
variable {X:Cx}
end
end L2
namespace L2
open PySem PySem.Spec PyProof.Rows
section
variable {prog:Program} {w:World} {A:Around} {E:Value→Shared→Prop} {s:Shared} {it t:Addr} {i:Nat} {its:Array Value} {Q:Value→Shared→Prop}
theorem tupIt_ask (a:s.heap.IsTupleIter it t i) (b:s.heap.IsTuple t its) (more:∀ x,its[i]? = some x→∀ h',h'.IsTupleIter it t (i + 1)→Heap.SameBut it s.heap h'→Q x { s with heap:=h' })
    (over:its[i]? = none→A.handled = none∧∀ h' e,Heap.ExtBut it s.heap h'→(∃ o,h'.get? e = some o∧o.cls = .type "StopIteration")→E (.ref e) { s with heap:=h' }):wpAny (model prog w) A (Builtin.SmallTypes.nextOf (.ref it)) Q E s:=by
  have T:=a.typeIs
  obtain ⟨o,o1,o2,o3⟩:=id a
  obtain ⟨u,u1,_,n,u2⟩:=b
  have two:∀ g,(Obj.mapFields g o).isFreed = false:=fun g=>Obj.isFreed_of_fields (Obj.data_mapFields o3 g)
  unfold Builtin.SmallTypes.nextOf
  refine wpAny_bind (wpAny_callSpecial?_slot T F.slot_tuple_iterator_next (wpAny_call_entry F.slot_tuple_iterator_next T F.entry_tuple_iterator_next ?_ (F.args_tuple_iterator_next_1 _)))
  wp_walk using (wpAny_field (s:=s) o1 o3 (x:=.ref t) rfl),(wpAny_field (s:=s) o1 o3 (x:=.int i 0) rfl),(wpAny_seqItems (s:=s) u1 u2)
  rw [Int.toNat_natCast]
  cases c:its[i]? with
  | some x=>
    refine wpAny_bind (wpAny_setField o1 o3 (by simp) ?_)
    refine wpAny_pure ⟨x,rfl,wpAny_pure (more x c _ ⟨_,Heap.get?_update_self _ o1 (two _),?_,?_⟩ (Heap.SameBut.update ..))⟩
    · rw [Obj.cls_mapFields,o2]
    · rw [Obj.data_mapFields o3]; simp [rawInt]
  | none=>
    obtain ⟨hh,q⟩:=over c
    have h1:A.in1.handled = none:=hh
    refine wpAny_bind (wpAny_rule (wpAny_bind (wpAny_setField o1 o3 (by simp) ?_)))
    unfold Builtin.SmallTypes.stopIteration
    wp_walk
    unfold raiseNew
    refine wpAny_bind (wpAny_handled ?_)
    rw [h1]
    exact wpAny_bind (wpAny_pure (wpAny_throw (q _ _ (((Heap.SameBut.update ..).extBut.push _).push _) ⟨_,Heap.get?_push_size _ rfl,rfl⟩)))
end
theorem draws_tup {prog:Program} {w:World} {A:Around} (hh:A.handled = none) (it t:Addr) (hne:t≠it) (items:Array Value) :
    Draws prog w A it [it,t] items.size (fun i v=>items[i]? = some v) (fun i h=>h.IsTupleIter it t i∧h.IsTuple t items) where
  live:=fun i h ⟨⟨o,e,_⟩,_⟩=>⟨o,e⟩
  frame:=fun i h h' ⟨⟨o,e,c⟩,⟨o2,e2,c2⟩⟩ k=>⟨⟨o,k it (by simp) o e,c⟩,⟨o2,k t (by simp) o2 e2,c2⟩⟩
  item:=fun i s Q E hi ⟨a,b⟩ hQ=>tupIt_ask a b (fun x c h' a' sb=>hQ x h' s.toks c ⟨a',b.extBut sb.extBut hne⟩ sb) fun c=>by rw [Array.getElem?_eq_getElem hi] at c; cases c
  done:=fun s Q E ⟨a,b⟩ hE=>tupIt_ask a b (fun x c=>by simp at c) fun _=>⟨hh,fun h' e eb he=>hE h' e eb he⟩
structure ZA (z TI TO i1 i2:Addr) (f1 f2:List Addr):Prop where
  TIz:TI≠z
  TOz:TO≠z
  i1z:i1≠z
  i2z:i2≠z
  TITO:TI≠TO
  TIi1:TI≠i1
  TIi2:TI≠i2
  TOi1:TO≠i1
  TOi2:TO≠i2
  i12:i1≠i2
  z1:z ∉ f1
  o1:TO ∉ f1
  j1:i2 ∉ f1
  z2:z ∉ f2
  o2:TO ∉ f2
  j2:i1 ∉ f2
section
variable {prog:Program} {w:World} {A:Around} {E:Value→Shared→Prop} {s:Shared} {z TI TO i1 i2:Addr} {f1 f2:List Addr} {n i:Nat} {P1 P2:Nat→Value→Prop} {St1 St2:Nat→Heap→Prop} {a b:Value}
end
section
variable {prog:Program} {w:World} {A:Around} {E:Value→Shared→Prop} {s:Shared} {z TI TO i1 i2:Addr} {f1 f2:List Addr} {n i:Nat} {P1 P2:Nat→Value→Prop} {St1 St2:Nat→Heap→Prop} {a b:Value}
end
section
variable {X:Cx} {pins:List (Addr×Obj)} {σ:St} {H:Hp} {s:Shared} {h':Heap}
theorem Inv.turnedL {t':Nat} {ch:List Addr} (I:Inv X pins σ H s) (f:∀ b∈ch,FpOk X pins H b) (k:∀ b o,b ∉ ch→s.heap.get? b = some o→h'.get? b = some o):Inv X pins σ H { s with heap:=h',toks:=t' }:=by
  refine I.step (g':=s.gens) (d':=s.drawn) (ch:=ch) (fun b hb=>?_) (fun b o _ _ hc q _=>k b o hc q) (fun b o _ _ hc q _=>⟨o.slots,k b o hc q⟩) (fun b o _ q n=>n)
    (fun b o hc q=>⟨o,k b o hc q⟩) (fun b ys q=>q) (fun b o u q=>q) (fun b ps q=>⟨#[],by rw [q]; simp⟩) (fun m hm=>?_) (fun b u q=>?_) I.bare
  · obtain ⟨e0,e1,e2,e3,e4,e5⟩:=f b hb
    exact ⟨e3,e1,e4,e5⟩
  · obtain ⟨o,es,ep,ho,hr⟩:=hm
    exact ⟨o,es,ep,k _ o (fun z=>(f _ z).2.1 rfl) ho,hr⟩
  · have nn:∀ c v,H c = some v→c ∉ ch:=fun c v q y=>by rw [(f c y).1] at q; cases q
    refine (I.hok b u q).stay (fun c v hc q2=>?_) (fun c q2=>q2) fun c ys q2=>q2
    rcases hc with y | y
    · subst y; exact k c v (nn c u q) q2
    · exact k c v (nn c _ y) q2
theorem Inv.turnedLT {t':Nat} {ch:List Addr} {T:Addr} {xs:List V} {us:List Value} (I:Inv X pins σ H s) (f:∀ b∈ch,FpOk X pins H b) (k:∀ b o,b ∉ ch→s.heap.get? b = some o→h'.get? b = some o)
    (hT:s.heap.objs.size≤T) (r:Vals xs us) (hz:xs.length≤sizeLine) (ht:IsTup h' T us.toArray):Inv X pins σ (upd H T (.tup xs)) { s with heap:=h',toks:=t' }:=by
  have hn:H T = none:=I.hok.fresh hT
  have nT:∀ b o,s.heap.get? b = some o→b≠T:=fun b o q=>Nat.ne_of_lt (Nat.lt_of_lt_of_le (Heap.lt_size q) hT)
  have up:∀ b u,H b = some u→upd H T (.tup xs) b = some u:=fun b u q=>by rw [upd_ne (ne_of_none q hn)]; exact q
  refine I.step (g':=s.gens) (d':=s.drawn) (ch:=ch) (fun b hb=>?_) (fun b o _ _ hc q _=>k b o hc q) (fun b o _ _ hc q _=>⟨o.slots,k b o hc q⟩) (fun b o _ q n=>by rw [upd_ne (nT b o q)]; exact n)
    (fun b o hc q=>⟨o,k b o hc q⟩) (fun b ys q=>up b _ q) (fun b o u q=>up b _ q) (fun b ps q=>⟨#[],by rw [up b _ q]; simp⟩) (fun m hm=>?_) (fun b u q=>?_) I.bare
  · obtain ⟨e0,e1,e2,e3,e4,e5⟩:=f b hb
    exact ⟨e3,e1,e4,e5⟩
  · obtain ⟨o,es,ep,ho,hr⟩:=hm
    exact ⟨o,es,ep,k _ o (fun z=>(f _ z).2.1 rfl) ho,hr⟩
  · by_cases hb:b = T
    · subst hb; rw [upd_same] at q; cases q; exact ⟨hz,us,r,ht⟩
    · rw [upd_ne hb] at q
      have nn:∀ c v,H c = some v→c ∉ ch:=fun c v q y=>by rw [(f c y).1] at q; cases q
      refine (I.hok b u q).stay (fun c v hc q2=>?_) (fun c q2=>up c _ q2) fun c ys q2=>up c _ q2
      rcases hc with y | y
      · subst y; exact k c v (nn c u q) q2
      · exact k c v (nn c _ y) q2
end
section
variable {X:Cx} {els:List Expr} {kk:Nat} {pp:Pos}
theorem bt_zip:bootBuiltins "zip" = some (.type "zip"):=by decide +kernel
end
end L2
namespace L2
open PySem PySem.Spec PyProof.Rows
theorem note_frame {env env':Env} (h:env.frame = env'.frame) (e:Value):noteFrame e env = noteFrame e env':=by
  unfold noteFrame PySem.frameOf
  rw [h]
theorem ff_keeps {h h' base base':Heap}:∀ {l:List Env},h.FunFrames base l→(∀ b∈frs l,∀ o,h.get? b = some o→∃ o',h'.get? b = some o'∧o'.data = o.data)→(∀ b∈frs l,base.get? b = none→base'.get? b = none)→h'.FunFrames base' l
  | [],_,_,_=>trivial
  | env :: l,⟨hk,⟨L,o,hf,hn,ho,hd⟩,hr⟩,k,kb=>by
    have mL:L∈frs (env :: l):=List.mem_filterMap.mpr ⟨env,List.mem_cons_self,hf⟩
    have sub:∀ b∈frs l,b∈frs (env :: l):=fun b hb=>by
      obtain ⟨e,he,q⟩:=List.mem_filterMap.mp hb
      exact List.mem_filterMap.mpr ⟨e,List.mem_cons_of_mem _ he,q⟩
    obtain ⟨o',ho',hd'⟩:=k L mL o ho
    exact ⟨hk,⟨L,o',hf,kb L mL hn,ho',fun vs=>hd' ▸ hd vs⟩,ff_keeps hr (fun b hb=>k b (sub b hb)) fun b hb=>kb b (sub b hb)⟩
section
variable {M:Model} {A:Around} {E:Value→Shared→Prop} {s:Shared} {base:Heap} {env:Env} {outer l:List Env} {L e:Addr} {cls a0 fl:Value}
structure Retraced (base h h':Heap) (T:Addr) (ts:Array Value) (v:Value):Prop where
  here:∃ o',h'.get? T = some o'∧o'.data = .fields (ts.setIfInBounds 3 v)
  rest:∀ b o,b≠T→h.get? b = some o→h'.get? b = some o
  low:base.StaysIn h→base.StaysIn h'
  plain:∀ b o,h.get? b = some o→(∀ vs,o.data≠.fields vs)→h'.get? b = some o
theorem retraced {h:Heap} {T:Addr} {oT:Obj} {ts:Array Value} (v:Value) (n:base.get? T = none) (q:h.get? T = some oT) (d:oT.data = .fields ts):Retraced base h (h.update T (Obj.mapFields (·.setIfInBounds 3 v))) T ts v:=by
  have rest:∀ b o,b≠T→h.get? b = some o→(h.update T (Obj.mapFields (·.setIfInBounds 3 v))).get? b = some o:=fun b o ne z=>(Heap.get?_update_other h _ (Ne.symm ne)).trans z
  refine ⟨⟨_,Heap.get?_update_self _ q (Obj.isFreed_of_fields (Obj.data_mapFields d _)),Obj.data_mapFields d _⟩,rest,fun st b o z=>rest b o (fun e=>?_) (st b o z),fun b o z nf=>rest b o (fun e=>?_) z⟩
  · rw [e,n] at z; cases z
  · rw [e,q] at z; cases z; exact nf ts d
theorem flight_any {fr:Option Addr} {Q:Unit→Shared→Prop} (hkb:base.StaysIn s.heap) (hl:s.heap.FunFrames base l) (ht:s.heap.TracedAtW base e cls a0 fl)
    (h:∀ h',base.StaysIn h'→h'.FunFrames base l→h'.TracedAtW base e cls a0 (fr.elim Value.none fun f=>rawInt f)→s.heap.UpToSlots h'→Q () { s with heap:=h' }):wpAny M A (setFlight (.ref e) fr) Q E s:=by
  obtain ⟨oe,vs,T,oT,ts,z1,z2,z3,z4,z5,z6,z7,z8,z9⟩:=ht
  have lt3:=(Array.getElem?_eq_some_iff.mp z9).1
  have U:=retraced (base:=base) (fr.elim Value.none fun f=>rawInt f) z5 z7 z8
  unfold setFlight
  refine wpAny_bind (wpAny_field z1 z3 z4 ?_)
  rw [if_pos (by simp)]
  obtain ⟨o',g1,g2⟩:=U.here
  exact wpAny_setField z7 z8 lt3 (h _ (U.low hkb) (hl.of_keeps fun b o p nf=>⟨o,U.plain b o p nf,rfl⟩) ⟨oe,vs,T,o',_,U.rest _ _ (Ne.symm z6) z1,z2,z3,z4,z5,z6,g1,g2,by simp [lt3]⟩ fun b o p nf=>⟨o.slots,U.plain b o p nf⟩)
theorem passOn_any {α:Type} {what:String} {Q:α→Shared→Prop} (hkb:base.StaysIn s.heap) (hl:s.heap.FunFrames base l) (ht:s.heap.TracedAtW base e cls a0 fl)
    (h:∀ h' fl',base.StaysIn h'→h'.FunFrames base l→h'.TracedAtW base e cls a0 fl'→s.heap.UpToSlots h'→E (.ref e) { s with heap:=h' }):wpAny M A (PySem.passOn what (.ref e) env:Sem α) Q E s:=by
  obtain ⟨oe,vs,T,oT,ts,z1,z2,z3,z4,_⟩:=id ht
  unfold PySem.passOn
  refine wpAny_bind (wpAny_field z1 z3 z4 ?_)
  rw [if_neg (by simp)]
  exact wpAny_bind (flight_any hkb hl ht fun h' k1 k2 k3 k4=>wpAny_throw (h h' _ k1 k2 k3 k4))
theorem note_other {Q:Unit→Shared→Prop} (hfr:A.frames = some (env :: outer)) (hl:s.heap.FunFrames base (env :: outer)) (hf:env.frame = some L) (ht:s.heap.TracedAtW base e cls a0 fl) (hne:fl≠rawInt L) (hkb:base.StaysIn s.heap) (hen:base.get? e = none)
    (q:∀ h',Heap.NotedW base (env :: outer) e cls a0 (rawInt L) s.heap h'→Q () { s with heap:=h' }):wpAny M A (noteFrame (.ref e) env) Q E s:=by
  obtain ⟨oe,vs,T,oT,ts,z1,⟨rfl,z2⟩,z3,z4,z5,z6,z7,z8,z9⟩:=ht
  have U:=retraced (base:=base) Value.none z5 z7 z8
  unfold noteFrame
  simp only [hf]
  refine wpAny_bind (wpAny_field z1 z3 z4 ?_)
  rw [if_pos (by simp)]
  refine wpAny_bind (wpAny_field z7 z8 z9 ?_)
  rw [if_neg fun z=>hne (eq_of_beq z)]
  refine wpAny_bind (wpAny_setField z7 z8 (Array.getElem?_eq_some_iff.mp z9).1 ?_)
  exact wpAny_entryW hfr (hl.of_keeps fun b o p nf=>⟨o,U.plain b o p nf,rfl⟩) hf (U.rest _ _ (Ne.symm z6) z1) (U.low hkb) hen z3 (Array.getElem?_eq_some_iff.mp z4).1 z2 fun h' ⟨x1,x2,x3,x4⟩=>q h' ⟨x1,x2,x3,fun b o p nf=>x4 b o (U.plain b o p nf) nf⟩
theorem leave_any {Q:Unit→Shared→Prop} (hfr:A.frames = some (env :: outer)) (hl:s.heap.FunFrames base (env :: outer)) (hf:env.frame = some L) (ht:s.heap.TracedAtW base e cls a0 fl) (hkb:base.StaysIn s.heap) (hen:base.get? e = none)
    (h:∀ h',Heap.FlyingW base outer e cls a0 h'→s.heap.UpToSlots h'→Q () { s with heap:=h' }):wpAny M A (leaving env (.ref e)) Q E s:=by
  unfold leaving
  by_cases hc:fl = rawInt L
  · subst hc
    refine wpAny_bind (wpAny_noteFrame_againW hf ht (wpAny_landsW ⟨hkb,hen,hl,ht⟩ fun h' fl' up=>?_))
    obtain ⟨k1,k2,⟨_,_,k3⟩,k4⟩:=fl'
    exact h h' ⟨k1,k2,k3,k4⟩ up
  · refine wpAny_bind (note_other hfr hl hf ht hc hkb hen fun h1 ⟨x1,x2,x3,x4⟩=>wpAny_landsW ⟨x1,hen,x2,x3⟩ fun h' fl' up=>?_)
    obtain ⟨k1,k2,⟨_,_,k3⟩,k4⟩:=fl'
    exact h h' ⟨k1,k2,k3,k4⟩ (Heap.UpToSlots.trans x4 up)
end
def XB (Y:Cx) (Ex:Value→Hp→Prop):Value→Shared→Prop:=fun e s'=>∃ (ea:Addr) (cls:Value) (pins:List (Addr×Obj)) (σ1:St) (H1 H':Hp) (s1:Shared) (B:Heap) (a0:Value),e = .ref ea∧Inv Y pins σ1 H1 s1∧Fly Y.prog Y.w Y.stack H1 s1 ea cls H' B a0 s'∧Ex cls H'
theorem pass_blk {Y:Cx} {Ex:Value→Hp→Prop}:Passes (CXd Y.prog Y.w) (Y.wish (XB Y Ex)) (fun cls _ H'=>Ex cls H'):=by
  intro pins σ H1 s1 e s2 I h
  obtain ⟨ea,cls,H',B,a0,rfl,F,q⟩:=h
  exact ⟨ea,cls,pins,σ,H1,H',s1,B,a0,rfl,I.unwish,F,q⟩
section
variable {P:Program} {w:World} {K:PySem.W.Frag} {mg:Str→Option Value} {base:Heap} {N:List Str} {qual:Str} {scope:Scope} {f:Addr} {cd:Value} {A:Around} {outer:List Env} {s:Shared} {H:Hp} {E:XK}
theorem blk_up {scopeB:Scope} {cl:List (Str×Addr)} {NB:List Str} {C:Addr} {fp:List Addr} {pins:List (Addr×Obj)} {σ:St} {H3:Hp} {s3:Shared} {cenv:Env} {e:Value} {s':Shared} {acc:Value} {use:Option (Value→Sem Unit)} {Qc:Value→Shared→Prop}
    (I3:Inv (cxOf (CXd P w) P w K mg base N qual scope f cd A outer s H E) pins σ H3 s3) (hC:s3.heap.objs.size = C) (f3:∀ b∈fp,FpOk (cxOf (CXd P w) P w K mg base N qual scope f cd A outer s H E) pins H3 b)
    (hfe:cenv.frame = (envOfC qual scope s.heap.objs.size f cd).frame)
    (h:XB (cxComp (cxOf (CXd P w) P w K mg base N qual scope f cd A outer s H E) scopeB cl NB C s3 H3 fp) (fun cls H'=>E cls none H') e s') :
    notedBy (model P w) (A.deeper (envOfC qual scope s.heap.objs.size f cd)) cenv (fun x s''=>compPost (model P w) (A.deeper (envOfC qual scope s.heap.objs.size f cd)) (cxOf (CXd P w) P w K mg base N qual scope f cd A outer s H E).xe use Qc acc C (.error x) s'') e s':=by
  obtain ⟨ea,cls,pins',σ1,H1,H',s1,B,a0,rfl,I1,F,q⟩:=h
  have hfr:=I3.ok.frames
  have hst:∀ b∈frs (envOfC qual scope s.heap.objs.size f cd :: outer),∃ o,s3.heap.get? b = some o∧∀ vs,o.data≠.fields vs:=fun b hb=>(I3.stack.mem hb).2
  have nCs:∀ b o,s3.heap.get? b = some o→b≠C:=fun b o q=>by rw [← hC]; exact Nat.ne_of_lt (Heap.lt_size q)
  have nCf:∀ b∈frs (envOfC qual scope s.heap.objs.size f cd :: outer),b≠C:=fun b hb=>by
    obtain ⟨o,ho,_⟩:=hst b hb
    exact nCs b o ho
  obtain ⟨m,hNs,_⟩:=I1.loc
  obtain ⟨oC,es,ep,hoC,rC⟩:=id hNs
  have hC1:s1.heap.get? C = some oC:=hoC
  have H1C:H1 C = none:=I1.free
  have BC:B.get? C = some oC:=F.kp C oC hC1 H1C fun z=>nCf C z rfl
  have H'C:H' C = none:=F.un.free C oC hC1 H1C (by simp)
  show wpAny _ _ (noteFrame (.ref ea) cenv) _ _ _
  rw [note_frame hfe]
  obtain ⟨dd,dj⟩:=F.dj
  refine (dk_noteFrame _ _).also dj (wpAny_looks_onW (L:=s.heap.objs.size) hfr rfl F.fl fun h2 held2 up2 dj2=>?_)
  obtain ⟨st2,en2,ff2,tr2⟩:=held2
  have BnC:∀ {b},B.get? b = none→b≠C:=fun {b} q z=>by rw [z,BC] at q; cases q
  refine ⟨m,⟨oC,es,ep,st2 C oC BC,rC⟩,fun h3 sb cenv' _=>?_⟩
  have b3:∀ b,b≠C→h3.get? b = h2.get? b:=fun b hb=>sb.2 b hb
  have stB:∀ b o,(PySem.W.hideAll B [C]).get? b = some o→b≠C∧B.get? b = some o:=fun b o q=>by
    refine ⟨fun z=>?_,PySem.W.of_hideAll _ q⟩
    rw [z,PySem.W.hideAll_none _ (List.mem_singleton_self C)] at q
    cases q
  have hid:∀ b o,b≠C→B.get? b = some o→(PySem.W.hideAll B [C]).get? b = some o:=fun b o hb q=>PySem.W.hideAll_get _ q (by simpa using hb)
  have nB:∀ b,B.get? b = none→(PySem.W.hideAll B [C]).get? b = none:=fun b q=>by
    cases z:(PySem.W.hideAll B [C]).get? b with
    | none=>rfl
    | some o=>rw [(stB b o z).2] at q; cases q
  have st3:(PySem.W.hideAll B [C]).StaysIn h3:=fun b o q=>by
    obtain ⟨hb,q'⟩:=stB b o q
    rw [b3 b hb]; exact st2 b o q'
  have ff3:h3.FunFrames (PySem.W.hideAll B [C]) (envOfC qual scope s.heap.objs.size f cd :: outer):=ff_keeps ff2 (fun b hb o q=>⟨o,by rw [b3 b (nCf b hb)]; exact q,rfl⟩) fun b _=>nB b
  have tr3:h3.TracedAtW (PySem.W.hideAll B [C]) ea cls a0 (rawInt s.heap.objs.size):=by
    obtain ⟨oe,vs,T,oT,ts,he,hc,hd,h1,hnT,hTe,hT,r⟩:=tr2
    exact ⟨oe,vs,T,oT,ts,by rw [b3 ea (BnC en2)]; exact he,hc,hd,h1,nB T hnT,hTe,by rw [b3 T (BnC hnT)]; exact hT,r⟩
  have dj3:DictAt h3 ea dd:=by
    obtain ⟨oe,_,_,_,_,he,_⟩:=id tr3
    have e2:h2.get? ea = some oe:=by rw [← b3 ea (BnC en2)]; exact he
    obtain ⟨k1,k2⟩:=dj2.get e2
    rw [← k1]
    exact dict_of he k2
  refine (dk_passOn _ _ _).alsoE (s:={ s' with heap:=h3 }) dj3 (passOn_any st3 ff3 tr3 fun h4 fl4 st4 ff4 tr4 up4 dj4=>?_)
  show wpAny _ _ (leaving _ (.ref ea)) _ _ _
  refine (dk_leaving _ _).also (s:={ s' with heap:=h4 }) dj4 (leave_any (L:=s.heap.objs.size) hfr ff4 rfl tr4 st4 (nB ea en2) fun h' fl' up' dj'=>?_)
  have slots:∀ b∈frs (envOfC qual scope s.heap.objs.size f cd :: outer),∀ o,s3.heap.get? b = some o→b ∉ fp→∃ sl,h'.get? b = some { o with slots:=sl }:=fun b hb o qb hx=>by
    have nH:H3 b = none:=I3.stkFree b hb
    obtain ⟨o1,ho1,hd1⟩:=hst b hb
    rw [qb] at ho1
    cases ho1
    obtain ⟨z1,e1⟩:=I1.base.slot b o qb nH hb hx
    have n1:=I1.base.free b o qb nH hx
    obtain ⟨z2,e2⟩:=F.un.slot b _ e1 n1 hb (by simp)
    obtain ⟨z3,e3⟩:=up2 b { o with slots:=z2 } e2 hd1
    have e3':h3.get? b = some { o with slots:=z3 }:=by rw [b3 b (nCf b hb)]; exact e3
    obtain ⟨z4,e4⟩:=up4 b { o with slots:=z3 } e3' hd1
    exact up' b { o with slots:=z4 } e4 hd1
  have un:Un (frs (envOfC qual scope s.heap.objs.size f cd :: outer)) fp H3 H' s3.heap h':=by
    refine ⟨fun b o qb n hb hx=>?_,fun b o qb n hb hx=>slots b hb o qb hx,fun b o qb n hx=>?_,fun b o qb hx=>?_,fun b xs z=>F.un.tups b xs (I1.base.tups b xs z),fun b o u z=>F.un.frzs b o u (I1.base.frzs b o u z),fun b ps z=>?_⟩
    · have k1:=I1.base.keep b o qb n hb hx
      have n1:=I1.base.free b o qb n hx
      exact fl'.1 b o (hid b o (nCs b o qb) (F.kp b o k1 n1 hb))
    · obtain ⟨o1,k1⟩:=I1.base.there b o qb hx
      exact F.un.free b o1 k1 (I1.base.free b o qb n hx) (by simp)
    · by_cases hb:b∈frs (envOfC qual scope s.heap.objs.size f cd :: outer)
      · obtain ⟨z,e⟩:=slots b hb o qb hx
        exact ⟨_,e⟩
      · obtain ⟨o1,k1⟩:=I1.base.there b o qb hx
        obtain ⟨o2,k2⟩:=F.th b o1 k1 hb
        exact ⟨o2,fl'.1 b o2 (hid b o2 (nCs b o qb) k2)⟩
    · obtain ⟨m1,e1⟩:=I1.base.tbls b ps z
      obtain ⟨m2,e2⟩:=F.un.tbls b _ e1
      exact ⟨m1 ++ m2,by rw [e2,Array.append_assoc]⟩
  have hokB:HOk P w H' (PySem.W.hideAll B [C]):=fun b u z=>by
    refine (F.hok b u z).stay (fun c v hc qc=>hid c v (fun y=>?_) qc) (fun _ y=>y) fun _ _ y=>y
    rcases hc with rfl | hc
    · rw [y,H'C] at z; cases z
    · rw [y,H'C] at hc; cases hc
  have os3:s'.os = s3.os:=F.os.trans I1.os
  have J:=I3.call' (s':={ s' with heap:=h' }) (ch:=fp) os3 un (hokB.kept fl'.1) F.bare (fun b hb=>by
    obtain ⟨g0,g1,g2,g3,g4,g5⟩:=f3 b hb
    exact ⟨g3,g1,g4,g5⟩)
  have nfp:∀ b o,s.heap.get? b = some o→b ∉ fp:=fun b o qb hb=>by
    obtain ⟨g0,g1,g2,g3,g4,g5⟩:=f3 b hb
    rcases g3 with z | z
    · cases z
    · exact absurd (Nat.lt_of_lt_of_le (Heap.lt_size qb) z) (Nat.lt_irrefl _)
  refine ⟨ea,cls,H',_,a0,rfl,⟨J.os,F.bare,J.base,hokB,fl',fun b o qb n hb=>?_,fun b o qb hb=>?_,⟨_,dj'⟩⟩,q⟩
  · have k3:=I3.base.keep b o qb n hb (by intro z; cases z)
    have n3:=I3.base.free b o qb n (by intro z; cases z)
    have hbs:=apart_up I3 qb hb
    have hx:=nfp b o qb
    exact hid b o (nCs b o k3) (F.kp b o (I1.base.keep b o k3 n3 hbs hx) (I1.base.free b o k3 n3 hx) hbs)
  · obtain ⟨o3,k3⟩:=I3.base.there b o qb (by intro z; cases z)
    obtain ⟨o1,k1⟩:=I1.base.there b o3 k3 (nfp b o qb)
    obtain ⟨o2,k2⟩:=F.th b o1 k1 (apart_up I3 qb hb)
    exact ⟨o2,hid b o2 (nCs b o3 k3) k2⟩
end
abbrev cxCX (X:Cx) (scope:Scope) (cl:List (Str×Addr)) (N:List Str) (C:Addr) (s:Shared) (H:Hp) (fp:List Addr) (E:XK):Cx:=(cxComp X scope cl N C s H fp).wish (XB (cxComp X scope cl N C s H fp) fun cls H'=>E cls none H')
section
variable {X:Cx}
theorem comp_coreX {P:Program} {w:World} {K:PySem.W.Frag} {mg:Str→Option Value} {base:Heap} {N0:List Str} {qual:Str} {sc0:Scope} {f0:Addr} {cd:Value} {A0:Around} {outer:List Env} {s0:Shared} {H0:Hp} {E:XK} (hX:X = cxOf (CXd P w) P w K mg base N0 qual sc0 f0 cd A0 outer s0 H0 E) (N:List Str) (fr:List (Option Nat)) {elt tg iter:Expr} {ifs:List Expr} {scope:Scope} {pos fpos:Pos} {wi:TI} {g:TG} {tt:TT} {te:TE} {cl:List (Str×Addr)}
    (hc:X.calm = true) (hi:PI X tg iter wi) (hchk:compChk X.N X.env.scope scope N fr = true) (hclos:closureFor scope X.env = pure cl) (hcl:ClOk X.env.cells cl) (hall:ClAll cl scope.names)
    (hb:∀ (C:Addr) (s:Shared) (H:Hp) (fp:List Addr),PG (cxCX X scope cl N C s H fp E) tg g∧PIfs (cxCX X scope cl N C s H fp E) ifs tt∧PE (cxCX X scope cl N C s H fp E) elt te)
    (hs:∀ x,foldedSetIterable iter X.env x = pure x) {pins:List (Addr×Obj)} {s:Shared} {σ:St} {H:Hp} {Q:VK} {use:Option (Value→Sem Unit)} {Qc:Value→Shared→Prop} (I:Inv X pins σ H s) (h:tComp fr wi g tt te σ H Q)
    (hfin:∀ (l:Addr) (H':Hp) (s':Shared) (C:Addr),Inv X pins σ H' s'→FpOk X pins H' C→(∃ m,s'.heap.Ns C m)→Q (.ref l) H'→compPost (model X.prog X.w) X.A X.xe use Qc (.ref l) C (.ok .next) s') :
    wpAny (model X.prog X.w) X.A (comprehension (.ListComp elt [⟨tg,iter,ifs,0⟩] scope pos) scope X.env fpos (newList []) (firstAsync [⟨tg,iter,ifs,0⟩]) (firstIter [⟨tg,iter,ifs,0⟩] X.env) use) Qc X.xe s:=by
  simp only [compChk,Bool.and_eq_true,decide_eq_true_eq,List.all_eq_true,Bool.or_eq_true,Bool.not_eq_true',decide_eq_false_iff_not] at hchk
  obtain ⟨⟨⟨⟨⟨hkind,hlen⟩,hcell⟩,hnames⟩,hfree⟩,hfr⟩:=hchk
  have hnames':∀ x∈scope.names,x.2 = .local→scope.names.lookup x.1 = some .local:=fun y hy e=>(hnames y hy).resolve_left fun z=>z e
  have hcell':∀ x∈scope.names,x.2≠.cell:=fun y hy=>hcell y hy
  refine wpAny_comprehension_free (use:=use) rfl hs hclos hkind hnames' (thn (hi pins s σ H _ I h) fun v s1 h1=>thn h1 fun itv s2 h2=>?_)
  obtain ⟨it,fp,tn,J,H2,e,I2,T,st2,f2,hQ⟩:=h2
  subst e
  refine wpAny_newObj_type (hd:=by size_fits) (wpAny_newFunctionEnv hcell' (by intro y hy; simp at hy) (fun h₁ hns hsb=>?_) hkind)
  dsimp only at hns hsb ⊢
  obtain ⟨W,⟨m0,w0⟩,turn⟩:=hQ s2.heap.objs.size I2.fresh
  have I3:Inv X pins σ (upd H2 s2.heap.objs.size (.lst [])) { s2 with heap:=s2.heap.push { cls:=.type "list",data:=.seq ([]:List Value).toArray },toks:=s2.toks }:=I2.lnew (its:=[]) .nil (Nat.zero_le _)
  generalize hh3:s2.heap.push { cls:=.type "list",dict:=none,data:=.seq ([]:List Value).toArray } = h3 at hns hsb ⊢
  rw [show s2.heap.push { cls:=.type "list",data:=.seq ([]:List Value).toArray } = h3 from hh3] at I3
  generalize hH3:upd H2 s2.heap.objs.size (.lst []) = H3 at I3 w0
  generalize hl:s2.heap.objs.size = l at turn hH3 ⊢
  have hl3:l < h3.objs.size:=by rw [← hh3,← hl,Heap.size_push]; exact Nat.lt_succ_self _
  generalize hs3:({ s2 with heap:=h3,toks:=s2.toks }:Shared) = s3 at I3
  have es3:s3.heap = h3:=by rw [← hs3]
  have eos:s3.os = s2.os:=by rw [← hs3]
  have egens:s3.gens = s2.gens:=by rw [← hs3]
  generalize hC:h3.objs.size = C at hns hsb ⊢
  have old:∀ b o,h3.get? b = some o→h₁.get? b = some o:=fun b o e=>
    hsb.extBut b o (by rw [← hC]; exact Nat.ne_of_lt (Heap.lt_size e)) (Heap.get?_push_of_some _ e)
  have f3:∀ b∈fp,FpOk X pins H3 b:=fun b hb=>by
    obtain ⟨g0,g1⟩:=f2 b hb
    refine ⟨?_,g1⟩
    rw [← hH3]
    have:b≠l:=by
      obtain ⟨o,e,_⟩:=T.obj _ _ st2 b hb
      rw [← hl]; exact Nat.ne_of_lt (Heap.lt_size e)
    rw [upd_ne this]; exact g0
  have st3:tn 0 h₁:=T.keep _ _ _ st2 fun b hb o e=>old b o (by rw [← hh3]; exact Heap.get?_push_of_some _ e)
  have ok:(cxComp X scope cl N C s3 H3 fp).Ok:=by
    refine ⟨I3.ok.mod,?_,I3.ok.glob,I3.ok.blt,?_,fun x y c e1 e2=>I3.ok.inj x y c (hcl.get e1) (hcl.get e2),fun x hx=>?_,fun x c hx=>(by cases hx),I3.ok.hd,I3.ok.frames,.inl rfl,fun b hb=>?_,fun b o e=>?_,?_,fun b o e hb=>?_,fun b hb hb2=>?_,?_,fun b hb=>?_⟩
    · exact hkind
    · show s3.heap.objs.size≤C
      rw [es3,hC]; exact Nat.le_refl _
    · have hx':(relabel scope X.env).names.lookup x = some .cell∨(relabel scope X.env).names.lookup x = some .free:=hx
      have:scope.names.lookup x = some .free:=by
        rcases hx' with z | z
        · rcases relabel_cell z with q | ⟨_,q⟩
          · exact absurd rfl (hcell' _ (PySem.mem_of_lookup q))
          · exact q
        · rcases relabel_cell z with q | ⟨q,_⟩
          · exact q
          · cases q
      exact hall.get _ (PySem.mem_of_lookup this) rfl
    · obtain ⟨g0,g1,g2,g3,g4,g5⟩:=f3 b hb
      obtain ⟨o,e,_⟩:=T.obj _ _ st2 b hb
      refine ⟨?_,fun x c e=>g4 x c (hcl.get e)⟩
      show b≠C
      rw [← hC]
      exact Nat.ne_of_lt (Heap.lt_size (by rw [← hh3]; exact Heap.get?_push_of_some _ e))
    · have q:=I3.bs b o e
      exact q
    · show X.base.objs.size≤s3.heap.objs.size
      exact Nat.le_trans I3.ok.bsz I3.sz
    · obtain ⟨g0,g1,g2,g3,g4,g5⟩:=f3 b hb
      rcases g3 with z | z
      · exact I3.ok.noex b o e z
      · exact absurd (Nat.lt_of_lt_of_le (Heap.lt_size e) (Nat.le_trans I3.ok.bsz z)) (Nat.lt_irrefl _)
    · obtain ⟨g0,g1,g2,g3,g4,g5⟩:=f3 b hb
      rcases List.mem_cons.mp (I3.stkSub b hb2) with z | z
      · exact g1 z
      · exact g2 z
    · show s3.heap.FunFrames X.base X.stack
      exact I3.stack
    · exact I3.stkFree b hb
  have I4:Inv (cxComp X scope cl N C s3 H3 fp) [] (stC fr σ) H3 { s2 with heap:=h₁,toks:=s2.toks + ([]:List (Str×Value)).length }:=by
    have hk3:∀ b o,s3.heap.get? b = some o→h₁.get? b = some o:=fun b o e=>old b o (by rw [← es3]; exact e)
    refine ⟨ok,eos.symm ▸ rfl,egens ▸ I3.bare,Un.kept hk3,⟨_,hns,fun i x v e1 e2 e3=>?_⟩,fun x c e=>?_,?_,fun x c e=>I3.freeC x c (hcl.get e),fun p hp=>(by cases hp),I3.hok.kept hk3,?_⟩
    ·
      have e1':N[i]? = some x:=e1
      have e2':(fr[i]?).map (fun o=>o.bind fun i=>(σ[i]?).bind id) = some (some v):=by
        have:(stC fr σ)[i]? = some (some v):=e2
        rw [stC,List.getElem?_map] at this
        exact this
      cases q:fr[i]? with
      | none=>rw [q] at e2'; cases e2'
      | some o=>
        rw [q] at e2'
        cases o with
        | none=>cases e2'
        | some j=>
          have e2'':(σ[j]?).bind id = some v:=Option.some.inj e2'
          obtain ⟨p1,p2⟩:X.N[j]? = some x∧scope.names.lookup x = some .free:=by
            have hz:(x,some j)∈N.zip fr:=by
              have:(N.zip fr)[i]? = some (x,some j):=by
                rw [List.getElem?_zip_eq_some]; exact ⟨e1',q⟩
              exact List.mem_of_getElem? this
            have:=hfr _ hz
            simpa using this
          have hv:X.env.scope.names.lookup x = some .cell∨X.env.scope.names.lookup x = some .free:=by
            rcases hfree _ (PySem.mem_of_lookup p2) with z | z
            · exact absurd rfl z
            · simpa using z
          have e3':σ[j]? = some (some v):=by
            cases q3:σ[j]? with
            | none=>rw [q3] at e2''; cases e2''
            | some w'=>rw [q3] at e2''; have:w' = some v:=e2''; rw [this]
          obtain ⟨m,hn,hl'⟩:=I3.loc
          obtain ⟨u,ru,lk⟩:=hl' j x v p1 e3' (.inr hv)
          refine ⟨u,ru,.inr ⟨relabel_free p2,?_⟩⟩
          rcases lk with ⟨lk,_⟩ | ⟨_,c,ec,cc⟩
          · have lk':X.env.scope.names.lookup x = some .local:=lk
            rcases hv with z | z <;> (rw [z] at lk'; cases lk')
          · obtain ⟨c',ec'⟩:=hall.get _ (PySem.mem_of_lookup p2) rfl
            have:=hcl.get ec'
            rw [ec] at this; cases this
            obtain ⟨o,ho,hd⟩:=cc
            exact ⟨c,ec',o,hk3 _ _ ho,hd⟩
    · obtain ⟨v,o,ho,hd⟩:=I3.cell x c (hcl.get e)
      exact ⟨v,o,hk3 _ _ ho,hd⟩
    · show H3 C = none
      exact I3.hok.fresh (by rw [es3,hC]; exact Nat.le_refl _)
    · show (stC fr σ).length = N.length
      rw [stC,List.length_map]; exact hlen
  obtain ⟨hg,ht,he⟩:=hb C s3 H3 fp
  have fpc:∀ {H':Hp},(∀ b∈fp,H' b = none)→∀ b∈fp,FpOk (cxComp X scope cl N C s3 H3 fp) [] H' b:=fun hn b hb=>by
    obtain ⟨q1,q2⟩:=ok.exf b hb
    exact ⟨hn b hb,q1,ok.exfs b hb,.inl hb,q2,fun p hp=>by cases hp⟩
  have fin:∀ (σ':St) (H':Hp) (s':Shared),Inv (cxComp X scope cl N C s3 H3 fp) [] σ' H' s'→Q (.ref l) H'→compPost (model X.prog X.w) X.A X.xe use Qc (.ref l) C (.ok .next) s':=fun σ' H' s' I' q=>by
    obtain ⟨m,hn,_⟩:=I'.loc
    have nC:∀ b o,s3.heap.get? b = some o→b≠C:=fun b o e=>by
      rw [← hC,← es3]; exact Nat.ne_of_lt (Heap.lt_size e)
    have fC:H' C = none:=I'.free
    have u:=I'.base
    refine hfin l H' s' C ?_ (I3.fpOk (by rw [es3,hC]; exact Nat.le_refl _) fC) ⟨m,hn⟩ q
    refine I3.call' (s':=s') (ch:=fp) I'.os ⟨fun b o e n hb hx=>u.keep b o e n hb hx,fun b o e n hb hx=>u.slot b o e n hb hx,u.free,fun b o e hx=>u.there b o e hx,u.tups,u.frzs,u.tbls⟩ (fun b o e=>I'.hok b o e) I'.bare fun b hb=>?_
    obtain ⟨g0,g1,g2,g3,g4,g5⟩:=f3 b hb
    exact ⟨g3,g1,g4,g5⟩
  have loop:codeAny (model X.prog X.w) X.A (.compLoop (.ListComp elt [⟨tg,iter,ifs,0⟩] scope pos) 0 (.ref it) (.ref l) (compEnvC scope cl C X.env)) (compPost (model X.prog X.w) X.A X.xe use Qc (.ref l) C)
      { s2 with heap:=h₁,toks:=s2.toks + ([]:List (Str×Value)).length }:=by
    refine comp_turnsX (Ee:=XB (cxComp X scope cl N C s3 H3 fp) fun cls H'=>E cls none H') (fun n s'=>∃ i σ' H',Inv (cxComp X scope cl N C s3 H3 fp) [] σ' H' s'∧tn i s'.heap∧(∀ b∈fp,H' b = none)∧W i n σ' H') (fun x sx z=>by subst hX; exact blk_up I3 (by rw [es3]; exact hC) f3 rfl z) ?_ m0 ⟨0,_,H3,I4,st3,fun b hb=>(f3 b hb).1,w0⟩
    rintro n s5 ⟨i,σ5,H5,I5,st5,fr5,w5⟩
    rcases turn i n σ5 H5 w5 with ⟨stop,qn⟩ | ⟨go,step⟩
    · refine thn (T.done (cxComp X scope cl N C s3 H3 fp) rfl rfl rfl hc i [] s5 σ5 H5 (fun _ _=>False) I5 (fpc fr5) st5 stop) fun r s6 ⟨hr,I6⟩=>?_
      subst hr
      exact fin σ5 H5 s6 I6 qn
    · refine thn (T.item (cxComp X scope cl N C s3 H3 fp) rfl rfl rfl hc i [] s5 σ5 H5 (fun _ _=>False) I5 (fpc fr5) st5 go) fun r s6 ⟨u,hr,h6⟩=>?_
      subst hr
      refine thn h6 fun _ s7 ⟨x,H7,I7,r7,y7,st7,fr7⟩=>?_
      have I7':=I7.pinned (fpc fr7) (T.obj _ _ st7)
      refine thn (hg _ s7 σ5 H7 x u _ (I7'.wish _) r7 (step x H7 y7)) fun _ s8 ⟨σ8,H8,I8w,q8⟩=>?_
      have I8:=I8w.unwish
      have again:∀ {σ9:St} {H9:Hp} {s9:Shared},Inv (cxComp X scope cl N C s3 H3 fp) ([] ++ pinsAt fp s7.heap) σ9 H9 s9→(∃ m',m' < n∧W (i + 1) m' σ9 H9)→∃ m,m < n∧∃ i σ' H',Inv (cxComp X scope cl N C s3 H3 fp) [] σ' H' s9∧tn i s9.heap∧(∀ b∈fp,H' b = none)∧W i m σ' H':=fun {σ9 H9 s9} I9 n9=>by
        obtain ⟨m',hm,w9⟩:=n9
        refine ⟨m',hm,i + 1,σ9,H9,I9.unpinned,T.keep _ _ _ st7 fun b hb o e=>(I9.pin (b,o) (List.mem_append_right _ (List.mem_append_right _ (mem_pinsAt hb e)))).1,fun b hb=>?_,w9⟩
        obtain ⟨o,e,d⟩:=T.obj _ _ st7 b hb
        exact (I9.pin (b,o) (List.mem_append_right _ (List.mem_append_right _ (mem_pinsAt hb e)))).2.1
      refine thn (ht _ s8 σ8 H8 _ (I8.wish _) q8) fun ok s9 ⟨H9,I9w,q9⟩=>?_
      have I9:=I9w.unwish
      cases ok with
      | false=>
        rw [if_neg Bool.false_ne_true] at q9 ⊢
        exact again I9 q9
      | true=>
        rw [if_pos rfl] at q9 ⊢
        refine thn (he _ s9 σ8 H9 _ (I9.wish _) q9) fun y sa ⟨vy,Ha,Iaw,ry,qa⟩=>?_
        have Ia:=Iaw.unwish
        obtain ⟨xs,hla,hsz,n9⟩:=qa
        refine thn (mt_append _ sa σ8 Ha (.ref l) [vy] (.ref l) [y] (fun _ Hb=>∃ m',m' < n∧W (i + 1) m' σ8 Hb) Ia rfl (.cons ry .nil) ⟨l,xs,vy,rfl,rfl,hla,hsz,n9⟩) fun _ sb ⟨_,Hb,Ib,_,qb⟩=>?_
        exact again Ib qb
  show codeAny (model X.prog X.w) X.A (.compStart (.ListComp elt [⟨tg,iter,ifs,0⟩] scope pos) 0 (.ref it) (.ref l) (compEnvC scope cl C X.env)) (compPost (model X.prog X.w) X.A X.xe use Qc (.ref l) C) { s2 with heap:=h₁,toks:=s2.toks + ([]:List (Str×Value)).length }
  exact codeAny_compStart_list loop (T.self _ 0 _ _ _ st3 loop)
theorem pe_compX {P:Program} {w:World} {K:PySem.W.Frag} {mg:Str→Option Value} {base:Heap} {N0:List Str} {qual:Str} {sc0:Scope} {f0:Addr} {cd:Value} {A0:Around} {outer:List Env} {s0:Shared} {H0:Hp} {E:XK} (hX:X = cxOf (CXd P w) P w K mg base N0 qual sc0 f0 cd A0 outer s0 H0 E) (N:List Str) (fr:List (Option Nat)) {elt tg iter:Expr} {ifs:List Expr} {scope:Scope} {pos:Pos} {wi:TI} {g:TG} {tt:TT} {te:TE} {cl:List (Str×Addr)}
    (hc:X.calm = true) (hi:PI X tg iter wi) (hchk:compChk X.N X.env.scope scope N fr = true) (hclos:closureFor scope X.env = pure cl) (hcl:ClOk X.env.cells cl) (hall:ClAll cl scope.names)
    (hb:∀ (C:Addr) (s:Shared) (H:Hp) (fp:List Addr),PG (cxCX X scope cl N C s H fp E) tg g∧PIfs (cxCX X scope cl N C s H fp E) ifs tt∧PE (cxCX X scope cl N C s H fp E) elt te)
    (hs:∀ x,foldedSetIterable iter X.env x = pure x:=by intro _; rfl) :
    PE X (.ListComp elt [⟨tg,iter,ifs,0⟩] scope pos) (tComp fr wi g tt te):=by
  intro pins s σ H Q I h
  rw [eval_ListComp]
  refine comp_coreX hX N fr hc hi hchk hclos hcl hall hb hs I h fun l H' s' C I' fC ⟨m,hn⟩ q=>?_
  refine ⟨m,hn,fun h'' hs''=>⟨.ref l,H',?_,rfl,q⟩⟩
  obtain ⟨f0,f1,f2,f3,f4,f5⟩:=fC
  exact I'.turned (t':=s'.toks) (fun b o hb e=>(hs''.2 b hb).trans e) f0 f1 f3 f4 f5
end
end L2
namespace L2
section
open PySem PySem.Calls PyProof.Rows PySem.W Builtin Builtin.ObjectAttr Builtin.Getset_descriptor
section
variable {prog:Program} {w:World} {A:Around} {E:Value→Shared→Prop} {K:Frag} {e D:Addr}
structure IsExc (h:Heap) (e D:Addr):Prop where
  ob:∃ o,h.get? e = some o∧o.cls = .ref D∧∃ vs,o.data = .fields vs
theorem IsExc.ty {h:Heap} (z:IsExc h e D) {M:Model}:Looks M h (typeOf (.ref e)) (.ref D):=by
  obtain ⟨o,q,c,_⟩:=z.ob
  rw [← c]
  exact (Looks.ld q).andThen .now
theorem exc_descr {tp:Value} {s:Shared} {R:Result→Shared→Prop} (k:K.In s.heap) (z:IsExc s.heap e D) (hm:mroIn K D (.type "object") = some true) (q:R (.ok (.ret (.ref D))) s) :
    codeAny (model prog w) A (.call (.builtin "getset_descriptor.__get__") ⟨[.builtin "object.__class__",.ref e,tp],[]⟩) R s:=by
  obtain ⟨h1,g1,d1,t1,o1⟩:=s
  have T0:=z.ty (M:=model prog w)
  have T1:=looks_mroIn (M:=model prog w) k hm
  have slot:=KF.slot_gs
  refine codeAny_call_builtin slot.plain KF.entry_gs (slot.check _ _ _ _ _ _ _ _ KF.type_class (KF.args_gs _ _ _) ?_)
  simp only [Builtin.«getset_descriptor.__get__»,descrGet,dga_obj]
  refine wpAny_bind (wpAny_pure ?_)
  dsimp only [descrGetter,descrCheckInstance,descrNameAndClass,isInstance]
  rw [show descrOwnerAndName "object.__class__" = ("object","__class__") from KF.owner_class]
  repeat lk
  refine ⟨Code.quiet_builtin (id:="object.__class__") _ (by decide +kernel),codeAny_builtin KF.entry_class ?_⟩
  simp only [Builtin.«object.__class__»,shownTypeOf]
  repeat lk
  exact q
theorem exc_find {h:Heap} {M:Model} (k:K.In h) (ha:findIn K (.ref D) "__class__" = some (some (.builtin "object.__class__")))
    (hn:specialIn K (.builtin "object.__class__") "__get__" = some (some (.builtin "getset_descriptor.__get__"))) (ht:takesIn K (.builtin "object.__class__") = some true) :
    Looks M h (find (.ref e) (.ref D) "__class__") (.bind (.builtin "getset_descriptor.__get__") (.builtin "object.__class__")):=
  (looks_findIn k ha).andThen ((show Looks M h (getOf (some (.builtin "object.__class__"))) (some (.builtin "getset_descriptor.__get__")) from looks_specialIn k hn).andThen
    ((show Looks M h (dataDescriptor? (some (.builtin "object.__class__")) (some (.builtin "getset_descriptor.__get__"))) (some (.builtin "getset_descriptor.__get__",.builtin "object.__class__")) from (looks_takesIn k ht).andThen .now).andThen (Looks.tag .now)))
theorem exc_check {nv:Value} {s:Shared} {Q:Unit→Shared→Prop} {M:Model} (k:K.In s.heap) (z:IsExc s.heap e D) (hb:mroIn K D (.type "BaseException") = some true) (q:Q () s) :
    wpAny M A (checkBuiltinCall "BaseException.__getattribute__" ⟨[.ref e,nv],[]⟩) Q E s:=by
  obtain ⟨h1,g1,d1,t1,o1⟩:=s
  have b1:builtinKind "BaseException.__getattribute__" = some .slot:=by decide +kernel
  have b2:splitId "BaseException.__getattribute__" = some ("BaseException","__getattribute__"):=by decide +kernel
  have b3:=F.args_bexc_ga (.ref e) nv
  have T:Looks M h1 (isInstance (.ref e) (.type "BaseException")) true:=z.ty.andThen (looks_mroIn k hb)
  simp only [checkBuiltinCall,b1,b2]
  refine wpAny_bind (T.at ?_)
  rw [if_neg (by decide)]
  repeat wp_step
  exact q
theorem exc_entry {tk:Tok} {s:Shared} {Q:Fin→Shared→Prop} (k:K.In s.heap) (z:IsExc s.heap e D) (ha:findIn K (.ref D) "__class__" = some (some (.builtin "object.__class__")))
    (hn:specialIn K (.builtin "object.__class__") "__get__" = some (some (.builtin "getset_descriptor.__get__"))) (ht:takesIn K (.builtin "object.__class__") = some true) (hm:mroIn K D (.type "object") = some true) (q:Q (.done (.ret (.ref D))) s) :
    wpAny (model prog w) A (Builtin.«object.__getattribute__» ⟨[.ref e,.str "__class__" tk],[]⟩) Q E s:=by
  obtain ⟨h1,g1,d1,t1,o1⟩:=s
  have T0:=z.ty (M:=model prog w)
  have T1:=exc_find (e:=e) (M:=model prog w) k ha hn ht
  have s0:slotArgs "__getattribute__" 1 ⟨[.ref e,.str "__class__" tk],[]⟩ = pure (Value.ref e,[Value.str "__class__" tk]):=by kernel_rfl
  have s1:attrName (.str "__class__" tk) = pure "__class__":=by kernel_rfl
  simp only [Builtin.«object.__getattribute__»,s0]
  refine wpAny_bind (wpAny_pure ?_)
  dsimp only
  rw [s1]
  refine wpAny_bind (wpAny_pure (wpAny_bind (T0.at (wpAny_bind (T1.at ?_)))))
  dsimp only
  unfold bindTo
  dsimp only
  refine wpAny_bind (wpAny_call (exc_descr (s:=⟨h1,g1,d1,t1,o1⟩) k z hm ?_))
  exact wpAny_pure q
theorem exc_class {s:Shared} {Q:Option Value→Shared→Prop} (k:K.In s.heap) (z:IsExc s.heap e D) (hga:findIn K (.ref D) "__getattribute__" = some (some (.builtin "BaseException.__getattribute__"))) (hgg:findIn K (.ref D) "__getattr__" = some none)
    (ha:findIn K (.ref D) "__class__" = some (some (.builtin "object.__class__"))) (hn:specialIn K (.builtin "object.__class__") "__get__" = some (some (.builtin "getset_descriptor.__get__"))) (ht:takesIn K (.builtin "object.__class__") = some true)
    (hm:mroIn K D (.type "object") = some true) (hb:mroIn K D (.type "BaseException") = some true) (q:Q (some (.ref D)) { s with toks:=s.toks + 1 }) :
    wpAny (model prog w) A (getAttr? (.ref e) "__class__") Q E s:=by
  obtain ⟨h1,g1,d1,t1,o1⟩:=s
  have T0:=z.ty (M:=model prog w)
  have T1:=looks_findIn (M:=model prog w) k hga
  have T2:=looks_findIn (M:=model prog w) k hgg
  have B:=F.excAttr_ValueError.ga.bind (.ref e)
  simp only [getAttr?,getAttrBy?,getAttrBy]
  refine wpAny_bind (wpAny_mkText (wpAny_bind (wpAny_attempt (wpAny_holding (wpAny_bind (T0.at (wpAny_bind (T1.at ?_))))))))
  have n0:(onTheHeap (Value.ref D) && Value.builtin "BaseException.__getattribute__" == Value.builtin "object.__getattribute__") = false:=by
    have:(Value.builtin "BaseException.__getattribute__" == Value.builtin "object.__getattribute__") = false:=by decide +kernel
    rw [this]; rfl
  dsimp only
  rw [if_neg (by rw [n0]; decide)]
  unfold getAttrByItsOwn hookBefore
  rw [if_pos (by rfl)]
  refine wpAny_bind (T2.at (wpAny_bind (wpAny_attempt (wpAny_holding ?_))))
  unfold callGetattribute boundAndCalled
  rw [if_neg (by decide),B]
  refine wpAny_bind (wpAny_pure ?_)
  dsimp only
  refine wpAny_call (codeAny_call_builtin F.excAttr_ValueError.ga.plain F.entry_bexc_ga ?_)
  refine exc_check (s:=⟨h1,g1,d1,t1 + 1,o1⟩) k ⟨z.ob⟩ hb (exc_entry (s:=⟨h1,g1,d1,t1 + 1,o1⟩) k ⟨z.ob⟩ ha hn ht hm ?_)
  dsimp only
  exact handed_on rfl (wpAny_pure q)
structure ExcCls (K:Frag) (D:Addr):Prop where
  ga:findIn K (.ref D) "__getattribute__" = some (some (.builtin "BaseException.__getattribute__"))
  gg:findIn K (.ref D) "__getattr__" = some none
  cl:findIn K (.ref D) "__class__" = some (some (.builtin "object.__class__"))
  sp:specialIn K (.builtin "object.__class__") "__get__" = some (some (.builtin "getset_descriptor.__get__"))
  tk:takesIn K (.builtin "object.__class__") = some true
  mo:mroIn K D (.type "object") = some true
  mb:mroIn K D (.type "BaseException") = some true
theorem ExcCls.there (c:ExcCls K D):∃ o,K.lookup D = some o∧∃ cd,o.data = .cls cd:=by
  obtain ⟨cd,h,_⟩:=Option.bind_eq_some_iff.mp c.mo
  unfold clsIn at h
  split at h
  · rename_i o d' cd' sl' ho
    exact ⟨_,ho,_,rfl⟩
  · cases h
theorem ExcCls.kit (c:ExcCls K D):KitX K (.ref e) (.ref D) (fun h=>IsExc h e D) where
  ty:=fun _ _ _ z=>z.ty
  it:=fun M h k _=>by
    obtain ⟨⟨oc,od,oda,os⟩,h1,cd,h2⟩:=c.there
    dsimp only at h2
    subst h2
    intro A1 Q1 E1 s1 st q
    unfold isType loadHead
    exact wpAny_bind (wpAny_loadPart (st _ _ (k _ _ h1)) (wpAny_pure q))
  ne:=fun h tp dd its n sl k ht=>by
    obtain ⟨o,h1,cd,h2⟩:=c.there
    cases q:(Value.ref D == Value.ref tp) with
    | false=>rfl
    | true=>
      cases Value.ref.inj (beq_iff_eq.mp q)
      rw [k _ _ h1] at ht
      cases ht
      cases h2
  ca:=fun k z q=>exc_class k z c.ga c.gg c.cl c.sp c.tk c.mo c.mb q
end
end
open PySem PySem.Spec PyProof.Rows
theorem IsExc.stays {h1 h2:Heap} {e D:Addr} (z:IsExc h1 e D) (k:∀ o,h1.get? e = some o→h2.get? e = some o):IsExc h2 e D:=by
  obtain ⟨o,q,r⟩:=z.ob
  exact ⟨o,k o q,r⟩
section
variable {X:Cx} {pins:List (Addr×Obj)} {σ:St} {H:Hp} {s:Shared}
theorem Inv.know {e:Addr} {o:HO} (I:Inv X pins σ H s) (n0:e ∉ X.ex→X.s₀.heap.get? e = none) (nl:e≠X.env.locals) (nc:∀ x c,X.env.cells.lookup x = some c→c≠e) (np:∀ p∈X.pn ++ pins,p.1≠e) (hn:H e = none)
    (ho:ObjOk X.prog X.w (upd H e o) s.heap e o):Inv X pins σ (upd H e o) s:=by
  have up:∀ {b:Addr} {u:HO},H b = some u→upd H e o b = some u:=fun {b u} q=>by rw [upd_ne (ne_of_none q hn)]; exact q
  refine ⟨I.ok,I.os,I.bare,⟨I.base.keep,I.base.slot,fun b ob q n x=>?_,I.base.there,fun b xs q=>up (I.base.tups b xs q),fun b ob u q=>up (I.base.frzs b ob u q),fun b ps q=>?_⟩,I.loc,I.cell,?_,fun x c q=>?_,fun p hp=>?_,fun b u q=>?_,I.len⟩
  · rw [upd_ne (fun z=>by subst z; rw [n0 x] at q; cases q)]
    exact I.base.free b ob q n x
  · obtain ⟨more,z⟩:=I.base.tbls b ps q
    exact ⟨more,up z⟩
  · rw [upd_ne nl.symm]; exact I.free
  · rw [upd_ne (nc x c q)]; exact I.freeC x c q
  · obtain ⟨h1,h2,h3⟩:=I.pin p hp
    exact ⟨h1,by rw [upd_ne (np p hp)]; exact h2,h3⟩
  · by_cases hb:b = e
    · subst hb
      rw [upd_same] at q
      cases q
      exact ho
    · rw [upd_ne hb] at q
      exact (I.hok b u q).stay (fun c v _ z=>z) (fun _ z=>up z) fun _ _ z=>up z
theorem goes_ok {M:Model} {A:Around} {E:Value→Shared→Prop} {i:Nat} {x:Str} {pos:Pos} {Q:Unit→Shared→Prop} (I:Inv X pins σ H s) (hN:X.N.Nodup) (hi:X.N[i]? = some x) (hk:X.env.kindOf x = some .local)
    (h:∀ s',Inv X pins (σ.set i none) H s'→Q () s'):wpAny M A (do bindName X.env x .none; unbindBehindTheSuite X.env x pos) Q E s:=by
  obtain ⟨m,hn,hl⟩:=id I.loc
  have hc:(X.env.scope.kind == .class || (X.env.scope.kind == .module && X.env.locals != X.env.globals)) = false:=by rw [I.ok.kind]; rfl
  have hiσ:i < σ.length:=by rw [I.len]; exact (List.getElem?_eq_some_iff.mp hi).1
  obtain ⟨oL,_,_,hoL,_⟩:=id hn
  refine wpAny_nameGoes_keeps hk hn hc fun h' v hn' hs=>?_
  have apart:∀ b o,X.s₀.heap.get? b = some o→b≠X.env.locals:=fun b o q=>Nat.ne_of_lt (Nat.lt_of_lt_of_le (Heap.lt_size q) I.ok.above)
  refine h _ ⟨I.ok,I.os,I.bare,⟨fun b o q n hb hx=>(hs.2 b (apart b o q)).trans (I.base.keep b o q n hb hx),fun b o q n hb hx=>?_,I.base.free,fun b o q hx=>?_,I.base.tups,I.base.frzs,I.base.tbls⟩,
    ⟨_,hn',fun j y v' e1 e2 e3=>?_⟩,fun y c q=>?_,I.free,I.freeC,fun p hp=>?_,fun b u q=>?_,by simpa using I.len⟩
  · obtain ⟨sl,z⟩:=I.base.slot b o q n hb hx
    exact ⟨sl,(hs.2 b (apart b o q)).trans z⟩
  · obtain ⟨o',z⟩:=I.base.there b o q hx
    exact ⟨o',(hs.2 b (apart b o q)).trans z⟩
  · by_cases hj:j = i
    · subst hj
      rw [List.getElem?_set_self hiσ] at e2
      cases e2
    · rw [List.getElem?_set_ne (Ne.symm hj)] at e2
      obtain ⟨u',r',q⟩:=hl j y v' e1 e2 e3
      refine ⟨u',r',?_⟩
      rcases q with ⟨k,z⟩ | ⟨k,c,z,z2⟩
      · have ny:y≠x:=fun t=>hj (nodup_ix hN e1 (t ▸ hi))
        exact .inl ⟨k,by simp [ny,z]⟩
      · exact .inr ⟨k,c,z,z2.sameBut hs (I.cne y c z)⟩
  · obtain ⟨w',z⟩:=I.cell y c q
    exact ⟨w',z.sameBut hs (I.cne y c q)⟩
  · obtain ⟨q,n,ne,nf,d⟩:=I.pin p hp
    exact ⟨(hs.2 p.1 ne).trans q,n,ne,nf,d⟩
  · have nb:∀ {c:Addr} {v':HO},H c = some v'→c≠X.env.locals:=fun {c v'} z=>ne_of_none z I.free
    refine (I.hok b u q).stay (fun c w' hc z=>(hs.2 c ?_).trans z) (fun _ z=>z) fun _ _ z=>z
    rcases hc with rfl | hc
    · exact nb q
    · exact nb hc
theorem Inv.flown {H':Hp} {s':Shared} {ea:Addr} {cls a0:Value} {B:Heap} (I:Inv X pins σ H s) (F:Fly X.prog X.w X.stack H s ea cls H' B a0 s'):s.heap.get? ea = none:=by
  cases q:s.heap.get? ea with
  | none=>rfl
  | some o=>
    by_cases hb:ea∈frs X.stack
    · obtain ⟨z,e⟩:=F.un.slot ea o q (I.stkFree ea hb) hb (by simp)
      obtain ⟨_,o',ho',hd⟩:=I.stack.mem hb
      rw [q] at ho'
      cases ho'
      obtain ⟨_,_,_,oe,vs,_,_,_,he,_,hv,_⟩:=F.fl
      rw [he] at e
      cases e
      exact absurd hv (hd vs)
    · obtain ⟨o',e⟩:=F.th ea o q hb
      rw [F.fl.2.1] at e
      cases e
end
section
variable {X:Cx} {x n:Str} {c:Value} {body orelse suite:List Stmt} {b₀:Stmt} {np hpos pos:Pos} {i:Nat}
end
section
variable {X:Cx} {e:Expr} {es:List Expr} {pos:Pos}
end
theorem pe_xcl {X:Cx} {x:Str} {C:Addr} {pos:Pos} (hg:Gl X x) (hm:X.mg x = some (.ref C)) (hd:(x == ("__debug__":Str)) = false:=by decide):PE X (.Name x pos) (tC (.ref C)):=pe_glob (v:=.ref C) hg hm rfl hd
theorem bt_ValueError:bootBuiltins "ValueError" = some (.type "ValueError"):=by decide +kernel
end L2
namespace L2
section
open PySem PySem.Calls PyProof.Rows
variable {prog:Program} {w:World} {A:Around} {E:Value→Shared→Prop} {s:Shared}
def HeldAt (h:Heap) (e:Addr):Prop:=∃ o vs,h.get? e = some o∧o.data = .fields vs∧vs[2]? = some .none
theorem HeldAt.keeps {h h':Heap} {e:Addr} (z:HeldAt h e) (k:∀ o,h.get? e = some o→h'.get? e = some o):HeldAt h' e:=by
  obtain ⟨o,vs,q,r⟩:=z
  exact ⟨o,vs,k o q,r⟩
theorem entry_unchain:entryFor table "proto.unchain" = some Builtin.«proto.unchain»:=entryFor_of_fast (by kernel_rfl)
theorem raiseNew_held {α:Type} {a e:Addr} {oa:Obj} {ws:Array Value} {Q:α→Shared→Prop} (hh:A.handled = some (.ref e)) (z:HeldAt s.heap e) (ha:s.heap.get? a = some oa) (hd:oa.data = .fields ws) (h2:2 < ws.size) (ne:e≠a)
    (q:E (.ref a) { s with heap:=s.heap.update a (Obj.mapFields (·.setIfInBounds 2 (.ref e))) }):wpAny (model prog w) A (raiseNew (.ref a):Sem α) Q E s:=by
  obtain ⟨oe,vs,he,hv,hn⟩:=z
  unfold raiseNew
  refine wpAny_bind (wpAny_handled ?_)
  rw [hh]
  have nb:(Value.ref e != Value.ref a) = true:=by simp [bne,ne]
  dsimp only
  rw [if_pos nb]
  refine wpAny_bind (wpAny_holding (wpAny_runValue (codeAny_builtin entry_unchain ?_)))
  unfold Builtin.«proto.unchain»
  dsimp only
  refine wpAny_bind (wpAny_field he hv hn ?_)
  refine wpAny_pure ?_
  dsimp only
  refine wpAny_bind ?_
  unfold updateField
  refine wpAny_bind (wpAny_load ha ?_)
  rw [hd]
  dsimp only
  rw [if_pos h2]
  exact wpAny_update ha (wpAny_throw q)
theorem stop_held {α:Type} {e:Addr} {Q:α→Shared→Prop} (hh:A.handled = some (.ref e)) (z:HeldAt s.heap e)
    (q:∀ h' x,(∀ b o,s.heap.get? b = some o→h'.get? b = some o)→(∃ o,h'.get? x = some o∧o.cls = .type "StopIteration")→E (.ref x) { s with heap:=h' }) :
    wpAny (model prog w) A (newExc (.type "StopIteration") [] >>= raiseNew:Sem α) Q E s:=by
  refine wpAny_bind ?_
  simp only [newExc,newTuple]
  refine wpAny_bind (wpAny_newObj_type ?_ (by size_fits))
  refine wpAny_bind (m:=firstArgMember _ _) (wpAny_of_eq (a:=Value.none) (by simp only [firstArgMember]; rfl) (wpAny_newObj_type ?_ (by size_fits)))
  have k0:∀ b o,s.heap.get? b = some o→((s.heap.push { cls:=.type "tuple",data:=.seq #[] }).push { cls:=.type "StopIteration",data:=.fields (#[.ref s.heap.objs.size,.none,.none,.none,.bool false,.none] ++ ownMembersOf (.type "StopIteration") []) }).get? b = some o:=fun b o q=>Heap.get?_push_of_some _ (Heap.get?_push_of_some _ q)
  have x0:((s.heap.push { cls:=.type "tuple",data:=.seq #[] }).push { cls:=.type "StopIteration",data:=.fields (#[.ref s.heap.objs.size,.none,.none,.none,.bool false,.none] ++ ownMembersOf (.type "StopIteration") []) }).get? (s.heap.push { cls:=.type "tuple",data:=.seq #[] }).objs.size = some { cls:=.type "StopIteration",data:=.fields (#[.ref s.heap.objs.size,.none,.none,.none,.bool false,.none] ++ ownMembersOf (.type "StopIteration") []) }:=Heap.get?_push_size _ rfl
  have above:∀ b o,s.heap.get? b = some o→b≠(s.heap.push { cls:=.type "tuple",data:=.seq #[] }).objs.size:=fun b o q=>by
    have:=Heap.lt_size q
    rw [Heap.size_push]
    exact Nat.ne_of_lt (Nat.lt_succ_of_lt this)
  obtain ⟨oe,vs,he,_⟩:=id z
  have ne:=above e oe he
  refine raiseNew_held hh (HeldAt.keeps z fun o q=>k0 e o q) x0 rfl (by rw [Array.size_append]; exact Nat.lt_of_lt_of_le (show 2 < 6 by decide) (Nat.le_add_right _ _)) ne (q _ _ (fun b o q=>?_) ⟨_,Heap.get?_update_self _ x0 rfl,rfl⟩)
  rw [Heap.get?_update_other _ _ (Ne.symm (above b o q))]
  exact k0 b o q
theorem next_raises {it:Addr} {T id:String} {B:Builtin} {Q:Option Value→Shared→Prop} (slot:Slot T "__next__" id) (hT:s.TypeIs (.ref it) T) (entry:entryFor table id = some B) (args:argsOk id ⟨[.ref it],[]⟩)
    (h:wpAny (model prog w) A.in1 (B ⟨[.ref it],[]⟩) (fun _ _=>False) (fun x s'=>∃ a o,x = .ref a∧s'.heap.get? a = some o∧o.cls = .type "StopIteration"∧Q none s') s):wpAny (model prog w) A (pyNext (.ref it)) Q E s:=by
  unfold pyNext
  refine wpAny_bind (wpAny_attempt (wpAny_callSpecial?_slot (name:=Str.ofString "__next__") hT slot (wpAny_call_entry slot hT entry (wpAny_mono h (fun _ _ z=>z.elim) fun x s' z=>?_) args)))
  obtain ⟨a,o,rfl,e,c,q⟩:=z
  exact wpAny_bind (wpAny_isInstance (T:="StopIteration") (b:=true) ⟨o,e,c⟩ isSubtype_stop (wpAny_pure q))
theorem list_end_held {it l e:Addr} {i:Nat} {items:Array Value} {Q:Option Value→Shared→Prop} (hh:A.handled = some (.ref e)) (z:HeldAt s.heap e) (ne:e≠it) (hit:s.heap.IsListIter it l i) (hl:s.heap.IsList l items) (hx:items[i]? = none)
    (hQ:∀ h',(∀ b o,b≠it→s.heap.get? b = some o→h'.get? b = some o)→Q none { s with heap:=h' }):wpAny (model prog w) A (pyNext (.ref it)) Q E s:=by
  obtain ⟨o,ho,hc,hd⟩:=id hit
  obtain ⟨ol,hol,_,nl,hdl⟩:=hl
  refine next_raises slot_listiter_next hit.typeIs entry_listiter_next (args_listiter_next _) ?_
  show wpAny _ _ (field (.ref it) 0 >>= _) _ _ s
  refine wpAny_bind (wpAny_field ho hd (x:=.ref l) rfl ?_)
  dsimp only
  rw [if_neg (show ¬ ((Value.ref l == Value.none) = true) from Bool.false_ne_true)]
  refine wpAny_bind (wpAny_field ho hd (x:=.int i 0) rfl (wpAny_bind (wpAny_seqItems hol hdl ?_)))
  simp only [Int.toNat_natCast,hx]
  refine wpAny_bind (wpAny_rule (wpAny_bind (wpAny_setField ho hd (by simp) ?_)))
  have oth:∀ b ob,b≠it→s.heap.get? b = some ob→(s.heap.update it (Obj.mapFields (·.setIfInBounds 0 Value.none))).get? b = some ob:=fun b ob nb q=>by rw [Heap.get?_update_other _ _ (Ne.symm nb)]; exact q
  refine stop_held (show A.in1.handled = _ from hh) (z.keeps fun ob q=>oth e ob ne q) fun h' x k sx=>?_
  obtain ⟨ox,h1,h2⟩:=sx
  exact ⟨x,ox,rfl,h1,h2,hQ h' fun b ob nb q=>k b ob (oth b ob nb q)⟩
end
end L2
namespace L2
section
open PySem PySem.Calls PyProof.Rows PySem.W
structure IsExcD (h:Heap) (e D:Addr) (d:Option Addr):Prop where
  is:IsExc h e D
  dj:∃ o,h.get? e = some o∧o.dict = d∧Fld2 o
theorem IsExcD.stays {h1 h2:Heap} {e D:Addr} {d:Option Addr} (z:IsExcD h1 e D d) (k:∀ o,h1.get? e = some o→h2.get? e = some o):IsExcD h2 e D d:=by
  obtain ⟨a,o,q,hd⟩:=z
  exact ⟨a.stays k,o,k o q,hd⟩
end
section
open PySem PySem.Spec PyProof.Rows
def excD (e D:Addr) (d:Option Addr):HO:=.ext fun h=>IsExcD h e D d
variable {X:Cx} {pins:List (Addr×Obj)} {σ:St} {H:Hp} {s:Shared}
theorem Inv.knowD {H':Hp} {s':Shared} {ea C:Addr} {a0:Value} {B h':Heap} {d:Option Addr} (I:Inv X pins σ H s) (F:Fly X.prog X.w X.stack H s ea (.ref C) H' B a0 s') (J:Inv X pins σ H' { s' with heap:=h' }) (T:h'.TracedW B ea (.ref C) a0) (dj:DictAt h' ea d):Inv X pins σ (upd H' ea (excD ea C d)) { s' with heap:=h' }:=by
  have n:=I.flown F
  obtain ⟨m,hn,_⟩:=id I.loc
  obtain ⟨oL,_,_,hoL,_⟩:=id hn
  obtain ⟨oe,vs,_,_,_,he,⟨hc,_⟩,hv,_⟩:=T
  have ise:IsExcD h' ea C d:=⟨⟨oe,he,hc,vs,hv⟩,oe,he,dj.get he⟩
  refine J.know (fun x=>?_) (fun z=>?_) (fun x c q z=>?_) (fun p hp z=>?_) F.free ⟨ise,⟨oe,he⟩,fun h1 h2 z k=>z.stays k⟩
  · cases q:X.s₀.heap.get? ea with
    | none=>rfl
    | some o=>
      obtain ⟨o',z⟩:=I.base.there ea o q x
      rw [n] at z
      cases z
  · rw [← z,n] at hoL; cases hoL
  · obtain ⟨w',oc,e,_⟩:=I.cell x c q
    rw [z,n] at e; cases e
  · have:=(I.pin p hp).1
    rw [z,n] at this; cases this
def rIsXD (K:PySem.W.Frag):List V→Hp→VK→Prop:=fun xs H Q=>∃ (e D:Addr) (d:Option Addr) (c:V) (cv:Value) (b:Bool),xs = [.ref e,c]∧H e = some (excD e D d)∧ExcCls K D∧(∀ u,RelV c u→u = cv)∧PySem.W.kitOne K (.ref D) cv = some b∧Q (.bl b) H
theorem call_isXD {K:PySem.W.Frag} (hK:X.K = K):CallR X (.builtin "isinstance") (rIsXD K):=by
  subst hK
  intro pins s σ H xs us Q I r h
  obtain ⟨e,D,d,c,cv,b,rfl,he,hc,hv,hk,q⟩:=h
  obtain ⟨u,v,rfl,ru,rv⟩:=vals2 r
  cases (show u = Value.ref e from ru)
  cases hv v rv
  have z:ObjOk X.prog X.w H s.heap e (excD e D d):=I.hok e _ he
  exact PySem.W.kia_one hc.kit I.kIn z.1.is hk (fun z=>nomatch z) fun tk=>⟨.bl b,H,I.tok _,rfl,q⟩
variable {x n:Str} {c:Value} {body orelse suite:List Stmt} {b₀:Stmt} {np hpos pos:Pos} {i:Nat}
def tTryAsF (K:PySem.W.Frag) (c:Value) (i:Nat) (tb:TX) (te:TS) (ts:Addr→TS):TS:=fun D σ H=>tb { D with nx:=te D } (fun cls σ' H'=>PySem.W.exmOne K cls c = some true∧∃ C:Addr,cls = .ref C∧∀ ea d,H' ea = none→
  ts ea { nx:=fun σ H=>D.nx (σ.set i none) H,rt:=D.rt,bk:=fun σ H=>D.bk (σ.set i none) H,ct:=fun σ H=>D.ct (σ.set i none) H } (σ'.set i (some (.ref ea))) (upd H' ea (excD ea C d))) σ H
theorem ps_tryAsF {tb:TX} {te:TS} {ts:Addr→TS} (hst:X.stack = X.env :: X.outer∧X.env.frame = some X.env.locals) (hm:X.mg x = some c) (hg:Gl X x) (hN:X.N.Nodup) (hi:X.N[i]? = some n) (hk:X.env.scope.names.lookup n = some .local) (hb:PXs X body tb) (he:PSs X orelse te) (hs:∀ ea:Addr,PSs (X.held (.ref ea)) (b₀ :: suite) (ts ea))
    (hd:(x == ("__debug__":Str)) = false:=by decide):PS X (.Try body [.ExceptHandler (some (.Name x np)) (some n) (b₀ :: suite) hpos] orelse [] pos) (tTryAsF X.K c i tb te ts):=by
  intro pins s σ H D I h
  refine wpAny_Try_except (wpAny_mono (hb pins s σ H _ _ I h) (fun f s1 q=>?_) fun e s1 q=>?_)
  · cases f with
    | next=>
      obtain ⟨σ',H',I',q⟩:=q
      exact he pins s1 σ' H' D I' q
    | ret v=>exact q
    | brk=>exact q
    | cont=>exact q
  · obtain ⟨ea,cls,σ',H1,H',s2,B,a0,rfl,I2,F,hx,C,hC,q⟩:=q
    subst hC
    have hfr:=I.ok.frames
    have fl:=F.fl
    obtain ⟨d,dj⟩:=F.dj
    rw [hst.1] at hfr fl
    refine (dk_noteFrame _ _).also dj (wpAny_looks_onW hfr hst.2 fl fun h4 held4 up4 dj4=>?_)
    refine (dk_setFlight _ _).also dj4 (wpAny_landsW held4 fun h5 fl5 up5 dj5=>?_)
    have J5:=I2.landed F fl5.1 (up4.trans up5)
    refine wpAny_handleBy_cons (codeAny_handlers_test (ld_glob (J5.held (.ref ea)) hg hm ?_ hd)) (by intro z; cases z)
    obtain ⟨ob,hob,hcls⟩:=fl5.there
    have LT:PySem.W.Looks (model X.prog X.w) h5 (typeOf (.ref ea)) (.ref C):=by
      rw [← hcls]
      exact (PySem.W.Looks.ld hob).andThen .now
    refine (PySem.W.exm_one J5.kIn LT hx).here ?_
    refine codeAny_handlers_suite_as ((dk_setFlight _ _).also dj5 (lands_againW fl5 fun h6 fl6 up6 dj6=>?_))
    have J6:=I2.landed F fl6.1 ((up4.trans up5).trans up6)
    have J7:=I2.knowD F J6 fl6.2.2.2 dj6
    refine store_ok (v:=.ref ea) J7 hN hi (.inl hk) rfl (fun s8 I8=>?_) (.inr hk)
    refine wpAny_mono (hs ea pins s8 _ _ _ (I8.held (.ref ea)) (q ea d F.free)) (fun f s9 z=>?_) fun _ _ z=>False.elim z
    have z':=z.unheld J7
    cases f with
    | next=>
      obtain ⟨σ9,H9,I9,q9⟩:=z'
      exact goes_ok I9 hN hi hk fun s10 I10=>⟨_,_,I10,q9⟩
    | brk=>
      obtain ⟨σ9,H9,I9,q9⟩:=z'
      exact goes_ok I9 hN hi hk fun s10 I10=>⟨_,_,I10,q9⟩
    | cont=>
      obtain ⟨σ9,H9,I9,q9⟩:=z'
      exact goes_ok I9 hN hi hk fun s10 I10=>⟨_,_,I10,q9⟩
    | ret u=>
      obtain ⟨v,σ9,H9,I9,r9,q9⟩:=z'
      exact goes_ok I9 hN hi hk fun s10 I10=>⟨v,_,_,I10,r9,q9⟩
def HasX (ea:Addr) (H:Hp):Prop:=∃ C d,H ea = some (excD ea C d)
theorem HasX.held {ea:Addr} (hx:HasX ea H) (I:Inv X pins σ H s):HeldAt s.heap ea:=by
  obtain ⟨C,d,h⟩:=hx
  obtain ⟨⟨_,o,q,_,vs,h1,h2⟩,_,_⟩:ObjOk X.prog X.w H s.heap ea (excD ea C d):=I.hok ea _ h
  exact ⟨o,vs,q,h1,h2⟩
def tForE (ea:Addr) (K:PySem.W.Frag) (tl:TE) (g:TG) (tb:TS):TS:=fun D=>tFor (iList K tl) g tb { D with nx:=fun σ H=>HasX ea H∧D.nx σ H }
theorem ps_forE {ea:Addr} {tg iter:Expr} {tl:TE} {g:TG} {tb:TS} (hp:PassesOwn (model X.prog X.w) X.A X.env X.xe) (hh:X.A.handled = some (.ref ea)) (hl:PE X iter tl) (hg:PG X tg g) (hb:PSs X body tb)
    (hs:∀ x,foldedSetIterable iter X.env x = pure x:=by intro _; rfl):PS X (.For tg iter body [] pos) (tForE ea X.K tl g tb):=by
  intro pins s σ H D I h
  refine wpAny_For (thn (hl pins s σ H _ I h) fun v s1 ⟨x,H1,I1,r1,q1⟩=>?_) hs
  obtain ⟨a,e,⟨xs,hq⟩,W,⟨m0,w0⟩,turn⟩:=q1
  subst e
  cases r1
  obtain ⟨its,rv,p,hz⟩:=I1.list hq
  refine wpAny_pyIter_list p.isList ?_
  have I2:Inv X pins σ H1 { s1 with heap:=s1.heap.push { cls:=.type "list_iterator",data:=.fields #[.ref a,.int 0 0] },toks:=s1.toks }:=I1.kept (t':=s1.toks) fun b o e=>Heap.get?_push_of_some _ e
  have f2:FpOk X pins H1 s1.heap.objs.size:=I1.fpOk (Nat.le_refl _) (I1.hok.fresh (Nat.le_refl _))
  generalize hit:s1.heap.objs.size = it at f2
  have st2:Heap.IsListIter ({ s1 with heap:=s1.heap.push { cls:=.type "list_iterator",data:=.fields #[.ref a,.int 0 0] },toks:=s1.toks }:Shared).heap it a 0:=⟨_,by rw [← hit]; exact Heap.get?_push_size _ rfl,rfl,rfl⟩
  have keep:∀ (i:Nat) (h h':Heap),h.IsListIter it a i→(∀ o,h.get? it = some o→h'.get? it = some o)→h'.IsListIter it a i:=fun i h h' z k=>z.at fun o e=>k o e
  refine codeAny_forLoop_any (fun n s'=>∃ i σ' H',Inv X pins σ' H' s'∧s'.heap.IsListIter it a i∧H' it = none∧W i n σ' H') ?_ m0 ⟨0,σ,H1,I2,st2,f2.1,w0⟩
  rintro n s3 ⟨i,σ3,H3,I3,st3,fr3,w3⟩
  rcases turn i n σ3 H3 w3 with ⟨⟨ys,hy,hx⟩,hhx,qn⟩ | ⟨⟨ys,x,hy,hx⟩,N,hN,step⟩
  · obtain ⟨its3,rv3,p3,_⟩:=I3.list hy
    have hl3:=rv3.length
    have ne:ea≠it:=fun z=>by
      obtain ⟨C,d,e⟩:=hhx
      rw [z,fr3] at e; cases e
    obtain ⟨_,g1,g2,g3,g4,g5⟩:=f2
    refine wpAny_passesOwn hp (list_end_held hh (hhx.held I3) ne st3 p3.isList (by simp; omega) fun h' eb=>?_)
    exact wpAny_execs_nil ⟨σ3,H3,I3.turned (t':=s3.toks) (fun b o hb e=>eb b o hb e) fr3 g1 g3 g4 g5,qn⟩
  · obtain ⟨its3,rv3,p3,_⟩:=I3.list hy
    obtain ⟨u,hu,ru⟩:=rv3.get hx
    obtain ⟨_,g1,g2,g3,g4,g5⟩:=id f2
    refine wpAny_passesOwn hp (wpAny_pyNext_list_item st3 p3.isList (x:=u) (by simpa using hu) fun h' st' sb=>?_)
    have I4:Inv X pins σ3 H3 { s3 with heap:=h' }:=I3.turned (t':=s3.toks) (fun b o hb e=>(sb.2 b hb).trans e) fr3 g1 g3 g4 g5
    obtain ⟨o,e,c,d⟩:=id st'
    refine wpAny_passesOwn hp (go_of (s:={ s3 with heap:=h' }) e c d (by decide) ?_)
    have I5:=I4.pinned (fp:=[it]) (fun b hb=>by
      have e:b = it:=by simpa using hb
      subst e
      exact ⟨fr3,f2.2⟩) (fun b hb=>by
      have e':b = it:=by simpa using hb
      subst e'
      exact ⟨o,e,fun v z=>by rw [d] at z; cases z⟩)
    refine wpAny_passesOwn hp (thn (hg _ _ σ3 H3 x u _ I5 ru (step x H3 ⟨rfl,fun zs hz=>by rw [I3.list_inj hz hy]; exact hx⟩)) fun _ s6 ⟨σ6,H6,I6,q6⟩=>?_)
    refine wpAny_passesOwn hp (thn (hb _ s6 σ6 H6 _ I6 q6) fun f s7 q7=>?_)
    have again:∀ {σ7:St} {H7:Hp},Inv X (pins ++ pinsAt [it] h') σ7 H7 s7→N σ7 H7→∃ m,m < n∧∃ i σ' H',Inv X pins σ' H' s7∧s7.heap.IsListIter it a i∧H' it = none∧W i m σ' H':=fun {σ7 H7} I7 n7=>by
      obtain ⟨m',hm,w7⟩:=hN σ7 H7 n7
      have pn:=I7.pin (it,o) (List.mem_append_right _ (List.mem_append_right _ (mem_pinsAt (List.mem_singleton_self it) e)))
      exact ⟨m',hm,i + 1,σ7,H7,I7.unpinned,keep _ _ _ st' (fun o' e'=>by rw [e] at e'; cases e'; exact pn.1),pn.2.1,w7⟩
    cases f with
    | next=>obtain ⟨σ7,H7,I7,n7⟩:=q7; exact again I7 n7
    | cont=>obtain ⟨σ7,H7,I7,n7⟩:=q7; exact again I7 n7
    | brk=>obtain ⟨σ7,H7,I7,q7⟩:=q7; exact ⟨σ7,H7,I7.unpinned,q7.2⟩
    | ret v=>obtain ⟨x7,σ7,H7,I7,r7,q7⟩:=q7; exact ⟨x7,σ7,H7,I7.unpinned,r7,q7⟩
end
end L2
namespace L2
open PySem PySem.Calls PySem.Spec PyProof.Rows PySem.Builtin.Str
section
variable {prog:Program} {w:World} {A:Around} {E:Value→Shared→Prop} {s:Shared} {x y:Str} {t u:Tok} {Q:Value→Shared→Prop}
theorem split_few (hz:x.length + 2≤sizeLine):(PySem.Txt.split x y).length≤sizeLine:=by
  have:=StrLaws.occ_length_le x y 0 x.length (x.length + 1)
  unfold PySem.Txt.split
  split
  · show 1≤sizeLine; decide
  · split
    · show 1≤sizeLine; decide
    · rw [length_partsBetween]
      omega
theorem split_raw (hy:(y.length == 0) = false) (hz:x.length + 2≤sizeLine)
    (h:∀ (l:List (Str×Tok)) (k:Nat),l.map (·.1) = PySem.Txt.split x y→Q (.ref s.heap.objs.size) { s with heap:=s.heap.push { cls:=.type "list",data:=.seq (strValues l).toArray },toks:=k }) :
    wpAny (model prog w) A (call (.builtin "str.split") [.str x t,.str y u]) Q E s:=by
  have go:∀ {S:PySem.Spec},Meets (Builtin.«str.split» ⟨[.str x t,.str y u],[]⟩) S→S A (wants Q E) s→wpAny (model prog w) A (call (.builtin "str.split") [.str x t,.str y u]) Q E s:=
    fun g z=>call_meets F.slot_str_split (typeIs_str _ _ _) F.entry_str_split (F.args_str_split_2 _ _) g z
  by_cases c1:(decide (x.length < y.length) || decide (strKind x < strKind y)) = true
  · exact go (meets_str_split_cannot_occur x y t u c1) (h [(x,t)] s.toks (by unfold PySem.Txt.split; rw [if_pos c1]; rfl))
  have c1':=Bool.eq_false_iff.mpr c1
  by_cases c2:(occurrences x y 0 x.length (x.length + 1)).isEmpty = true
  · exact go (meets_str_split_not_found x y t u c1' hy c2) (h [(x,t)] s.toks (by unfold PySem.Txt.split; rw [if_neg c1,if_pos c2]; rfl))
  have few:(partsBetween x (occurrences x y 0 x.length (x.length + 1)) y.length).length≤sizeLine:=by
    have:=StrLaws.occ_length_le x y 0 x.length (x.length + 1)
    rw [length_partsBetween]
    omega
  refine go (meets_str_split_sep x y t u c1' hy (Bool.eq_false_iff.mpr c2) (by omega) few) ?_
  have z:=h (numbered s.toks (partsBetween x (occurrences x y 0 x.length (x.length + 1)) y.length)) (s.toks + (partsBetween x (occurrences x y 0 x.length (x.length + 1)) y.length).length) (by unfold PySem.Txt.split; rw [if_neg c1,if_neg c2]; exact numbered_texts _ _)
  rw [← strsFrom_eq] at z
  exact z
end
section
variable {X:Cx}
def rSplit:V→List V→Hp→VK→Prop:=fun x vs H Q=>∃ z y,x = .str z∧vs = [.str y]∧(y.length == 0) = false∧z.length + 2≤16777216∧∀ p,H p = none→Q (.ref p) (upd H p (.lst ((PySem.Txt.split z y).map V.str)))
theorem vals_strs:∀ (l:List (Str×Tok)),Vals ((l.map (·.1)).map V.str) (strValues l)
  | []=>.nil
  | (z,t) :: l=>.cons ⟨t,rfl⟩ (vals_strs l)
theorem mt_split:MtR X "str.split" rSplit:=by
  intro pins s σ H x vs v us Q I rx rv h
  obtain ⟨z,y,rfl,rfl,hy,hz,q⟩:=h
  obtain ⟨tk,rfl⟩:=rx
  obtain ⟨y',rfl,ry⟩:=rv.one
  obtain ⟨tk2,rfl⟩:=ry
  refine split_raw hy (by rw [sizeLine_eq]; exact hz) fun l k e=>?_
  refine ⟨.ref s.heap.objs.size,_,I.laid (fun b o e=>Heap.get?_push_of_some _ e) (Nat.le_refl _) (show ObjOk X.prog X.w _ _ _ (.lst ((PySem.Txt.split z y).map V.str)) from ⟨?_,strValues l,0,?_,Heap.get?_push_size _ rfl⟩),rfl,q _ I.fresh⟩
  · rw [List.length_map]; exact split_few (by rw [sizeLine_eq]; exact hz)
  · rw [← e]; exact vals_strs l
def rStarts:V→List V→Hp→VK→Prop:=fun x vs H Q=>∃ z y,x = .str z∧vs = [.str y]∧Q (.bl (PySem.Txt.startswith z y)) H
theorem mt_startswith:MtR X "str.startswith" rStarts:=by
  intro pins s σ H x vs v us Q I rx rv h
  obtain ⟨z,y,rfl,rfl,q⟩:=h
  obtain ⟨tk,rfl⟩:=rx
  obtain ⟨y',rfl,ry⟩:=rv.one
  obtain ⟨tk2,rfl⟩:=ry
  exact SC.startswith ⟨.bl _,H,I,rfl,q⟩
end
end L2
namespace L2
open PySem PySem.Spec PyProof.Rows
end L2
namespace L2
open PySem PySem.Spec PyProof.Rows
section
variable {X:Cx}
end
end L2
namespace L2
section
open PySem PySem.Calls PySem.Spec PyProof.Rows PySem.Builtin.Str
variable {X:Cx}
def rStrI:List V→Hp→VK→Prop:=fun xs H Q=>∃ n:Int,xs = [.int n]∧0≤n∧n < 10 ^ 10∧Q (.str (PySem.Str.ofString (toString n))) H
theorem call_strI:CallR X (.type "str") rStrI:=by
  intro pins s σ H xs us Q I r h
  obtain ⟨n,rfl,h0,h1,q⟩:=h
  obtain ⟨u,rfl,ru⟩:=vals1 r
  obtain ⟨t,rfl⟩:=ru
  refine PySem.P.str_of_int ?_ ⟨.str _,H,I.tok _,⟨_,rfl⟩,q⟩
  have h2:n.natAbs < 2 ^ 34:=by omega
  by_cases hz:n.natAbs = 0
  · rw [hz]; decide
  · exact Nat.lt_trans ((Nat.log2_lt hz).mpr h2) (by decide)
def rIntS:List V→Hp→VK→Prop:=fun xs H Q=>∃ (z:Str) (n:Int),xs = [.str z]∧PySem.intText? z = some n∧z.length≤640∧Q (.int n) H
theorem call_intS:CallR X (.type "int") rIntS:=by
  intro pins s σ H xs us Q I r h
  obtain ⟨z,n,rfl,h0,h1,q⟩:=h
  obtain ⟨u,rfl,ru⟩:=vals1 r
  obtain ⟨t,rfl⟩:=ru
  exact PySem.W.KIN.call_text h0 h1 ⟨.int n,H,I.tok _,⟨_,rfl⟩,q⟩
def partT (z y:Str):List Str:=match occurrences z y 0 z.length 1 with
  | i :: _=>[strSub z 0 i,y,strSub z (i + y.length) z.length]
  | []=>[z,Str.empty,Str.empty]
def rPart:V→List V→Hp→VK→Prop:=fun x vs H Q=>∃ z y,x = .str z∧vs = [.str y]∧(y.length == 0) = false∧z.length≤100000∧∀ p,H p = none→Q (.ref p) (upd H p (.tup ((partT z y).map V.str)))
theorem mt_partition:MtR X "str.partition" rPart:=by
  intro pins s σ H x vs v us Q I rx rv h
  obtain ⟨z,y,rfl,rfl,hy,hz,q⟩:=h
  obtain ⟨tk,rfl⟩:=rx
  obtain ⟨y',rfl,ry⟩:=rv.one
  obtain ⟨tk2,rfl⟩:=ry
  refine call_meets F.slot_str_partition (typeIs_str _ _ _) F.entry_str_partition (F.args_str_partition_2 _ _) (meets_str_partition z y tk tk2 hy (small (by omega))) ?_
  show EP X pins σ Q _ _
  refine ⟨.ref s.heap.objs.size,upd H s.heap.objs.size (.tup ((partT z y).map V.str)),?_,rfl,q _ I.fresh⟩
  unfold partT
  cases occurrences z y 0 z.length 1 with
  | nil=>exact I.laid (fun b o e=>Heap.get?_push_of_some _ e) (Nat.le_refl _) ⟨by show 3≤sizeLine; decide,_,.cons ⟨_,rfl⟩ (.cons ⟨_,rfl⟩ (.cons ⟨_,rfl⟩ .nil)),⟨_,Heap.get?_push_size _ rfl,rfl,_,rfl⟩⟩
  | cons i r=>exact I.laid (fun b o e=>Heap.get?_push_of_some _ e) (Nat.le_refl _) ⟨by show 3≤sizeLine; decide,_,.cons ⟨_,rfl⟩ (.cons ⟨_,rfl⟩ (.cons ⟨_,rfl⟩ .nil)),⟨_,Heap.get?_push_size _ rfl,rfl,_,rfl⟩⟩
def rSplitN:V→List V→Hp→VK→Prop:=fun x vs H Q=>∃ z y k,x = .str z∧vs = [.str y,.int k]∧(y.length == 0) = false∧z.length + 2≤16777216∧0≤k∧k < 1000∧∀ p,H p = none→Q (.ref p) (upd H p (.lst ((PySem.Txt.splitMax z y k).map V.str)))
theorem splitN_raw {prog:Program} {w:World} {A:Around} {E:Value→Shared→Prop} {s:Shared} {x y:Str} {k:Int} {t u v:Tok} {Q:Value→Shared→Prop} (hy:(y.length == 0) = false) (hz:x.length + 2≤sizeLine) (k0:0≤k) (k1:k < 1000)
    (h:∀ (l:List (Str×Tok)) (k':Nat),l.map (·.1) = PySem.Txt.splitMax x y k→Q (.ref s.heap.objs.size) { s with heap:=s.heap.push { cls:=.type "list",data:=.seq (strValues l).toArray },toks:=k' }) :
    wpAny (model prog w) A (call (.builtin "str.split") [.str x t,.str y u,.int k v]) Q E s:=by
  have hk:(decide (k < -(2 ^ 63:Int)) || decide (k ≥ 2 ^ 63)) = false:=by rw [decide_eq_false (by omega),decide_eq_false (by omega)]; rfl
  have go:∀ {S:PySem.Spec},Meets (Builtin.«str.split» ⟨[.str x t,.str y u,.int k v],[]⟩) S→S A (wants Q E) s→wpAny (model prog w) A (call (.builtin "str.split") [.str x t,.str y u,.int k v]) Q E s:=
    fun g z=>call_meets F.slot_str_split (typeIs_str _ _ _) F.entry_str_split (F.args_str_split_3 _ _ _) g z
  by_cases c1:(decide (x.length < y.length) || decide (strKind x < strKind y)) = true
  · exact go (meets_str_split_max_cannot_occur x y k t u v hk c1) (h [(x,t)] s.toks (by unfold PySem.Txt.splitMax; rw [if_pos c1]; rfl))
  have c1':=Bool.eq_false_iff.mpr c1
  by_cases c2:(occurrences x y 0 x.length (limitOf x k)).isEmpty = true
  · exact go (meets_str_split_max_not_found x y k t u v hk c1' hy c2) (h [(x,t)] s.toks (by unfold PySem.Txt.splitMax; rw [if_neg c1,if_pos c2]; rfl))
  have few:(partsBetween x (occurrences x y 0 x.length (limitOf x k)) y.length).length≤sizeLine:=by
    have:=StrLaws.occ_length_le x y 0 x.length (limitOf x k)
    rw [length_partsBetween]
    have hl:limitOf x k≤1000:=by unfold limitOf; rw [if_neg (by omega)]; omega
    exact small (by omega)
  refine go (meets_str_split_sep_max x y k t u v hk c1' hy (Bool.eq_false_iff.mpr c2) (by omega) few) ?_
  have z:=h (numbered s.toks (partsBetween x (occurrences x y 0 x.length (limitOf x k)) y.length)) (s.toks + (partsBetween x (occurrences x y 0 x.length (limitOf x k)) y.length).length) (by unfold PySem.Txt.splitMax; rw [if_neg c1,if_neg c2]; exact numbered_texts _ _)
  rw [← strsFrom_eq] at z
  exact z
theorem mt_split2:MtR X "str.split" rSplitN:=by
  intro pins s σ H x vs v us Q I rx rv h
  obtain ⟨z,y,k,rfl,rfl,hy,hz,k0,k1,q⟩:=h
  obtain ⟨tk,rfl⟩:=rx
  obtain ⟨y',k',rfl,ry,rk⟩:=vals2 rv
  obtain ⟨tk2,rfl⟩:=ry
  obtain ⟨tk3,rfl⟩:=rk
  refine splitN_raw hy (by rw [sizeLine_eq]; exact hz) k0 k1 fun l k' e=>?_
  refine ⟨.ref s.heap.objs.size,_,I.laid (fun b o e=>Heap.get?_push_of_some _ e) (Nat.le_refl _) (show ObjOk X.prog X.w _ _ _ (.lst ((PySem.Txt.splitMax z y k).map V.str)) from ⟨?_,strValues l,0,?_,Heap.get?_push_size _ rfl⟩),rfl,q _ I.fresh⟩
  · rw [List.length_map]
    unfold PySem.Txt.splitMax
    split
    · show 1≤sizeLine; decide
    · split
      · show 1≤sizeLine; decide
      · have:=StrLaws.occ_length_le z y 0 z.length (limitOf z k)
        rw [length_partsBetween]
        have hl:limitOf z k≤1000:=by unfold limitOf; rw [if_neg (by omega)]; omega
        exact small (by omega)
  · rw [← e]; exact vals_strs l
def tRev (K:PySem.W.Frag) (te:TE) (ts:TO):TE:=fun σ H Q=>te σ H fun x H1=>ts σ H1 fun o H2=>o = some (-1)∧∃ a xs,x = .ref a∧SqL K H2 a xs∧∀ p,H2 p = none→Q (.ref p) (upd H2 p (.lst xs.reverse))
theorem rev_pick (its:List Value):slicePick its.toArray none none (some (-1)) = its.reverse.toArray:=by
  unfold slicePick
  have hb:sliceBounds none none (some (-1)) its.toArray.size = ((its.length:Int) - 1,-1,-1):=by
    simp [sliceBounds]
  rw [hb]
  have hr:sliceRange ((its.length:Int) - 1) (-1) (-1) = (List.range its.length).map fun k=>its.length - 1 - k:=by
    unfold sliceRange
    have hc:(if (its.length:Int) - 1 > -1 then ((its.length:Int) - 1 - -1 - -1 - 1) / (- -1) else 0).toNat = its.length:=by
      rw [Int.neg_neg,Int.ediv_one]
      by_cases h0:(its.length:Int) - 1 > -1
      · rw [if_pos h0]; omega
      · rw [if_neg h0]; omega
    simp only [show ¬ ((-1:Int) > 0) by decide,if_false]
    rw [hc]
    refine List.map_congr_left fun k hk=>?_
    have:=List.mem_range.mp hk
    omega
  show ((sliceRange ((its.length:Int) - 1) (-1) (-1)).filterMap (its.toArray[·]?)).toArray = _
  rw [hr]
  congr 1
  have e:((List.range its.length).map fun k=>its.length - 1 - k).filterMap (fun k=>its.toArray[k]?) = (List.range its.length).filterMap fun k=>its[its.length - 1 - k]?:=by
    rw [List.filterMap_map]
    simp only [List.getElem?_toArray,Function.comp_def]
  rw [e]
  have g:∀ (l:List Nat) (n:Nat) (xs:List Value),(∀ k∈l,k < xs.length)→l.filterMap (fun k=>xs[k]?) = l.map fun k=>xs.getD k Value.none:=by
    intro l n xs
    induction l with
    | nil=>intro _; rfl
    | cons k l ih=>
      intro h
      have hk:=h k (List.mem_cons_self ..)
      rw [List.filterMap_cons_some (b:=xs[k]) (List.getElem?_eq_getElem hk),ih fun j hj=>h j (List.mem_cons_of_mem _ hj),List.map_cons]
      congr 1
      rw [List.getD_eq_getElem?_getD,List.getElem?_eq_getElem hk]; rfl
  have e2:((List.range its.length).filterMap fun k=>its[its.length - 1 - k]?) = ((List.range its.length).map fun k=>its.length - 1 - k).filterMap fun k=>its[k]?:=by
    rw [List.filterMap_map]; rfl
  rw [e2,g _ 0 its (fun k hk=>by
    obtain ⟨j,hj,rfl⟩:=List.mem_map.mp hk
    have:=List.mem_range.mp hj
    omega),List.map_map]
  refine List.ext_getElem? fun k=>?_
  rw [List.getElem?_map]
  by_cases hk:k < its.length
  · rw [List.getElem?_range hk,List.getElem?_reverse hk]
    show some (its.getD (its.length - 1 - k) Value.none) = _
    rw [List.getD_eq_getElem?_getD,List.getElem?_eq_getElem (by omega)]; rfl
  · rw [List.getElem?_eq_none (by rw [List.length_range]; omega),List.getElem?_eq_none (by rw [List.length_reverse]; omega)]; rfl
theorem pe_rev {e st:Expr} {te:TE} {ts:TO} {p2 pos:Pos} (he:PE X e te) (hs:PO X (some st) ts):PE X (.Subscript e (.Slice none none (some st) p2) pos) (tRev X.K te ts):=by
  intro pins s σ H Q I h
  refine Subscript_ (thn (he pins s σ H _ I h) fun v s1 ⟨x,H1,I1,r1,q1⟩=>?_)
  refine wpAny_Slice ?_
  rw [evalPart_none]
  refine wpAny_pure (wpAny_pure (thn (hs pins s1 σ H1 _ I1 q1) fun vs s3 ⟨o,H3,I3,ps,q3⟩=>?_))
  obtain ⟨rfl,a,xs,rfl,hx,q⟩:=q3
  cases r1
  have I4:Inv X pins σ H3 { s3 with heap:=s3.heap.push { cls:=.type "slice",data:=.fields #[.none,.none,vs] } }:=I3.kept (t':=s3.toks) fun b ob q=>Heap.get?_push_of_some _ q
  obtain ⟨its,r,ht,hz⟩:=I4.list hx
  have hlen:=r.length
  show wpAny (model X.prog X.w) X.A (subscriptTail e (.Slice none none (some st) p2) (.ref a) (.ref s3.heap.objs.size)) (EP X pins σ Q) X.xe { s3 with heap:=s3.heap.push { cls:=.type "slice",data:=.fields #[.none,.none,vs] } }
  refine tail_any (ops:=[.ref a,.ref s3.heap.objs.size]) ht.isList.typeIs slot_list_getitem.lookup ?_ (by with_unfolding_all rfl)
  refine wpAny_getItem_list_slice ht.isList (Heap.IsSliceOf.new ..) .none .none ps (by simp) ?_ (by rw [List.size_toArray] <;> omega)
  rw [rev_pick]
  refine ⟨.ref _,_,I4.laid (t':=s3.toks) (o:=.lst xs.reverse) (fun b ob q=>Heap.get?_push_of_some _ q) (Nat.le_refl _) ?_,rfl,q _ (I4.hok.fresh (Nat.le_refl _))⟩
  exact ⟨by rw [List.length_reverse]; exact hz,_,0,r.reverse,Heap.get?_push_size _ rfl⟩
end
end L2
namespace L2
open PySem PySem.Spec PyProof.Rows
abbrev IsZipS (h:Heap) (z TI TO:Addr) (f0:Value):Prop:=
  h.get? z = some { cls:=.type "zip",dict:=none,data:=.fields #[f0,.bool false,.bool true,.ref TI,.ref TO],slots:=#[] }
section
variable {prog:Program} {w:World} {A:Around} {E:Value→Shared→Prop} {s:Shared} {it:Addr} {fp:List Addr} {n i:Nat} {P:Nat→Value→Prop} {St:Nat→Heap→Prop}
theorem noe_item (D:Draws prog w A it fp n P St) (hi:i < n) (st:St i s.heap) {Q:Option Value→Shared→Prop} (h:∀ x h' tk,P i x→St (i + 1) h'→Heap.SameBut it s.heap h'→Q (some x) { s with heap:=h',toks:=tk }) :
    wpAny (model prog w) A (Builtin.SmallTypes.nextOrEnd (.ref it)) Q E s:=by
  unfold Builtin.SmallTypes.nextOrEnd
  exact wpAny_bind (wpAny_attempt (D.item i s _ _ hi st fun x h' tk p q r=>wpAny_pure (h x h' tk p q r)))
theorem noe_done (D:Draws prog w A it fp n P St) (st:St n s.heap) {Q:Option Value→Shared→Prop} (h:∀ h',Heap.ExtBut it s.heap h'→Q none { s with heap:=h' }) :
    wpAny (model prog w) A (Builtin.SmallTypes.nextOrEnd (.ref it)) Q E s:=by
  unfold Builtin.SmallTypes.nextOrEnd
  exact wpAny_bind (wpAny_attempt (D.done s _ _ st fun h' e k ⟨o,ho,hc⟩=>wpAny_bind (wpAny_isInstance (T:="StopIteration") (b:=true) ⟨o,ho,hc⟩ isSubtype_stop (wpAny_pure (h h' k)))))
theorem stop_raised (hh:A.handled = none) {Q:Fin→Shared→Prop} (h:∀ h' e,(∀ c o,s.heap.get? c = some o→h'.get? c = some o)→(∃ o,h'.get? e = some o∧o.cls = .type "StopIteration")→E (.ref e) { s with heap:=h' }) :
    wpAny (model prog w) A Builtin.SmallTypes.stopIteration Q E s:=by
  unfold Builtin.SmallTypes.stopIteration
  wp_walk
  unfold raiseNew
  refine wpAny_bind (wpAny_handled ?_)
  rw [hh]
  exact wpAny_bind (wpAny_pure (wpAny_throw (h _ _ (fun c o e=>Heap.get?_push_of_some _ (Heap.get?_push_of_some _ e)) ⟨_,Heap.get?_push_size _ rfl,rfl⟩)))
end
section
variable {prog:Program} {w:World} {A:Around} {E:Value→Shared→Prop} {s:Shared} {z TI TO i1 i2:Addr} {f1 f2:List Addr} {n i:Nat} {P1 P2:Nat→Value→Prop} {St1 St2:Nat→Heap→Prop} {a b:Value}
theorem zipS_ask (D1:Draws prog w A i1 f1 n P1 St1) (D2:Draws prog w A i2 f2 n P2 St2) (Z:ZA z TI TO i1 i2 f1 f2) (hz:IsZipS s.heap z TI TO .none) (hTI:IsPair s.heap TI (.ref i1) (.ref i2)) (hTO:IsPair s.heap TO a b) (s1:St1 i s.heap) (s2:St2 i s.heap)
    {Q:Value→Shared→Prop} (hi:i < n∨i = n) (more:i < n→∀ h' x y tk,P1 i x→P2 i y→IsZipS h' z TI TO (rawInt s.heap.objs.size)→IsPair h' TI (.ref i1) (.ref i2)→IsPair h' TO x y→St1 (i + 1) h'→St2 (i + 1) h'→IsPair h' s.heap.objs.size x y→
      (∀ c o,c≠z→c≠TO→c≠i1→c≠i2→s.heap.get? c = some o→h'.get? c = some o)→Q (.ref s.heap.objs.size) { s with heap:=h',toks:=tk })
    (hh:A.handled = none) (over:i = n→∀ h' e,(∀ c o,c≠z→c≠i1→c≠i2→s.heap.get? c = some o→h'.get? c = some o)→(∃ o,h'.get? e = some o∧o.cls = .type "StopIteration")→E (.ref e) { s with heap:=h' }) :
    wpAny (model prog w) A (Builtin.«zip.__next__» ⟨[.ref z],[]⟩) (fun fin s'=>∃ v,fin = .done (.ret v)∧Q v s') E s:=by
  change wpAny _ _ (field (.ref z) 2 >>= _) _ _ _
  refine wpAny_bind (wpAny_field hz rfl (x:=.bool true) rfl ?_)
  change wpAny _ _ (field (.ref z) 3 >>= _) _ _ _
  refine wpAny_bind (wpAny_field hz rfl (x:=.ref TI) rfl ?_)
  refine wpAny_bind (wpAny_seqItems hTI rfl ?_)
  change wpAny _ _ (Builtin.SmallTypes.ownedTupleIsFree (.ref z) >>= _) _ _ _
  refine wpAny_bind (m:=Builtin.SmallTypes.ownedTupleIsFree (.ref z)) ?_
  unfold Builtin.SmallTypes.ownedTupleIsFree
  refine wpAny_bind (wpAny_field hz rfl (x:=.none) rfl (wpAny_pure ?_))
  rw [if_pos rfl]
  refine wpAny_bind (wpAny_rule ?_)
  refine wpAny_bind (wpAny_field hz rfl (x:=.ref TO) rfl ?_)
  refine wpAny_bind (wpAny_setField_rec hz (by simp) fun g1 y1 k1=>wpAny_bind ?_)
  have y1':IsZipS g1 z TI TO .ellipsis:=y1
  have u1:St1 i g1:=D1.frame i _ _ s1 fun c hc o e=>k1.extBut c o (fun q=>Z.z1 (q ▸ hc)) e
  simp only [List.zipIdx_cons,List.zipIdx_nil,List.forIn_cons,List.forIn_nil]
  refine wpAny_bind (wpAny_bind (wpAny_onRaise ?_))
  change wpAny _ _ (Builtin.SmallTypes.nextOrEnd (.ref i1)) _ _ _
  rcases hi with hi | hi
  ·
    refine noe_item D1 hi u1 fun x g2 tk2 px v2 k2=>?_
    have p2:IsPair g2 TO a b:=k2.extBut _ _ Z.TOi1 (k1.extBut _ _ Z.TOz hTO)
    refine wpAny_bind (wpAny_seqItems p2 rfl (wpAny_bind (wpAny_updateSeq_pair p2 fun g3 p3 k3=>wpAny_bind (wpAny_letGo (wpAny_pure ?_)))))
    have p3':IsPair g3 TO x b:=p3
    have w3:St2 i g3:=D2.frame i _ _ s2 fun c hc o e=>k3.extBut c o (fun q=>Z.o2 (q ▸ hc)) (k2.extBut c o (fun q=>Z.j2 (q ▸ hc)) (k1.extBut c o (fun q=>Z.z2 (q ▸ hc)) e))
    refine wpAny_bind (wpAny_bind (wpAny_onRaise ?_))
    change wpAny _ _ (Builtin.SmallTypes.nextOrEnd (.ref i2)) _ _ _
    refine noe_item D2 hi w3 fun y g4 tk4 py v4 k4=>?_
    have p4:IsPair g4 TO x b:=k4.extBut _ _ Z.TOi2 p3'
    refine wpAny_bind (wpAny_seqItems p4 rfl (wpAny_bind (wpAny_updateSeq_pair p4 fun g5 p5 k5=>wpAny_bind (wpAny_letGo (wpAny_pure (wpAny_pure ?_))))))
    have p5':IsPair g5 TO x y:=p5
    refine wpAny_bind (wpAny_seqItems p5' rfl (wpAny_bind (wpAny_newTuple ?_)))
    have size:g5.objs.size = s.heap.objs.size:=k5.1.trans (k4.1.trans (k3.1.trans (k2.1.trans k1.1)))
    have keep:∀ c o,c≠z→c≠TO→c≠i1→c≠i2→s.heap.get? c = some o→g5.get? c = some o:=fun c o c1 c2 c3 c4 e=>
      k5.extBut _ _ c2 (k4.extBut _ _ c4 (k3.extBut _ _ c2 (k2.extBut _ _ c3 (k1.extBut _ _ c1 e))))
    have y5:IsZipS g5 z TI TO .ellipsis:=k5.extBut _ _ Z.TOz.symm (k4.extBut _ _ Z.i2z.symm (k3.extBut _ _ Z.TOz.symm (k2.extBut _ _ Z.i1z.symm y1')))
    have v5:St1 (i + 1) g5:=D1.frame _ _ _ v2 fun c hc o e=>k5.extBut c o (fun q=>Z.o1 (q ▸ hc)) (k4.extBut c o (fun q=>Z.j1 (q ▸ hc)) (k3.extBut c o (fun q=>Z.o1 (q ▸ hc)) e))
    have w5:St2 (i + 1) g5:=D2.frame _ _ _ v4 fun c hc o e=>k5.extBut c o (fun q=>Z.o2 (q ▸ hc)) e
    have below:=Heap.lt_size y5
    refine wpAny_bind (m:=Builtin.SmallTypes.ownedTupleHandOut (.ref z) (.ref g5.objs.size)) ?_
    have y6:IsZipS (g5.push { cls:=.type "tuple",data:=.seq #[x,y] }) z TI TO .ellipsis:=Heap.get?_push_of_some _ y5
    refine wpAny_bind (wpAny_setField_rec y6 (by simp) fun g7 y7 k7=>?_)
    have y7':IsZipS g7 z TI TO (rawInt g5.objs.size):=y7
    refine wpAny_setField_rec y7' (by simp) fun g8 y8 k8=>?_
    have y8':IsZipS g8 z TI TO (rawInt g5.objs.size):=y8
    have up:∀ c o,c≠z→g5.get? c = some o→g8.get? c = some o:=fun c o c1 e=>k8.extBut _ _ c1 (k7.extBut _ _ c1 (Heap.get?_push_of_some _ e))
    have pr:IsPair g8 g5.objs.size x y:=k8.extBut _ _ (Nat.ne_of_gt below) (k7.extBut _ _ (Nat.ne_of_gt below) (Heap.get?_push_size _ rfl))
    rw [size] at y8' pr
    refine wpAny_pure ⟨.ref g5.objs.size,rfl,?_⟩
    rw [size]
    exact more hi g8 x y tk4 px py y8' (up _ _ Z.TIz (keep _ _ Z.TIz Z.TITO Z.TIi1 Z.TIi2 hTI)) (up _ _ Z.TOz p5') (D1.frame _ _ _ v5 fun c hc o e=>up c o (fun q=>Z.z1 (q ▸ hc)) e) (D2.frame _ _ _ w5 fun c hc o e=>up c o (fun q=>Z.z2 (q ▸ hc)) e)
      pr fun c o c1 c2 c3 c4 e=>up c o c1 (keep c o c1 c2 c3 c4 e)
  ·
    have u1':St1 n g1:=hi ▸ u1
    refine noe_done D1 u1' fun g2 k2=>?_
    have y2:IsZipS g2 z TI TO .ellipsis:=k2 _ _ Z.i1z.symm y1'
    refine wpAny_bind (wpAny_setField_rec y2 (by simp) fun g3 y3 k3=>?_)
    have w3:St2 n g3:=D2.frame n _ _ (hi ▸ s2) fun c hc o e=>k3.extBut c o (fun q=>Z.z2 (q ▸ hc)) (k2 c o (fun q=>Z.j2 (q ▸ hc)) (k1.extBut c o (fun q=>Z.z2 (q ▸ hc)) e))
    refine wpAny_bind ?_
    change wpAny _ _ (Bind.bind (Bind.bind (Bind.bind (Builtin.SmallTypes.nextOrEnd (.ref i2)) _) _) _) _ _ _
    refine wpAny_bind (wpAny_bind (wpAny_bind (noe_done (s:={ s with heap:=g3 }) D2 w3 fun g4 k4=>?_)))
    refine wpAny_pure (wpAny_pure (wpAny_bind (wpAny_rule ?_)))
    exact stop_raised hh fun h' e k5 he=>over hi h' e (fun c o c1 c3 c4 q=>k5 _ _ (k4 _ _ c4 (k3.extBut _ _ c1 (k2 _ _ c3 (k1.extBut _ _ c1 q))))) he
end
section
variable {prog:Program} {w:World} {A:Around} {E:Value→Shared→Prop} {s:Shared} {z TI TO i1 i2:Addr} {f1 f2:List Addr} {n i:Nat} {P1 P2:Nat→Value→Prop} {St1 St2:Nat→Heap→Prop} {a b:Value}
theorem next_zipS (D1:Draws prog w A.in1 i1 f1 n P1 St1) (D2:Draws prog w A.in1 i2 f2 n P2 St2) (Z:ZA z TI TO i1 i2 f1 f2) (hi:i < n∨i = n) (hz:IsZipS s.heap z TI TO .none) (hTI:IsPair s.heap TI (.ref i1) (.ref i2)) (hTO:IsPair s.heap TO a b) (s1:St1 i s.heap) (s2:St2 i s.heap)
    {Q:Option Value→Shared→Prop} (more:i < n→∀ h' x y tk,P1 i x→P2 i y→IsZipS h' z TI TO (rawInt s.heap.objs.size)→IsPair h' TI (.ref i1) (.ref i2)→IsPair h' TO x y→St1 (i + 1) h'→St2 (i + 1) h'→IsPair h' s.heap.objs.size x y→
      (∀ c o,c≠z→c≠TO→c≠i1→c≠i2→s.heap.get? c = some o→h'.get? c = some o)→Q (some (.ref s.heap.objs.size)) { s with heap:=h',toks:=tk })
    (hh:A.handled = none) (over:i = n→∀ h',(∀ c o,c≠z→c≠i1→c≠i2→s.heap.get? c = some o→h'.get? c = some o)→Q none { s with heap:=h' }) :
    wpAny (model prog w) A (pyNext (.ref z)) Q E s:=by
  have T:s.TypeIs (.ref z) "zip":=⟨_,hz,rfl⟩
  unfold pyNext
  refine wpAny_bind (wpAny_attempt (wpAny_callSpecial?_slot T F.slot_zip_next (wpAny_call_entry F.slot_zip_next T F.entry_zip_next (zipS_ask D1 D2 Z hz hTI hTO s1 s2 hi ?_ hh ?_) (F.args_zip_next_1 _))))
  · exact fun hl h' x y tk a0 a1 a2 a3 a4 a5 a6 a7 a8=>wpAny_pure (more hl h' x y tk a0 a1 a2 a3 a4 a5 a6 a7 a8)
  · exact fun hn h' e hk ⟨o,ho,hc⟩=>wpAny_bind (wpAny_isInstance (T:="StopIteration") (b:=true) ⟨o,ho,hc⟩ isSubtype_stop (wpAny_pure (over hn _ hk)))
end
def itCls:Bool→String
  | true=>"list_iterator"
  | false=>"tuple_iterator"
def SrcIt (k:Bool) (h:Heap) (it a:Addr) (i:Nat):Prop:=∃ o,h.get? it = some o∧o.cls = .type (itCls k)∧o.data = .fields #[.ref a,.int i 0]
def Src:Bool→Heap→Addr→Array Value→Prop
  | true,h,a,its=>h.IsList a its
  | false,h,a,its=>h.IsTuple a its
def SqS (K:PySem.W.Frag):Bool→Hp→Addr→List V→Prop
  | true,H,a,xs=>SqL K H a xs
  | false,H,a,xs=>SqT K H a xs
theorem draws_src {prog:Program} {w:World} {A:Around} (hh:A.handled = none) (it t:Addr) (hne:t≠it) (items:Array Value):(k:Bool)→
    Draws prog w A it [it,t] items.size (fun i v=>items[i]? = some v) (fun i h=>SrcIt k h it t i∧Src k h t items)
  | true=>Draws.list hh it t hne items
  | false=>draws_tup hh it t hne items
abbrev itNew (k:Bool) (a:Addr):Obj:={ cls:=.type (itCls k),data:=.fields #[.ref a,.int 0 0] }
theorem iter_src {prog:Program} {w:World} {A:Around} {E:Value→Shared→Prop} {s:Shared} {a:Addr} {its:Array Value} {Q:Value→Shared→Prop}:(k:Bool)→Src k s.heap a its→Q (.ref s.heap.objs.size) { s with heap:=s.heap.push (itNew k a) }→wpAny (model prog w) A (pyIter (.ref a)) Q E s
  | true,h,q=>wpAny_pyIter_list h q
  | false,h,q=>wpAny_pyIter_tuple h q
theorem Src.push {h:Heap} {a:Addr} {its:Array Value} (o:Obj):(k:Bool)→Src k h a its→Src k (h.push o) a its
  | true,⟨x,e,r⟩=>⟨x,Heap.get?_push_of_some _ e,r⟩
  | false,⟨x,e,r⟩=>⟨x,Heap.get?_push_of_some _ e,r⟩
theorem tc_zipS (a b v:Value):checkTypeCall "zip" ⟨[a,b],[("strict",v)]⟩ = pure ():=by kernel_rfl
theorem nc_zipS (a b v:Value):checkBuiltinCall "zip.__new__" ⟨[.type "zip",a,b],[("strict",v)]⟩ = pure ():=by kernel_rfl
theorem ao_zipS (obj a b v:Value):argsOk "object.__init__" ⟨[obj,a,b],[("strict",v)]⟩:=by kernel_rfl
theorem oi_zipS {self a b v:Value}:Meets (Builtin.«object.__init__» ⟨[self,a,b],[("strict",v)]⟩) fun _ R s=>s.TypeIs self "zip"∧R (.ok (.ret .none)) s:=by
  have hl:=F.called_zip.init.lookup
  have hm:=F.called_zip.made
  have hne:(some "zip.__new__" != some "object.__new__") = true:=by decide
  refine .of_wp fun prog w A R s h=>?_
  obtain ⟨hT,hq⟩:=h
  repeat (any_goals (first | wp_step | assumption))
  all_goals exact ⟨_,rfl,hq⟩
abbrev zs1 (k:Bool) (h:Heap) (a:Addr):Heap:=h.push (itNew k a)
abbrev zs2 (k j:Bool) (h:Heap) (a b:Addr):Heap:=(zs1 k h a).push (itNew j b)
abbrev zs3 (k j:Bool) (h:Heap) (a b:Addr):Heap:=(zs2 k j h a b).push { cls:=.type "tuple",data:=.seq #[.ref h.objs.size,.ref (zs1 k h a).objs.size] }
abbrev zs4 (k j:Bool) (h:Heap) (a b:Addr):Heap:=(zs3 k j h a b).push { cls:=.type "tuple",data:=.seq #[.none,.none] }
abbrev zs5 (k j:Bool) (h:Heap) (a b:Addr):Heap:=(zs4 k j h a b).push { cls:=.type "zip",data:=.fields #[.none,.bool false,.bool true,.ref (zs2 k j h a b).objs.size,.ref (zs3 k j h a b).objs.size] }
theorem meets_zipS (k j:Bool) (a b:Addr) (xs ys:Array Value):Meets (Builtin.«zip.__new__» ⟨[.type "zip",.ref a,.ref b],[("strict",.bool true)]⟩) (fun _ R s=>Src k s.heap a xs∧Src j s.heap b ys∧R (.ok (.ret (.ref (zs4 k j s.heap a b).objs.size))) { s with heap:=zs5 k j s.heap a b }):=
  .of_wp fun prog w A R s h=>by
    obtain ⟨hp,g,d,tk,os⟩:=s; obtain ⟨ha,hb,h⟩:=h
    have hsub:=sub_zip
    have h1:Src k (Shared.heap ⟨hp,g,d,tk,os⟩) a xs:=ha
    have h2:Src j (Shared.heap ⟨hp.push (itNew k a),g,d,tk,os⟩) b ys:=Src.push _ j hb
    wp_walk using iter_src k h1,iter_src j h2
    exact ⟨_,rfl,h⟩
section
variable {prog:Program} {w:World} {A:Around} {E:Value→Shared→Prop} {s:Shared}
theorem call_zipS (k j:Bool) {a b:Addr} {xs ys:Array Value} {Q:Value→Shared→Prop} (ha:Src k s.heap a xs) (hb:Src j s.heap b ys)
    (h:∀ h',IsZipS h' (s.heap.objs.size + 4) (s.heap.objs.size + 2) (s.heap.objs.size + 3) .none→IsPair h' (s.heap.objs.size + 2) (.ref s.heap.objs.size) (.ref (s.heap.objs.size + 1))→IsPair h' (s.heap.objs.size + 3) .none .none→
      SrcIt k h' s.heap.objs.size a 0→SrcIt j h' (s.heap.objs.size + 1) b 0→(∀ c o,s.heap.get? c = some o→h'.get? c = some o)→Q (.ref (s.heap.objs.size + 4)) { s with heap:=h' }) :
    wpAny (model prog w) A (call (.type "zip") [.ref a,.ref b] [("strict",.bool true)]) Q E s:=by
  have z1:(zs1 k s.heap a).objs.size = s.heap.objs.size + 1:=Heap.size_push ..
  have z2:(zs2 k j s.heap a b).objs.size = s.heap.objs.size + 2:=by rw [Heap.size_push,z1]
  have z3:(zs3 k j s.heap a b).objs.size = s.heap.objs.size + 3:=by rw [Heap.size_push,z2]
  have z4:(zs4 k j s.heap a b).objs.size = s.heap.objs.size + 4:=by rw [Heap.size_push,z3]
  have g5:(zs5 k j s.heap a b).get? (zs4 k j s.heap a b).objs.size = some _:=Heap.get?_push_size _ rfl
  have g4:(zs5 k j s.heap a b).get? (zs3 k j s.heap a b).objs.size = some _:=Heap.get?_push_of_some _ (Heap.get?_push_size _ rfl)
  have g3:(zs5 k j s.heap a b).get? (zs2 k j s.heap a b).objs.size = some _:=Heap.get?_push_of_some _ (Heap.get?_push_of_some _ (Heap.get?_push_size _ rfl))
  have g2:(zs5 k j s.heap a b).get? (zs1 k s.heap a).objs.size = some _:=Heap.get?_push_of_some _ (Heap.get?_push_of_some _ (Heap.get?_push_of_some _ (Heap.get?_push_size _ rfl)))
  have g1:(zs5 k j s.heap a b).get? s.heap.objs.size = some _:=Heap.get?_push_of_some _ (Heap.get?_push_of_some _ (Heap.get?_push_of_some _ (Heap.get?_push_of_some _ (Heap.get?_push_size _ rfl))))
  have q:Q (.ref (s.heap.objs.size + 4)) { s with heap:=zs5 k j s.heap a b }:=by
    rw [z2,z3,z4] at g5
    rw [z1,z2] at g3
    rw [z3] at g4
    rw [z1] at g2
    exact h _ g5 g3 g4 ⟨_,g1,rfl,rfl⟩ ⟨_,g2,rfl,rfl⟩ fun c o x=>
      Heap.get?_push_of_some _ (Heap.get?_push_of_some _ (Heap.get?_push_of_some _ (Heap.get?_push_of_some _ (Heap.get?_push_of_some _ x))))
  have ft:=F.called_zip
  obtain ⟨c,tl,hmro⟩:=ft.mro
  have hmade:=ft.made
  have hsub:=ft.sub
  have hct:=tc_zipS (.ref a) (.ref b) (.bool true)
  refine wpAny_call (codeAny_of_tree (wpAny_pure (?_:_∧_)))
  refine ⟨Code.quiet_builtin _ (by decide +kernel),codeAny_builtin F.entry_type_call ?_⟩
  rw [Around.under_plain (weight_type_call_type "zip" _ _) (units_type_call_type "zip" _ _)]
  have h1:=ft.notType
  have h2:=ft.canCreate
  repeat (any_goals (first | wp_step | assumption))
  rw [← z4] at q
  have hT:Shared.TypeIs { s with heap:=zs5 k j s.heap a b } (.ref (zs4 k j s.heap a b).objs.size) "zip":=⟨_,g5,rfl⟩
  let s':Shared:={ s with heap:=zs5 k j s.heap a b }
  have key:codeAny (model prog w) A.in1 (.call (.builtin "zip.__new__") ⟨[.type "zip",.ref a,.ref b],[("strict",.bool true)]⟩) (fun r s1=>r = .ok (.ret (.ref (zs4 k j s.heap a b).objs.size))∧s1 = s') s:=
    codeAny_call_builtin ft.plain F.entry_zip_new (wpAny_of_eq (nc_zipS _ _ _) (meets_zipS k j a b xs ys prog w A.in1 (fun r s1=>r = .ok (.ret (.ref (zs4 k j s.heap a b).objs.size))∧s1 = s') s ⟨ha,hb,rfl,rfl⟩))
  refine codeAny_mono key fun r s₁ hr=>?_
  obtain ⟨rfl,rfl⟩:=hr
  have hT:s'.TypeIs (.ref (zs4 k j s.heap a b).objs.size) "zip":=hT
  have hq:Q (.ref (zs4 k j s.heap a b).objs.size) s':=q
  clear_value s'
  generalize (zs4 k j s.heap a b).objs.size = zz at hT hq ⊢
  have hli:=ft.init.lookup
  have hbi:=ft.init.bind (.ref zz)
  show wpAny _ _ _ _ _ _
  repeat (any_goals (first | wp_step | assumption))
  have key2:codeAny (model prog w) A.in1 (.call (.builtin "object.__init__") ⟨[.ref zz,.ref a,.ref b],[("strict",.bool true)]⟩) (fun r s1=>r = .ok (.ret .none)∧s1 = s') s':=
    codeAny_call_builtin ft.init.plain F.entry_object_init (ft.init.check _ _ _ _ _ _ _ _ hT (ao_zipS _ _ _ _) (oi_zipS prog w A.in1 (fun r s1=>r = .ok (.ret .none)∧s1 = s') s' ⟨hT,rfl,rfl⟩))
  refine codeAny_mono key2 fun r s₂ hr=>?_
  obtain ⟨rfl,rfl⟩:=hr
  show wpAny _ _ _ _ _ _
  repeat (any_goals (first | wp_step | assumption))
theorem go_zipS {elts:List Expr} {x1} {pos:Pos} {z TI TO T:Addr} {Q:Unit→Shared→Prop} (hz:IsZipS s.heap z TI TO (rawInt T))
    (hQ:∀ h',IsZipS h' z TI TO .none→Heap.SameBut z s.heap h'→Q () { s with heap:=h' }) :
    wpAny (model prog w) A (letOwnedTupleGo (.Tuple elts x1 pos) (.ref z) (.ref T)) Q E s:=by
  unfold letOwnedTupleGo
  refine wpAny_bind (wpAny_load hz ?_)
  show wpAny _ _ (if (["enumerate","zip","dict_itemiterator","dict_reverseitemiterator","odict_iterator","itertools.zip_longest","itertools.pairwise"].contains "zip" &&
      (#[rawInt T,.bool false,.bool true,.ref TI,.ref TO]:Array Value)[0]? == some (rawInt T)) = true then _ else _) Q E s
  rw [if_pos (by simp)]
  refine wpAny_bind (wpAny_rule ?_)
  show wpAny _ _ (setField (.ref z) 0 .none) Q E s
  exact wpAny_setField_rec hz (by simp) fun h' hz' hs'=>hQ h' hz' hs'
theorem it_zipS {z TI TO:Addr} {f0:Value} {Q:Value→Shared→Prop} (hz:IsZipS s.heap z TI TO f0) (h:Q (.ref z) s):wpAny (model prog w) A (pyIter (.ref z)) Q E s:=by
  have hT:s.TypeIs (.ref z) "zip":=⟨_,hz,rfl⟩
  refine wpAny_pyIter_slot hT F.slot_zip_iter (wpAny_call_entry F.slot_zip_iter hT F.entry_zip_iter ?_ (F.args_zip_iter_1 _))
  show wpAny _ _ (ret (.ref z)) _ _ s
  exact wpAny_pure ⟨_,rfl,"zip",_,hT,F.slot_zip_next.lookup,h⟩
end
def Itzs (K:PySem.W.Frag) (k j:Bool) (a b:Addr):It:=
  ⟨fun i H=>∃ xs ys x y,SqS K k H a xs∧SqS K j H b ys∧xs.length = ys.length∧xs[i]? = some x∧ys[i]? = some y,
   fun i H v H'=>∃ T x y,H T = none∧v = .ref T∧(∀ xs,SqS K k H a xs→xs[i]? = some x)∧(∀ ys,SqS K j H b ys→ys[i]? = some y)∧H' = upd H T (.tup [x,y]),
   fun i H=>∃ xs ys,SqS K k H a xs∧SqS K j H b ys∧xs.length = i∧ys.length = i⟩
def ZStS (k j:Bool) (z TI TO i1 i2 a b:Addr) (i:Nat) (h:Heap):Prop:=IsZipS h z TI TO .none∧IsPair h TI (.ref i1) (.ref i2)∧(∃ u v,IsPair h TO u v)∧SrcIt k h i1 a i∧SrcIt j h i2 b i
section
variable {X:Cx} {pins:List (Addr×Obj)} {σ:St} {H:Hp} {s:Shared} {a:Addr} {xs ys:List V}
theorem Inv.src (I:Inv X pins σ H s):(k:Bool)→SqS X.K k H a xs→∃ its:List Value,Vals xs its∧Src k s.heap a its.toArray
  | true,h=>let ⟨its,r,p,_⟩:=I.list h; ⟨its,r,p.isList⟩
  | false,h=>let ⟨its,r,p,_⟩:=I.tuple h; ⟨its,r,p⟩
theorem Inv.src_inj (I:Inv X pins σ H s):(k:Bool)→SqS X.K k H a xs→SqS X.K k H a ys→xs = ys
  | true,h,h'=>I.list_inj h h'
  | false,h,h'=>I.tuple_inj h h'
theorem src_ne (I:Inv X pins σ H s) {c:Addr} (f:FpOk X pins H c):(k:Bool)→SqS X.K k H a xs→c≠a:=by
  have g:∀ o,X.K.lookup a = some o→c≠a:=fun o hk q=>by
    subst q
    have hb:=I.ok.mod.kin _ _ hk
    rcases f.2.2.2.1 with z | z
    · exact I.ok.noex _ _ hb z
    · exact absurd (Heap.lt_size (I.ok.bs _ _ hb).1) (Nat.not_lt.mpr z)
  have r:∀ u,Rd H a u→c≠a:=fun u h q=>by
    subst q
    rcases h with h | ⟨o,h⟩
    · rw [f.1] at h; cases h
    · rw [f.1] at h; cases h
  intro k h
  cases k with
  | true=>
    rcases h with h | ⟨o,_,_,hk,_⟩
    · exact r _ h
    · exact g _ hk
  | false=>
    rcases h with h | ⟨o,_,_,hk,_⟩
    · exact r _ h
    · exact g _ hk
theorem Same.src {K:PySem.W.Frag} {H H':Hp} (e:Same H H'):(k:Bool)→SqS K k H a xs→SqS K k H' a xs
  | true,h=>e.seq h
  | false,h=>by
    rcases h with (h | ⟨o,h⟩) | h
    · exact .inl (.inl (e _ _ h))
    · exact .inl (.inr ⟨o,e _ _ h⟩)
    · exact .inr h
end
theorem za_src {X:Cx} {pins:List (Addr×Obj)} {σ:St} {H:Hp} {s:Shared} {z TI TO i1 i2 a b:Addr} {xs ys:List V} {k j:Bool} (I:Inv X pins σ H s) (hf:∀ c∈[z,TI,TO,i1,i2],FpOk X pins H c) (nd:[z,TI,TO,i1,i2].Nodup) (ha:SqS X.K k H a xs) (hb:SqS X.K j H b ys) :
    ZA z TI TO i1 i2 [i1,a] [i2,b]∧a≠i1∧b≠i2:=by
  have na:∀ c∈[z,TI,TO,i1,i2],c≠a:=fun c hc=>src_ne I (hf c hc) k ha
  have nb:∀ c∈[z,TI,TO,i1,i2],c≠b:=fun c hc=>src_ne I (hf c hc) j hb
  simp only [List.nodup_cons,List.mem_cons,List.not_mem_nil,or_false,not_or] at nd
  obtain ⟨⟨n1,n2,n3,n4⟩,⟨n5,n6,n7⟩,⟨n8,n9⟩,n10,_⟩:=nd
  have a1:=na z (by simp); have a2:=na TO (by simp); have a3:=na i2 (by simp); have a4:=na i1 (by simp)
  have b1:=nb z (by simp); have b2:=nb TO (by simp); have b3:=nb i1 (by simp); have b4:=nb i2 (by simp)
  exact ⟨⟨Ne.symm n1,Ne.symm n2,Ne.symm n3,Ne.symm n4,n5,n6,n7,n8,n9,n10,by simp [n3,a1],by simp [n8,a2],by simp [Ne.symm n10,a3],by simp [n4,b1],by simp [n9,b2],by simp [n10,b3]⟩,a4.symm,b4.symm⟩
theorem SrcIt.extBut {k:Bool} {h h':Heap} {a b l:Addr} {i:Nat} (x:SrcIt k h a l i) (hs:Heap.ExtBut b h h') (hab:a≠b):SrcIt k h' a l i:=let ⟨o,e,r⟩:=x; ⟨o,hs _ _ hab e,r⟩
theorem turn_zipS {P:Program} {w:World} {K:PySem.W.Frag} {els:List Expr} {kk:Nat} {pp:Pos} (k j:Bool) (z TI TO i1 i2 a b:Addr) (nd:[z,TI,TO,i1,i2].Nodup):Turn P w K (.Tuple els kk pp) (Itzs K k j a b) [z,TI,TO,i1,i2] z (ZStS k j z TI TO i1 i2 a b) where
  mem:=by simp
  obj:=fun i h st c hc=>by
    obtain ⟨e1,e2,⟨u,v,e3⟩,⟨o4,e4,_,d4⟩,⟨o5,e5,_,d5⟩⟩:=st
    simp only [List.mem_cons,List.not_mem_nil,or_false] at hc
    rcases hc with rfl | rfl | rfl | rfl | rfl
    · exact ⟨_,e1,fun v z=>by cases z⟩
    · exact ⟨_,e2,fun v z=>by cases z⟩
    · exact ⟨_,e3,fun v z=>by cases z⟩
    · exact ⟨_,e4,fun v z=>by rw [d4] at z; cases z⟩
    · exact ⟨_,e5,fun v z=>by rw [d5] at z; cases z⟩
  keep:=fun i h h' st k=>by
    obtain ⟨e1,e2,⟨u,v,e3⟩,⟨o4,e4,c4⟩,⟨o5,e5,c5⟩⟩:=st
    exact ⟨k _ (by simp) _ e1,k _ (by simp) _ e2,⟨u,v,k _ (by simp) _ e3⟩,⟨o4,k _ (by simp) _ e4,c4⟩,⟨o5,k _ (by simp) _ e5,c5⟩⟩
  item:=fun X hP hw hK hc i pins s σ H E I hf st hg=>by
    subst hP hw hK
    obtain ⟨xs,ys,x,y,ha,hb,hl,hx,hy⟩:=hg
    obtain ⟨us,ru,pu⟩:=I.src k ha
    obtain ⟨vs,rv,pv⟩:=I.src j hb
    obtain ⟨e1,e2,⟨p,q,e3⟩,e4,e5⟩:=st
    obtain ⟨Z,na,nb⟩:=za_src I hf nd ha hb
    have l1:=ru.length
    have l2:=rv.length
    have D1:=draws_src (prog:=X.prog) (w:=X.w) (A:=X.A.in1) (I.ok.hd hc) i1 a na us.toArray k
    have D2:=draws_src (prog:=X.prog) (w:=X.w) (A:=X.A.in1) (I.ok.hd hc) i2 b nb vs.toArray j
    have es:vs.toArray.size = us.toArray.size:=by simp; omega
    rw [es] at D2
    obtain ⟨ux,hux,rux⟩:=ru.get hx
    obtain ⟨vy,hvy,rvy⟩:=rv.get hy
    have hi:i < us.toArray.size:=by have:=(List.getElem?_eq_some_iff.mp hux).1; simpa using this
    refine next_zipS D1 D2 Z (.inl hi) e1 e2 e3 ⟨e4,pu⟩ ⟨e5,pv⟩ (fun _ h1 x' y' tk hx' hy' f1 f2 f3 f4 f5 f6 hk=>?_) (I.ok.hd hc) fun q=>absurd hi (by omega)
    have ex:x' = ux:=by
      have q1:us.toArray[i]? = some ux:=by simpa using hux
      exact Option.some.inj (hx'.symm.trans q1)
    have ey:y' = vy:=by
      have q1:vs.toArray[i]? = some vy:=by simpa using hvy
      exact Option.some.inj (hy'.symm.trans q1)
    subst ex ey
    refine ⟨_,rfl,go_zipS f1 fun h2 g1 sb=>?_⟩
    have kk:∀ c o,c ∉ [z,TI,TO,i1,i2]→s.heap.get? c = some o→h2.get? c = some o:=fun c o hc' e=>sb.extBut _ _ (fun q=>hc' (by simp [q])) (hk c o (fun q=>hc' (by simp [q])) (fun q=>hc' (by simp [q])) (fun q=>hc' (by simp [q])) (fun q=>hc' (by simp [q])) e)
    have I1:Inv X pins σ H { s with heap:=h2,toks:=tk }:=I.turnedL hf kk
    have Tz:s.heap.objs.size≠z:=Nat.ne_of_gt (Heap.lt_size e1)
    have tp:IsTup h2 s.heap.objs.size #[x',y']:=⟨_,sb.extBut _ _ Tz f6,rfl,_,rfl⟩
    have hn:H s.heap.objs.size = none:=I.hok.fresh (Nat.le_refl _)
    refine ⟨.ref s.heap.objs.size,upd H s.heap.objs.size (.tup [x,y]),?_,rfl,⟨_,x,y,hn,rfl,fun zs hz=>by rw [I.src_inj k hz ha]; exact hx,fun zs hz=>by rw [I.src_inj j hz hb]; exact hy,rfl⟩,?_,fun c hc'=>?_⟩
    · exact I.turnedLT hf kk (Nat.le_refl _) (.cons rux (.cons rvy .nil)) (by show 2≤sizeLine; decide) tp
    · exact ⟨g1,sb.extBut _ _ Z.TIz f2,⟨_,_,sb.extBut _ _ Z.TOz f3⟩,f4.1.extBut sb.extBut Z.i1z,f5.1.extBut sb.extBut Z.i2z⟩
    · have:c≠s.heap.objs.size:=fun q=>by
        obtain ⟨o,e,_⟩:=(show ∃ o,s.heap.get? c = some o∧True from by
          obtain ⟨o4,e4',_⟩:=e4
          obtain ⟨o5,e5',_⟩:=e5
          simp only [List.mem_cons,List.not_mem_nil,or_false] at hc'
          rcases hc' with rfl | rfl | rfl | rfl | rfl
          · exact ⟨_,e1,trivial⟩
          · exact ⟨_,e2,trivial⟩
          · exact ⟨_,e3,trivial⟩
          · exact ⟨_,e4',trivial⟩
          · exact ⟨_,e5',trivial⟩)
        exact Nat.lt_irrefl _ (q ▸ Heap.lt_size e)
      rw [upd_ne this]
      exact (hf c hc').1
  done:=fun X hP hw hK hc i pins s σ H E I hf st hg=>by
    subst hP hw hK
    obtain ⟨xs,ys,ha,hb,hx,hy⟩:=hg
    obtain ⟨us,ru,pu⟩:=I.src k ha
    obtain ⟨vs,rv,pv⟩:=I.src j hb
    obtain ⟨e1,e2,⟨p,q,e3⟩,e4,e5⟩:=st
    obtain ⟨Z,na,nb⟩:=za_src I hf nd ha hb
    have D1:=draws_src (prog:=X.prog) (w:=X.w) (A:=X.A.in1) (I.ok.hd hc) i1 a na us.toArray k
    have D2:=draws_src (prog:=X.prog) (w:=X.w) (A:=X.A.in1) (I.ok.hd hc) i2 b nb vs.toArray j
    have el:i = us.toArray.size:=by rw [List.size_toArray,← ru.length,hx]
    have el2:vs.toArray.size = us.toArray.size:=by rw [← el,List.size_toArray,← rv.length,hy]
    rw [el2] at D2
    refine next_zipS D1 D2 Z (.inr el) e1 e2 e3 ⟨e4,pu⟩ ⟨e5,pv⟩ (fun q=>absurd q (by omega)) (I.ok.hd hc) fun _ h' hk=>⟨rfl,?_⟩
    exact I.turnedL (t':=s.toks) hf fun c o hc' e=>hk c o (fun q=>hc' (by simp [q])) (fun q=>hc' (by simp [q])) (fun q=>hc' (by simp [q])) e
  self:=fun A i s Q E st h=>it_zipS st.1 h
section
variable {X:Cx} {els:List Expr} {kk:Nat} {pp:Pos}
def iZipS (K:PySem.W.Frag) (k j:Bool) (ta:TA):TI:=fun σ H R=>ta σ H fun vs H1=>∃ a b xs ys,vs = [.ref a,.ref b]∧SqS K k H1 a xs∧SqS K j H1 b ys∧R (Itzs K k j a b) H1
theorem pi_zipS {l m:Expr} {ta:TA} {p pos kp cp:Pos} {jj} (k j:Bool) (hg:Gl X "zip") (hm:X.mg "zip" = none) (ha:PA X [l,m] ta)
    (he:backTo pos (starEach [l,m] X.env) = (false,eval l X.env) :: backTo pos (starEach [m] X.env):=by rfl)
    (hpl:(backTo pos (starEach [l,m] X.env)).any (·.1) = false:=by rfl) :
    PI X (.Tuple els kk pp) (.Call (.Name "zip" p) [l,m] [⟨some "strict",.Constant (.bool true) jj cp,kp⟩] pos) (iZipS X.K k j ta):=by
  intro pins s σ H R I h
  refine wpAny_Call_Name_kw (ld_blt I hg hm bt_zip (cw_type_kw hpl rfl ?_))
  have hsp:=ha pos pins s σ H _ I h
  rw [he] at hsp ⊢
  refine evalArgs_kwB rfl (thn hsp fun us s1 ⟨vs,H1,I1,r1,q1⟩=>?_)
  refine kws_cons (wpAny_Constant_bool (kws_nil ?_))
  obtain ⟨a,b,xs,ys,rfl,h1,h2,q⟩:=q1
  obtain ⟨u,v,rfl,ru,rv⟩:=vals2 r1
  cases ru
  cases rv
  obtain ⟨its,_,p1⟩:=I1.src k h1
  obtain ⟨its2,_,p2⟩:=I1.src j h2
  refine call_zipS k j p1 p2 fun h' f1 f2 f3 f4 f5 hk=>?_
  refine it_zipS f1 ?_
  have nn:∀ k:Nat,s1.heap.objs.size≤s1.heap.objs.size + k:=fun k=>Nat.le_add_right _ _
  refine ⟨_,[s1.heap.objs.size + 4,s1.heap.objs.size + 2,s1.heap.objs.size + 3,s1.heap.objs.size,s1.heap.objs.size + 1],_,Itzs X.K k j a b,H1,rfl,I1.kept (t':=s1.toks) hk,turn_zipS k j _ _ _ _ _ a b ?_,⟨f1,f2,⟨_,_,f3⟩,f4,f5⟩,fun c hc=>?_,q⟩
  · simp
  · simp only [List.mem_cons,List.not_mem_nil,or_false] at hc
    have:s1.heap.objs.size≤c:=by
      rcases hc with rfl | rfl | rfl | rfl | rfl
      · exact nn 4
      · exact nn 2
      · exact nn 3
      · exact Nat.le_refl _
      · exact nn 1
    exact I1.fpOk this (I1.hok.fresh this)
end
theorem comp_zipS {K:PySem.W.Frag} {k j:Bool} {a b:Addr} {xs ys:List V} {fr:List (Option Nat)} {i0 i1:Nat} {n:Nat} {te:TE} {Q:VK} {σ:St} {H:Hp} (f:Nat→V) (h1:SqS K k H a xs) (h2:SqS K j H b ys) (hl:xs.length = ys.length) (hn:xs.length≤1000000) (h3:n = 2)
    (helt:∀ (i:Nat) (x y:V) (H':Hp) (R:VK),xs[i]? = some x→ys[i]? = some y→Same H H'→(∀ H'',Same H' H''→R (f i) H'')→te (((stC fr σ).set i0 (some x)).set i1 (some y)) H' R) (hne:i0≠i1)
    (hQ:∀ l H',H l = none→Same H H'→H' l = some (.lst ((List.range xs.length).map f))→Q (.ref l) H') :
    tCompK fr (gTup K n (gCons (gName i0) (gCons (gName i1) gNil))) tYes te σ Q (Itzs K k j a b) H:=by
  intro l hl0
  refine ⟨fun i m σ' H'=>m = xs.length - i∧i≤xs.length∧(∀ y z,(σ'.set i0 y).set i1 z = ((stC fr σ).set i0 y).set i1 z)∧Same H H'∧H' l = some (.lst ((List.range i).map f)),⟨xs.length,by simp,Nat.zero_le _,fun _ _=>rfl,same_new hl0 _,by rw [upd_same]; rfl⟩,?_⟩
  rintro i m σ' H' ⟨rfl,hi,hσ,hs,hl'⟩
  have ha':=hs.src k h1
  have hb':=hs.src j h2
  by_cases hlt:i < xs.length
  · have hlt2:i < ys.length:=by omega
    refine .inr ⟨⟨xs,ys,xs[i],ys[i],ha',hb',hl,by simp [hlt],by simp [hlt2]⟩,?_⟩
    rintro x H'' ⟨T,u,v,hT,rfl,hu,hv,rfl⟩
    have hui:=hu xs ha'
    have hvi:=hv ys hb'
    have st:=same_new hT (.tup [u,v])
    subst h3
    refine ⟨T,_,rfl,SqT.of upd_same,rfl,_,_,rfl,_,_,rfl,rfl,?_⟩
    show te ((σ'.set i0 (some u)).set i1 (some v)) _ _
    rw [hσ]
    refine helt i u v _ _ hui hvi (hs.trans st) fun H4 s4=>?_
    refine ⟨_,s4.get (st.get hl'),smallLt (by rw [List.length_map,List.length_range]; omega),xs.length - (i + 1),by omega,rfl,hlt,fun y z=>?_,same_upd ((hs.trans st).trans s4) hl0 _,?_⟩
    · rw [List.set_comm _ _ (Ne.symm hne),List.set_set,List.set_set]
    · rw [upd_same,List.range_succ,List.map_append]
      simp
  · have e:i = xs.length:=by omega
    subst e
    exact .inl ⟨⟨xs,ys,ha',hb',rfl,by omega⟩,hQ l H' hl0 hs hl'⟩
end L2
namespace L2
section
open PySem PySem.Calls PySem.Spec PyProof.Rows
def TupK (K:PySem.W.Frag) (a:Addr) (ks:List Str):Prop:=∃ (o:Obj) (its:Array Value) (n:Nat),K.lookup a = some o∧o.cls = .type "tuple"∧o.data = .seq its n∧its.size≤sizeLine∧Vals (ks.map V.str) its.toList
theorem TupK.sq {K:PySem.W.Frag} {a:Addr} {ks:List Str} (h:TupK K a ks) (H:Hp):SqT K H a (ks.map V.str):=.inr h
def tabLook (tb:List (Str×List Str)) (x:Str):Option (List Str):=(tb.find? fun p=>decide (p.1 = x)).map (·.2)
inductive TabRows (w:World) (K:PySem.W.Frag):List (Str×List Str)→List DictEntry→Prop
  | nil:TabRows w K [] []
  | cons {x:Str} {ks:List Str} {t:Tok} {hv:Int} {a:Addr} {tb:List (Str×List Str)} {es:List DictEntry}:hv = keyH w (.inr x)→TupK K a ks→TabRows w K tb es→TabRows w K ((x,ks) :: tb) (⟨hv,.str x t,.ref a⟩ :: es)
def TabAt (w:World) (K:PySem.W.Frag) (dp:Addr) (tb:List (Str×List Str)):Prop:=
  (dp == sysModules) = false∧(tb.map (·.1)).Nodup∧tb.length≤sizeLine∧∃ es ep,K.lookup dp = some ⟨.type "dict",none,.dict es ep,#[]⟩∧TabRows w K tb es.toList
theorem TabRows.tell {P:Program} {w:World} {K:PySem.W.Frag} {tb:List (Str×List Str)} {es:List DictEntry} (h:TabRows w K tb es) :
    ∃ vs:List (Key×Value),Pairs (mixKind P w) es vs∧vs.map (·.1) = tb.map (fun p=>(Sum.inr p.1:Key))∧(∀ e∈es,∃ k,(mixKind P w).is k e.key = true∧e.hash = (mixKind P w).hash k)∧
      (∀ x,tabLook tb x = none→valueAt vs (.inr x) = none)∧∀ x ks,tabLook tb x = some ks→∃ a,TupK K a ks∧valueAt vs (.inr x) = some (.ref a):=by
  induction h with
  | nil=>exact ⟨[],.nil,rfl,fun e h=>(nomatch h),fun _ _=>rfl,fun _ _ h=>(nomatch h)⟩
  | @cons x ks t hv a tb es e1 e2 _ ih=>
    obtain ⟨vs,p,n,k,q0,q1⟩:=ih
    refine ⟨(.inr x,.ref a) :: vs,.cons (mixKind_str P w x t) rfl p,by rw [List.map_cons,List.map_cons,n],fun e he=>?_,fun y hy=>?_,fun y ls hy=>?_⟩
    · rcases List.mem_cons.mp he with rfl | he
      · exact ⟨.inr x,mixKind_str P w x t,e1⟩
      · exact k e he
    · unfold tabLook at hy
      rw [List.find?_cons] at hy
      by_cases c:x = y
      · rw [decide_eq_true c] at hy; cases hy
      · rw [decide_eq_false c] at hy
        unfold valueAt
        rw [List.find?_cons,decide_eq_false fun q=>c (Sum.inr.inj q)]
        exact q0 y hy
    · unfold tabLook at hy
      rw [List.find?_cons] at hy
      by_cases c:x = y
      · rw [decide_eq_true c] at hy
        cases hy
        refine ⟨a,e2,?_⟩
        unfold valueAt
        rw [List.find?_cons,decide_eq_true (by rw [c])]
        rfl
      · rw [decide_eq_false c] at hy
        obtain ⟨b,g1,g2⟩:=q1 y ls hy
        refine ⟨b,g1,?_⟩
        unfold valueAt
        rw [List.find?_cons,decide_eq_false fun q=>c (Sum.inr.inj q)]
        exact g2
variable {X:Cx}
theorem tab_dict {P:Program} {w:World} {K:PySem.W.Frag} {dp:Addr} {tb:List (Str×List Str)} {h:Heap} (T:TabAt w K dp tb) (hk:K.In h) :
    ∃ vs,h.DictOf (mixKind P w) dp vs∧(∀ x,tabLook tb x = none→valueAt vs (.inr x) = none)∧∀ x ks,tabLook tb x = some ks→∃ a,TupK K a ks∧valueAt vs (.inr x) = some (.ref a):=by
  obtain ⟨_,nd,_,es,ep,lk,r⟩:=T
  obtain ⟨vs,p,n,k,q⟩:=r.tell (P:=P)
  refine ⟨vs,⟨_,es,ep,hk _ _ lk,⟨rfl,rfl,rfl⟩,rfl,fun e he=>k e (Array.mem_toList_iff.mpr he),p,?_⟩,q⟩
  rw [n]
  have:tb.map (fun p=>(Sum.inr p.1:Key)) = (tb.map (·.1)).map Sum.inr:=by rw [List.map_map]; rfl
  rw [this]
  exact List.Pairwise.map _ (fun a b h q=>h (Sum.inr.inj q)) nd
def tTab (K:PySem.W.Frag) (tb:List (Str×List Str)) (ty:TE):TE:=fun σ H Q=>ty σ H fun y H1=>∃ x ks,y = .str x∧tabLook tb x = some ks∧∀ a,TupK K a ks→Q (.ref a) H1
theorem pe_tab {o i:Expr} {ty:TE} {pos:Pos} {K:PySem.W.Frag} {dp:Addr} {tb:List (Str×List Str)} (hK:X.K = K) (T:TabAt X.w K dp tb) (ho:PE X o (tC (.ref dp))) (hi:PE X i ty) (hs:NoSl i):PE X (.Subscript o i pos) (tTab K tb ty):=by
  subst hK
  intro pins s σ H Q I h
  refine subD_of PySem.F.slot_dict_getitem.lookup hs (thn (ho pins s σ H _ I (show tC (.ref dp) σ H (fun x H1=>x = .ref dp∧ty σ H1 fun y H1=>∃ x ks,y = .str x∧tabLook tb x = some ks∧∀ a,TupK X.K a ks→Q (.ref a) H1) from ⟨rfl,h⟩)) fun u s1 ⟨x,H1,I1,rx,ex,q1⟩=>thn (hi pins s1 σ H1 _ I1 q1) fun iv s2 ⟨y,H2,I2,ry,z,ks,ey,hl,q2⟩=>?_)
  subst ex ey
  obtain rfl:u = Value.ref dp:=rx
  obtain ⟨tk,rfl⟩:=ry
  obtain ⟨vs,dd,_,r⟩:=tab_dict (P:=X.prog) T I2.kIn
  obtain ⟨a,ha,hv⟩:=r z ks hl
  exact ⟨dd.typeIs,wpAny_getItem_of (mixKind_str X.prog X.w z tk) dd.mapOf hv ⟨.ref a,H2,I2.tok _,rfl,q2 a ha⟩⟩
def tTabG (K:PySem.W.Frag) (tb:List (Str×List Str)) (ty:TE):TE:=fun σ H Q=>ty σ H fun y H1=>∃ x,y = .str x∧(tabLook tb x = none→Q .non H1)∧∀ ks,tabLook tb x = some ks→∀ a,TupK K a ks→Q (.ref a) H1
theorem pe_tabG {o e:Expr} {ty:TE} {apos cpos:Pos} {K:PySem.W.Frag} {dp:Addr} {tb:List (Str×List Str)} (hK:X.K = K) (T:TabAt X.w K dp tb) (ho:PE X o (tC (.ref dp))) (he:PE X e ty) (m:M1 X o "get" apos e cpos):PE X (.Call (.Attribute o "get" apos) [e] [] cpos) (tTabG K tb ty):=by
  subst hK
  intro pins s σ H Q I h
  refine wpAny_Call_method m.base m.few m.line PySem.F.plainAttrs_dict PySem.F.slot_dict_get PySem.F.type_dict_get (thn (ho pins s σ H _ I (show tC (.ref dp) σ H (fun x H1=>x = .ref dp∧ty σ H1 fun y H1=>∃ x,y = .str x∧(tabLook tb x = none→Q .non H1)∧∀ ks,tabLook tb x = some ks→∀ a,TupK X.K a ks→Q (.ref a) H1) from ⟨rfl,h⟩)) fun u s1 ⟨x,H1,I1,rx,ex,q1⟩=>?_)
  subst ex
  obtain rfl:u = Value.ref dp:=rx
  obtain ⟨vs,dd,n,r⟩:=tab_dict (P:=X.prog) T I1.kIn
  refine ⟨dd.typeIs,fun b q=>?_,?_⟩
  · cases q
    obtain ⟨ob,_,_,h1,h2,_⟩:=dd
    exact ⟨ob,h1,h2.2.1⟩
  rw [m.trees]
  refine Calls.callWith_builtin rfl (Calls.evalArgs_plain (Calls.spliced_cons (thn (he pins s1 σ H1 _ I1 q1) fun iv s2 ⟨y,H2,I2,ry,z,ey,q2,q3⟩=>Calls.spliced_nil ?_)))
  subst ey
  obtain ⟨tk,rfl⟩:=ry
  obtain ⟨vs,dd,n,r⟩:=tab_dict (P:=X.prog) T I2.kIn
  refine call_meetsIn PySem.F.slot_dict_get dd.typeIs PySem.F.entry_dict_get (PySem.F.args_dict_get_2 _ _) (meets_dict_get (mixKind X.prog X.w) dp (mixKind_str X.prog X.w z tk) T.1) ⟨_,dd.mapOf,?_⟩
  cases hl:tabLook tb z with
  | none=>rw [n z hl]; exact ⟨.non,H2,I2.tok _,rfl,q2 hl⟩
  | some ks=>
    obtain ⟨a,ha,hv⟩:=r z ks hl
    rw [hv]
    exact ⟨.ref a,H2,I2.tok _,rfl,q3 ks hl a ha⟩
end
end L2
namespace L2
section
open PySem PySem.Builtin.Str
def posC (c:Nat):List Nat→List Nat
  | []=>[]
  | x :: l=>if x = c then 0 :: (posC c l).map (· + 1) else (posC c l).map (· + 1)
def jcl (c:Nat):List Str→Str→List Nat
  | [],t=>cod t
  | w :: ws,t=>cod w ++ c :: jcl c ws t
theorem posC_free {c:Nat}:∀ {l:List Nat},c ∉ l→posC c l = []
  | [],_=>rfl
  | x :: l,h=>by
    have h1:x≠c:=fun e=>h (by rw [e]; exact List.mem_cons_self)
    show (if x = c then _ else _) = _
    rw [if_neg h1,posC_free fun z=>h (List.mem_cons_of_mem _ z)]
    rfl
theorem posC_app {c:Nat} {r:List Nat}:∀ {l:List Nat},c ∉ l→posC c (l ++ c :: r) = l.length :: (posC c r).map (· + (l.length + 1))
  | [],_=>by
    show (if c = c then _ else _) = _
    rw [if_pos rfl]
    rfl
  | x :: l,h=>by
    have h1:x≠c:=fun e=>h (by rw [e]; exact List.mem_cons_self)
    show (if x = c then _ else (posC c (l ++ c :: r)).map (· + 1)) = _
    rw [if_neg h1,posC_app (l:=l) fun z=>h (List.mem_cons_of_mem _ z),List.map_cons,List.map_map]
    show (l.length + 1) :: _ = (l.length + 1) :: _
    rfl
theorem posC_filter (c:Nat):∀ (l:List Nat) (a:Nat),(posC c l).map (· + a) = (List.range' a l.length).filter fun i=>decide (l[i - a]? = some c)
  | [],a=>rfl
  | x :: l,a=>by
    have ih:=posC_filter c l (a + 1)
    have e:(List.range' (a + 1) l.length).filter (fun i=>decide ((x :: l)[i - a]? = some c)) = (List.range' (a + 1) l.length).filter fun i=>decide (l[i - (a + 1)]? = some c):=by
      refine List.filter_congr fun i hi=>?_
      have:=(List.mem_range'_1.mp hi).1
      have e1:i - a = (i - (a + 1)) + 1:=by omega
      rw [e1,List.getElem?_cons_succ]
    show _ = (List.range' a (l.length + 1)).filter _
    rw [List.range'_succ,List.filter_cons,e,← ih]
    have e0:(decide ((x :: l)[a - a]? = some c)) = decide (x = c):=by
      rw [Nat.sub_self,List.getElem?_cons_zero]
      by_cases h:x = c
      · rw [h]; simp
      · rw [decide_eq_false h,decide_eq_false fun q=>h (Option.some.inj q)]
    rw [e0]
    have e2:∀ m:List Nat,(m.map (· + 1)).map (· + a) = m.map (· + (a + 1)):=fun m=>by
      rw [List.map_map]
      exact List.map_congr_left fun k _=>by show k + 1 + a = k + (a + 1); omega
    by_cases h:x = c
    · rw [decide_eq_true h,if_pos rfl]
      show ((if x = c then 0 :: (posC c l).map (· + 1) else _).map (· + a)) = _
      rw [if_pos h,List.map_cons,e2,Nat.zero_add]
    · rw [decide_eq_false h,if_neg Bool.false_ne_true]
      show ((if x = c then _ else (posC c l).map (· + 1)).map (· + a)) = _
      rw [if_neg h,e2]
theorem at_one {x:Str} {c i:Nat}:(i + (⟨#[c]⟩:Str).length≤x.length∧subAt x ⟨#[c]⟩ i = true)↔(cod x)[i]? = some c:=StrLaws.subAt_one x c i
theorem occ_run (x:Str) (c limit:Nat):∀ (l:List Nat) (st:Array Nat×Nat),l.Pairwise (· < ·)→(∀ i∈l,st.snd≤i)→
    (forIn l st (StrLaws.occBody x ⟨#[c]⟩ x.length limit)).run.fst.toList = st.fst.toList ++ (l.filter fun i=>decide ((cod x)[i]? = some c)).take (limit - st.fst.size)
  | [],st,_,_=>by simp [Id.run,pure,forIn]
  | a :: l,st,hp,hs=>by
    rw [List.forIn_cons]
    unfold StrLaws.occBody
    obtain ⟨h1,h2⟩:=List.pairwise_cons.mp hp
    by_cases h:(cod x)[a]? = some c
    · have g:=at_one.mpr h
      by_cases hl:st.fst.size < limit
      · rw [if_pos ⟨⟨⟨hl,hs a List.mem_cons_self⟩,g.1⟩,g.2⟩]
        have ih:=occ_run x c limit l (st.fst.push a,a + (⟨#[c]⟩:Str).length) h2 (fun i hi=>by have:=h1 i hi; show a + 1≤i; omega)
        refine ih.trans ?_
        rw [Array.toList_push,Array.size_push,List.append_assoc,List.filter_cons,if_pos (decide_eq_true h)]
        have e:limit - st.fst.size = (limit - (st.fst.size + 1)) + 1:=by omega
        rw [e,List.take_succ_cons]
        rfl
      · rw [if_neg fun q=>hl q.1.1.1]
        have ih:=occ_run x c limit l st h2 (fun i hi=>hs i (List.mem_cons_of_mem _ hi))
        refine ih.trans ?_
        have e:limit - st.fst.size = 0:=by omega
        rw [e,List.take_zero,List.take_zero]
    · rw [if_neg fun q=>h (at_one.mp ⟨q.1.2,q.2⟩)]
      have ih:=occ_run x c limit l st h2 (fun i hi=>hs i (List.mem_cons_of_mem _ hi))
      refine ih.trans ?_
      rw [List.filter_cons,if_neg (by rw [decide_eq_false h]; exact Bool.false_ne_true)]
theorem occ_pos (x:Str) (c limit:Nat):occurrences x ⟨#[c]⟩ 0 x.length limit = (posC c (cod x)).take limit:=by
  rw [StrLaws.occ_eq]
  have h:=occ_run x c limit (List.range' 0 (x.length + 1 - 0)) (#[],0) List.pairwise_lt_range' (fun i _=>Nat.zero_le i)
  refine h.trans ?_
  have e:=posC_filter c (cod x) 0
  have e1:(posC c (cod x)).map (· + 0) = posC c (cod x):=by
    have:(fun k:Nat=>k + 0) = id:=rfl
    rw [this,List.map_id]
  rw [e1,cod_len] at e
  rw [e]
  show [] ++ List.take (limit - 0) _ = _
  rw [List.nil_append,Nat.sub_zero,Nat.sub_zero,List.range'_concat,List.filter_append]
  have e2:List.filter (fun i=>decide ((cod x)[i]? = some c)) [0 + 1 * x.length] = []:=by
    rw [List.filter_cons,if_neg,List.filter_nil]
    rw [List.getElem?_eq_none (by rw [cod_len]; omega)]
    simp
  rw [e2,List.append_nil]
  rfl
theorem len_jcl (c:Nat):∀ (ws:List Str) (t:Str),ws.length≤(jcl c ws t).length
  | [],_=>Nat.zero_le _
  | w :: ws,t=>by
    have:=len_jcl c ws t
    show ws.length + 1≤(cod w ++ c :: jcl c ws t).length
    rw [List.length_append,List.length_cons]
    omega
theorem pos_jcl {c:Nat}:∀ {ws:List Str} {t:Str},(∀ w∈ws,c ∉ cod w)→∃ r,posC c (jcl c ws t) = r ++ (posC c (cod t)).map (· + ((jcl c ws t).length - (cod t).length))∧r.length = ws.length
  | [],t,_=>⟨[],by
      show posC c (cod t) = [] ++ (posC c (cod t)).map (· + ((cod t).length - (cod t).length))
      rw [Nat.sub_self,List.nil_append]
      exact (List.map_id _).symm,rfl⟩
  | w :: ws,t,h=>by
    obtain ⟨r,e,l⟩:=pos_jcl (ws:=ws) (t:=t) fun y hy=>h y (List.mem_cons_of_mem _ hy)
    refine ⟨(cod w).length :: r.map (· + ((cod w).length + 1)),?_,by rw [List.length_cons,List.length_map,l]; rfl⟩
    show posC c (cod w ++ c :: jcl c ws t) = _
    rw [posC_app (h w List.mem_cons_self),e,List.map_append,List.cons_append,List.map_map]
    congr 2
    refine List.map_congr_left fun k _=>?_
    have g:∀ (ws:List Str),(cod t).length≤(jcl c ws t).length:=fun ws=>by
      induction ws with
      | nil=>exact Nat.le_refl _
      | cons y ys ih=>
        show _≤(cod y ++ c :: jcl c ys t).length
        rw [List.length_append,List.length_cons]
        omega
    have:=g ws
    show k + ((jcl c ws t).length - (cod t).length) + ((cod w).length + 1) = k + ((cod w ++ c :: jcl c ws t).length - (cod t).length)
    rw [List.length_append,List.length_cons]
    omega
theorem parts_jcl {c:Nat} {x:Str} {t:Str}:∀ (ws:List Str) (pre:List Nat),cod x = pre ++ jcl c ws t→(∀ w∈ws,c ∉ cod w)→
    StrLaws.partsFrom x 1 pre.length (((posC c (jcl c ws t)).take ws.length).map (· + pre.length)) = ws ++ [t]
  | [],pre,h,_=>by
    rw [List.length_nil,List.take_zero]
    show [strSub x pre.length x.length] = [t]
    congr 1
    refine str_ext ?_
    show (strSub x pre.length x.length).cps.toList = _
    rw [StrLaws.strSub_toList]
    have hx:x.cps.toList = pre ++ cod t:=h
    have hl:x.length = pre.length + (cod t).length:=by rw [← cod_len,h,List.length_append]; rfl
    rw [hx,List.drop_left',List.take_of_length_le (by rw [hl]; omega)]
    rfl
  | w :: ws,pre,h,hf=>by
    have hw:=hf w List.mem_cons_self
    have ih:=parts_jcl (x:=x) (t:=t) ws (pre ++ cod w ++ [c]) (by rw [h]; show pre ++ (cod w ++ c :: jcl c ws t) = _; simp) fun y hy=>hf y (List.mem_cons_of_mem _ hy)
    show StrLaws.partsFrom x 1 pre.length (((posC c (cod w ++ c :: jcl c ws t)).take (ws.length + 1)).map (· + pre.length)) = w :: (ws ++ [t])
    rw [posC_app hw,List.take_succ_cons,List.map_cons,← List.map_take,List.map_map]
    show strSub x pre.length ((cod w).length + pre.length) :: StrLaws.partsFrom x 1 ((cod w).length + pre.length + 1) _ = _
    congr 1
    · refine str_ext ?_
      show (strSub x pre.length _).cps.toList = _
      rw [StrLaws.strSub_toList]
      have hx:x.cps.toList = pre ++ (cod w ++ c :: jcl c ws t):=h
      rw [hx,List.drop_left',Nat.add_sub_cancel,List.take_left']
      · rfl
      · rfl
    · rw [← ih]
      have el:(pre ++ cod w ++ [c]).length = (cod w).length + pre.length + 1:=by simp; omega
      rw [el]
      congr 1
      refine List.map_congr_left fun k _=>?_
      show k + ((cod w).length + 1) + pre.length = k + ((cod w).length + pre.length + 1)
      omega
theorem str1_len (c:Nat):(⟨#[c]⟩:Str).length = 1:=rfl
theorem parts0 {c:Nat} {x t:Str} {ws:List Str} (h:cod x = jcl c ws t) (hf:∀ w∈ws,c ∉ cod w) {l:List Nat} (hl:l = (posC c (cod x)).take ws.length):partsBetween x l 1 = ws ++ [t]:=by
  have:=parts_jcl (x:=x) (t:=t) ws [] h hf
  rw [StrLaws.partsBetween_eq,hl,h]
  have e:∀ l:List Nat,l.map (· + ([]:List Nat).length) = l:=fun l=>List.map_id l
  rw [e] at this
  exact this
theorem no_occ {x:Str} {c:Nat} (h:(decide (x.length < (⟨#[c]⟩:Str).length) || decide (strKind x < strKind ⟨#[c]⟩)) = true):c ∉ cod x:=by
  rw [Bool.or_eq_true,decide_eq_true_eq,decide_eq_true_eq] at h
  rcases h with h | h
  · intro hm
    have:0 < (cod x).length:=List.length_pos_of_mem hm
    rw [cod_len] at this
    rw [str1_len] at h
    omega
  · exact StrLaws.kind_free x c h
theorem jcl_free {c:Nat} {x t:Str} {ws:List Str} (h:cod x = jcl c ws t) (hn:c ∉ cod x):ws = []∧x = t:=by
  cases ws with
  | nil=>exact ⟨rfl,str_ext h⟩
  | cons w ws=>
    rw [h] at hn
    exact absurd (show c∈cod w ++ c :: jcl c ws t by simp) hn
theorem splitMax_jcl {c:Nat} {x t:Str} {ws:List Str} {k:Int} (h:cod x = jcl c ws t) (hf:∀ w∈ws,c ∉ cod w) (hk:k = ws.length):PySem.Txt.splitMax x ⟨#[c]⟩ k = ws ++ [t]:=by
  have hm:min (limitOf x k) (x.length + 1) = min ws.length (x.length + 1)∧ws.length≤limitOf x k:=by
    unfold limitOf
    rw [if_neg (by omega)]
    have:=len_jcl c ws t
    rw [← h,cod_len] at this
    omega
  obtain ⟨r,e,l⟩:=pos_jcl (c:=c) (ws:=ws) (t:=t) hf
  have ho:occurrences x ⟨#[c]⟩ 0 x.length (limitOf x k) = (posC c (cod x)).take ws.length:=by
    rw [occ_pos]
    have hle:limitOf x k = ws.length:=by
      unfold limitOf at hm ⊢
      rw [if_neg (by omega)] at hm ⊢
      have:=len_jcl c ws t
      rw [← h,cod_len] at this
      omega
    rw [hle]
  unfold PySem.Txt.splitMax
  split
  · rename_i hc
    obtain ⟨rfl,rfl⟩:=jcl_free h (no_occ hc)
    rfl
  · split
    · rename_i he
      rw [ho,h,e,List.isEmpty_iff] at he
      cases ws with
      | nil=>rw [show x = t from str_ext h]; rfl
      | cons w ws=>
        cases r with
        | nil=>cases l
        | cons a r=>cases he
    · rw [ho]
      exact parts0 h hf rfl
theorem part_head {c:Nat} {x w:Str} {r:List Nat} (h:cod x = cod w ++ c :: r) (hw:c ∉ cod w):∃ a b,partT x ⟨#[c]⟩ = [w,a,b]:=by
  unfold partT
  have ho:occurrences x ⟨#[c]⟩ 0 x.length 1 = [(cod w).length]:=by
    rw [occ_pos,h,posC_app hw]
    rfl
  rw [ho]
  refine ⟨⟨#[c]⟩,strSub x ((cod w).length + 1) x.length,?_⟩
  show [strSub x 0 (cod w).length,⟨#[c]⟩,strSub x ((cod w).length + 1) x.length] = _
  congr 1
  refine str_ext ?_
  show (strSub x 0 _).cps.toList = _
  have hx:x.cps.toList = cod w ++ c :: r:=h
  rw [StrLaws.strSub_toList,List.drop_zero,Nat.sub_zero,hx,List.take_left']
  rfl
theorem part_whole {c:Nat} {x:Str} (hw:c ∉ cod x):∃ a b,partT x ⟨#[c]⟩ = [x,a,b]:=by
  unfold partT
  have ho:occurrences x ⟨#[c]⟩ 0 x.length 1 = []:=by
    rw [occ_pos,posC_free hw]
    rfl
  rw [ho]
  exact ⟨_,_,rfl⟩
end
end L2
namespace L2
section
open PySem PySem.Calls PySem.Spec PyProof.Rows PySem.Builtin.Str
theorem runs_toks {M:Model} {Γ:PySem.Ctx} {p:Pos} {t:Sem Fin} {fs:List Frame} {s s':Shared} {e:End} (h:Runs M Γ p t fs s e s'):s.toks≤s'.toks:=by
  induction h <;> first
    | exact Nat.le_refl _
    | assumption
    | (rename_i ih; exact Nat.le_trans (Nat.le_succ _) ih)
    | (rename_i ih1 ih2; exact Nat.le_trans ih1 ih2)
theorem wakes_toks {M:Model} {Γ:PySem.Ctx} {p:Pos} {g:Nat} {r:Resume} {s s':Shared} {res:GenResult} (h:Wakes M Γ p g r s res s'):s.toks≤s'.toks:=by
  unfold Wakes at h
  split at h
  · exact h.elim
  · split at h
    · obtain ⟨e,s1,h1,_,_,rfl⟩:=h
      have h2:=runs_toks h1
      exact h2
    · rw [h.2]; exact Nat.le_refl _
    · rw [h.2]; exact Nat.le_refl _
  · obtain ⟨e,s1,h1,_,_,rfl⟩:=h
    have h2:=runs_toks h1
    exact h2
  · rw [h.2]; exact Nat.le_refl _
  · rw [h.2]; exact Nat.le_refl _
theorem wp_toks {α:Type} {M:Model} {Γ:PySem.Ctx} (t:Sem α):∀ (n:Nat) (Q:α→Pos→Shared→Prop) (E:Value→Pos→Shared→Prop) (p:Pos) (s:Shared),n≤s.toks→Sem.wp M Γ t Q E p s→
    Sem.wp M Γ t (fun a p' s'=>Q a p' s'∧n≤s'.toks) (fun e p' s'=>E e p' s'∧n≤s'.toks) p s:=by
  induction t with
  | pure a=>intro n Q E p s hn h; exact ⟨h,hn⟩
  | raise e=>intro n Q E p s hn h; exact ⟨h,hn⟩
  | load a part k ih=>intro n Q E p s hn h; obtain ⟨o,ho,h⟩:=h; exact ⟨o,ho,ih o n Q E p s hn h⟩
  | update a part f k ih=>intro n Q E p s hn h; exact ⟨h.1,ih () n Q E p _ hn h.2⟩
  | fresh k ih=>intro n Q E p s hn h; exact ih _ n Q E p _ (Nat.le_succ_of_le hn) h
  | choose src m k ih=>intro n Q E p s hn h; exact ⟨h.1,ih _ n Q E p _ hn h.2⟩
  | call c h0 g l k ih=>
    intro n Q E p s hn h
    obtain ⟨r,s',h1,h2⟩:=h
    exact ⟨r,s',h1,ih r n Q E p s' (Nat.le_trans hn (runs_toks h1)) h2⟩
  | genState g k ih=>intro n Q E p s hn h; obtain ⟨o,ho,h⟩:=h; exact ⟨o,ho,ih _ n Q E p s hn h⟩
  | resume g r l k ih=>
    intro n Q E p s hn h
    obtain ⟨res,s',h1,h2⟩:=h
    exact ⟨res,s',h1,ih res n Q E p s' (Nat.le_trans hn (wakes_toks h1)) h2⟩
  | rule tag k ih=>intro n Q E p s hn h; exact ih _ n Q E p s hn h
  | «at» p' k ih=>intro n Q E p s hn h; exact ih _ n Q E p' s hn h
  | loadIfAlive a k ih=>intro n Q E p s hn h; exact ih _ n Q E p s hn h
  | point l k ih=>intro n Q E p s hn h; exact ih _ n Q E p s hn h
  | alloc o k ih=>intro n Q E p s hn h; exact ih _ n Q E p _ hn h
  | ask k ih=>intro n Q E p s hn h; exact ih _ n Q E p s hn h
  | os q l k ih=>intro n Q E p s hn h; exact ih _ n Q E p _ hn h
  | handled own k ih=>intro n Q E p s hn h; exact ih _ n Q E p s hn h
  | newGen c k ih=>intro n Q E p s hn h; exact ih _ n Q E p _ hn h
  | stack k ih=>intro n Q E p s hn h; exact ih _ n Q E p s hn h
  | thread k ih=>intro n Q E p s hn h; exact ih _ n Q E p s hn h
  | _=>intro n Q E p s hn h; exact h.elim
theorem any_toks {α:Type} {M:Model} {A:Around} {t:Sem α} {n:Nat} {Q:α→Shared→Prop} {E:Value→Shared→Prop} {s:Shared} (hn:n≤s.toks) (h:wpAny M A t Q E s) :
    wpAny M A t (fun a s'=>Q a s'∧n≤s'.toks) (fun e s'=>E e s'∧n≤s'.toks) s:=fun Γ p hΓ=>wp_toks t n _ _ p s hn (h Γ p hΓ)
variable {X:Cx}
def PEp (X:Cx) (e:Expr) (t:TE):Prop:=
  ∀ (pins:List (Addr×Obj)) (s:Shared) (σ:St) (H:Hp) (Q:VK),Inv X pins σ H s→0 < s.toks→t σ H Q→wpAny (model X.prog X.w) X.A (eval e X.env) (EP X pins σ Q) X.xe s
def PSp (X:Cx) (st:Stmt) (t:TS):Prop:=
  ∀ (pins:List (Addr×Obj)) (s:Shared) (σ:St) (H:Hp) (D:Ends),Inv X pins σ H s→0 < s.toks→t D σ H→wpAny (model X.prog X.w) X.A (exec st X.env) (SP X pins D) X.xe s
def PSsp (X:Cx) (st:List Stmt) (t:TS):Prop:=
  ∀ (pins:List (Addr×Obj)) (s:Shared) (σ:St) (H:Hp) (D:Ends),Inv X pins σ H s→0 < s.toks→t D σ H→wpAny (model X.prog X.w) X.A (execs st X.env) (SP X pins D) X.xe s
theorem pssp_of {sts:List Stmt} {t:TS} (h:PSs X sts t):PSsp X sts t:=fun pins s σ H D I _ q=>h pins s σ H D I q
theorem psp_of {st:Stmt} {t:TS} (h:PS X st t):PSp X st t:=fun pins s σ H D I _ q=>h pins s σ H D I q
theorem keep_toks {α:Type} {t:Sem α} {Q:α→Shared→Prop} {s:Shared} {A:Around} {M:Model} {E:Value→Shared→Prop} (hs:0 < s.toks) (h:wpAny M A t Q E s):wpAny M A t (fun a s'=>Q a s'∧0 < s'.toks) E s:=
  wpAny_mono (any_toks (n:=1) hs h) (fun _ _ z=>z) fun _ _ z=>z.1
theorem pssp_cons {st:Stmt} {rest:List Stmt} {t u:TS} (h1:PSp X st t) (h2:PSsp X rest u):PSsp X (st :: rest) (tSeq t u):=by
  intro pins s σ H D I hs h
  refine wpAny_execs_cons (thn (keep_toks hs (h1 pins s σ H { D with nx:=u D } I hs h)) fun f s1 ⟨q,hp⟩=>?_)
  cases f with
  | next=>
    obtain ⟨σ',H',I',q⟩:=q
    exact h2 pins s1 σ' H' D I' hp q
  | ret v=>exact q
  | brk=>exact q
  | cont=>exact q
theorem pssp_one {st:Stmt} {t:TS} (h1:PSp X st t):PSsp X [st] t:=by
  intro pins s σ H D I hs h
  refine wpAny_execs_cons (thn (h1 pins s σ H D I hs h) fun f s1 q=>?_)
  cases f with
  | next=>exact wpAny_execs_nil q
  | ret v=>exact q
  | brk=>exact q
  | cont=>exact q
theorem psp_if {c:Expr} {a b:List Stmt} {tc:TT} {t u:TS} {pos:Pos} (hc:PT X c tc) (ha:PSsp X a t) (hb:PSsp X b u):PSp X (.If c a b pos) (tIfS tc t u):=by
  intro pins s σ H D I hs h
  refine wpAny_If (thn (keep_toks hs (hc pins s σ H _ I h)) fun d s1 ⟨⟨H1,I1,q1⟩,hp⟩=>?_)
  cases d with
  | true=>exact ha pins s1 σ H1 D I1 hp q1
  | false=>exact hb pins s1 σ H1 D I1 hp q1
theorem psp_ret {e:Expr} {te:TE} {pos:Pos} (he:PEp X e te):PSp X (.Return (some e) pos) (tRet te):=by
  intro pins s σ H D I hs h
  exact wpAny_Return_some (thn (he pins s σ H _ I hs h) fun v s1 ⟨x,H1,I1,r1,q1⟩=>⟨x,σ,H1,I1,r1,q1⟩)
theorem pss_tok {i:Nat} {x:Str} {a:Expr} {op:Operator} {k:Int} {j:Nat} {cp bp pos pos':Pos} {r:R2} {ta:TE} {rest:List Stmt} {u:TS} (hN:X.N.Nodup) (hi:X.N[i]? = some x) (hx:Loc X.env.scope x) (ho:OpR X (binaryOp op) r) (ha:PE X a ta) (h2:PSsp X rest u)
    (hs:swapsWith (.BinOp a op (.Constant (.int k) j cp) bp) (some (.Name x pos')) pos.line X.env = pure false:=by rfl) (hf:X.fn x = true∨X.env.scope.names.lookup x = some .local:=by first | exact .inl rfl | exact .inr rfl) :
    PSs X (.Assign [.Name x pos'] (.BinOp a op (.Constant (.int k) j cp) bp) pos :: rest) (tSeq (tAsg (tOp r ta (tC (.int k))) (gName i)) u):=by
  intro pins s σ H D I h
  refine wpAny_execs_cons (wpAny_Assign_Name (wpAny_BinOp (thn (ha pins s σ H _ I h) fun v s1 ⟨y,H1,I1,r1,q1⟩=>wpAny_Constant_int ?_)) hs)
  have I2:=I1.tok (s1.toks + 1)
  have p2:0 < ({ s1 with toks:=s1.toks + 1 }:Shared).toks:=Nat.succ_pos _
  refine thn (keep_toks p2 (ho pins _ σ H1 y (.int k) v (.int k s1.toks) _ I2 r1 ⟨_,rfl⟩ q1)) fun z s3 ⟨⟨x3,H3,I3,r3,q3⟩,p3⟩=>?_
  refine thn (keep_toks p3 (store_ok (Q:=fun _ s'=>∃ σ' H',Inv X pins σ' H' s'∧u D σ' H') I3 hN hi hx r3 (fun s2 I2=>⟨_,H3,I2,q3⟩) hf)) fun _ s4 ⟨⟨σ4,H4,I4,q4⟩,p4⟩=>?_
  exact h2 pins s4 σ4 H4 D I4 p4 q4
theorem sub_mem {x:Str} {i j c:Nat} (h:c∈cod (strSub x i j)):c∈cod x:=by
  have h':c∈(strSub x i j).cps.toList:=h
  rw [StrLaws.strSub_toList] at h'
  exact List.mem_of_mem_drop (List.mem_of_mem_take h')
theorem parts_mem {x:Str} {w:Nat}:∀ {l:List Nat} {a:Nat} {p:Str},p∈StrLaws.partsFrom x w a l→(∀ c∈cod p,c∈cod x)∧p.length≤x.length
  | [],a,p,h=>by
    rw [List.mem_singleton.mp h]
    exact ⟨fun c hc=>sub_mem hc,strSub_length_le ..⟩
  | i :: l,a,p,h=>by
    rcases List.mem_cons.mp h with rfl | h
    · exact ⟨fun c hc=>sub_mem hc,strSub_length_le ..⟩
    · exact parts_mem h
theorem parts_len {x:Str} {w:Nat}:∀ {l:List Nat} {a:Nat},(StrLaws.partsFrom x w a l).length = l.length + 1
  | [],_=>rfl
  | _ :: _,_=>congrArg (· + 1) parts_len
theorem joinS_mem (g:Str):∀ (A:List Str) {c:Nat},c∈cod (PySem.Str.join g A)→c∈cod g∨∃ z∈A,c∈cod z:=by
  intro A c
  induction A with
  | nil=>intro h; exact absurd h (by simp [PySem.Str.join,PySem.Str.empty])
  | cons x r ih=>
    cases r with
    | nil=>intro h; exact .inr ⟨x,List.mem_cons_self,h⟩
    | cons y r=>
      intro h
      rw [show PySem.Str.join g (x :: y :: r) = x ++ g ++ PySem.Str.join g (y :: r) from rfl,cod_app,cod_app] at h
      rcases List.mem_append.mp h with h | h
      · rcases List.mem_append.mp h with h | h
        · exact .inr ⟨x,List.mem_cons_self,h⟩
        · exact .inl h
      · rcases ih h with h | ⟨z,hz,h⟩
        · exact .inl h
        · exact .inr ⟨z,List.mem_cons_of_mem _ hz,h⟩
theorem joinS_len (g:Str) (m:Nat):∀ (A:List Str),(∀ z∈A,z.length≤m)→(PySem.Str.join g A).length≤A.length * (m + g.length):=by
  intro A
  induction A with
  | nil=>intro _; exact Nat.zero_le _
  | cons x r ih=>
    intro h
    have h1:=h x List.mem_cons_self
    cases r with
    | nil=>
      show x.length≤1 * (m + g.length)
      omega
    | cons y r=>
      have h2:=ih fun z hz=>h z (List.mem_cons_of_mem _ hz)
      show (x ++ g ++ PySem.Str.join g (y :: r)).length≤((y :: r).length + 1) * (m + g.length)
      rw [← cod_len,cod_app,cod_app,List.length_append,List.length_append,cod_len,cod_len,cod_len,Nat.add_mul,Nat.one_mul]
      omega
def Repl (x z:Str) (k:Int) (r:Str):Prop:=(∀ c∈cod r,c∈cod x∨c∈cod z)∧r.length≤(k.toNat + 1) * (x.length + z.length)
theorem repl_self (x z:Str) (k:Int):Repl x z k x:=⟨fun c h=>.inl h,by rw [Nat.add_mul,Nat.one_mul]; omega⟩
theorem repl_glued (x y z:Str) (k:Int) {l:Nat} (hl:l≤k.toNat):Repl x z k (glued z (partsBetween x (occurrences x y 0 x.length l) y.length)):=by
  rw [StrLaws.glued_eq_join,StrLaws.partsBetween_eq]
  constructor
  · intro c hc
    rcases joinS_mem z _ hc with h | ⟨p,hp,h⟩
    · exact .inr h
    · exact .inl ((parts_mem hp).1 c h)
  · have h1:=joinS_len z x.length (StrLaws.partsFrom x y.length 0 (occurrences x y 0 x.length l)) fun p hp=>(parts_mem hp).2
    rw [parts_len] at h1
    have h2:=StrLaws.occ_length_le x y 0 x.length l
    exact Nat.le_trans h1 (Nat.mul_le_mul_right _ (by omega))
theorem repl_raw {prog:Program} {w:World} {A:Around} {E:Value→Shared→Prop} {s:Shared} {x y z:Str} {k:Int} {t u v o:Tok} {Q:Value→Shared→Prop} (hu:u≠0) (hv:v≠0) (huv:u≠v) (hyz:(y == z) = false) (k0:0≤k) (k1:k < 10) (hx:x.length≤100000) (hz:z.length≤100)
    (h:∀ r t' t'',Repl x z k r→Q (.str r t'') { s with toks:=t' }) :
    wpAny (model prog w) A (call (.builtin "str.replace") [.str x t,.str y u,.str z v,.int k o]) Q E s:=by
  have hk:(decide (k < -(2 ^ 63:Int)) || decide (k ≥ 2 ^ 63)) = false:=by rw [decide_eq_false (by omega),decide_eq_false (by omega)]; rfl
  have hl:limitOf x k≤k.toNat:=by unfold limitOf; rw [if_neg (by omega)]; exact Nat.le_refl _
  refine wpAny_call_entry F.slot_str_replace (typeIs_str _ _ _) F.entry_str_replace ?_ (F.args_str_replace_4 _ _ _ _)
  have htree:Builtin.«str.replace» ⟨[.str x t,.str y u,.str z v,.int k o],[]⟩ = (if ((occurrences x y 0 x.length (limitOf x k)).isEmpty || (y.length == 0 && z.length == 0)) = true then (do rule "str.replace.nothing"; ret (.str x t)) else
          (do let same ← isSame (.str y u) (.str z v)
              if same = true then (do rule "str.replace.old-is-new"; ret (.str x t)) else
              if tooLong (x.length + (occurrences x y 0 x.length (limitOf x k)).length * z.length) = true then unsupported "str.replace:memory" else
              retStr (glued z (partsBetween x (occurrences x y 0 x.length (limitOf x k)) y.length)))):=by
    show (do let limit ← countLimit "str.replace" (some (.int k o)) (x.length + 1); _) = _
    rw [countLimit_int "str.replace" k o (x.length + 1) hk]
    rfl
  rw [htree]
  have ol:=StrLaws.occ_length_le x y 0 x.length (limitOf x k)
  have nl:tooLong (x.length + (occurrences x y 0 x.length (limitOf x k)).length * z.length) = false:=by
    have:(occurrences x y 0 x.length (limitOf x k)).length * z.length≤10 * 100:=Nat.mul_le_mul (by omega) hz
    generalize (occurrences x y 0 x.length (limitOf x k)).length * z.length = q at this
    unfold tooLong
    exact decide_eq_false (by have:=sizeLine_eq; omega)
  have rg:=repl_glued x y z k hl
  split
  · exact wpAny_bind (wpAny_rule (wpAny_pure ⟨_,rfl,h x s.toks t (repl_self x z k)⟩))
  · rw [isSame_str_other y z u v (by simp [hu,hv]) (by simp [huv]) hyz,nl]
    refine wpAny_bind (wpAny_pure ?_)
    show wpAny _ _ (retStr _) _ _ _
    have gl:(glued z (partsBetween x (occurrences x y 0 x.length (limitOf x k)) y.length)).length≤sizeLine:=by
      have h1:=rg.2
      have h2:(k.toNat + 1) * (x.length + z.length)≤10 * 100100:=Nat.mul_le_mul (by omega) (by omega)
      have:=sizeLine_eq
      omega
    generalize glued z (partsBetween x (occurrences x y 0 x.length (limitOf x k)) y.length) = g at rg gl
    unfold retStr
    exact wpAny_bind (wpAny_mkStr (wpAny_pure ⟨_,rfl,h g _ _ rg⟩) gl)
def tRepl (K:PySem.W.Frag) (to:TE) (y z:Str) (te:TE):TE:=fun σ H Q=>to σ H fun x H1=>∃ q,x = .str q∧q.length≤100000∧te σ H1 fun n H2=>∃ k,n = .int k∧0≤k∧k < 10∧∀ r,Repl q z k r→Q (.str r) H2
theorem pep_repl {o e:Expr} {y z:Str} {to te:TE} {apos cpos p1 p2:Pos} {j1 j2:Nat} (ho:PE X o to) (he:PE X e te) (hyz:(y == z) = false) (hz:z.length≤100)
    (hbase:attributeBase o "replace" X.env (eval o X.env) = eval o X.env:=by rfl)
    (hfew:((backTo cpos (starEach [.Constant (.str y) j1 p1,.Constant (.str z) j2 p2,e] X.env)).all (fun x=>!x.1) && (backToKw cpos (keywordEach [] X.env)).all (fun x=>x.1.isSome)
      && decide (([.Constant (.str y) j1 p1,.Constant (.str z) j2 p2,e]:List Expr).length + ([]:List Keyword).length + (if ([]:List Keyword).isEmpty then 0 else 1) < 30)) = true:=by rfl)
    (hline:(apos.endLine == cpos.line) = true:=by rfl) (htrees:backTo cpos (starEach [.Constant (.str y) j1 p1,.Constant (.str z) j2 p2,e] X.env) = [(false,eval (.Constant (.str y) j1 p1) X.env),(false,eval (.Constant (.str z) j2 p2) X.env),(false,eval e X.env)]:=by rfl) :
    PEp X (.Call (.Attribute o "replace" apos) [.Constant (.str y) j1 p1,.Constant (.str z) j2 p2,e] [] cpos) (tRepl X.K to y z te):=by
  intro pins s σ H Q I hs h
  refine wpAny_Call_method hbase hfew hline F.plainAttrs_str F.slot_str_replace F.type_str_replace (thn (keep_toks hs (ho pins s σ H _ I h)) fun u s1 ⟨⟨x,H1,I1,rx,q,ex,ql,q1⟩,hp⟩=>?_)
  subst ex
  obtain ⟨t,rfl⟩:=rx
  refine ⟨typeIs_str _ _ _,(fun b z=>by cases z),?_⟩
  rw [htrees]
  refine Calls.callWith_builtin rfl (Calls.evalArgs_plain (Calls.spliced_cons (wpAny_Constant_str (Calls.spliced_cons (wpAny_Constant_str (Calls.spliced_cons (thn (he pins _ σ H1 _ (I1.tok _) q1) fun iv s2 ⟨n,H2,I2,rn,k,en,k0,k1,q2⟩=>Calls.spliced_nil ?_)))))))
  subst en
  obtain ⟨o',rfl⟩:=rn
  exact repl_raw (Nat.ne_of_gt hp) (Nat.succ_ne_zero _) (Nat.ne_of_lt (Nat.lt_succ_self _)) hyz k0 k1 ql hz fun r t' t'' hr=>⟨.str r,H2,I2.tok _,⟨_,rfl⟩,q2 r hr⟩
end
section
open PySem PySem.Spec PyProof.Rows
theorem comp_zipP {K:PySem.W.Frag} {k j:Bool} {a b:Addr} {xs ys:List V} {fr:List (Option Nat)} {i0 i1:Nat} {n:Nat} {te:TE} {Q:VK} {σ:St} {H:Hp} (f:Nat→V) (P:Nat→Prop) (h1:SqS K k H a xs) (h2:SqS K j H b ys) (hl:xs.length = ys.length) (hn:xs.length≤1000000) (h3:n = 2)
    (helt:∀ (i:Nat) (x y:V) (H':Hp) (R:VK),xs[i]? = some x→ys[i]? = some y→Same H H'→(∀ H'',Same H' H''→P i→R (f i) H'')→te (((stC fr σ).set i0 (some x)).set i1 (some y)) H' R) (hne:i0≠i1)
    (hQ:∀ l H',H l = none→Same H H'→H' l = some (.lst ((List.range xs.length).map f))→(∀ i,i < xs.length→P i)→Q (.ref l) H') :
    tCompK fr (gTup K n (gCons (gName i0) (gCons (gName i1) gNil))) tYes te σ Q (Itzs K k j a b) H:=by
  intro l hl0
  refine ⟨fun i m σ' H'=>m = xs.length - i∧i≤xs.length∧(∀ y z,(σ'.set i0 y).set i1 z = ((stC fr σ).set i0 y).set i1 z)∧Same H H'∧H' l = some (.lst ((List.range i).map f))∧∀ j,j < i→P j,⟨xs.length,by simp,Nat.zero_le _,fun _ _=>rfl,same_new hl0 _,by rw [upd_same]; rfl,fun j h=>absurd h (Nat.not_lt_zero _)⟩,?_⟩
  rintro i m σ' H' ⟨rfl,hi,hσ,hs,hl',hP⟩
  have ha':=hs.src k h1
  have hb':=hs.src j h2
  by_cases hlt:i < xs.length
  · have hlt2:i < ys.length:=by omega
    refine .inr ⟨⟨xs,ys,xs[i],ys[i],ha',hb',hl,by simp [hlt],by simp [hlt2]⟩,?_⟩
    rintro x H'' ⟨T,u,v,hT,rfl,hu,hv,rfl⟩
    have hui:=hu xs ha'
    have hvi:=hv ys hb'
    have st:=same_new hT (.tup [u,v])
    subst h3
    refine ⟨T,_,rfl,SqT.of upd_same,rfl,_,_,rfl,_,_,rfl,rfl,?_⟩
    show te ((σ'.set i0 (some u)).set i1 (some v)) _ _
    rw [hσ]
    refine helt i u v _ _ hui hvi (hs.trans st) fun H4 s4 hpi=>?_
    refine ⟨_,s4.get (st.get hl'),smallLt (by rw [List.length_map,List.length_range]; omega),xs.length - (i + 1),by omega,rfl,hlt,fun y z=>?_,same_upd ((hs.trans st).trans s4) hl0 _,?_,fun j hj=>?_⟩
    · rw [List.set_comm _ _ (Ne.symm hne),List.set_set,List.set_set]
    · rw [upd_same,List.range_succ,List.map_append]
      simp
    · by_cases e:j = i
      · rw [e]; exact hpi
      · exact hP j (by omega)
  · have e:i = xs.length:=by omega
    subst e
    exact .inl ⟨⟨xs,ys,ha',hb',rfl,by omega⟩,hQ l H' hl0 hs hl' hP⟩
end
section
open PySem PySem.Calls PySem.Spec PyProof.Rows
variable {X:Cx}
def rUpd:V→List V→Hp→VK→Prop:=fun x vs H Q=>∃ a b kvs more,x = .ref a∧vs = [.ref b]∧a≠b∧H a = some (.dK kvs)∧H b = some (.dK more)∧kvs.length + more.length≤1000∧Q .non (upd H a (.dK (mergeK kvs more)))
theorem mt_update:MtR X "dict.update" rUpd:=by
  intro pins s σ H x vs v us Q I rx rv h
  obtain ⟨a,b,kvs,more,rfl,rfl,hab,ha,hb,hl,q⟩:=h
  cases rx
  obtain ⟨y',rfl,ry⟩:=rv.one
  cases ry
  obtain ⟨za,hda,va,ra,dda⟩:=dk_of I.hok ha
  obtain ⟨zb,hdb,vb,rb,ddb⟩:=dk_of I.hok hb
  refine call_meetsIn PySem.F.slot_dict_update dda.typeIs PySem.F.entry_dict_update (PySem.F.args_dict_update_2 _ _) (meets_dict_update (mixKind X.prog X.w) a b hab hdb) ⟨va,vb,dda,ddb,?_,fun h' da db sb=>?_⟩
  · rw [← ra.length,← rb.length]
    exact small (by omega)
  · refine ⟨.non,_,d_write I (by rw [ha]; exact True.intro) sb (by obtain ⟨o,_,_,ho,_⟩:=da; exact ⟨o,ho⟩) (dk_new (small (by have:=length_mergeK more kvs; omega)) hda (KV.merge rb ra) da),rfl,q⟩
def rLeS:R2:=fun x y H Q=>∃ a b,x = .str a∧y = .str b∧Q (.bl (!(decide (b.cps.toList < a.cps.toList)))) H
theorem op_leS:OpR X (compareOp .LtE) rLeS:=by
  intro pins s σ H x y v u Q I rx ry h
  obtain ⟨a,b,rfl,rfl,q⟩:=h
  obtain ⟨t,rfl⟩:=rx
  obtain ⟨t2,rfl⟩:=ry
  exact PySem.P.le_str ⟨.bl _,H,I,rfl,q⟩
end
end L2
set_option maxHeartbeats 4000000
namespace K73
open PySem L2
def top (i:Nat):Stmt:=PySem.Challenge.pw_stemshelf_k73_rows_refused.main.body.getD i (.Pass ⟨0,0,0,0⟩)
abbrev s_row_of:Stmt:=top 16
theorem sc_row_of:FnScope ["deed","kinds"] ["deed"] (defScope s_row_of):=⟨rfl,rfl,rfl,by decide +kernel,rfl,by decide +kernel,by decide +kernel⟩
abbrev s_part_written:Stmt:=top 17
theorem sc_part_written:FnScope ["part","kind"] ["part","kind"] (defScope s_part_written):=⟨rfl,rfl,rfl,by decide +kernel,rfl,by decide +kernel,by decide +kernel⟩
abbrev s_path_written:Stmt:=top 18
theorem sc_path_written:FnScope ["path"] ["path"] (defScope s_path_written):=⟨rfl,rfl,rfl,by decide +kernel,rfl,by decide +kernel,by decide +kernel⟩
abbrev s_read_row:Stmt:=top 19
theorem sc_read_row:FnScope ["text"] ["text"] (defScope s_read_row):=⟨rfl,rfl,rfl,by decide +kernel,rfl,by decide +kernel,by decide +kernel⟩
abbrev s_word_of:Stmt:=top 20
theorem sc_word_of:FnScope ["text"] ["text"] (defScope s_word_of):=⟨rfl,rfl,rfl,by decide +kernel,rfl,by decide +kernel,by decide +kernel⟩
abbrev s_parts_read:Stmt:=top 21
theorem sc_parts_read:FnScope ["text","kinds","words"] ["text","kinds"] (defScope s_parts_read):=⟨rfl,rfl,rfl,by decide +kernel,rfl,by decide +kernel,by decide +kernel⟩
abbrev s_words_in:Stmt:=top 22
theorem sc_words_in:FnScope ["text","kinds"] ["text","kinds"] (defScope s_words_in):=⟨rfl,rfl,rfl,by decide +kernel,rfl,by decide +kernel,by decide +kernel⟩
abbrev s_part_read:Stmt:=top 23
theorem sc_part_read:FnScope ["word","kind"] ["word","kind"] (defScope s_part_read):=⟨rfl,rfl,rfl,by decide +kernel,rfl,by decide +kernel,by decide +kernel⟩
abbrev s_number_read:Stmt:=top 24
theorem sc_number_read:FnScope ["word"] ["word"] (defScope s_number_read):=⟨rfl,rfl,rfl,by decide +kernel,rfl,by decide +kernel,by decide +kernel⟩
abbrev s__law_row:Stmt:=top 27
theorem sc__law_row:FnScope ["_law_cell","_law_many","_law_found","_law_k","_law_number_here"] ["_law_cell","_law_many"] (defScope s__law_row):=⟨rfl,rfl,rfl,by decide +kernel,rfl,by decide +kernel,by decide +kernel⟩
abbrev s__law_names:Stmt:=top 28
theorem sc__law_names:FnScope ["_law_row_here","_law_many","_law_signs","_law_word_here","_law_at","_law_found","_law_k","_law_one"] ["_law_row_here","_law_many"] (defScope s__law_names):=⟨rfl,rfl,rfl,by decide +kernel,rfl,by decide +kernel,by decide +kernel⟩
abbrev s__law_word:Stmt:=top 29
theorem sc__law_word:FnScope ["_law_row_here","_law_at","_law_names_here"] ["_law_row_here","_law_at","_law_names_here"] (defScope s__law_word):=⟨rfl,rfl,rfl,by decide +kernel,rfl,by decide +kernel,by decide +kernel⟩
abbrev s__law_path:Stmt:=top 30
theorem sc__law_path:FnScope ["_law_row_here","_law_at","_law_names_here","_law_many","_law_some","_law_k","_law_number_here"] ["_law_row_here","_law_at","_law_names_here"] (defScope s__law_path):=⟨rfl,rfl,rfl,by decide +kernel,rfl,by decide +kernel,by decide +kernel⟩
abbrev s__law_number:Stmt:=top 31
theorem sc__law_number:FnScope ["_law_row_here","_law_at","_law_number_here","_law_digit"] ["_law_row_here","_law_at"] (defScope s__law_number):=⟨rfl,rfl,rfl,by decide +kernel,rfl,by decide +kernel,by decide +kernel⟩
abbrev s__law_text:Stmt:=top 32
theorem sc__law_text:FnScope ["_law_row_here","_law_at","_law_signs","_law_many"] ["_law_row_here","_law_at"] (defScope s__law_text):=⟨rfl,rfl,rfl,by decide +kernel,rfl,by decide +kernel,by decide +kernel⟩
abbrev s__law_deed:Stmt:=top 33
theorem sc__law_deed:FnScope ["_law_cell","_law_names_here","_law_row_here","_law_words","_law_word_here","_law_one","_law_path_here","_law_to","_law_other"] ["_law_cell","_law_names_here"] (defScope s__law_deed):=⟨rfl,rfl,rfl,by decide +kernel,rfl,by decide +kernel,by decide +kernel⟩
abbrev s__law_bent:Stmt:=top 34
theorem sc__law_bent:FnScope ["_law_cell","_law_text_here","_law_row_here","_law_at","_law_sign","_law_way"] ["_law_cell","_law_text_here"] (defScope s__law_bent):=⟨rfl,rfl,rfl,by decide +kernel,rfl,by decide +kernel,by decide +kernel⟩
abbrev s__law_kinds:Stmt:=top 35
theorem sc__law_kinds:FnScope ["_law_word_here","_law_table"] ["_law_word_here"] (defScope s__law_kinds):=⟨rfl,rfl,rfl,by decide +kernel,rfl,by decide +kernel,by decide +kernel⟩
abbrev s__law_part:Stmt:=top 36
theorem sc__law_part:FnScope ["_law_kind","_law_word_here"] ["_law_kind","_law_word_here"] (defScope s__law_part):=⟨rfl,rfl,rfl,by decide +kernel,rfl,by decide +kernel,by decide +kernel⟩
abbrev s__law_due:Stmt:=top 37
theorem sc__law_due:FnScope ["_law_text_here","_law_words","_law_kinds_here","_law_found","_law_k","_law_part_here"] ["_law_text_here"] (defScope s__law_due):=⟨rfl,rfl,rfl,by decide +kernel,rfl,by decide +kernel,by decide +kernel⟩
abbrev s__law_read:Stmt:=top 38
theorem sc__law_read:FnScope ["_law_text_here","_law_found","e","_law_kinds_here","_law_other"] ["_law_text_here"] (defScope s__law_read):=⟨rfl,rfl,rfl,by decide +kernel,rfl,by decide +kernel,by decide +kernel⟩
abbrev s_law:Stmt:=top 39
theorem sc_law:FnScope ["_law_script","_law_names_here","_law_rows","_law_cell","_law_deed_here","_law_text_here","_law_due_here","_law_found"] ["_law_script"] (defScope s_law):=⟨rfl,rfl,rfl,by decide +kernel,rfl,by decide +kernel,by decide +kernel⟩
def TB_DEED_PARTS:List (Str×List Str):=[(PySem.Str.ofString "keeper",[PySem.Str.ofString "word",PySem.Str.ofString "number"]),(PySem.Str.ofString "stem",[PySem.Str.ofString "word",PySem.Str.ofString "word"]),(PySem.Str.ofString "folder",[PySem.Str.ofString "word",PySem.Str.ofString "path"]),(PySem.Str.ofString "write",[PySem.Str.ofString "word",PySem.Str.ofString "path",PySem.Str.ofString "text"]),(PySem.Str.ofString "splice",[PySem.Str.ofString "word",PySem.Str.ofString "path",PySem.Str.ofString "number",PySem.Str.ofString "number",PySem.Str.ofString "text"]),(PySem.Str.ofString "remove",[PySem.Str.ofString "word",PySem.Str.ofString "path"]),(PySem.Str.ofString "move",[PySem.Str.ofString "word",PySem.Str.ofString "path",PySem.Str.ofString "path"]),(PySem.Str.ofString "copy",[PySem.Str.ofString "word",PySem.Str.ofString "path",PySem.Str.ofString "word",PySem.Str.ofString "path"]),(PySem.Str.ofString "seal",[PySem.Str.ofString "word",PySem.Str.ofString "word"]),(PySem.Str.ofString "grow",[PySem.Str.ofString "word",PySem.Str.ofString "word",PySem.Str.ofString "word"]),(PySem.Str.ofString "back",[PySem.Str.ofString "word"]),(PySem.Str.ofString "graft",[PySem.Str.ofString "word"]),(PySem.Str.ofString "drop",[PySem.Str.ofString "word"])]
structure Txt (w:World) (K:PySem.W.Frag) (mg:Str→Option Value) (XC:Nat→Addr):Prop where
  x_NoRow:mg "NoRow" = some (.ref (XC 0))
  x_StemError:mg "StemError" = some (.ref (XC 1))
  x_NoName:mg "NoName" = some (.ref (XC 2))
  x_NoPath:mg "NoPath" = some (.ref (XC 3))
  x_NoThing:mg "NoThing" = some (.ref (XC 4))
  x_Twice:mg "Twice" = some (.ref (XC 5))
  x_Bare:mg "Bare" = some (.ref (XC 6))
  x_Grown:mg "Grown" = some (.ref (XC 7))
  x_TooMany:mg "TooMany" = some (.ref (XC 8))
  q_NoRow:PySem.W.excIn K (XC 0) [.type "ValueError",.type "Exception",.type "BaseException",.type "object"] "ValueError.__new__" = true
  m_NoRow_StemError:PySem.W.exmOne K (.ref (XC 0)) (.ref (XC 1)) = some true
  e_NoRow:ExcCls K (XC 0)
  k_NoRow_NoRow:PySem.W.kitOne K (.ref (XC 0)) (.ref (XC 0)) = some true
  k_NoRow_ValueError:PySem.W.kitOne K (.ref (XC 0)) (.type "ValueError") = some true
  k_NoRow_NoName:PySem.W.kitOne K (.ref (XC 0)) (.ref (XC 2)) = some false
  k_NoRow_NoPath:PySem.W.kitOne K (.ref (XC 0)) (.ref (XC 3)) = some false
  k_NoRow_NoThing:PySem.W.kitOne K (.ref (XC 0)) (.ref (XC 4)) = some false
  k_NoRow_Twice:PySem.W.kitOne K (.ref (XC 0)) (.ref (XC 5)) = some false
  k_NoRow_Bare:PySem.W.kitOne K (.ref (XC 0)) (.ref (XC 6)) = some false
  k_NoRow_Grown:PySem.W.kitOne K (.ref (XC 0)) (.ref (XC 7)) = some false
  k_NoRow_TooMany:PySem.W.kitOne K (.ref (XC 0)) (.ref (XC 8)) = some false
  b_ValueError:mg "ValueError" = none
  b_all:mg "all" = none
  b_int:mg "int" = none
  b_isinstance:mg "isinstance" = none
  b_len:mg "len" = none
  b_range:mg "range" = none
  b_str:mg "str" = none
  b_tuple:mg "tuple" = none
  b_zip:mg "zip" = none
  c_SIGNS:∃ t,mg "SIGNS" = some (.str (PySem.Str.ofString " !\"#$&'()*+,-./0123456789:;<=>?@ABCDEFGHIJKLMNOPQRSTUVWXYZ[\\]^_`abcdefghijklmnopqrstuvwxyz{|}~") t)
  c_FIGURES:∃ t,mg "FIGURES" = some (.str (PySem.Str.ofString "0123456789") t)
  c_MOST_FIGURES:∃ t,mg "MOST_FIGURES" = some (.int 9 t)
  c_ROOT_WORD:∃ t,mg "ROOT_WORD" = some (.str (PySem.Str.ofString ".") t)
  t_DEED_PARTS:∃ dp,mg "DEED_PARTS" = some (.ref dp)∧TabAt w K dp TB_DEED_PARTS
abbrev SG:Str:=PySem.Str.ofString " !\"#$&'()*+,-./0123456789:;<=>?@ABCDEFGHIJKLMNOPQRSTUVWXYZ[\\]^_`abcdefghijklmnopqrstuvwxyz{|}~"
abbrev BL:Str:=PySem.Str.ofString " "
abbrev EM:Str:=PySem.Str.ofString ""
abbrev DOT:Str:=PySem.Str.ofString "."
abbrev KW:Str:=PySem.Str.ofString "word"
abbrev KN:Str:=PySem.Str.ofString "number"
abbrev KP:Str:=PySem.Str.ofString "path"
abbrev KX:Str:=PySem.Str.ofString "text"
theorem bl_one:BL = ⟨#[32]⟩:=by decide +kernel
theorem bl_cod:cod BL = [32]:=by decide +kernel
def num (n:Int):Str:=PySem.Str.ofString (toString n)
def writ (k:Str):V→Str
  | .int n=>num n
  | .str z=>if k = KP∧z = EM then DOT else z
  | _=>EM
theorem writ_s {k z:Str} (h:k≠KP):writ k (.str z) = z:=if_neg (show ¬ (k = KP∧z = EM) from fun q=>h q.1)
def sgn (z:Str):Prop:=∀ c∈cod z,c∈cod SG
inductive POk:Str→V→Prop
  | wd {z:Str}:cod z≠[]→32 ∉ cod z→sgn z→z.length≤500→POk KW (.str z)
  | nm {n:Int}:0≤n→n≤999999999→POk KN (.int n)
  | pa {z:Str}:32 ∉ cod z→z≠DOT→sgn z→z.length≤500→POk KP (.str z)
  | tx {z:Str}:sgn z→z.length≤500→POk KX (.str z)
structure DOk (dw:Str) (ks:List Str) (ps:List V):Prop where
  tab:tabLook TB_DEED_PARTS dw = some ks
  parts:Paired POk ks ps
def wrs (ks:List Str) (ps:List V):List Str:=List.zipWith writ ks ps
def rowT (dw:Str) (ks:List Str) (ps:List V):Str:=PySem.Txt.join BL (dw :: wrs ks ps)
theorem tab_mem {dw:Str} {ks:List Str} (h:tabLook TB_DEED_PARTS dw = some ks):(dw,ks)∈TB_DEED_PARTS:=by
  obtain ⟨p,hp,rfl⟩:=Option.map_eq_some_iff.mp h
  have:=List.mem_of_find?_eq_some hp
  have e:=List.find?_some hp
  rw [← of_decide_eq_true e]
  exact this
theorem tab_word:∀ p∈TB_DEED_PARTS,32 ∉ cod p.1∧p.1.length≤10∧p.1≠EM∧1≤p.2.length∧p.2.length≤5∧(∀ c∈cod p.1,c∈cod SG):=by decide +kernel
theorem tab_text:∀ p∈TB_DEED_PARTS,KX ∉ p.2.take (p.2.length - 1):=by decide +kernel
theorem DOk.word {dw:Str} {ks:List Str} {ps:List V} (h:DOk dw ks ps):32 ∉ cod dw∧dw.length≤10∧dw≠EM∧1≤ks.length∧ks.length≤5∧∀ c∈cod dw,c∈cod SG:=tab_word _ (tab_mem h.tab)
theorem len_app (a b:Str):(a ++ b).length = a.length + b.length:=by rw [← cod_len,cod_app,List.length_append,cod_len,cod_len]
theorem num_cod (n:Int) (h:0≤n):cod (num n) = (Nat.toDigits 10 n.toNat).map Char.toNat:=by
  obtain ⟨m,rfl⟩:=Int.eq_ofNat_of_zero_le h
  exact PySem.W.KIN.signs_num m
theorem num_fig {n:Int} (h:0≤n):∀ c∈cod (num n),48≤c∧c≤57:=by
  intro c hc
  rw [num_cod n h] at hc
  obtain ⟨ch,hch,e⟩:=List.mem_map.mp hc
  rw [← e]
  exact PyProof.Rows.digit_range (Nat.isDigit_of_mem_toDigits (by decide) (by decide) hch)
theorem num_len {n:Int} (h:0≤n) (h1:n≤999999999):(num n).length≤9:=PyProof.Rows.toString_length_le h (by decide) (show n < 10 ^ 9 by omega)
theorem num_ne {n:Int} (h:0≤n):cod (num n)≠[]:=by
  rw [num_cod n h]
  intro e
  have h:=PySem.toDigits_len_ge 10 n.toNat
  rw [List.map_eq_nil_iff.mp e] at h
  exact absurd h (by decide)
theorem fig_sg:∀ c,48≤c→c≤57→c∈cod SG:=by
  intro c h1 h2
  have:∀ d:Nat,d < 10→d + 48∈cod SG:=by decide +kernel
  have:=this (c - 48) (by omega)
  rw [show c - 48 + 48 = c by omega] at this
  exact this
theorem writ_ok {k:Str} {p:V} (h:POk k p):sgn (writ k p)∧(writ k p).length≤500∧(k≠KX→32 ∉ cod (writ k p)∧writ k p≠EM):=by
  cases h with
  | @wd z h0 h1 h2 h3=>
    have e:writ KW (.str z) = z:=writ_s (by decide +kernel)
    rw [e]
    exact ⟨h2,h3,fun _=>⟨h1,fun e=>h0 (by rw [e]; rfl)⟩⟩
  | @nm n h0 h1=>
    refine ⟨fun c hc=>?_,Nat.le_trans (num_len h0 h1) (by decide),fun _=>⟨fun hc=>?_,fun e=>num_ne h0 (by rw [show num n = EM from e]; rfl)⟩⟩
    · have:=num_fig h0 c hc
      exact fig_sg c this.1 this.2
    · have:=num_fig h0 32 hc
      omega
  | @pa z h1 h2 h3 h4=>
    by_cases hz:z = EM
    · have e:writ KP (.str z) = DOT:=if_pos ⟨rfl,hz⟩
      rw [e]
      exact ⟨(show ∀ c∈cod DOT,c∈cod SG by decide +kernel),by decide +kernel,fun _=>⟨by decide +kernel,by decide +kernel⟩⟩
    · have e:writ KP (.str z) = z:=if_neg fun h=>hz h.2
      rw [e]
      exact ⟨h3,h4,fun _=>⟨h1,hz⟩⟩
  | @tx z h1 h2=>
    have e:writ KX (.str z) = z:=writ_s (by decide +kernel)
    rw [e]
    exact ⟨h1,h2,fun h=>absurd rfl h⟩
theorem cod_joinB:∀ (w:Str) (A:List Str),∃ ws t,w :: A = ws ++ [t]∧cod (PySem.Txt.join BL (w :: A)) = jcl 32 ws t:=by
  intro w A
  show ∃ ws t,w :: A = ws ++ [t]∧cod (PySem.Builtin.Str.glued BL (w :: A)) = _
  rw [StrLaws.glued_eq_join]
  induction A generalizing w with
  | nil=>exact ⟨[],w,rfl,rfl⟩
  | cons y r ih=>
    obtain ⟨ws,t,e1,e2⟩:=ih y
    refine ⟨w :: ws,t,by rw [e1]; rfl,?_⟩
    show cod (w ++ BL ++ PySem.Str.join BL (y :: r)) = cod w ++ 32 :: jcl 32 ws t
    rw [cod_app,cod_app,bl_cod,e2,List.append_assoc]
    rfl
section
variable {P:Program} {w:World} {K:PySem.W.Frag} {mg:Str→Option Value} {base:Heap} {f:Addr} {XC:Nat→Addr} {fd:FuncData}
def sp_path_written (K:PySem.W.Frag):Sp:=fun vs H Q _=>∃ z,vs = [.str z]∧Q (.str (if z = EM then DOT else z)) H
theorem ok_path_written (T:Txt w K mg XC) (F:Fun K "path_written" "path_written" s_path_written f fd):FnOk P w K mg base CX0 1 f fd ["path"] (sp_path_written K):=by
  refine F.ok sc_path_written (fun vs H Q E h=>?_) (fun cdv A outer s H vs Q E hr h=>?_)
  · obtain ⟨z,rfl,_⟩:=h
    rfl
  obtain ⟨z,rfl,q⟩:=h
  refine ⟨_,(@pss_one _ _ _ (@ps_ret _ _ _ _ (@pe_ifExp _ _ _ _ _ _ _ _ (@pt_cmpR _ _ _ _ _ _ _ _ op_eq (pv 0) (@pe_str _ _ _ _) (nomark _)) (@pe_globS _ _ _ _ rfl T.c_ROOT_WORD (by decide)) (pv 0)))),?_⟩
  refine ⟨_,rfl,rfl,_,rfl,ite2 (fun c=>?_) (fun c=>?_)⟩
  · have e:z = EM:=V.str.inj (dec_true c)
    rw [if_pos e] at q
    exact q
  · have ne:z≠EM:=fun e=>dec_false c (by rw [e])
    rw [if_neg ne] at q
    exact ⟨_,rfl,q⟩
def sp_part_written (K:PySem.W.Frag):Sp:=fun vs H Q _=>∃ k p,vs = [p,.str k]∧POk k p∧Q (.str (writ k p)) H
theorem ok_part_written (T:Txt w K mg XC) (F:Fun K "part_written" "part_written" s_part_written f fd) (D_path_written:Def P w K mg base 1 "path_written" ["path"] (sp_path_written K)):FnOk P w K mg base CX0 2 f fd ["part","kind"] (sp_part_written K):=by
  refine F.ok sc_part_written (fun vs H Q E h=>?_) (fun cdv A outer s H vs Q E hr h=>?_)
  · obtain ⟨k,p,rfl,_⟩:=h
    rfl
  obtain ⟨k,p,rfl,hp,q⟩:=h
  refine ⟨_,(@pss_cons _ _ _ _ _ (@ps_if _ _ _ _ _ _ _ _ (@pt_cmpR _ _ _ _ _ _ _ _ op_eq (pv 1) (@pe_str _ _ _ _) (nomark _)) (@pss_one _ _ _ (@ps_ret _ _ _ _ (@pe_fn _ _ _ _ _ _ _ _ _ _ D_path_written (hr.mono (by decide)) rfl (@pa_cons _ _ _ _ _ (pv 0) (@pa_nil _) (by rfl)) (by decide) (by rfl) (by rfl)))) (@pss_nil _)) (@pss_cons _ _ _ _ _ (@ps_if _ _ _ _ _ _ _ _ (@pt_cmpR _ _ _ _ _ _ _ _ op_eq (pv 1) (@pe_str _ _ _ _) (nomark _)) (@pss_one _ _ _ (@ps_ret _ _ _ _ (@pe_callTy _ _ _ _ _ _ _ _ _ call_strI (by rfl) T.b_str bt_str (@pa_cons _ _ _ _ _ (pv 0) (@pa_nil _) (by rfl)) (by decide) (by decide) (by rfl) (by rfl)))) (@pss_nil _)) (@pss_one _ _ _ (@ps_ret _ _ _ _ (pv 0))))),?_⟩
  cases hp with
  | @wd z h0 h1 h2 h3=>
    rw [show writ KW (.str z) = z from writ_s (by decide +kernel)] at q
    exact ⟨_,rfl,rfl,_,rfl,iteFc (by decide +kernel) ⟨_,rfl,rfl,_,rfl,iteFc (by decide +kernel) ⟨_,rfl,q⟩⟩⟩
  | @nm n h0 h1=>
    exact ⟨_,rfl,rfl,_,rfl,iteFc (by decide +kernel) ⟨_,rfl,rfl,_,rfl,iteTc (by decide +kernel) ⟨_,rfl,n,rfl,h0,by omega,q⟩⟩⟩
  | @pa z h1 h2 h3 h4=>
    refine ⟨_,rfl,rfl,_,rfl,iteTc (by decide +kernel) ⟨_,rfl,z,rfl,?_⟩⟩
    have e:writ KP (.str z) = if z = EM then DOT else z:=by
      by_cases hz:z = EM
      · rw [if_pos hz]; exact if_pos ⟨rfl,hz⟩
      · rw [if_neg hz]; exact if_neg fun h=>hz h.2
    rw [e] at q
    exact q
  | @tx z h1 h2=>
    rw [show writ KX (.str z) = z from writ_s (by decide +kernel)] at q
    exact ⟨_,rfl,rfl,_,rfl,iteFc (by decide +kernel) ⟨_,rfl,rfl,_,rfl,iteFc (by decide +kernel) ⟨_,rfl,q⟩⟩⟩
theorem paired_get {ks:List Str} {ps:List V} (h:Paired POk ks ps):∀ {i:Nat} {k:Str} {p:V},ks[i]? = some k→ps[i]? = some p→POk k p:=by
  induction h with
  | nil=>intro i k p h1; simp at h1
  | @cons k0 p0 ks ps hk _ ih=>
    intro i k p h1 h2
    cases i with
    | zero=>simp at h1 h2; subst h1 h2; exact hk
    | succ i=>exact ih (by simpa using h1) (by simpa using h2)
theorem wrs_len {ks:List Str} {ps:List V} (h:Paired POk ks ps):(wrs ks ps).length = ks.length∧ps.length = ks.length:=by
  have:=Paired.length h
  unfold wrs
  rw [List.length_zipWith]
  omega
theorem wrs_get {ks:List Str} {ps:List V} (h:Paired POk ks ps):∀ {i:Nat},i < ks.length→∃ k p,ks[i]? = some k∧ps[i]? = some p∧POk k p∧(wrs ks ps)[i]? = some (writ k p):=by
  intro i hi
  have l:=(wrs_len h).2
  refine ⟨ks[i],ps[i],List.getElem?_eq_getElem hi,List.getElem?_eq_getElem (by omega),paired_get h (List.getElem?_eq_getElem hi) (List.getElem?_eq_getElem (by omega)),?_⟩
  unfold wrs
  rw [List.getElem?_zipWith,List.getElem?_eq_getElem hi,List.getElem?_eq_getElem (show i < ps.length by omega)]
theorem wrs_mem {ks:List Str} {ps:List V} (h:Paired POk ks ps) {y:Str} (hy:y∈wrs ks ps):∃ k p,POk k p∧y = writ k p:=by
  obtain ⟨i,hi⟩:=List.getElem?_of_mem hy
  have il:=(List.getElem?_eq_some_iff.mp hi).1
  rw [(wrs_len h).1] at il
  obtain ⟨k,p,_,_,hp,e⟩:=wrs_get h il
  rw [e] at hi
  exact ⟨k,p,hp,(Option.some.inj hi).symm⟩
theorem map_getD {α:Type} (l:List Str) (d:Str) (g:Str→α):((List.range l.length).map fun i=>g (l.getD i d)) = l.map g:=by
  refine List.ext_getElem? fun i=>?_
  rw [List.getElem?_map,List.getElem?_map]
  by_cases hi:i < l.length
  · rw [List.getElem?_range hi,List.getElem?_eq_getElem hi]
    show some (g (l.getD i d)) = some (g l[i])
    rw [List.getD_eq_getElem?_getD,List.getElem?_eq_getElem hi]
    rfl
  · rw [List.getElem?_eq_none (by rw [List.length_range]; omega),List.getElem?_eq_none (show l.length≤i by omega)]
    rfl
def sp_row_of (K:PySem.W.Frag):Sp:=fun vs H Q _=>∃ a dw ks ps,vs = [.ref a]∧H a = some (.tup (.str dw :: ps))∧DOk dw ks ps∧∀ H',Same H H'→Q (.str (rowT dw ks ps)) H'
theorem ok_row_of (T:Txt w K mg XC) (F:Fun K "row_of" "row_of" s_row_of f fd) (D_part_written:Def P w K mg base 2 "part_written" ["part","kind"] (sp_part_written K)):FnOk P w K mg base CX0 3 f fd ["deed"] (sp_row_of K):=by
  refine F.ok sc_row_of (fun vs H Q E h=>?_) (fun cdv A outer s H vs Q E hr h=>?_)
  · obtain ⟨a,dw,ks,ps,rfl,_⟩:=h
    rfl
  obtain ⟨a,dw,ks,ps,rfl,ha,hd,q⟩:=h
  have hu:=hu_of hr
  obtain ⟨dp,tm_DEED_PARTS,tt_DEED_PARTS⟩:=T.t_DEED_PARTS
  refine ⟨_,(@pss_cons _ _ _ _ _ (@ps_set _ _ (1) _ _ _ _ sc_row_of.nd rfl (by first | exact Or.inl rfl | exact Or.inr rfl) (@pe_tab _ _ _ _ _ (K) _ _ (by rfl) tt_DEED_PARTS (@pe_glob _ _ _ _ _ rfl tm_DEED_PARTS rfl (by decide)) (@pe_ix _ _ _ _ _ _ _ ix_tup (pv 0) (@pe_int _ _ _ _) (fun _ _=>rfl)) (fun _ _=>rfl)) (by rfl) (by first | exact .inl rfl | exact .inr rfl | assumption)) (@pss_one _ _ _ (@ps_ret _ _ _ _ (@pe_bm _ _ _ _ _ _ _ _ _ _ _ _ PySem.F.plainAttrs_str PySem.F.slot_str_join PySem.F.type_str_join (mt_join rfl) (@pe_str _ _ _ _) (@pa_cons _ _ _ _ _ (@pe_op _ _ _ _ _ _ _ _ op_catS (@pe_lst _ _ _ _ (@pa_cons _ _ _ _ _ (@pe_ix _ _ _ _ _ _ _ ix_tup (pv 0) (@pe_int _ _ _ _) (fun _ _=>rfl)) (@pa_nil _) (by rfl))) (@pe_comp0 _ ["part","kind"] _ _ _ _ _ _ _ _ _ _ rfl (@pi_zipS _ _ _ _ _ _ _ _ _ _ _ _ false false rfl T.b_zip (@pa_cons _ _ _ _ _ (@pe_slice _ _ _ _ _ _ _ _ _ _ sl_tup (pv 0) (@po_some _ _ _ (@pe_int _ _ _ _)) (@po_none _)) (@pa_cons _ _ _ _ _ (pv 1) (@pa_nil _) (by rfl)) (by rfl)) (by rfl) (by rfl)) (by decide +kernel) (fun C s H fp=>⟨(@pg_tupK _ (K) _ _ _ _ (2) (by rfl) rfl (@pgs_cons _ _ _ _ _ (@pg_name _ _ (0) _ (show (["part","kind"]:List Str).Nodup by decide +kernel) rfl (by first | exact Or.inl rfl | exact Or.inr rfl) (by first | exact .inl rfl | exact .inr rfl | assumption)) (@pgs_cons _ _ _ _ _ (@pg_name _ _ (1) _ (show (["part","kind"]:List Str).Nodup by decide +kernel) rfl (by first | exact Or.inl rfl | exact Or.inr rfl) (by first | exact .inl rfl | exact .inr rfl | assumption)) (@pgs_nil _) (by rfl)) (by rfl)) (by rfl) (by rfl)),(@pifs_nil _),(@pe_fn _ _ _ _ _ _ _ _ _ _ D_part_written (hr.mono (by decide)) rfl (@pa_cons _ _ _ _ _ (pv 0) (@pa_cons _ _ _ _ _ (pv 1) (@pa_nil _) (by rfl)) (by rfl)) (by decide) (by rfl) (by rfl))⟩) (by intro _; rfl))) (@pa_nil _) (by rfl)) (by rfl) (by rfl) (by rfl) (by rfl) (by rfl))))),?_⟩
  try dsimp only [cxOf,Cx.nox,Cx.wish]
  refine ⟨_,rfl,a,_,_,_,rfl,rfl,SqT.of ha,atI_nat (j:=0) rfl,dw,ks,rfl,hd.tab,fun b hb=>?_⟩
  have lw:=wrs_len hd.parts
  obtain ⟨w1,w2,w3,w4,w5,w6⟩:=hd.word
  have ly:∀ y∈dw :: wrs ks ps,y.length≤500:=fun y hy=>by
    rcases List.mem_cons.mp hy with rfl | hy
    · omega
    · obtain ⟨k,p,hp,rfl⟩:=wrs_mem hd.parts hy
      exact (writ_ok hp).2.1
  refine ⟨rfl,_,rfl,a,_,_,_,rfl,rfl,SqT.of ha,atI_nat (j:=0) rfl,small (by show 1≤1000000; decide),fun p hp=>?_⟩
  have s1:=same_new hp (.lst [V.str dw])
  have hp1:(upd H p (.lst [V.str dw])) p = some (.lst [V.str dw]):=upd_same
  change tComp _ _ _ _ _ _ (upd H p (.lst [V.str dw])) _
  generalize upd H p (.lst [V.str dw]) = H1 at s1 hp1
  have ha1:=s1.get ha
  refine ⟨_,rfl,1,rfl,a,_,rfl,SqT.of ha1,fun h=>?_,fun p2 hp2=>?_⟩
  · have:=h.1
    have e:HT.sIx (V.str dw :: ps).length 0 (some ((1:Nat):Int)) = 1:=by
      rw [HT.sIx_nat,List.length_cons]
      omega
    rw [show (some (1:Int)) = some ((1:Nat):Int) from rfl,e] at this
    cases this
  rw [cut_lo (by decide)]
  have s2:=same_new hp2 (.tup ((V.str dw :: ps).drop (1:Int).toNat))
  have hp3:(upd H1 p2 (.tup ((V.str dw :: ps).drop (1:Int).toNat))) p2 = some (.tup ps):=upd_same
  generalize upd H1 p2 (.tup ((V.str dw :: ps).drop (1:Int).toNat)) = H2 at s2 hp3
  refine ⟨_,rfl,p2,b,ps,ks.map V.str,rfl,SqT.of hp3,hb.sq H2,?_⟩
  refine comp_zipS (fun i=>.str ((wrs ks ps).getD i EM)) (k:=false) (j:=false) (SqT.of hp3) (hb.sq H2) (by rw [List.length_map]; omega) (by omega) rfl (fun i x y H' R hx hy s' hR=>?_) (by decide) fun l H7 n7 s7 h7=>?_
  · rw [List.getElem?_map] at hy
    obtain ⟨k,hk,rfl⟩:=Option.map_eq_some_iff.mp hy
    have il:=(List.getElem?_eq_some_iff.mp hk).1
    obtain ⟨k',p',g1,g2,g3,g4⟩:=wrs_get hd.parts il
    rw [hk] at g1
    rw [hx] at g2
    cases g1
    cases g2
    refine ⟨_,rfl,_,rfl,k,x,rfl,g3,?_⟩
    have:=hR H' (Same.refl _)
    rw [show (wrs ks ps).getD i EM = writ k x by rw [List.getD_eq_getElem?_getD,g4]; rfl] at this
    exact this
  have e7:=map_getD (wrs ks ps) EM V.str
  rw [lw.1,← lw.2] at e7
  rw [e7] at h7
  have h7p:=s7.get (s2.get hp1)
  refine ⟨p,l,_,_,rfl,rfl,SqL.of h7p,SqL.of h7,small (by rw [List.length_map]; show 1 + _≤1000000; omega),fun p9 hp9=>?_⟩
  have s9:=same_new hp9 (.lst ([V.str dw] ++ (wrs ks ps).map V.str))
  refine ⟨p9,BL,dw :: wrs ks ps,rfl,rfl,SqL.of upd_same,?_,q _ ((s1.trans (s2.trans s7)).trans s9)⟩
  have sl:∀ (l:List Str),(∀ y∈l,y.length≤500)→(l.map (·.length)).sum≤500 * l.length:=by
    intro l
    induction l with
    | nil=>intro _; exact Nat.zero_le _
    | cons y l ih=>
      intro h
      have h1:=h y List.mem_cons_self
      have h2:=ih fun z hz=>h z (List.mem_cons_of_mem _ hz)
      rw [List.map_cons,List.sum_cons,List.length_cons]
      omega
  have h1:=sl _ ly
  have h2:(dw :: wrs ks ps).length = ks.length + 1:=by rw [List.length_cons,lw.1]
  have h3:BL.length = 1:=by decide +kernel
  rw [h2] at h1 ⊢
  rw [h3]
  omega
end
theorem mem_jcl {c x:Nat} {t:Str}:∀ {ws:List Str},x∈jcl c ws t→x = c∨∃ w∈ws ++ [t],x∈cod w
  | [],h=>.inr ⟨t,by simp,h⟩
  | w :: ws,h=>by
    rcases List.mem_append.mp (show x∈cod w ++ c :: jcl c ws t from h) with h | h
    · exact .inr ⟨w,by simp,h⟩
    · rcases List.mem_cons.mp h with h | h
      · exact .inl h
      · rcases mem_jcl h with h | ⟨y,hy,h⟩
        · exact .inl h
        · exact .inr ⟨y,List.mem_cons_of_mem _ hy,h⟩
theorem jcl_len {c:Nat} {t:Str}:∀ {ws:List Str},(∀ w∈ws ++ [t],w.length≤500)→(jcl c ws t).length≤501 * ws.length + 500
  | [],h=>by
    have:=h t (by simp)
    show (cod t).length≤_
    rw [cod_len]
    omega
  | w :: ws,h=>by
    have h1:=h w (by simp)
    have h2:=jcl_len (c:=c) (t:=t) (ws:=ws) fun y hy=>h y (List.mem_cons_of_mem _ hy)
    show (cod w ++ c :: jcl c ws t).length≤501 * (ws.length + 1) + 500
    rw [List.length_append,List.length_cons,cod_len]
    omega
theorem starts_iff (x y:Str):PySem.Txt.startswith x y = true↔∃ r,cod x = cod y ++ r:=by
  unfold PySem.Txt.startswith
  rw [StrLaws.subAt_eq,Bool.and_eq_true,decide_eq_true_eq,beq_iff_eq,List.drop_zero]
  have hy:=cod_len y
  have hx:=cod_len x
  constructor
  · rintro ⟨_,h⟩
    refine ⟨(cod x).drop y.length,?_⟩
    have h':List.take y.length (cod x) = cod y:=h
    rw [← h']
    exact (List.take_append_drop _ _).symm
  · rintro ⟨r,h⟩
    have h':x.cps.toList = cod y ++ r:=h
    refine ⟨by rw [← hx,← hy,h,List.length_append]; omega,?_⟩
    rw [h',← hy,List.take_left']
    rfl
abbrev FG:Str:=PySem.Str.ofString "0123456789"
theorem fig_fg:∀ c,48≤c→c≤57→c∈cod FG:=by
  intro c h1 h2
  have:∀ d:Nat,d < 10→d + 48∈cod FG:=by decide +kernel
  have:=this (c - 48) (by omega)
  rw [show c - 48 + 48 = c by omega] at this
  exact this
theorem signs_all (t z:Str):((cod z).map fun c=>V.str ⟨#[c]⟩).map (fun v=>match v with | V.str y=>V.bl (!(Builtin.Str.occurrences t y 0 t.length 1).isEmpty) | _=>V.non) = ((cod z).map fun c=>decide (c∈cod t)).map V.bl:=by
  rw [List.map_map,List.map_map]
  refine List.map_congr_left fun c _=>?_
  show V.bl (!(Builtin.Str.occurrences t ⟨#[c]⟩ 0 t.length 1).isEmpty) = V.bl (decide (c∈cod t))
  rw [PySem.StrLaws.found_one]
theorem signs_yes {t z:Str} (h:∀ c∈cod z,c∈cod t):((cod z).map fun c=>decide (c∈cod t)).all id = true:=by
  rw [List.all_map,List.all_eq_true]
  exact fun c hc=>decide_eq_true (h c hc)
theorem inV_str (x:Str) (ns:List Str):inV (V.str x) (ns.map V.str) = decide (x∈ns):=by
  unfold inV
  rw [List.any_map,Bool.eq_iff_iff,List.any_eq_true,decide_eq_true_eq]
  constructor
  · rintro ⟨y,hy,e⟩
    have e':(y == x) = true:=e
    rw [← eq_of_beq e']
    exact hy
  · exact fun h=>⟨x,h,show (x == x) = true from beq_self_eq_true x⟩
theorem flat_strs (ks:List Str):(ks.map V.str).all flatV = true:=by
  rw [List.all_map,List.all_eq_true]
  exact fun _ _=>rfl
def numR (y:Str):Option V:=if y.length≤9∧(∀ c∈cod y,c∈cod FG)∧¬ (1 < y.length∧PySem.Txt.startswith y (PySem.Str.ofString "0") = true) then (PySem.intText? y).map V.int else none
def partR (k y:Str):Option V:=if k = KX then some (.str y) else if y = EM then none else if k = KN then numR y else if k = KP∧y = DOT then some (.str EM) else some (.str y)
theorem fg_dig:∀ c∈cod FG,48≤c∧c≤57:=by decide +kernel
theorem num_some {y:Str} (h1:y≠EM) (h2:∀ c∈cod y,c∈cod FG) (h3:y.length≤9):∃ n,PySem.intText? y = some n:=by
  have hd:PySem.NumText.AllDigits y.cps.toList:=fun c hc=>fg_dig c (h2 c hc)
  have hne:y.cps.toList≠[]:=fun e=>h1 (str_ext (by show y.cps.toList = cod EM; rw [e]; decide +kernel))
  exact ⟨_,PySem.intText_digits hd hne (by omega)⟩
section
variable {P:Program} {w:World} {K:PySem.W.Frag} {mg:Str→Option Value} {base:Heap} {f:Addr} {XC:Nat→Addr} {fd:FuncData}
def sp_number_read (K:PySem.W.Frag) (XC:Nat→Addr):Sp:=fun vs H Q E=>∃ y,vs = [.str y]∧y≠EM∧y.length≤100000∧(∀ v H',numR y = some v→Same H H'→Q v H')∧(numR y = none→∀ H',Same H H'→E (.ref (XC 0)) none H')
theorem ok_number_read (T:Txt w K mg XC) (F:Fun K "number_read" "number_read" s_number_read f fd):FnOk P w K mg base (CXd P w) 1 f fd ["word"] (sp_number_read K XC):=by
  refine F.okX sc_number_read (fun vs H Q E h=>?_) (fun cdv A outer s H vs Q E hr h=>?_)
  · obtain ⟨y,rfl,_⟩:=h
    rfl
  obtain ⟨y,rfl,y0,yl,q,qE⟩:=h
  refine ⟨_,(@pss_cons _ _ _ _ _ (@ps_if _ _ _ _ _ _ _ _ (@PW.pt _ _ _ (@pw_or _ _ _ _ _ _ _ (@pt_cmpR _ _ _ _ _ _ _ _ op_gt (@pe_callB _ _ _ _ _ _ _ _ _ call_len_str (by rfl) T.b_len bt_len (@pa_cons _ _ _ _ _ (pv 0) (@pa_nil _) (by rfl)) (by decide) (by decide) (by rfl) (by rfl)) (@pe_globI _ _ _ _ rfl T.c_MOST_FIGURES (by decide)) (nomark _)) (@pw_or1 _ _ _ _ (@pt_not _ _ _ _ (@pt_val _ _ _ (@pe_callB _ _ _ _ _ _ _ _ _ (call_all rfl) (by rfl) T.b_all bt_all (@pa_cons _ _ _ _ _ (@pe_comp0 _ ["sign"] _ _ _ _ _ _ _ _ _ _ rfl (@pi_str _ _ _ _ (pv 0)) (by decide +kernel) (fun C s H fp=>⟨(@pg_name _ _ (0) _ (show (["sign"]:List Str).Nodup by decide +kernel) rfl (by first | exact Or.inl rfl | exact Or.inr rfl) (by first | exact .inl rfl | exact .inr rfl | assumption)),(@pifs_nil _),(@pe_cmpR _ _ _ _ _ _ _ _ op_in_str (pv 0) (@pe_globS _ _ _ _ rfl T.c_FIGURES (by decide)) rfl)⟩) (by intro _; rfl)) (@pa_nil _) (by rfl)) (by decide) (by decide) (by rfl) (by rfl)) (by intro _; rfl)))))) (@pss_one _ _ _ (@ps_raise0 _ _ _ _ _ _ _ raise_up rfl T.x_NoRow T.q_NoRow rfl (by decide))) (@pss_nil _)) (@pss_cons _ _ _ _ _ (@ps_if _ _ _ _ _ _ _ _ (@PW.pt _ _ _ (@pw_and _ _ _ _ _ _ _ (@pt_cmpR _ _ _ _ _ _ _ _ op_gt (@pe_callB _ _ _ _ _ _ _ _ _ call_len_str (by rfl) T.b_len bt_len (@pa_cons _ _ _ _ _ (pv 0) (@pa_nil _) (by rfl)) (by decide) (by decide) (by rfl) (by rfl)) (@pe_int _ _ _ _) (nomark _)) (@pw_and1 _ _ _ _ (@pt_val _ _ _ (@pe_bm _ _ _ _ _ _ _ _ _ _ _ _ PySem.F.plainAttrs_str PySem.F.slot_str_startswith PySem.F.type_str_startswith mt_startswith (pv 0) (@pa_cons _ _ _ _ _ (@pe_str _ _ _ _) (@pa_nil _) (by rfl)) (by rfl) (by rfl) (by rfl) (by rfl) (by rfl)) (by intro _; rfl))))) (@pss_one _ _ _ (@ps_raise0 _ _ _ _ _ _ _ raise_up rfl T.x_NoRow T.q_NoRow rfl (by decide))) (@pss_nil _)) (@pss_one _ _ _ (@ps_ret _ _ _ _ (@pe_callTy _ _ _ _ _ _ _ _ _ call_intS (by rfl) T.b_int bt_int (@pa_cons _ _ _ _ _ (pv 0) (@pa_nil _) (by rfl)) (by decide) (by decide) (by rfl) (by rfl)))))),?_⟩
  try dsimp only [cxOf]
  have lc:=cod_len y
  have no:¬ (y.length≤9∧(∀ c∈cod y,c∈cod FG)∧¬ (1 < y.length∧PySem.Txt.startswith y (PySem.Str.ofString "0") = true))→∀ H',Same H H'→E (.ref (XC 0)) none H':=fun h=>qE (if_neg h)
  refine ⟨_,rfl,y,rfl,small (by omega),_,_,rfl,rfl,_,rfl,ite2 (fun c=>?_) (fun c=>?_)⟩
  · have c':=of_decide_eq_true c
    exact no (fun h=>by have:=h.1; omega) H (Same.refl _)
  have c9:y.length≤9:=by
    have:=of_decide_eq_false (Bool.eq_false_iff.mpr c)
    omega
  refine ⟨_,rfl,y,rfl,?_⟩
  refine comp_map (fun v=>match v with | .str y=>.bl (!(Builtin.Str.occurrences FG y 0 FG.length 1).isEmpty) | _=>.non) itIs_str (by rw [List.length_map]; exact Nat.le_trans (Nat.le_of_eq lc) (by omega)) (fun x H' R hx s' hR=>?_) fun l H7 n7 s7 h7=>?_
  · obtain ⟨u,_,rfl⟩:=List.mem_map.mp hx
    exact ⟨_,rfl,_,_,rfl,rfl,hR H' (Same.refl _)⟩
  rw [signs_all] at h7
  refine ⟨l,_,rfl,SqL.of h7,_,rfl,?_⟩
  cases hf:((cod y).map fun c=>decide (c∈cod FG)).all id with
  | false=>
    refine iteTc rfl ?_
    refine no (fun h=>?_) H7 s7
    rw [signs_yes h.2.1] at hf
    cases hf
  | true=>
    have hfg:∀ c∈cod y,c∈cod FG:=fun c hc=>by
      rw [List.all_map,List.all_eq_true] at hf
      exact of_decide_eq_true (hf c hc)
    obtain ⟨n,hn⟩:=num_some y0 hfg c9
    have yes:¬ (1 < y.length∧PySem.Txt.startswith y (PySem.Str.ofString "0") = true)→∀ H',Same H H'→Q (.int n) H':=fun h H' s'=>q (.int n) H' (by unfold numR; rw [if_pos ⟨c9,hfg,h⟩,hn]; rfl) s'
    refine iteFc rfl ?_
    refine ⟨_,rfl,y,rfl,small (by omega),_,_,rfl,rfl,_,rfl,ite2 (fun c=>?_) (fun c=>?_)⟩
    · have c':=of_decide_eq_true c
      refine ⟨_,rfl,rfl,_,_,rfl,rfl,_,rfl,ite2 (fun d=>?_) (fun d=>?_)⟩
      · exact no (fun h=>h.2.2 ⟨by omega,d⟩) H7 s7
      · exact ⟨_,rfl,y,n,rfl,hn,by omega,yes (fun h=>d h.2) H7 s7⟩
    · have c':=of_decide_eq_false (Bool.eq_false_iff.mpr c)
      exact ⟨_,rfl,y,n,rfl,hn,by omega,yes (fun h=>by have:=h.1; omega) H7 s7⟩
def sp_part_read (K:PySem.W.Frag) (XC:Nat→Addr):Sp:=fun vs H Q E=>∃ k y,vs = [.str y,.str k]∧y.length≤100000∧(∀ v H',partR k y = some v→Same H H'→Q v H')∧(partR k y = none→∀ H',Same H H'→E (.ref (XC 0)) none H')
theorem ok_part_read (T:Txt w K mg XC) (F:Fun K "part_read" "part_read" s_part_read f fd) (D_number_read:DefX P w K mg base 1 "number_read" ["word"] (sp_number_read K XC)):FnOk P w K mg base (CXd P w) 2 f fd ["word","kind"] (sp_part_read K XC):=by
  refine F.okX sc_part_read (fun vs H Q E h=>?_) (fun cdv A outer s H vs Q E hr h=>?_)
  · obtain ⟨k,y,rfl,_⟩:=h
    rfl
  obtain ⟨k,y,rfl,yl,q,qE⟩:=h
  refine ⟨_,(@pss_cons _ _ _ _ _ (@ps_if _ _ _ _ _ _ _ _ (@pt_cmpR _ _ _ _ _ _ _ _ op_eq (pv 1) (@pe_str _ _ _ _) (nomark _)) (@pss_one _ _ _ (@ps_ret _ _ _ _ (pv 0))) (@pss_nil _)) (@pss_cons _ _ _ _ _ (@ps_if _ _ _ _ _ _ _ _ (@pt_cmpR _ _ _ _ _ _ _ _ op_eq (pv 0) (@pe_str _ _ _ _) (nomark _)) (@pss_one _ _ _ (@ps_raise0 _ _ _ _ _ _ _ raise_up rfl T.x_NoRow T.q_NoRow rfl (by decide))) (@pss_nil _)) (@pss_cons _ _ _ _ _ (@ps_if _ _ _ _ _ _ _ _ (@pt_cmpR _ _ _ _ _ _ _ _ op_eq (pv 1) (@pe_str _ _ _ _) (nomark _)) (@pss_one _ _ _ (@ps_ret _ _ _ _ (@pe_fnX _ _ _ _ _ _ _ _ _ _ _ D_number_read (hr.mono (by decide)) rfl pass_up (@pa_cons _ _ _ _ _ (pv 0) (@pa_nil _) (by rfl)) (by decide) (by rfl) (by rfl)))) (@pss_nil _)) (@pss_cons _ _ _ _ _ (@ps_if _ _ _ _ _ _ _ _ (@PW.pt _ _ _ (@pw_and _ _ _ _ _ _ _ (@pt_cmpR _ _ _ _ _ _ _ _ op_eq (pv 1) (@pe_str _ _ _ _) (nomark _)) (@pw_and1 _ _ _ _ (@pt_cmpR _ _ _ _ _ _ _ _ op_eq (pv 0) (@pe_globS _ _ _ _ rfl T.c_ROOT_WORD (by decide)) (nomark _))))) (@pss_one _ _ _ (@ps_ret _ _ _ _ (@pe_str _ _ _ _))) (@pss_nil _)) (@pss_one _ _ _ (@ps_ret _ _ _ _ (pv 0))))))),?_⟩
  try dsimp only [cxOf]
  refine ⟨_,rfl,rfl,_,rfl,ite2 (fun c=>?_) (fun c=>?_)⟩
  · have e:k = KX:=V.str.inj (dec_true c)
    exact ⟨_,rfl,q _ H (by unfold partR; rw [if_pos e]) (Same.refl _)⟩
  have k1:k≠KX:=fun e=>dec_false c (by rw [e])
  refine ⟨_,rfl,rfl,_,rfl,ite2 (fun c=>?_) (fun c=>?_)⟩
  · have e:y = EM:=V.str.inj (dec_true c)
    exact qE (by unfold partR; rw [if_neg k1,if_pos e]) H (Same.refl _)
  have y1:y≠EM:=fun e=>dec_false c (by rw [e])
  refine ⟨_,rfl,rfl,_,rfl,ite2 (fun c=>?_) (fun c=>?_)⟩
  · have e:k = KN:=V.str.inj (dec_true c)
    have ep:partR k y = numR y:=by unfold partR; rw [if_neg k1,if_neg y1,if_pos e]
    exact ⟨_,rfl,y,rfl,y1,yl,fun v H' h s'=>q v H' (ep.trans h) s',fun h H' s'=>qE (ep.trans h) H' s'⟩
  have k2:k≠KN:=fun e=>dec_false c (by rw [e])
  refine ⟨_,rfl,rfl,_,rfl,ite2 (fun c=>?_) (fun c=>?_)⟩
  · have e:k = KP:=V.str.inj (dec_true c)
    refine ⟨_,rfl,rfl,_,rfl,ite2 (fun d=>?_) (fun d=>?_)⟩
    · have e2:y = DOT:=V.str.inj (dec_true d)
      exact q _ H (by unfold partR; rw [if_neg k1,if_neg y1,if_neg k2,if_pos ⟨e,e2⟩]) (Same.refl _)
    · have e2:y≠DOT:=fun e=>dec_false d (by rw [e])
      exact ⟨_,rfl,q _ H (by unfold partR; rw [if_neg k1,if_neg y1,if_neg k2,if_neg fun z=>e2 z.2]) (Same.refl _)⟩
  · have k3:k≠KP:=fun e=>dec_false c (by rw [e])
    exact ⟨_,rfl,q _ H (by unfold partR; rw [if_neg k1,if_neg y1,if_neg k2,if_neg fun z=>k3 z.1]) (Same.refl _)⟩
def wdsR (z:Str) (ks:List Str):List Str:=if KX∈ks then PySem.Txt.splitMax z BL ks.length else PySem.Txt.split z BL
theorem wds_le (z:Str) (ks:List Str):∀ y∈wdsR z ks,y.length≤z.length:=by
  intro y hy
  unfold wdsR at hy
  split at hy
  · exact PyProof.Rows.partMax_short hy
  · exact PyProof.Rows.part_short hy
def sp_words_in (K:PySem.W.Frag):Sp:=fun vs H Q _=>∃ a z ks,vs = [.str z,.ref a]∧TupK K a ks∧ks.length≤5∧z.length≤100000∧∀ l H',Same H H'→H l = none→H' l = some (.lst ((wdsR z ks).map V.str))→Q (.ref l) H'
theorem ok_words_in (T:Txt w K mg XC) (F:Fun K "words_in" "words_in" s_words_in f fd):FnOk P w K mg base CX0 1 f fd ["text","kinds"] (sp_words_in K):=by
  refine F.ok sc_words_in (fun vs H Q E h=>?_) (fun cdv A outer s H vs Q E hr h=>?_)
  · obtain ⟨a,z,ks,rfl,_⟩:=h
    rfl
  obtain ⟨a,z,ks,rfl,ha,kl,zl,q⟩:=h
  refine ⟨_,(@pss_cons _ _ _ _ _ (@ps_if _ _ _ _ _ _ _ _ (@pt_cmpR _ _ _ _ _ _ _ _ op_in_seq (@pe_str _ _ _ _) (pv 1) rfl) (@pss_one _ _ _ (@ps_ret _ _ _ _ (@pe_bm _ _ _ _ _ _ _ _ _ _ _ _ PySem.F.plainAttrs_str PySem.F.slot_str_split PySem.F.type_str_split mt_split2 (pv 0) (@pa_cons _ _ _ _ _ (@pe_str _ _ _ _) (@pa_cons _ _ _ _ _ (@pe_callB _ _ _ _ _ _ _ _ _ call_len_seq (by rfl) T.b_len bt_len (@pa_cons _ _ _ _ _ (pv 1) (@pa_nil _) (by rfl)) (by decide) (by decide) (by rfl) (by rfl)) (@pa_nil _) (by rfl)) (by rfl)) (by rfl) (by rfl) (by rfl) (by rfl) (by rfl)))) (@pss_nil _)) (@pss_one _ _ _ (@ps_ret _ _ _ _ (@pe_bm _ _ _ _ _ _ _ _ _ _ _ _ PySem.F.plainAttrs_str PySem.F.slot_str_split PySem.F.type_str_split mt_split (pv 0) (@pa_cons _ _ _ _ _ (@pe_str _ _ _ _) (@pa_nil _) (by rfl)) (by rfl) (by rfl) (by rfl) (by rfl) (by rfl))))),?_⟩
  try dsimp only [cxOf,Cx.nox,Cx.wish]
  refine ⟨_,rfl,a,_,rfl,.inr (ha.sq H),rfl,flat_strs ks,_,rfl,?_⟩
  rw [inV_str]
  refine ite2 (fun c=>?_) (fun c=>?_)
  · refine ⟨_,rfl,rfl,_,rfl,a,_,rfl,.inr (ha.sq H),_,BL,_,rfl,rfl,by decide +kernel,by omega,by rw [List.length_map]; omega,by rw [List.length_map]; omega,fun p hp=>?_⟩
    refine q p _ (same_new hp _) hp ?_
    unfold wdsR
    rw [upd_same,if_pos (of_decide_eq_true c),List.length_map]
  · refine ⟨_,rfl,rfl,_,BL,rfl,rfl,by decide +kernel,by omega,fun p hp=>?_⟩
    refine q p _ (same_new hp _) hp ?_
    unfold wdsR
    rw [upd_same,if_neg (of_decide_eq_false (Bool.eq_false_iff.mpr c))]
def partsR:List Str→List Str→Option (List V)
  | k :: ks,y :: ys=>match partR k y,partsR ks ys with
    | some v,some vs=>some (v :: vs)
    | _,_=>none
  | [],[]=>some []
  | _,_=>none
theorem partsR_none {ks ys:List Str} (hl:ks.length = ys.length):∀ {i:Nat} {k y:Str},ks[i]? = some k→ys[i]? = some y→partR k y = none→partsR ks ys = none:=by
  induction ks generalizing ys with
  | nil=>intro i k y h; simp at h
  | cons k0 ks ih=>
    cases ys with
    | nil=>cases hl
    | cons y0 ys=>
      intro i k y h1 h2 h3
      show (match partR k0 y0,partsR ks ys with | some v,some vs=>some (v :: vs) | _,_=>none) = none
      cases i with
      | zero=>simp at h1 h2; subst h1 h2; rw [h3]
      | succ i=>rw [ih (by simpa using hl) (by simpa using h1) (by simpa using h2) h3]; cases partR k0 y0 <;> rfl
theorem partsR_some {ks ys:List Str} (hl:ks.length = ys.length) (h:∀ (i:Nat) k y,ks[i]? = some k→ys[i]? = some y→partR k y≠none):partsR ks ys = some ((List.range ys.length).map fun i=>(partR (ks.getD i EM) (ys.getD i EM)).getD .non):=by
  induction ks generalizing ys with
  | nil=>
    cases ys with
    | nil=>rfl
    | cons _ _=>cases hl
  | cons k0 ks ih=>
    cases ys with
    | nil=>cases hl
    | cons y0 ys=>
      have h0:=h 0 k0 y0 rfl rfl
      have ih':=ih (ys:=ys) (by simpa using hl) fun i k y h1 h2=>h (i + 1) k y (by simpa using h1) (by simpa using h2)
      show (match partR k0 y0,partsR ks ys with | some v,some vs=>some (v :: vs) | _,_=>none) = _
      rw [ih']
      cases e:partR k0 y0 with
      | none=>exact absurd e h0
      | some v=>
        rw [List.length_cons,List.range_succ_eq_map,List.map_cons,List.map_map]
        show some (v :: _) = some ((partR k0 y0).getD .non :: _)
        rw [e]
        rfl
def rowR (z:Str) (ks:List Str):Option (List V):=if (wdsR z ks).length = ks.length + 1 then (partsR ks ((wdsR z ks).drop 1)).map fun vs=>.str ((wdsR z ks).getD 0 EM) :: vs else none
def sp_parts_read (K:PySem.W.Frag) (XC:Nat→Addr):Sp:=fun vs H Q E=>∃ z kv,vs = [.str z,kv]∧z.length≤100000∧((kv = .non∧∀ H',Same H H'→E (.ref (XC 0)) none H')∨
  ∃ a ks,kv = .ref a∧TupK K a ks∧ks.length≤5∧(∀ xs,rowR z ks = some xs→∀ l H',Same H H'→H l = none→H' l = some (.tup xs)→Q (.ref l) H')∧(rowR z ks = none→∀ H',Same H H'→E (.ref (XC 0)) none H'))
theorem ok_parts_read (T:Txt w K mg XC) (F:Fun K "parts_read" "parts_read" s_parts_read f fd) (D_words_in:Def P w K mg base 1 "words_in" ["text","kinds"] (sp_words_in K)) (D_part_read:DefX P w K mg base 2 "part_read" ["word","kind"] (sp_part_read K XC)):FnOk P w K mg base (CXd P w) 3 f fd ["text","kinds"] (sp_parts_read K XC):=by
  refine F.okX sc_parts_read (fun vs H Q E h=>?_) (fun cdv A outer s H vs Q E hr h=>?_)
  · obtain ⟨z,kv,rfl,_⟩:=h
    rfl
  obtain ⟨z,kv,rfl,zl,h⟩:=h
  refine ⟨_,(@pss_cons _ _ _ _ _ (@ps_if _ _ _ _ _ _ _ _ (@pt_cmp _ _ _ _ _ _ (@pc_isN _ _ _ _ _ (pv 1)) (by first | exact nobehind _ (by decide) (by decide) | rfl)) (@pss_one _ _ _ (@ps_raise0 _ _ _ _ _ _ _ raise_up rfl T.x_NoRow T.q_NoRow rfl (by decide))) (@pss_nil _)) (@pss_cons _ _ _ _ _ (@ps_set _ _ (2) _ _ _ _ sc_parts_read.nd rfl (by first | exact Or.inl rfl | exact Or.inr rfl) (@pe_fn _ _ _ _ _ _ _ _ _ _ D_words_in (hr.mono (by decide)) rfl (@pa_cons _ _ _ _ _ (pv 0) (@pa_cons _ _ _ _ _ (pv 1) (@pa_nil _) (by rfl)) (by rfl)) (by decide) (by rfl) (by rfl)) (by rfl) (by first | exact .inl rfl | exact .inr rfl | assumption)) (@pss_cons _ _ _ _ _ (@ps_if _ _ _ _ _ _ _ _ (@pt_cmpR _ _ _ _ _ _ _ _ op_ne (@pe_callB _ _ _ _ _ _ _ _ _ call_len_seq (by rfl) T.b_len bt_len (@pa_cons _ _ _ _ _ (pv 2) (@pa_nil _) (by rfl)) (by decide) (by decide) (by rfl) (by rfl)) (@pe_op _ _ _ _ _ _ _ _ op_add (@pe_int _ _ _ _) (@pe_callB _ _ _ _ _ _ _ _ _ call_len_seq (by rfl) T.b_len bt_len (@pa_cons _ _ _ _ _ (pv 1) (@pa_nil _) (by rfl)) (by decide) (by decide) (by rfl) (by rfl))) (nomark _)) (@pss_one _ _ _ (@ps_raise0 _ _ _ _ _ _ _ raise_up rfl T.x_NoRow T.q_NoRow rfl (by decide))) (@pss_nil _)) (@pss_one _ _ _ (@ps_ret _ _ _ _ (@pe_callTy _ _ _ _ _ _ _ _ _ call_tuple_of (by rfl) T.b_tuple bt_tuple (@pa_cons _ _ _ _ _ (@pe_op _ _ _ _ _ _ _ _ op_catS (@pe_slice _ _ _ _ _ _ _ _ _ _ sl_list (pv 2) (@po_none _) (@po_some _ _ _ (@pe_int _ _ _ _))) (@pe_compX _ _ _ _ _ _ _ _ _ _ _ _ _ _ _ _ rfl ["word","kind"] [none,none] _ _ _ _ _ _ _ _ _ _ _ rfl (@pi_zipS _ _ _ _ _ _ _ _ _ _ _ _ true false rfl T.b_zip (@pa_cons _ _ _ _ _ (@pe_slice _ _ _ _ _ _ _ _ _ _ sl_list (pv 2) (@po_some _ _ _ (@pe_int _ _ _ _)) (@po_none _)) (@pa_cons _ _ _ _ _ (pv 1) (@pa_nil _) (by rfl)) (by rfl)) (by rfl) (by rfl)) (by rfl) rfl (by repeat (first | exact trivial | refine ⟨rfl,?_⟩)) (by repeat (first | exact trivial | refine ⟨fun h=>(by first | exact ⟨_,rfl⟩ | cases h),?_⟩)) (fun C s H fp=>⟨(@pg_tupK _ (K) _ _ _ _ (2) (by rfl) rfl (@pgs_cons _ _ _ _ _ (@pg_name _ _ (0) _ (show (["word","kind"]:List Str).Nodup by decide +kernel) rfl (by first | exact Or.inl rfl | exact Or.inr rfl) (by first | exact .inl rfl | exact .inr rfl | assumption)) (@pgs_cons _ _ _ _ _ (@pg_name _ _ (1) _ (show (["word","kind"]:List Str).Nodup by decide +kernel) rfl (by first | exact Or.inl rfl | exact Or.inr rfl) (by first | exact .inl rfl | exact .inr rfl | assumption)) (@pgs_nil _) (by rfl)) (by rfl)) (by rfl) (by rfl)),(@pifs_nil _),(@pe_fnX _ _ _ _ _ _ _ _ _ _ _ D_part_read (hr.mono (by decide)) rfl pass_blk (@pa_cons _ _ _ _ _ (pv 0) (@pa_cons _ _ _ _ _ (pv 1) (@pa_nil _) (by rfl)) (by rfl)) (by decide) (by rfl) (by rfl))⟩) (by intro _; rfl))) (@pa_nil _) (by rfl)) (by decide) (by decide) (by rfl) (by rfl))))))),?_⟩
  try dsimp only [cxOf]
  rcases h with ⟨rfl,qE⟩ | ⟨a,ks,rfl,ha,kl,q,qE⟩
  · exact ⟨_,rfl,_,rfl,iteTc rfl (qE H (Same.refl _))⟩
  refine ⟨_,rfl,_,rfl,iteFc (decide_eq_false fun e=>by cases e) ?_⟩
  refine ⟨_,rfl,_,rfl,a,z,ks,rfl,ha,kl,zl,fun l1 H1 s1 n1 h1=>?_⟩
  have wle:=wds_le z ks
  unfold rowR at q qE
  generalize wdsR z ks = ws at h1 wle q qE
  refine ⟨_,rfl,l1,_,rfl,.inl (SqL.of h1),_,rfl,a,_,rfl,.inr (ha.sq H1),_,_,rfl,rfl,rfl,_,rfl,?_⟩
  by_cases el:ws.length = ks.length + 1
  case neg=>
    refine iteTc ?_ (qE (if_neg el) H1 s1)
    rw [Bool.not_eq_true',decide_eq_false_iff_not]
    intro e
    have:=V.int.inj e
    rw [List.length_map,List.length_map] at this
    omega
  rw [if_pos el] at q qE
  refine iteFc ?_ ?_
  · have e:((ws.map V.str).length:Int) = 1 + ((ks.map V.str).length:Int):=by
      rw [List.length_map,el,List.length_map]
      omega
    rw [e]
    simp
  obtain ⟨w0,ys,rfl⟩:∃ w0 ys,ws = w0 :: ys:=by
    cases ws with
    | nil=>cases el
    | cons w0 ys=>exact ⟨w0,ys,rfl⟩
  have ly:ks.length = ys.length:=by rw [List.length_cons] at el; omega
  have q':∀ vs,partsR ks ys = some vs→∀ l H',Same H H'→H l = none→H' l = some (.tup (.str w0 :: vs))→Q (.ref l) H':=fun vs h=>q (.str w0 :: vs) (by rw [show (w0 :: ys).drop 1 = ys from rfl,h]; rfl)
  have qE':partsR ks ys = none→∀ H',Same H H'→E (.ref (XC 0)) none H':=fun h=>qE (by rw [show (w0 :: ys).drop 1 = ys from rfl,h]; rfl)
  refine ⟨_,rfl,1,rfl,l1,_,rfl,SqL.of h1,fun p2 n2=>?_⟩
  rw [cut_hi (by decide)]
  have s2:=same_new n2 (.lst (((w0 :: ys).map V.str).take (1:Int).toNat))
  have h2:(upd H1 p2 (.lst (((w0 :: ys).map V.str).take (1:Int).toNat))) p2 = some (.lst [V.str w0]):=upd_same
  change tComp _ _ _ _ _ _ (upd H1 p2 (.lst (((w0 :: ys).map V.str).take (1:Int).toNat))) _
  generalize upd H1 p2 (.lst (((w0 :: ys).map V.str).take (1:Int).toNat)) = H2 at s2 h2
  have h12:=s2.get h1
  refine ⟨_,rfl,1,rfl,l1,_,rfl,SqL.of h12,fun p3 n3=>?_⟩
  rw [cut_lo (by decide)]
  have s3:=same_new n3 (.lst (((w0 :: ys).map V.str).drop (1:Int).toNat))
  have h3:(upd H2 p3 (.lst (((w0 :: ys).map V.str).drop (1:Int).toNat))) p3 = some (.lst (ys.map V.str)):=upd_same
  generalize upd H2 p3 (.lst (((w0 :: ys).map V.str).drop (1:Int).toNat)) = H3 at s3 h3
  have s13:=(s1.trans s2).trans s3
  refine ⟨_,rfl,p3,a,ys.map V.str,ks.map V.str,rfl,SqL.of h3,ha.sq H3,?_⟩
  refine comp_zipP (fun i=>(partR (ks.getD i EM) (ys.getD i EM)).getD .non) (fun i=>partR (ks.getD i EM) (ys.getD i EM)≠none) (k:=true) (j:=false) (SqL.of h3) (ha.sq H3) (by rw [List.length_map,List.length_map]; omega) (by rw [List.length_map]; omega) rfl (fun i x y H' R hx hy s' hR=>?_) (by decide) fun l H7 n7 s7 h7 hP=>?_
  · rw [List.getElem?_map] at hx hy
    obtain ⟨k,hk,rfl⟩:=Option.map_eq_some_iff.mp hy
    obtain ⟨y,hy,rfl⟩:=Option.map_eq_some_iff.mp hx
    have ek:ks.getD i EM = k:=by rw [List.getD_eq_getElem?_getD,hk]; rfl
    have ey:ys.getD i EM = y:=by rw [List.getD_eq_getElem?_getD,hy]; rfl
    refine ⟨_,rfl,_,rfl,k,y,rfl,Nat.le_trans (wle y (List.mem_cons_of_mem _ (List.mem_of_getElem? hy))) zl,fun v H'' hv s''=>?_,fun hn H'' s''=>qE' (partsR_none ly hk hy hn) H'' ((s13.trans s').trans s'')⟩
    have:=hR H'' s'' (by rw [ek,ey,hv]; exact fun z=>by cases z)
    rw [ek,ey,hv] at this
    exact this
  have ps:=partsR_some ly fun i k y hk hy=>by
    have:=hP i (by rw [List.length_map]; exact (List.getElem?_eq_some_iff.mp hy).1)
    rw [show ks.getD i EM = k by rw [List.getD_eq_getElem?_getD,hk]; rfl,show ys.getD i EM = y by rw [List.getD_eq_getElem?_getD,hy]; rfl] at this
    exact this
  rw [List.length_map] at h7
  have h72:=s7.get (s3.get h2)
  refine ⟨p2,l,_,_,rfl,rfl,SqL.of h72,SqL.of h7,small (by rw [List.length_map,List.length_range]; show 1 + _≤1000000; omega),fun p9 n9=>?_⟩
  refine ⟨p9,_,rfl,.inl ⟨SqL.of upd_same,fun l9 m9=>?_⟩⟩
  have st:=(s13.trans s7).trans (same_new n9 (.lst ([V.str w0] ++ (List.range ys.length).map fun i=>(partR (ks.getD i EM) (ys.getD i EM)).getD .non)))
  exact q' _ ps l9 _ (st.trans (same_new m9 _)) (st.free m9) upd_same
theorem split_ok (z:Str):∃ ws t,PySem.Txt.split z BL = ws ++ [t]∧cod z = jcl 32 ws t∧∀ y∈ws ++ [t],32 ∉ cod y:=by
  have h1:=PyProof.Rows.split_pos z BL
  have hf:∀ p∈PySem.Txt.split z BL,32 ∉ cod p:=fun p hp=>by
    rw [bl_one] at hp
    exact StrLaws.split_free z 32 p hp
  have hj:cod (PySem.Txt.join BL (PySem.Txt.split z BL)) = cod z:=by
    show cod (PySem.Builtin.Str.glued BL _) = _
    rw [StrLaws.glued_eq_join,StrLaws.join_split]
  cases hs:PySem.Txt.split z BL with
  | nil=>rw [hs] at h1; cases h1
  | cons w A=>
    obtain ⟨ws,t,e1,e2⟩:=cod_joinB w A
    rw [hs] at hj hf
    refine ⟨ws,t,e1,by rw [← hj,e2],fun y hy=>hf y (by rw [e1]; exact hy)⟩
def headR (z:Str):Str:=(PySem.Txt.split z BL).getD 0 EM
theorem part_headR (z:Str):∃ a b,partT z BL = [headR z,a,b]:=by
  obtain ⟨ws,t,e1,e2,e3⟩:=split_ok z
  unfold headR
  rw [e1,bl_one]
  cases ws with
  | nil=>
    have ez:z = t:=str_ext e2
    subst ez
    exact part_whole (e3 z (by simp))
  | cons w ws=>exact part_head (r:=jcl 32 ws t) e2 (e3 w (by simp))
def readR (z:Str):Option (List V):=match tabLook TB_DEED_PARTS (headR z) with
  | none=>none
  | some ks=>rowR z ks
def sp_word_of (K:PySem.W.Frag) (XC:Nat→Addr):Sp:=fun vs H Q E=>(∃ z,vs = [.str z]∧sgn z∧z.length≤100000∧∀ H',Same H H'→Q (.str (headR z)) H')∨∃ v,vs = [v]∧Ok H v∧tyN H v≠"str"∧∀ H',Same H H'→E (.ref (XC 0)) none H'
theorem ok_word_of (T:Txt w K mg XC) (F:Fun K "word_of" "word_of" s_word_of f fd):FnOk P w K mg base (CXd P w) 1 f fd ["text"] (sp_word_of K XC):=by
  refine F.okX sc_word_of (fun vs H Q E h=>?_) (fun cdv A outer s H vs Q E hr h=>?_)
  · rcases h with ⟨z,rfl,_⟩ | ⟨v,rfl,_⟩
    · rfl
    · rfl
  have ok0:Ok H (.str EM):=(by show EM.length≤_; decide +kernel)
  rcases h with ⟨z,rfl,rs,rl,q⟩ | ⟨v,rfl,ok,nt,qE⟩
  · refine ⟨_,(@pss_cons _ _ _ _ _ (@ps_if _ _ _ _ _ _ _ _ (@PW.pt _ _ _ (@pw_or _ _ _ _ _ _ _ (@pt_not _ _ _ _ (@pt_val _ _ _ (@pe_callB _ _ _ _ _ _ _ _ _ call_isinst (by rfl) T.b_isinstance bt_isinstance (@pa_cons _ _ _ _ _ (pv 0) (@pa_cons _ _ _ _ _ (@pe_ty _ _ _ _ rfl T.b_str bt_str (by decide) (by decide)) (@pa_nil _) (by rfl)) (by rfl)) (by decide) (by decide) (by rfl) (by rfl)) (by intro _; rfl))) (@pw_or1 _ _ _ _ (@pt_not _ _ _ _ (@pt_val _ _ _ (@pe_callB _ _ _ _ _ _ _ _ _ (call_all rfl) (by rfl) T.b_all bt_all (@pa_cons _ _ _ _ _ (@pe_comp0 _ ["sign"] _ _ _ _ _ _ _ _ _ _ rfl (@pi_str _ _ _ _ (pv 0)) (by decide +kernel) (fun C s H fp=>⟨(@pg_name _ _ (0) _ (show (["sign"]:List Str).Nodup by decide +kernel) rfl (by first | exact Or.inl rfl | exact Or.inr rfl) (by first | exact .inl rfl | exact .inr rfl | assumption)),(@pifs_nil _),(@pe_cmpR _ _ _ _ _ _ _ _ op_in_str (pv 0) (@pe_globS _ _ _ _ rfl T.c_SIGNS (by decide)) rfl)⟩) (by intro _; rfl)) (@pa_nil _) (by rfl)) (by decide) (by decide) (by rfl) (by rfl)) (by intro _; rfl)))))) (@pss_one _ _ _ (@ps_raise0 _ _ _ _ _ _ _ raise_up rfl T.x_NoRow T.q_NoRow rfl (by decide))) (@pss_nil _)) (@pss_one _ _ _ (@ps_ret _ _ _ _ (@pe_ix _ _ _ _ _ _ _ ix_tup (@pe_bm _ _ _ _ _ _ _ _ _ _ _ _ PySem.F.plainAttrs_str PySem.F.slot_str_partition PySem.F.type_str_partition mt_partition (pv 0) (@pa_cons _ _ _ _ _ (@pe_str _ _ _ _) (@pa_nil _) (by rfl)) (by rfl) (by rfl) (by rfl) (by rfl) (by rfl)) (@pe_int _ _ _ _) (fun _ _=>rfl))))),?_⟩
    try dsimp only [cxOf]
    have zl:=cod_len z
    refine ⟨_,rfl,_,_,_,_,rfl,(show TyOf K H (.str z) (.type "str") from .str z),ok0.kit K,_,rfl,iteFc rfl ?_⟩
    refine ⟨_,rfl,z,rfl,?_⟩
    refine comp_map (fun v=>match v with | .str y=>.bl (!(Builtin.Str.occurrences SG y 0 SG.length 1).isEmpty) | _=>.non) itIs_str (by rw [List.length_map]; exact Nat.le_trans (Nat.le_of_eq zl) (by omega)) (fun x H' R hx s' hR=>?_) fun l H7 n7 s7 h7=>?_
    · obtain ⟨u,_,rfl⟩:=List.mem_map.mp hx
      exact ⟨_,rfl,_,_,rfl,rfl,hR H' (Same.refl _)⟩
    rw [signs_all] at h7
    refine ⟨l,_,rfl,SqL.of h7,_,rfl,?_⟩
    rw [signs_yes rs]
    refine iteFc rfl ?_
    refine ⟨_,rfl,rfl,z,BL,rfl,rfl,by decide +kernel,by omega,fun p hp=>?_⟩
    obtain ⟨pa,pb,ep⟩:=part_headR z
    rw [ep]
    exact ⟨p,_,_,_,rfl,rfl,SqT.of upd_same,atI_nat (j:=0) rfl,q _ (s7.trans (same_new hp _))⟩
  · refine ⟨_,(@pss_cons _ _ _ _ _ (@ps_if _ _ _ _ _ _ _ _ (@PW.pt _ _ _ (@pw_or _ _ _ _ _ _ _ (@pt_not _ _ _ _ (@pt_val _ _ _ (@pe_callB _ _ _ _ _ _ _ _ _ call_isinst (by rfl) T.b_isinstance bt_isinstance (@pa_cons _ _ _ _ _ (pv 0) (@pa_cons _ _ _ _ _ (@pe_ty _ _ _ _ rfl T.b_str bt_str (by decide) (by decide)) (@pa_nil _) (by rfl)) (by rfl)) (by decide) (by decide) (by rfl) (by rfl)) (by intro _; rfl))) (@pw_or1 _ _ _ _ (@pt_not _ _ _ _ (@pt_val _ _ _ (@pe_callB _ _ _ _ _ _ _ _ _ (call_all rfl) (by rfl) T.b_all bt_all (@pa_cons _ _ _ _ _ (@pe_comp0 _ ["sign"] _ _ _ _ _ _ _ _ _ _ rfl (@pi_str _ _ _ _ (pv 0)) (by decide +kernel) (fun C s H fp=>⟨(@pg_name _ _ (0) _ (show (["sign"]:List Str).Nodup by decide +kernel) rfl (by first | exact Or.inl rfl | exact Or.inr rfl) (by first | exact .inl rfl | exact .inr rfl | assumption)),(@pifs_nil _),(@pe_cmpR _ _ _ _ _ _ _ _ op_in_str (pv 0) (@pe_globS _ _ _ _ rfl T.c_SIGNS (by decide)) rfl)⟩) (by intro _; rfl)) (@pa_nil _) (by rfl)) (by decide) (by decide) (by rfl) (by rfl)) (by intro _; rfl)))))) (@pss_one _ _ _ (@ps_raise0 _ _ _ _ _ _ _ raise_up rfl T.x_NoRow T.q_NoRow rfl (by decide))) (@pss_nil _)) (@pss_one _ _ _ (@ps_ret _ _ _ _ (@pe_ix _ _ _ _ _ _ _ ix_tup (@pe_bm _ _ _ _ _ _ _ _ _ _ _ _ PySem.F.plainAttrs_str PySem.F.slot_str_partition PySem.F.type_str_partition mt_partition (pv 0) (@pa_cons _ _ _ _ _ (@pe_str _ _ _ _) (@pa_nil _) (by rfl)) (by rfl) (by rfl) (by rfl) (by rfl) (by rfl)) (@pe_int _ _ _ _) (fun _ _=>rfl))))),?_⟩
    try dsimp only [cxOf]
    refine ⟨_,rfl,_,_,_,_,rfl,ok.ty K,ok.kit K,_,rfl,iteTc ?_ (qE H (Same.refl _))⟩
    have tm:=ok.tyMem
    generalize tyN H v = t at nt tm
    have:∀ t∈["NoneType","bool","int","str","list","tuple"],t≠"str"→(!isA t "str") = true:=by decide +kernel
    exact this t tm nt
theorem tab_len:∀ p∈TB_DEED_PARTS,p.2.length≤5:=by decide +kernel
def sp_read_row (K:PySem.W.Frag) (XC:Nat→Addr):Sp:=fun vs H Q E=>(∃ z,vs = [.str z]∧sgn z∧z.length≤100000∧(∀ xs,readR z = some xs→∀ l H',Same H H'→H l = none→H' l = some (.tup xs)→Q (.ref l) H')∧(readR z = none→∀ H',Same H H'→E (.ref (XC 0)) none H'))∨
  ∃ v,vs = [v]∧Ok H v∧tyN H v≠"str"∧∀ H',Same H H'→E (.ref (XC 0)) none H'
theorem ok_read_row (T:Txt w K mg XC) (F:Fun K "read_row" "read_row" s_read_row f fd) (D_parts_read:DefX P w K mg base 3 "parts_read" ["text","kinds"] (sp_parts_read K XC)) (D_word_of:DefX P w K mg base 1 "word_of" ["text"] (sp_word_of K XC)):FnOk P w K mg base (CXd P w) 4 f fd ["text"] (sp_read_row K XC):=by
  refine F.okX sc_read_row (fun vs H Q E h=>?_) (fun cdv A outer s H vs Q E hr h=>?_)
  · rcases h with ⟨z,rfl,_⟩ | ⟨v,rfl,_⟩
    · rfl
    · rfl
  have hu:=hu_of hr
  obtain ⟨dp,tm_DEED_PARTS,tt_DEED_PARTS⟩:=T.t_DEED_PARTS
  rcases h with ⟨z,rfl,rs,rl,q,qE⟩ | ⟨v,rfl,ok,nt,qE⟩
  · refine ⟨_,(@pss_one _ _ _ (@ps_ret _ _ _ _ (@pe_fnX _ _ _ _ _ _ _ _ _ _ _ D_parts_read (hr.mono (by decide)) rfl pass_up (@pa_cons _ _ _ _ _ (pv 0) (@pa_cons _ _ _ _ _ (@pe_tabG _ _ _ _ _ _ (K) _ _ (by rfl) tt_DEED_PARTS (@pe_glob _ _ _ _ _ rfl tm_DEED_PARTS rfl (by decide)) (@pe_fnX _ _ _ _ _ _ _ _ _ _ _ D_word_of (hr.mono (by decide)) rfl pass_up (@pa_cons _ _ _ _ _ (pv 0) (@pa_nil _) (by rfl)) (by decide) (by rfl) (by rfl)) ⟨rfl,rfl,rfl,rfl⟩) (@pa_nil _) (by rfl)) (by rfl)) (by decide) (by rfl) (by rfl)))),?_⟩
    try dsimp only [cxOf]
    refine ⟨_,rfl,_,rfl,.inl ⟨z,rfl,rs,rl,fun H1 s1=>⟨headR z,rfl,fun h=>?_,fun ks hk a ha=>?_⟩⟩⟩
    · exact ⟨z,_,rfl,rl,.inl ⟨rfl,fun H' s'=>qE (by unfold readR; rw [h]) H' (s1.trans s')⟩⟩
    · have er:readR z = rowR z ks:=by unfold readR; rw [hk]
      exact ⟨z,_,rfl,rl,.inr ⟨a,ks,rfl,ha,tab_len _ (tab_mem hk),fun xs hx l H' s' n' h'=>q xs (er.trans hx) l H' (s1.trans s') (s1.free n') h',fun hn H' s'=>qE (er.trans hn) H' (s1.trans s')⟩⟩
  · refine ⟨_,(@pss_one _ _ _ (@ps_ret _ _ _ _ (@pe_fnX _ _ _ _ _ _ _ _ _ _ _ D_parts_read (hr.mono (by decide)) rfl pass_up (@pa_cons _ _ _ _ _ (pv 0) (@pa_cons _ _ _ _ _ (@pe_tabG _ _ _ _ _ _ (K) _ _ (by rfl) tt_DEED_PARTS (@pe_glob _ _ _ _ _ rfl tm_DEED_PARTS rfl (by decide)) (@pe_fnX _ _ _ _ _ _ _ _ _ _ _ D_word_of (hr.mono (by decide)) rfl pass_up (@pa_cons _ _ _ _ _ (pv 0) (@pa_nil _) (by rfl)) (by decide) (by rfl) (by rfl)) ⟨rfl,rfl,rfl,rfl⟩) (@pa_nil _) (by rfl)) (by rfl)) (by decide) (by rfl) (by rfl)))),?_⟩
    try dsimp only [cxOf]
    exact ⟨_,rfl,_,rfl,.inr ⟨v,rfl,ok,nt,qE⟩⟩
end
section
variable {P:Program} {w:World} {K:PySem.W.Frag} {mg:Str→Option Value} {base:Heap} {f:Addr} {XC:Nat→Addr} {fd:FuncData}
def sp__law_row (K:PySem.W.Frag):Sp:=fun vs H Q _=>∃ (c m:Int),vs = [.int c,.int m]∧0≤m∧m≤1000∧
  ∀ (r:Addr) (H':Hp) (ns:List Int),Same H H'→H r = none→H' r = some (.lst (ns.map V.int))→ns.length = m.toNat→(∀ x∈ns,0≤x∧x < 60)→Q (.ref r) H'
theorem ok__law_row (T:Txt w K mg XC) (F:Fun K "_law_row" "_law_row" s__law_row f fd):FnOk P w K mg base CX0 1 f fd ["_law_cell","_law_many"] (sp__law_row K):=by
  refine F.ok sc__law_row (fun vs H Q E h=>?_) (fun cdv A outer s H vs Q E hr h=>?_)
  · obtain ⟨c,m,rfl,_⟩:=h
    rfl
  obtain ⟨c,m,rfl,hm0,hm1,q⟩:=h
  refine ⟨_,(@pss_cons _ _ _ _ _ (@ps_set _ _ (2) _ _ _ _ sc__law_row.nd rfl (by first | exact Or.inl rfl | exact Or.inr rfl) (@pe_lst _ _ _ _ (@pa_nil _)) (by rfl) (by first | exact .inl rfl | exact .inr rfl | assumption)) (@pss_cons _ _ _ _ _ (@ps_for _ _ _ _ _ _ _ _ PassesOwn.never rfl (@pi_range1 _ _ _ _ _ _ rfl T.b_range (@pa_cons _ _ _ _ _ (pv 1) (@pa_nil _) (by rfl)) (by rfl)) (@pg_name _ _ (3) _ sc__law_row.nd rfl (by first | exact Or.inl rfl | exact Or.inr rfl) (by first | exact .inl rfl | exact .inr rfl | assumption)) (@pss_one _ _ _ (@ps_if _ _ _ _ _ _ _ _ (@pt_chain _ _ _ _ _ _ _ _ _ _ _ _ op_le op_lt (@pe_int _ _ _ _) (pv 0) (@pe_op _ _ _ _ _ _ _ _ op_pow (@pe_int _ _ _ _) (@pe_int _ _ _ _)) (by with_unfolding_all rfl)) (@pss_cons _ _ _ _ _ (@ps_set _ _ (4) _ _ _ _ sc__law_row.nd rfl (by first | exact Or.inl rfl | exact Or.inr rfl) (@pe_op _ _ _ _ _ _ _ _ op_mod (@pe_op _ _ _ _ _ _ _ _ op_add (@pe_op _ _ _ _ _ _ _ _ op_add (@pe_op _ _ _ _ _ _ _ _ op_mul (@pe_op _ _ _ _ _ _ _ _ op_mod (pv 0) (@pe_int _ _ _ _)) (@pe_int _ _ _ _)) (@pe_op _ _ _ _ _ _ _ _ op_mul (@pe_op _ _ _ _ _ _ _ _ op_mul (pv 3) (pv 3)) (@pe_int _ _ _ _))) (@pe_int _ _ _ _)) (@pe_int _ _ _ _)) (by rfl) (by first | exact .inl rfl | exact .inr rfl | assumption)) (@pss_one _ _ _ (@ps_expr _ _ _ _ (@pe_bm _ _ _ _ _ _ _ _ _ _ _ _ PySem.F.plainAttrs_list PySem.F.slot_list_append PySem.F.type_list_append mt_append (pv 2) (@pa_cons _ _ _ _ _ (@pe_op _ _ _ _ _ _ _ _ op_mod (@pe_op _ _ _ _ _ _ _ _ op_fdiv (@pe_op _ _ _ _ _ _ _ _ op_mod (@pe_op _ _ _ _ _ _ _ _ op_mul (pv 4) (@pe_op _ _ _ _ _ _ _ _ op_add (@pe_op _ _ _ _ _ _ _ _ op_mod (pv 4) (@pe_int _ _ _ _)) (@pe_int _ _ _ _))) (@pe_int _ _ _ _)) (@pe_int _ _ _ _)) (@pe_int _ _ _ _)) (@pa_nil _) (by rfl)) (by rfl) (by rfl) (by rfl) (by rfl) (by rfl)) (by rfl)))) (@pss_cons _ _ _ _ _ (@ps_expr _ _ _ _ (@pe_bm _ _ _ _ _ _ _ _ _ _ _ _ PySem.F.plainAttrs_list PySem.F.slot_list_append PySem.F.type_list_append mt_append (pv 2) (@pa_cons _ _ _ _ _ (@pe_op _ _ _ _ _ _ _ _ op_mod (pv 0) (@pe_int _ _ _ _)) (@pa_nil _) (by rfl)) (by rfl) (by rfl) (by rfl) (by rfl) (by rfl)) (by rfl)) (@pss_one _ _ _ (@ps_set _ _ (0) _ _ _ _ sc__law_row.nd rfl (by first | exact Or.inl rfl | exact Or.inr rfl) (@pe_op _ _ _ _ _ _ _ _ op_fdiv (pv 0) (@pe_int _ _ _ _)) (by rfl) (by first | exact .inl rfl | exact .inr rfl | assumption)))))) (by intro _; rfl)) (@pss_one _ _ _ (@ps_ret _ _ _ _ (pv 2))))),?_⟩
  try dsimp only [cxOf,Cx.nox,Cx.wish]
  refine ⟨small (by show 0≤1000000; decide),fun g hg=>?_⟩
  refine ⟨_,rfl,m,rfl,by omega,by omega,for_range (lo:=0) (n:=m.toNat) (fun i σ H2=>∃ (ns:List Int) (z:Int) (v u:Option V),σ = [some (.int z),some (.int m),some (.ref g),v,u]∧Same H H2∧H2 g = some (.lst (ns.map V.int))∧ns.length = i∧∀ x∈ns,0≤x∧x < 60)
    ⟨[],c,none,none,rfl,same_new hg _,upd_same,rfl,fun _ h=>nomatch h⟩ ?_ ?_⟩
  · rintro i σ H2 hi ⟨ns,z,v,u,rfl,s2,hg2,hl,hb⟩
    have app:∀ x:Int,0≤x→x < 60→∀ (z:Int) (v u:Option V),∃ (ns':List Int) (z':Int) (v' u':Option V),[some (.int z),some (.int m),some (.ref g),v,u] = [some (.int z'),some (.int m),some (.ref g),v',u']∧Same H (upd H2 g (.lst (ns.map V.int ++ [.int x])))∧(upd H2 g (.lst (ns.map V.int ++ [.int x]))) g = some (.lst (ns'.map V.int))∧ns'.length = i + 1∧∀ x∈ns',0≤x∧x < 60:=fun x h0 h1 z v u=>
      ⟨ns ++ [x],z,v,u,rfl,same_upd s2 hg _,by rw [upd_same,List.map_append]; rfl,by rw [List.length_append,hl]; rfl,fun y hy=>by
        rcases List.mem_append.mp hy with hy | hy
        · exact hb y hy
        · rw [List.mem_singleton.mp hy]
          exact ⟨h0,h1⟩⟩
    have few:(ns.map V.int).length < sizeLine:=smallLt (by rw [List.length_map]; omega)
    refine ⟨_,rfl,_,_,rfl,rfl,_,rfl,ite2 (fun c1=>?_) (fun c1=>?_)⟩
    · refine ⟨_,_,rfl,rfl,⟨by decide,by decide,by decide⟩,_,_,rfl,rfl,_,rfl,ite2 (fun c2=>?_) (fun c2=>?_)⟩
      · refine ⟨_,rfl,_,_,rfl,rfl,(by show (0:Int) < 2147483629; decide),_,_,rfl,rfl,.inr ⟨by decide,by decide⟩,_,rfl,_,rfl,_,_,rfl,rfl,.inl ⟨by omega,by omega⟩,_,_,rfl,rfl,.inr ⟨by decide,by decide⟩,_,_,rfl,rfl,_,_,rfl,rfl,_,_,rfl,rfl,(by show (0:Int) < 2147483647; decide),?_⟩
        have b0:=Int.emod_nonneg (z % 2147483629 * 48271 + (0 + (i:Int)) * (0 + (i:Int)) * 69621 + 7) (show (2147483647:Int)≠0 by decide)
        have b1:=Int.emod_lt_of_pos (z % 2147483629 * 48271 + (0 + (i:Int)) * (0 + (i:Int)) * 69621 + 7) (show (0:Int) < 2147483647 by decide)
        dsimp only
        generalize (z % 2147483629 * 48271 + (0 + (i:Int)) * (0 + (i:Int)) * 69621 + 7) % 2147483647 = y at b0 b1
        refine ⟨_,rfl,.inl ⟨rfl,_,SqL.of hg2⟩,_,rfl,_,rfl,_,_,rfl,rfl,(by show (0:Int) < 65521; decide),_,_,rfl,rfl,_,_,rfl,rfl,.inl ⟨by omega,by omega⟩,_,_,rfl,rfl,(by show (0:Int) < 2147483629; decide),_,_,rfl,rfl,⟨by decide,by decide⟩,_,_,rfl,rfl,(by show (0:Int) < 60; decide),g,_,_,rfl,rfl,hg2,few,?_⟩
        exact app _ (Int.emod_nonneg _ (by decide)) (Int.emod_lt_of_pos _ (by decide)) _ _ _
      · refine ⟨_,rfl,.inl ⟨rfl,_,SqL.of hg2⟩,_,rfl,_,_,rfl,rfl,(by show (0:Int) < 60; decide),g,_,_,rfl,rfl,hg2,few,?_⟩
        refine ⟨_,rfl,_,_,rfl,rfl,⟨by decide,by decide⟩,?_⟩
        exact app _ (Int.emod_nonneg _ (by decide)) (Int.emod_lt_of_pos _ (by decide)) _ _ _
    · refine ⟨_,rfl,iteFc rfl ?_⟩
      refine ⟨_,rfl,.inl ⟨rfl,_,SqL.of hg2⟩,_,rfl,_,_,rfl,rfl,(by show (0:Int) < 60; decide),g,_,_,rfl,rfl,hg2,few,?_⟩
      refine ⟨_,rfl,_,_,rfl,rfl,⟨by decide,by decide⟩,?_⟩
      exact app _ (Int.emod_nonneg _ (by decide)) (Int.emod_lt_of_pos _ (by decide)) _ _ _
  · rintro σ H2 ⟨ns,z,v,u,rfl,s2,hg2,hl,hb⟩
    exact ⟨_,rfl,q g _ ns s2 hg hg2 hl hb⟩
abbrev LN:Str:=PySem.Str.ofString "abcdefghijklmnopqrstuvwxyz0123456789"
theorem ln_len:(cod LN).length = 36:=by decide +kernel
theorem at_cod {z:Str} {i:Int} (h0:0≤i) (h1:i < (cod z).length):∃ c,atI z.cps.toList i = some c∧c∈cod z:=by
  have hk:i.toNat < (cod z).length:=by omega
  have ek:((i.toNat:Nat):Int) = i:=by omega
  refine ⟨(cod z)[i.toNat],?_,List.getElem_mem hk⟩
  have:=atI_nat (xs:=cod z) (j:=i.toNat) (List.getElem?_eq_getElem hk)
  rw [ek] at this
  exact this
theorem sl_rest (z:Str) {i:Int} (h0:0≤i):∃ n,cod (PySem.Txt.slice z (some i) none) = (cod z).drop n:=by
  have hz:=cod_len z
  by_cases h:i≤z.length
  · refine ⟨i.toNat,?_⟩
    show cod (StrLaws.sliceText z (some i) none) = _
    rw [StrLaws.sliceText_from ⟨h0,by rw [hz]; exact h⟩]
    refine List.take_of_length_le ?_
    rw [List.length_drop]
    show (cod z).length - i.toNat≤(((cod z).length:Int) - i).toNat
    omega
  · refine ⟨z.length,?_⟩
    have e:PySem.Builtin.Str.strSliceIndices (some i) none 1 z.length = PySem.Builtin.Str.strSliceIndices (some (z.length:Int)) none 1 z.length:=by
      unfold PySem.Builtin.Str.strSliceIndices
      have e1:(if i < 0 then i + (z.length:Int) else i) = i:=if_neg (by omega)
      have e2:(if (z.length:Int) < 0 then (z.length:Int) + (z.length:Int) else (z.length:Int)) = z.length:=if_neg (by omega)
      simp only [e1,e2]
      have e3:max 0 (min i (z.length:Int)) = max 0 (min (z.length:Int) z.length):=by omega
      rw [e3]
      simp only [if_pos (show (1:Int) > 0 by decide)]
    show cod (StrLaws.sliceText z (some i) none) = _
    have e':StrLaws.sliceText z (some i) none = StrLaws.sliceText z (some (z.length:Int)) none:=by
      unfold StrLaws.sliceText
      rw [e]
    rw [e',StrLaws.sliceText_from ⟨by omega,by rw [hz]; omega⟩]
    refine List.take_of_length_le ?_
    rw [List.length_drop]
    show (cod z).length - z.length≤(((cod z).length:Int) - (z.length:Int)).toNat
    omega
theorem signs_of {M:List Nat}:∀ (ys:List V),(∀ y∈ys,∃ c,y = .str ⟨#[c]⟩∧c∈M)→∃ cs:List Nat,ys = (cs.map fun c=>(⟨#[c]⟩:Str)).map V.str∧∀ c∈cs,c∈M
  | [],_=>⟨[],rfl,fun _ h=>nomatch h⟩
  | y :: ys,h=>by
    obtain ⟨c,rfl,hc⟩:=h y List.mem_cons_self
    obtain ⟨cs,rfl,hw⟩:=signs_of ys fun y hy=>h y (List.mem_cons_of_mem _ hy)
    refine ⟨c :: cs,rfl,fun x hx=>?_⟩
    rcases List.mem_cons.mp hx with rfl | hx
    · exact hc
    · exact hw x hx
theorem cod_signs (cs:List Nat):cod (PySem.Txt.join EM (cs.map fun c=>(⟨#[c]⟩:Str))) = cs:=by
  show cod (PySem.Builtin.Str.glued EM _) = _
  rw [StrLaws.glued_eq_join]
  induction cs with
  | nil=>rfl
  | cons c r ih=>
    cases r with
    | nil=>rfl
    | cons d r=>
      show cod (⟨#[c]⟩ ++ EM ++ PySem.Str.join EM (List.map _ (d :: r))) = c :: d :: r
      rw [cod_app,cod_app,ih]
      rfl
def nmP (z:Str):Prop:=cod z≠[]∧z.length≤20∧∀ c∈cod z,c∈cod LN
def sp__law_names (K:PySem.W.Frag):Sp:=fun vs H Q _=>∃ (a:Addr) (ns:List Int) (m:Int),vs = [.ref a,.int m]∧H a = some (.lst (ns.map V.int))∧ns.length = 10∧(∀ x∈ns,0≤x∧x < 60)∧0≤m∧m≤30∧
  ∀ l H' (zs:List Str),Same H H'→H l = none→H' l = some (.lst (zs.map V.str))→zs.length = m.toNat→(∀ z∈zs,nmP z)→Q (.ref l) H'
theorem ok__law_names (T:Txt w K mg XC) (F:Fun K "_law_names" "_law_names" s__law_names f fd):FnOk P w K mg base CX0 1 f fd ["_law_row_here","_law_many"] (sp__law_names K):=by
  refine F.ok sc__law_names (fun vs H Q E h=>?_) (fun cdv A outer s H vs Q E hr h=>?_)
  · obtain ⟨a,ns,m,rfl,_⟩:=h
    rfl
  obtain ⟨a,ns,m,rfl,ha,ln,nb,hm0,hm1,q⟩:=h
  refine ⟨_,(@pss_cons _ _ _ _ _ (@ps_set _ _ (2) _ _ _ _ sc__law_names.nd rfl (by first | exact Or.inl rfl | exact Or.inr rfl) (@pe_str _ _ _ _) (by rfl) (by first | exact .inl rfl | exact .inr rfl | assumption)) (@pss_cons _ _ _ _ _ (@ps_set _ _ (3) _ _ _ _ sc__law_names.nd rfl (by first | exact Or.inl rfl | exact Or.inr rfl) (@pe_bm _ _ _ _ _ _ _ _ _ _ _ _ PySem.F.plainAttrs_str PySem.F.slot_str_join PySem.F.type_str_join (mt_join rfl) (@pe_str _ _ _ _) (@pa_cons _ _ _ _ _ (@pe_comp _ ["_law_k","_law_signs","_law_row_here"] [none,some 2,some 0] _ _ _ _ _ _ _ _ _ _ _ rfl (@pi_range1 _ _ _ _ _ _ rfl T.b_range (@pa_cons _ _ _ _ _ (@pe_int _ _ _ _) (@pa_nil _) (by rfl)) (by rfl)) (by rfl) rfl (by repeat (first | exact trivial | refine ⟨rfl,?_⟩)) (by repeat (first | exact trivial | refine ⟨fun h=>(by first | exact ⟨_,rfl⟩ | cases h),?_⟩)) (fun C s H fp=>⟨(@pg_name _ _ (0) _ (show (["_law_k","_law_signs","_law_row_here"]:List Str).Nodup by decide +kernel) rfl (by first | exact Or.inl rfl | exact Or.inr rfl) (by first | exact .inl rfl | exact .inr rfl | assumption)),(@pifs_nil _),(@pe_ix _ _ _ _ _ _ _ ix_str (pv 1) (@pe_op _ _ _ _ _ _ _ _ op_mod (@pe_ix _ _ _ _ _ _ _ (ix_listK (K:=K) (by rfl)) (pv 2) (pv 0) (fun _ _=>rfl)) (@pe_int _ _ _ _)) (fun _ _=>rfl))⟩) (by intro _; rfl)) (@pa_nil _) (by rfl)) (by rfl) (by rfl) (by rfl) (by rfl) (by rfl)) (by rfl) (by first | exact .inl rfl | exact .inr rfl | assumption)) (@pss_cons _ _ _ _ _ (@ps_set _ _ (4) _ _ _ _ sc__law_names.nd rfl (by first | exact Or.inl rfl | exact Or.inr rfl) (@pe_op _ _ _ _ _ _ _ _ op_mod (@pe_ix _ _ _ _ _ _ _ ix_list (pv 0) (@pe_int _ _ _ _) (fun _ _=>rfl)) (@pe_int _ _ _ _)) (by rfl) (by first | exact .inl rfl | exact .inr rfl | assumption)) (@pss_cons _ _ _ _ _ (@ps_set _ _ (5) _ _ _ _ sc__law_names.nd rfl (by first | exact Or.inl rfl | exact Or.inr rfl) (@pe_lst _ _ _ _ (@pa_nil _)) (by rfl) (by first | exact .inl rfl | exact .inr rfl | assumption)) (@pss_cons _ _ _ _ _ (@ps_for _ _ _ _ _ _ _ _ PassesOwn.never rfl (@pi_range1 _ _ _ _ _ _ rfl T.b_range (@pa_cons _ _ _ _ _ (pv 1) (@pa_nil _) (by rfl)) (by rfl)) (@pg_name _ _ (6) _ sc__law_names.nd rfl (by first | exact Or.inl rfl | exact Or.inr rfl) (by first | exact .inl rfl | exact .inr rfl | assumption)) (@pss_cons _ _ _ _ _ (@ps_set _ _ (7) _ _ _ _ sc__law_names.nd rfl (by first | exact Or.inl rfl | exact Or.inr rfl) (@pe_op _ _ _ _ _ _ _ _ op_add_str (@pe_slice _ _ _ _ _ _ _ _ _ _ sl_str (pv 3) (@po_none _) (@po_some _ _ _ (pv 4))) (@pe_ix _ _ _ _ _ _ _ ix_str (pv 2) (@pe_op _ _ _ _ _ _ _ _ op_mod (@pe_op _ _ _ _ _ _ _ _ op_add (@pe_ix _ _ _ _ _ _ _ ix_list (pv 0) (@pe_int _ _ _ _) (fun _ _=>rfl)) (pv 6)) (@pe_int _ _ _ _)) (fun _ _=>rfl))) (by rfl) (by first | exact .inl rfl | exact .inr rfl | assumption)) (@pss_cons _ _ _ _ _ (@ps_set _ _ (7) _ _ _ _ sc__law_names.nd rfl (by first | exact Or.inl rfl | exact Or.inr rfl) (@pe_op _ _ _ _ _ _ _ _ op_add_str (pv 7) (@pe_slice _ _ _ _ _ _ _ _ _ _ sl_str (pv 3) (@po_some _ _ _ (@pe_op _ _ _ _ _ _ _ _ op_add (pv 4) (@pe_int _ _ _ _))) (@po_none _))) (by rfl) (by first | exact .inl rfl | exact .inr rfl | assumption)) (@pss_one _ _ _ (@ps_expr _ _ _ _ (@pe_bm _ _ _ _ _ _ _ _ _ _ _ _ PySem.F.plainAttrs_list PySem.F.slot_list_append PySem.F.type_list_append mt_append (pv 5) (@pa_cons _ _ _ _ _ (@pe_ix _ _ _ _ _ _ _ ix_list (@pe_lst _ _ _ _ (@pa_cons _ _ _ _ _ (pv 7) (@pa_cons _ _ _ _ _ (@pe_slice _ _ _ _ _ _ _ _ _ _ sl_str (pv 7) (@po_none _) (@po_some _ _ _ (@pe_op _ _ _ _ _ _ _ _ op_add (pv 4) (@pe_int _ _ _ _)))) (@pa_cons _ _ _ _ _ (@pe_op _ _ _ _ _ _ _ _ op_add_str (pv 7) (@pe_ix _ _ _ _ _ _ _ ix_str (pv 2) (pv 6) (fun _ _=>rfl))) (@pa_nil _) (by rfl)) (by rfl)) (by rfl))) (@pe_op _ _ _ _ _ _ _ _ op_mod (@pe_op _ _ _ _ _ _ _ _ op_add (@pe_ix _ _ _ _ _ _ _ ix_list (pv 0) (@pe_int _ _ _ _) (fun _ _=>rfl)) (pv 6)) (@pe_int _ _ _ _)) (fun _ _=>rfl)) (@pa_nil _) (by rfl)) (by rfl) (by rfl) (by rfl) (by rfl) (by rfl)) (by rfl))))) (by intro _; rfl)) (@pss_one _ _ _ (@ps_ret _ _ _ _ (pv 5)))))))),?_⟩
  try dsimp only [cxOf,Cx.nox,Cx.wish]
  have nn:∀ k:Nat,k < 10→0≤ns.getD k 0:=fun k hk=>by
    have hk':k < ns.length:=by omega
    simp only [List.getD,List.getElem?_eq_getElem hk',Option.getD_some]
    exact (nb _ (List.getElem_mem hk')).1
  have A7:atI (ns.map V.int) 7 = some (.int (ns.getD 7 0)):=at_int (by decide) (by omega)
  have A8:atI (ns.map V.int) 8 = some (.int (ns.getD 8 0)):=at_int (by decide) (by omega)
  have A9:atI (ns.map V.int) 9 = some (.int (ns.getD 9 0)):=at_int (by decide) (by omega)
  refine ⟨rfl,7,rfl,by decide,by decide,?_⟩
  refine comp_rel (xs:=(List.range (7:Int).toNat).map fun (i:Nat)=>V.int (0 + (i:Int))) (fun _ y _=>∃ c,y = .str ⟨#[c]⟩∧c∈cod LN) (fun _ _ _ _ h _=>h) (fun _ _ _ _ _ _ h _ _=>h) itIs_range (by rw [List.length_map,List.length_range]; decide) (fun x H' R hx s' hR=>?_) fun l H1 ys n1 s1 h1 l1 hy=>?_
  · obtain ⟨i,hi,rfl⟩:=List.mem_map.mp hx
    have hi':i < 7:=List.mem_range.mp hi
    obtain ⟨c,hc,mc⟩:=at_cod (z:=LN) (i:=ns.getD (0 + (i:Int)).toNat 0 % 36) (Int.emod_nonneg _ (by decide)) (by rw [ln_len]; exact Int.emod_lt_of_pos _ (by decide))
    refine ⟨_,rfl,_,rfl,_,rfl,a,_,_,_,rfl,rfl,SqL.of (s'.get ha),at_int (by omega) (by omega),_,_,rfl,rfl,(by show (0:Int) < 36; decide),LN,_,c,rfl,rfl,small (by decide +kernel),hc,?_⟩
    exact hR (.str ⟨#[c]⟩) H' (Same.refl _) (fun _ z=>by cases z) ⟨c,rfl,mc⟩
  obtain ⟨cs,rfl,hcs⟩:=signs_of ys fun y hm=>by
    obtain ⟨i,hi⟩:=List.getElem?_of_mem hm
    have il:=(List.getElem?_eq_some_iff.mp hi).1
    exact (hy i _ y (List.getElem?_eq_getElem (by omega)) hi).1
  have lcs:cs.length = 7:=by
    rw [List.length_map,List.length_map,List.length_map,List.length_range] at l1
    exact l1
  have wl:(cod (PySem.Txt.join EM (cs.map fun c=>(⟨#[c]⟩:Str)))) = cs:=cod_signs cs
  refine ⟨l,EM,cs.map fun c=>(⟨#[c]⟩:Str),rfl,rfl,SqL.of h1,?_,?_⟩
  · have e:((cs.map fun c=>(⟨#[c]⟩:Str)).map (·.length)).sum = cs.length:=by
      rw [List.map_map]
      have:((fun z:Str=>z.length)∘fun c=>(⟨#[c]⟩:Str)) = fun _:Nat=>1:=rfl
      rw [this]
      clear this hcs h1 hy l1 wl lcs
      induction cs with
      | nil=>rfl
      | cons c cs ih=>rw [List.map_cons,List.sum_cons,ih,List.length_cons]; omega
    rw [e,List.length_map,lcs]
    decide +kernel
  dsimp only
  have hwl:(PySem.Txt.join EM (cs.map fun c=>(⟨#[c]⟩:Str))).length = 7:=by rw [← cod_len,wl,lcs]
  have hwc:∀ c∈cod (PySem.Txt.join EM (cs.map fun c=>(⟨#[c]⟩:Str))),c∈cod LN:=by rw [wl]; exact hcs
  generalize PySem.Txt.join EM (cs.map fun c=>(⟨#[c]⟩:Str)) = wd at hwl hwc
  refine ⟨_,rfl,a,_,_,_,rfl,rfl,SqL.of (s1.get ha),A7,_,_,rfl,rfl,(by show (0:Int) < 7; decide),?_⟩
  have t0:=Int.emod_nonneg (ns.getD 7 0) (show (7:Int)≠0 by decide)
  have t1:=Int.emod_lt_of_pos (ns.getD 7 0) (show (0:Int) < 7 by decide)
  dsimp only
  generalize ns.getD 7 0 % 7 = at_ at t0 t1
  refine ⟨small (by show 0≤1000000; decide),fun g hg=>?_⟩
  have hgH:H g = none:=s1.free hg
  refine ⟨_,rfl,m,rfl,by omega,by omega,for_range (lo:=0) (n:=m.toNat) (fun i σ H2=>∃ (zs:List Str) (v u:Option V),σ = [some (.ref a),some (.int m),some (.str LN),some (.str wd),some (.int at_),some (.ref g),v,u]∧Same H H2∧H2 g = some (.lst (zs.map V.str))∧zs.length = i∧∀ z∈zs,nmP z)
    ⟨[],none,none,rfl,s1.trans (same_new hg _),upd_same,rfl,fun _ h=>nomatch h⟩ ?_ ?_⟩
  · rintro i σ H2 hi ⟨zs,v,u,rfl,s2,hg2,hl,hb⟩
    have ha2:=s2.get ha
    obtain ⟨c,hc,mc⟩:=at_cod (z:=LN) (i:=(ns.getD 8 0 + (0 + (i:Int))) % 36) (Int.emod_nonneg _ (by decide)) (by rw [ln_len]; exact Int.emod_lt_of_pos _ (by decide))
    obtain ⟨d,hd,md⟩:=at_cod (z:=LN) (i:=0 + (i:Int)) (by omega) (by rw [ln_len]; omega)
    have e1:=sl_to wd t0
    obtain ⟨k,e2⟩:=sl_rest wd (i:=at_ + 1) (by omega)
    have lwd:=cod_len wd
    have l1:(PySem.Txt.slice wd none (some at_)).length≤7:=by rw [← cod_len,e1,List.length_take]; omega
    have l2:(PySem.Txt.slice wd (some (at_ + 1)) none).length≤7:=by rw [← cod_len,e2,List.length_drop]; omega
    refine ⟨_,rfl,_,rfl,_,rfl,wd,rfl,small (by omega),_,rfl,_,rfl,a,_,_,_,rfl,rfl,SqL.of ha2,A8,_,rfl,_,_,rfl,rfl,_,_,rfl,rfl,(by show (0:Int) < 36; decide),LN,_,c,rfl,rfl,small (by decide +kernel),hc,_,_,rfl,rfl,small (by show _ + 1≤1000000; omega),?_⟩
    refine ⟨_,rfl,_,rfl,_,rfl,_,_,rfl,rfl,_,rfl,wd,rfl,small (by omega),_,_,rfl,rfl,small (by rw [len_app]; show _ + 1 + _≤1000000; omega),?_⟩
    have oc:cod (PySem.Txt.slice wd none (some at_) ++ ⟨#[c]⟩ ++ PySem.Txt.slice wd (some (at_ + 1)) none) = (cod wd).take at_.toNat ++ c :: (cod wd).drop k:=by
      rw [cod_app,cod_app,e1,e2,List.append_assoc]
      rfl
    have ol:(PySem.Txt.slice wd none (some at_) ++ ⟨#[c]⟩ ++ PySem.Txt.slice wd (some (at_ + 1)) none).length≤15:=by
      rw [len_app,len_app]
      show _ + 1 + _≤15
      omega
    dsimp only
    generalize PySem.Txt.slice wd none (some at_) ++ ⟨#[c]⟩ ++ PySem.Txt.slice wd (some (at_ + 1)) none = one at oc ol
    have on:nmP one:=⟨by rw [oc]; simp,by omega,fun x hx=>by
      rw [oc] at hx
      rcases List.mem_append.mp hx with hx | hx
      · exact hwc x (List.mem_of_mem_take hx)
      · rcases List.mem_cons.mp hx with rfl | hx
        · exact mc
        · exact hwc x (List.mem_of_mem_drop hx)⟩
    have e3:=sl_to one (j:=at_ + 1) (by omega)
    have tn:nmP (PySem.Txt.slice one none (some (at_ + 1))):=⟨by
        rw [e3]
        have:=on.1
        cases h:cod one with
        | nil=>exact absurd h this
        | cons x l=>
          rw [show (at_ + 1).toNat = at_.toNat + 1 by omega,List.take_succ_cons]
          simp,by rw [← cod_len,e3,List.length_take,cod_len]; omega,fun x hx=>by rw [e3] at hx; exact on.2.2 x (List.mem_of_mem_take hx)⟩
    have pn:nmP (one ++ ⟨#[d]⟩):=⟨by rw [cod_app]; simp,by rw [len_app]; show one.length + 1≤20; omega,fun x hx=>by
      rw [cod_app] at hx
      rcases List.mem_append.mp hx with hx | hx
      · exact on.2.2 x hx
      · rw [List.mem_singleton.mp hx]; exact md⟩
    refine ⟨_,rfl,.inl ⟨rfl,_,SqL.of hg2⟩,_,rfl,_,rfl,_,rfl,_,_,rfl,rfl,_,rfl,one,rfl,small (by omega),_,rfl,_,rfl,_,rfl,LN,_,d,rfl,rfl,small (by decide +kernel),hd,_,_,rfl,rfl,small (by show one.length + 1≤1000000; omega),small (by show 3≤1000000; decide),fun p hp=>?_⟩
    have s3:=same_new hp (.lst [V.str one,V.str (PySem.Txt.slice one none (some (at_ + 1))),V.str (one ++ ⟨#[d]⟩)])
    obtain ⟨z,hz,hzn⟩:∃ z,atI [V.str one,V.str (PySem.Txt.slice one none (some (at_ + 1))),V.str (one ++ ⟨#[d]⟩)] ((ns.getD 9 0 + (0 + (i:Int))) % 3) = some (.str z)∧nmP z:=by
      have r0:=Int.emod_nonneg (ns.getD 9 0 + (0 + (i:Int))) (show (3:Int)≠0 by decide)
      have r1:=Int.emod_lt_of_pos (ns.getD 9 0 + (0 + (i:Int))) (show (0:Int) < 3 by decide)
      generalize (ns.getD 9 0 + (0 + (i:Int))) % 3 = r at r0 r1
      have:r = 0∨r = 1∨r = 2:=by omega
      rcases this with rfl | rfl | rfl
      · exact ⟨_,rfl,on⟩
      · exact ⟨_,rfl,tn⟩
      · exact ⟨_,rfl,pn⟩
    refine ⟨_,rfl,a,_,_,_,rfl,rfl,SqL.of (s3.get ha2),A9,_,rfl,_,_,rfl,rfl,_,_,rfl,rfl,(by show (0:Int) < 3; decide),p,_,_,_,rfl,rfl,SqL.of upd_same,hz,g,_,_,rfl,rfl,s3.get hg2,smallLt (by rw [List.length_map]; omega),?_⟩
    refine ⟨zs ++ [z],_,_,rfl,same_upd (s2.trans s3) hgH _,by rw [upd_same,List.map_append]; rfl,by rw [List.length_append,hl]; rfl,fun y hy=>?_⟩
    rcases List.mem_append.mp hy with hy | hy
    · exact hb y hy
    · rw [List.mem_singleton.mp hy]; exact hzn
  · rintro σ H2 ⟨zs,v,u,rfl,s2,hg2,hl,hb⟩
    exact ⟨_,rfl,q g _ zs s2 hgH hg2 hl hb⟩
def Rw (H:Hp) (a:Addr) (ns:List Int):Prop:=H a = some (.lst (ns.map V.int))∧ns.length = 40∧∀ x∈ns,0≤x∧x < 60
def Nms (H:Hp) (b:Addr) (zs:List Str):Prop:=H b = some (.lst (zs.map V.str))∧zs.length = 12∧∀ z∈zs,nmP z
theorem rw_at {H:Hp} {a:Addr} {ns:List Int} (h:Rw H a ns) {i:Int} (h0:0≤i) (h1:i < 40):∃ x,atI (ns.map V.int) i = some (.int x)∧0≤x∧x < 60:=by
  have hk:i.toNat < ns.length:=by have:=h.2.1; omega
  refine ⟨ns.getD i.toNat 0,at_int h0 (by have:=h.2.1; omega),?_⟩
  simp only [List.getD,List.getElem?_eq_getElem hk,Option.getD_some]
  exact h.2.2 _ (List.getElem_mem hk)
theorem nm_at {H:Hp} {b:Addr} {zs:List Str} (h:Nms H b zs) (x:Int):∃ z,atI (zs.map V.str) (x % ((zs.map V.str).length:Int)) = some (.str z)∧nmP z:=by
  have e:((zs.map V.str).length:Int) = 12:=by rw [List.length_map,h.2.1]; rfl
  rw [e]
  have r0:=Int.emod_nonneg x (show (12:Int)≠0 by decide)
  have r1:=Int.emod_lt_of_pos x (show (0:Int) < 12 by decide)
  generalize x % 12 = r at r0 r1
  have hk:r.toNat < zs.length:=by have:=h.2.1; omega
  refine ⟨zs[r.toNat],?_,h.2.2 _ (List.getElem_mem hk)⟩
  have:=atI_nat (xs:=zs.map V.str) (j:=r.toNat) (v:=.str zs[r.toNat]) (by rw [List.getElem?_map,List.getElem?_eq_getElem hk]; rfl)
  rw [show ((r.toNat:Nat):Int) = r by omega] at this
  exact this
theorem nm_pos {H:Hp} {b:Addr} {zs:List Str} (h:Nms H b zs):(0:Int) < ((zs.map V.str).length:Int):=by rw [List.length_map,h.2.1]; decide
def sp__law_word (K:PySem.W.Frag):Sp:=fun vs H Q _=>∃ (a b:Addr) (ns:List Int) (zs:List Str) (i:Int),vs = [.ref a,.int i,.ref b]∧Rw H a ns∧Nms H b zs∧0≤i∧i < 39∧∀ z,nmP z→Q (.str z) H
theorem ok__law_word (T:Txt w K mg XC) (F:Fun K "_law_word" "_law_word" s__law_word f fd):FnOk P w K mg base CX0 1 f fd ["_law_row_here","_law_at","_law_names_here"] (sp__law_word K):=by
  refine F.ok sc__law_word (fun vs H Q E h=>?_) (fun cdv A outer s H vs Q E hr h=>?_)
  · obtain ⟨a,b,ns,zs,i,rfl,_⟩:=h
    rfl
  obtain ⟨a,b,ns,zs,i,rfl,hr_,hn,h0,h1,q⟩:=h
  refine ⟨_,(@pss_one _ _ _ (@ps_ret _ _ _ _ (@pe_ix _ _ _ _ _ _ _ ix_list (pv 2) (@pe_op _ _ _ _ _ _ _ _ op_mod (@pe_op _ _ _ _ _ _ _ _ op_add (@pe_op _ _ _ _ _ _ _ _ op_mul (@pe_ix _ _ _ _ _ _ _ ix_list (pv 0) (pv 1) (fun _ _=>rfl)) (@pe_int _ _ _ _)) (@pe_ix _ _ _ _ _ _ _ ix_list (pv 0) (@pe_op _ _ _ _ _ _ _ _ op_add (pv 1) (@pe_int _ _ _ _)) (fun _ _=>rfl))) (@pe_callB _ _ _ _ _ _ _ _ _ call_len_seq (by rfl) T.b_len bt_len (@pa_cons _ _ _ _ _ (pv 2) (@pa_nil _) (by rfl)) (by decide) (by decide) (by rfl) (by rfl))) (fun _ _=>rfl)))),?_⟩
  try dsimp only [cxOf,Cx.nox,Cx.wish]
  obtain ⟨x,X1,x0,x1⟩:=rw_at hr_ h0 (by omega)
  obtain ⟨y,Y1,y0,y1⟩:=rw_at hr_ (show 0≤i + 1 by omega) (by omega)
  obtain ⟨z,Z1,zn⟩:=nm_at hn (x * 60 + y)
  refine ⟨_,rfl,_,rfl,_,rfl,a,_,_,_,rfl,rfl,SqL.of hr_.1,X1,_,_,rfl,rfl,.inl ⟨by omega,by omega⟩,_,rfl,_,rfl,_,_,rfl,rfl,a,_,_,_,rfl,rfl,SqL.of hr_.1,Y1,_,_,rfl,rfl,_,rfl,b,_,rfl,.inl (SqL.of hn.1),_,_,rfl,rfl,nm_pos hn,b,_,_,_,rfl,rfl,SqL.of hn.1,Z1,q z zn⟩
abbrev SL:Str:=PySem.Str.ofString "/"
theorem join_mem (g:Str):∀ (A:List Str) {c:Nat},c∈cod (PySem.Txt.join g A)→c∈cod g∨∃ z∈A,c∈cod z:=by
  intro A c
  show c∈cod (PySem.Builtin.Str.glued g A)→_
  rw [StrLaws.glued_eq_join]
  induction A with
  | nil=>intro h; exact absurd h (by simp [PySem.Str.join,PySem.Str.empty])
  | cons x r ih=>
    cases r with
    | nil=>intro h; exact .inr ⟨x,List.mem_cons_self,h⟩
    | cons y r=>
      intro h
      rw [show PySem.Str.join g (x :: y :: r) = x ++ g ++ PySem.Str.join g (y :: r) from rfl,cod_app,cod_app] at h
      rcases List.mem_append.mp h with h | h
      · rcases List.mem_append.mp h with h | h
        · exact .inr ⟨x,List.mem_cons_self,h⟩
        · exact .inl h
      · rcases ih h with h | ⟨z,hz,h⟩
        · exact .inl h
        · exact .inr ⟨z,List.mem_cons_of_mem _ hz,h⟩
theorem join_len (g:Str):∀ (A:List Str),(∀ z∈A,z.length≤20)→(PySem.Txt.join g A).length≤(20 + g.length) * A.length:=by
  intro A
  show _→(PySem.Builtin.Str.glued g A).length≤_
  rw [StrLaws.glued_eq_join]
  induction A with
  | nil=>intro _; exact Nat.zero_le _
  | cons x r ih=>
    intro h
    have h1:=h x List.mem_cons_self
    cases r with
    | nil=>
      show x.length≤(20 + g.length) * 1
      omega
    | cons y r=>
      have h2:=ih fun z hz=>h z (List.mem_cons_of_mem _ hz)
      show (x ++ g ++ PySem.Str.join g (y :: r)).length≤(20 + g.length) * ((y :: r).length + 1)
      rw [len_app,len_app,Nat.mul_add]
      omega
def paP (z:Str):Prop:=z.length≤200∧∀ c∈cod z,c∈cod LN∨c = 47
def sp__law_path (K:PySem.W.Frag):Sp:=fun vs H Q _=>∃ (a b:Addr) (ns:List Int) (zs:List Str) (i:Int),vs = [.ref a,.int i,.ref b]∧Rw H a ns∧Nms H b zs∧0≤i∧i < 37∧∀ z H',Same H H'→paP z→Q (.str z) H'
theorem ok__law_path (T:Txt w K mg XC) (F:Fun K "_law_path" "_law_path" s__law_path f fd):FnOk P w K mg base CX0 1 f fd ["_law_row_here","_law_at","_law_names_here"] (sp__law_path K):=by
  refine F.ok sc__law_path (fun vs H Q E h=>?_) (fun cdv A outer s H vs Q E hr h=>?_)
  · obtain ⟨a,b,ns,zs,i,rfl,_⟩:=h
    rfl
  obtain ⟨a,b,ns,zs,i,rfl,hr_,hn,h0,h1,q⟩:=h
  refine ⟨_,(@pss_cons _ _ _ _ _ (@ps_set _ _ (3) _ _ _ _ sc__law_path.nd rfl (by first | exact Or.inl rfl | exact Or.inr rfl) (@pe_ix _ _ _ _ _ _ _ ix_list (@pe_lst _ _ _ _ (@pa_cons _ _ _ _ _ (@pe_int _ _ _ _) (@pa_cons _ _ _ _ _ (@pe_int _ _ _ _) (@pa_cons _ _ _ _ _ (@pe_int _ _ _ _) (@pa_cons _ _ _ _ _ (@pe_int _ _ _ _) (@pa_cons _ _ _ _ _ (@pe_int _ _ _ _) (@pa_cons _ _ _ _ _ (@pe_int _ _ _ _) (@pa_nil _) (by rfl)) (by rfl)) (by rfl)) (by rfl)) (by rfl)) (by rfl))) (@pe_op _ _ _ _ _ _ _ _ op_mod (@pe_ix _ _ _ _ _ _ _ ix_list (pv 0) (pv 1) (fun _ _=>rfl)) (@pe_int _ _ _ _)) (fun _ _=>rfl)) (by rfl) (by first | exact .inl rfl | exact .inr rfl | assumption)) (@pss_cons _ _ _ _ _ (@ps_set _ _ (4) _ _ _ _ sc__law_path.nd rfl (by first | exact Or.inl rfl | exact Or.inr rfl) (@pe_lst _ _ _ _ (@pa_nil _)) (by rfl) (by first | exact .inl rfl | exact .inr rfl | assumption)) (@pss_cons _ _ _ _ _ (@ps_for _ _ _ _ _ _ _ _ PassesOwn.never rfl (@pi_range1 _ _ _ _ _ _ rfl T.b_range (@pa_cons _ _ _ _ _ (pv 3) (@pa_nil _) (by rfl)) (by rfl)) (@pg_name _ _ (5) _ sc__law_path.nd rfl (by first | exact Or.inl rfl | exact Or.inr rfl) (by first | exact .inl rfl | exact .inr rfl | assumption)) (@pss_cons _ _ _ _ _ (@ps_set _ _ (6) _ _ _ _ sc__law_path.nd rfl (by first | exact Or.inl rfl | exact Or.inr rfl) (@pe_op _ _ _ _ _ _ _ _ op_fdiv (@pe_ix _ _ _ _ _ _ _ ix_list (pv 0) (@pe_op _ _ _ _ _ _ _ _ op_add (@pe_op _ _ _ _ _ _ _ _ op_add (pv 1) (@pe_int _ _ _ _)) (@pe_op _ _ _ _ _ _ _ _ op_mod (pv 5) (@pe_int _ _ _ _))) (fun _ _=>rfl)) (@pe_op _ _ _ _ _ _ _ _ op_add (@pe_int _ _ _ _) (@pe_op _ _ _ _ _ _ _ _ op_fdiv (pv 5) (@pe_int _ _ _ _)))) (by rfl) (by first | exact .inl rfl | exact .inr rfl | assumption)) (@pss_one _ _ _ (@ps_expr _ _ _ _ (@pe_bm _ _ _ _ _ _ _ _ _ _ _ _ PySem.F.plainAttrs_list PySem.F.slot_list_append PySem.F.type_list_append mt_append (pv 4) (@pa_cons _ _ _ _ _ (@pe_ix _ _ _ _ _ _ _ ix_list (pv 2) (@pe_op _ _ _ _ _ _ _ _ op_mod (pv 6) (@pe_callB _ _ _ _ _ _ _ _ _ call_len_seq (by rfl) T.b_len bt_len (@pa_cons _ _ _ _ _ (pv 2) (@pa_nil _) (by rfl)) (by decide) (by decide) (by rfl) (by rfl))) (fun _ _=>rfl)) (@pa_nil _) (by rfl)) (by rfl) (by rfl) (by rfl) (by rfl) (by rfl)) (by rfl)))) (by intro _; rfl)) (@pss_one _ _ _ (@ps_ret _ _ _ _ (@pe_bm _ _ _ _ _ _ _ _ _ _ _ _ PySem.F.plainAttrs_str PySem.F.slot_str_join PySem.F.type_str_join (mt_join rfl) (@pe_str _ _ _ _) (@pa_cons _ _ _ _ _ (pv 4) (@pa_nil _) (by rfl)) (by rfl) (by rfl) (by rfl) (by rfl) (by rfl))))))),?_⟩
  try dsimp only [cxOf,Cx.nox,Cx.wish]
  obtain ⟨x,X1,x0,x1⟩:=rw_at hr_ h0 (by omega)
  refine ⟨small (by show 6≤1000000; decide),fun p hp=>?_⟩
  have s1:=same_new hp (.lst [V.int 0,V.int 1,V.int 1,V.int 2,V.int 3,V.int 8])
  have hp1:(upd H p (.lst [V.int 0,V.int 1,V.int 1,V.int 2,V.int 3,V.int 8])) p = some (.lst [V.int 0,V.int 1,V.int 1,V.int 2,V.int 3,V.int 8]):=upd_same
  obtain ⟨n,hn1,hn2⟩:∃ n:Nat,atI [V.int 0,V.int 1,V.int 1,V.int 2,V.int 3,V.int 8] (x % 6) = some (.int (n:Int))∧n≤8:=by
    have r0:=Int.emod_nonneg x (show (6:Int)≠0 by decide)
    have r1:=Int.emod_lt_of_pos x (show (0:Int) < 6 by decide)
    generalize x % 6 = r at r0 r1
    have:r = 0∨r = 1∨r = 2∨r = 3∨r = 4∨r = 5:=by omega
    rcases this with rfl | rfl | rfl | rfl | rfl | rfl
    · exact ⟨0,rfl,by decide⟩
    · exact ⟨1,rfl,by decide⟩
    · exact ⟨1,rfl,by decide⟩
    · exact ⟨2,rfl,by decide⟩
    · exact ⟨3,rfl,by decide⟩
    · exact ⟨8,rfl,by decide⟩
  change tOp _ _ _ _ (upd H p (.lst [V.int 0,V.int 1,V.int 1,V.int 2,V.int 3,V.int 8])) _
  generalize upd H p (.lst [V.int 0,V.int 1,V.int 1,V.int 2,V.int 3,V.int 8]) = H1 at s1 hp1
  refine ⟨_,rfl,_,rfl,a,_,_,_,rfl,rfl,SqL.of (s1.get hr_.1),X1,_,_,rfl,rfl,(by show (0:Int) < 6; decide),p,_,_,_,rfl,rfl,SqL.of hp1,hn1,?_⟩
  refine ⟨small (by show 0≤1000000; decide),fun g hg=>?_⟩
  have hgH:H g = none:=s1.free hg
  refine ⟨_,rfl,(n:Int),rfl,by omega,by omega,for_range (lo:=0) (n:=n) (fun j σ H2=>∃ (ys:List Str) (v u:Option V),σ = [some (.ref a),some (.int i),some (.ref b),some (.int (n:Int)),some (.ref g),v,u]∧Same H H2∧H2 g = some (.lst (ys.map V.str))∧ys.length = j∧∀ z∈ys,nmP z)
    ⟨[],none,none,rfl,s1.trans (same_new hg _),upd_same,rfl,fun _ h=>nomatch h⟩ ?_ ?_⟩
  · rintro j σ H2 hj ⟨ys,v,u,rfl,s2,hg2,hl,hb⟩
    have hr2:Rw H2 a ns:=⟨s2.get hr_.1,hr_.2⟩
    have hn2':Nms H2 b zs:=⟨s2.get hn.1,hn.2⟩
    have q0:=Int.emod_nonneg (0 + (j:Int)) (show (2:Int)≠0 by decide)
    have q1:=Int.emod_lt_of_pos (0 + (j:Int)) (show (0:Int) < 2 by decide)
    obtain ⟨y,Y1,y0,y1⟩:=rw_at hr2 (show 0≤i + 1 + (0 + (j:Int)) % 2 by omega) (by omega)
    refine ⟨_,rfl,_,rfl,_,_,rfl,rfl,_,rfl,_,_,rfl,rfl,(by show (0:Int) < 2; decide),_,_,rfl,rfl,a,_,_,_,rfl,rfl,SqL.of hr2.1,Y1,_,rfl,_,_,rfl,rfl,⟨by decide,by decide⟩,_,_,rfl,rfl,_,_,rfl,rfl,⟨by omega,by omega⟩,?_⟩
    obtain ⟨z,Z1,zn⟩:=nm_at hn2' (y / (1 + (0 + (j:Int)) / 2))
    refine ⟨_,rfl,.inl ⟨rfl,_,SqL.of hg2⟩,_,rfl,_,rfl,_,rfl,b,_,rfl,.inl (SqL.of hn2'.1),_,_,rfl,rfl,nm_pos hn2',b,_,_,_,rfl,rfl,SqL.of hn2'.1,Z1,g,_,_,rfl,rfl,hg2,smallLt (by rw [List.length_map]; omega),?_⟩
    refine ⟨ys ++ [z],_,_,rfl,same_upd s2 hgH _,by rw [upd_same,List.map_append]; rfl,by rw [List.length_append,hl]; rfl,fun x hx=>?_⟩
    rcases List.mem_append.mp hx with hx | hx
    · exact hb x hx
    · rw [List.mem_singleton.mp hx]; exact zn
  · rintro σ H2 ⟨ys,v,u,rfl,s2,hg2,hl,hb⟩
    have jl:=join_len SL ys fun z hz=>(hb z hz).2.1
    rw [show SL.length = 1 by decide +kernel] at jl
    refine ⟨rfl,_,rfl,g,SL,ys,rfl,rfl,SqL.of hg2,?_,q _ H2 s2 ⟨by omega,fun c hc=>?_⟩⟩
    · have sl:∀ (l:List Str),(∀ y∈l,y.length≤20)→(l.map (·.length)).sum≤20 * l.length:=by
        intro l
        induction l with
        | nil=>intro _; exact Nat.zero_le _
        | cons y l ih=>
          intro h
          have h1:=h y List.mem_cons_self
          have h2:=ih fun z hz=>h z (List.mem_cons_of_mem _ hz)
          rw [List.map_cons,List.sum_cons,List.length_cons]
          omega
      have h1:=sl ys fun z hz=>(hb z hz).2.1
      rw [show SL.length = 1 by decide +kernel]
      omega
    · rcases join_mem SL ys hc with h | ⟨z,hz,h⟩
      · rw [show cod SL = [47] by decide +kernel] at h
        exact .inr (List.mem_singleton.mp h)
      · exact .inl ((hb z hz).2.2 c h)
theorem fold60:∀ (ms:List Int) (z:Int),(∀ x∈ms,0≤x∧x < 60)→0≤z→0≤ms.foldl (fun z x=>60 * z + x) z∧ms.foldl (fun z x=>60 * z + x) z < 60 ^ ms.length * (z + 1)
  | [],z,_,h=>by
    show 0≤z∧z < 60 ^ 0 * (z + 1)
    omega
  | x :: ms,z,h,h0=>by
    have hx:=h x List.mem_cons_self
    have ih:=fold60 ms (60 * z + x) (fun y hy=>h y (List.mem_cons_of_mem _ hy)) (by omega)
    refine ⟨ih.1,Int.lt_of_lt_of_le ih.2 ?_⟩
    show (60:Int) ^ ms.length * (60 * z + x + 1)≤60 ^ (ms.length + 1) * (z + 1)
    rw [Int.pow_succ,Int.mul_assoc]
    have p:(0:Int)≤60 ^ ms.length:=Int.pow_nonneg (by decide)
    exact Int.mul_le_mul_of_nonneg_left (by omega) p
def sp__law_number (K:PySem.W.Frag):Sp:=fun vs H Q _=>∃ (a:Addr) (ns:List Int) (i:Int),vs = [.ref a,.int i]∧Rw H a ns∧0≤i∧i < 35∧∀ n H',Same H H'→0≤n→n≤999999999→Q (.int n) H'
theorem ok__law_number (T:Txt w K mg XC) (F:Fun K "_law_number" "_law_number" s__law_number f fd):FnOk P w K mg base CX0 1 f fd ["_law_row_here","_law_at"] (sp__law_number K):=by
  refine F.ok sc__law_number (fun vs H Q E h=>?_) (fun cdv A outer s H vs Q E hr h=>?_)
  · obtain ⟨a,ns,i,rfl,_⟩:=h
    rfl
  obtain ⟨a,ns,i,rfl,hr_,h0,h1,q⟩:=h
  refine ⟨_,(@pss_cons _ _ _ _ _ (@ps_set _ _ (2) _ _ _ _ sc__law_number.nd rfl (by first | exact Or.inl rfl | exact Or.inr rfl) (@pe_int _ _ _ _) (by rfl) (by first | exact .inl rfl | exact .inr rfl | assumption)) (@pss_cons _ _ _ _ _ (@ps_for _ _ _ _ _ _ _ _ PassesOwn.never rfl (@pi_list _ _ _ _ (@pe_slice _ _ _ _ _ _ _ _ _ _ sl_list (pv 0) (@po_some _ _ _ (pv 1)) (@po_some _ _ _ (@pe_op _ _ _ _ _ _ _ _ op_add (pv 1) (@pe_int _ _ _ _))))) (@pg_name _ _ (3) _ sc__law_number.nd rfl (by first | exact Or.inl rfl | exact Or.inr rfl) (by first | exact .inl rfl | exact .inr rfl | assumption)) (@pss_one _ _ _ (@ps_set _ _ (2) _ _ _ _ sc__law_number.nd rfl (by first | exact Or.inl rfl | exact Or.inr rfl) (@pe_op _ _ _ _ _ _ _ _ op_add (@pe_op _ _ _ _ _ _ _ _ op_mul (@pe_int _ _ _ _) (pv 2)) (pv 3)) (by rfl) (by first | exact .inl rfl | exact .inr rfl | assumption))) (by intro _; rfl)) (@pss_one _ _ _ (@ps_ret _ _ _ _ (@pe_ix _ _ _ _ _ _ _ ix_list (@pe_lst _ _ _ _ (@pa_cons _ _ _ _ _ (pv 2) (@pa_cons _ _ _ _ _ (@pe_ix _ _ _ _ _ _ _ ix_list (pv 0) (pv 1) (fun _ _=>rfl)) (@pa_cons _ _ _ _ _ (@pe_int _ _ _ _) (@pa_cons _ _ _ _ _ (@pe_int _ _ _ _) (@pa_cons _ _ _ _ _ (@pe_int _ _ _ _) (@pa_nil _) (by rfl)) (by rfl)) (by rfl)) (by rfl)) (by rfl))) (@pe_op _ _ _ _ _ _ _ _ op_mod (@pe_ix _ _ _ _ _ _ _ ix_list (pv 0) (@pe_op _ _ _ _ _ _ _ _ op_add (pv 1) (@pe_int _ _ _ _)) (fun _ _=>rfl)) (@pe_int _ _ _ _)) (fun _ _=>rfl)))))),?_⟩
  try dsimp only [cxOf,Cx.nox,Cx.wish]
  refine ⟨_,rfl,_,rfl,_,rfl,_,rfl,_,_,rfl,rfl,_,rfl,a,_,rfl,SqL.of hr_.1,fun p hp=>?_⟩
  rw [cut_lohi h0 (by omega),← List.map_drop,← List.map_take]
  have s1:=same_new hp (.lst (((ns.drop i.toNat).take ((i + 5).toNat - i.toNat)).map V.int))
  have hp1:(upd H p (.lst (((ns.drop i.toNat).take ((i + 5).toNat - i.toNat)).map V.int))) p = some (.lst (((ns.drop i.toNat).take ((i + 5).toNat - i.toNat)).map V.int)):=upd_same
  have ml:((ns.drop i.toNat).take ((i + 5).toNat - i.toNat)).length = 5:=by
    have:=hr_.2.1
    rw [List.length_take,List.length_drop]
    omega
  have mb:∀ x∈(ns.drop i.toNat).take ((i + 5).toNat - i.toNat),0≤x∧x < 60:=fun x hx=>hr_.2.2 x (List.mem_of_mem_drop (List.mem_of_mem_take hx))
  generalize (ns.drop i.toNat).take ((i + 5).toNat - i.toNat) = ms at s1 hp1 ml mb
  generalize upd H p (.lst (ms.map V.int)) = H1 at s1 hp1
  refine ⟨p,rfl,⟨_,SqL.of hp1⟩,for_list (K:=K) (a:=p) (xs:=ms.map V.int) (fun j σ H2=>∃ v,σ = [some (.ref a),some (.int i),some (.int ((ms.take j).foldl (fun z x=>60 * z + x) 0)),v]∧H2 = H1) ⟨none,rfl,rfl⟩ (fun j σ H2 _ ⟨_,_,e⟩=>by rw [e]; exact SqL.of hp1) ?_ ?_⟩
  · rintro j y σ H2 hj ⟨v,rfl,rfl⟩
    rw [List.getElem?_map] at hj
    obtain ⟨x,hx,rfl⟩:=Option.map_eq_some_iff.mp hj
    have b:=fold60 (ms.take j) 0 (fun y hy=>mb y (List.mem_of_mem_take hy)) (by decide)
    refine ⟨_,rfl,_,_,rfl,rfl,.inl ⟨by decide,by decide⟩,_,rfl,_,_,rfl,rfl,some (.int x),?_,rfl⟩
    rw [List.take_add_one,hx]
    show _ = [_,_,some (V.int (((ms.take j) ++ [x]).foldl (fun z x=>60 * z + x) 0)),_]
    rw [List.foldl_append]
    rfl
  · rintro σ H2 ⟨v,rfl,rfl⟩
    rw [List.length_map,List.take_length]
    have b:=fold60 ms 0 mb (by decide)
    rw [ml] at b
    have b1:ms.foldl (fun z x=>60 * z + x) 0 < 777600000:=by
      have:=b.2
      rw [show (60:Int) ^ 5 * (0 + 1) = 777600000 by decide] at this
      exact this
    have hr1:Rw H2 a ns:=⟨s1.get hr_.1,hr_.2⟩
    obtain ⟨x,X1,x0,x1⟩:=rw_at hr1 h0 (by omega)
    obtain ⟨y,Y1,y0,y1⟩:=rw_at hr1 (show 0≤i + 5 by omega) (by omega)
    generalize ms.foldl (fun z x=>60 * z + x) 0 = n at b b1
    refine ⟨_,rfl,_,rfl,_,rfl,a,_,_,_,rfl,rfl,SqL.of hr1.1,X1,small (by show 5≤1000000; decide),fun p2 hp2=>?_⟩
    have s2:=same_new hp2 (.lst [V.int n,V.int x,V.int 0,V.int 999999999,V.int 100000000])
    obtain ⟨m,hm,m0,m1⟩:∃ m,atI [V.int n,V.int x,V.int 0,V.int 999999999,V.int 100000000] (y % 5) = some (.int m)∧0≤m∧m≤999999999:=by
      have r0:=Int.emod_nonneg y (show (5:Int)≠0 by decide)
      have r1:=Int.emod_lt_of_pos y (show (0:Int) < 5 by decide)
      generalize y % 5 = r at r0 r1
      have:r = 0∨r = 1∨r = 2∨r = 3∨r = 4:=by omega
      rcases this with rfl | rfl | rfl | rfl | rfl
      · exact ⟨n,rfl,b.1,by omega⟩
      · exact ⟨x,rfl,x0,by omega⟩
      · exact ⟨0,rfl,by decide,by decide⟩
      · exact ⟨999999999,rfl,by decide,by decide⟩
      · exact ⟨100000000,rfl,by decide,by decide⟩
    exact ⟨_,rfl,_,rfl,_,_,rfl,rfl,a,_,_,_,rfl,rfl,SqL.of (s2.get hr1.1),Y1,_,_,rfl,rfl,(by show (0:Int) < 5; decide),p2,_,_,_,rfl,rfl,SqL.of upd_same,hm,q m _ (s1.trans s2) m0 m1⟩
abbrev TS:Str:=PySem.Str.ofString "  abcdefghijklmnopqrstuvwxyz0123456789!#&*+,-./:;<=>?\x40[]^_{|}~ABCXYZ"
theorem ts_sg:∀ c∈cod TS,c∈cod SG:=by decide +kernel
theorem ts_len:(TS.length:Int) = 68:=by decide +kernel
def txP (z:Str):Prop:=z.length≤400∧sgn z
def sp__law_text (K:PySem.W.Frag):Sp:=fun vs H Q _=>∃ (a:Addr) (ns:List Int) (i:Int),vs = [.ref a,.int i]∧Rw H a ns∧0≤i∧i < 36∧∀ z H',Same H H'→txP z→Q (.str z) H'
theorem ok__law_text (T:Txt w K mg XC) (F:Fun K "_law_text" "_law_text" s__law_text f fd):FnOk P w K mg base CX0 1 f fd ["_law_row_here","_law_at"] (sp__law_text K):=by
  refine F.ok sc__law_text (fun vs H Q E h=>?_) (fun cdv A outer s H vs Q E hr h=>?_)
  · obtain ⟨a,ns,i,rfl,_⟩:=h
    rfl
  obtain ⟨a,ns,i,rfl,hr_,h0,h1,q⟩:=h
  refine ⟨_,(@pss_cons _ _ _ _ _ (@ps_set _ _ (2) _ _ _ _ sc__law_text.nd rfl (by first | exact Or.inl rfl | exact Or.inr rfl) (@pe_str _ _ _ _) (by rfl) (by first | exact .inl rfl | exact .inr rfl | assumption)) (@pss_cons _ _ _ _ _ (@ps_set _ _ (3) _ _ _ _ sc__law_text.nd rfl (by first | exact Or.inl rfl | exact Or.inr rfl) (@pe_ix _ _ _ _ _ _ _ ix_list (@pe_lst _ _ _ _ (@pa_cons _ _ _ _ _ (@pe_op _ _ _ _ _ _ _ _ op_mod (@pe_ix _ _ _ _ _ _ _ ix_list (pv 0) (pv 1) (fun _ _=>rfl)) (@pe_int _ _ _ _)) (@pa_cons _ _ _ _ _ (@pe_ix _ _ _ _ _ _ _ ix_list (pv 0) (pv 1) (fun _ _=>rfl)) (@pa_cons _ _ _ _ _ (@pe_int _ _ _ _) (@pa_nil _) (by rfl)) (by rfl)) (by rfl))) (@pe_op _ _ _ _ _ _ _ _ op_fdiv (@pe_op _ _ _ _ _ _ _ _ op_mod (@pe_ix _ _ _ _ _ _ _ ix_list (pv 0) (@pe_op _ _ _ _ _ _ _ _ op_add (pv 1) (@pe_int _ _ _ _)) (fun _ _=>rfl)) (@pe_int _ _ _ _)) (@pe_int _ _ _ _)) (fun _ _=>rfl)) (by rfl) (by first | exact .inl rfl | exact .inr rfl | assumption)) (@pss_one _ _ _ (@ps_ret _ _ _ _ (@pe_bm _ _ _ _ _ _ _ _ _ _ _ _ PySem.F.plainAttrs_str PySem.F.slot_str_join PySem.F.type_str_join (mt_join rfl) (@pe_str _ _ _ _) (@pa_cons _ _ _ _ _ (@pe_comp _ ["_law_k","_law_signs","_law_row_here","_law_at"] [none,some 2,some 0,some 1] _ _ _ _ _ _ _ _ _ _ _ rfl (@pi_range1 _ _ _ _ _ _ rfl T.b_range (@pa_cons _ _ _ _ _ (pv 3) (@pa_nil _) (by rfl)) (by rfl)) (by rfl) rfl (by repeat (first | exact trivial | refine ⟨rfl,?_⟩)) (by repeat (first | exact trivial | refine ⟨fun h=>(by first | exact ⟨_,rfl⟩ | cases h),?_⟩)) (fun C s H fp=>⟨(@pg_name _ _ (0) _ (show (["_law_k","_law_signs","_law_row_here","_law_at"]:List Str).Nodup by decide +kernel) rfl (by first | exact Or.inl rfl | exact Or.inr rfl) (by first | exact .inl rfl | exact .inr rfl | assumption)),(@pifs_nil _),(@pe_ix _ _ _ _ _ _ _ ix_str (pv 1) (@pe_op _ _ _ _ _ _ _ _ op_mod (@pe_op _ _ _ _ _ _ _ _ op_add (@pe_ix _ _ _ _ _ _ _ (ix_listK (K:=K) (by rfl)) (pv 2) (@pe_op _ _ _ _ _ _ _ _ op_add (pv 3) (@pe_int _ _ _ _)) (fun _ _=>rfl)) (@pe_op _ _ _ _ _ _ _ _ op_mul (pv 0) (@pe_ix _ _ _ _ _ _ _ (ix_listK (K:=K) (by rfl)) (pv 2) (@pe_op _ _ _ _ _ _ _ _ op_add (pv 3) (@pe_int _ _ _ _)) (fun _ _=>rfl)))) (@pe_callB _ _ _ _ _ _ _ _ _ call_len_str (by rfl) T.b_len bt_len (@pa_cons _ _ _ _ _ (pv 1) (@pa_nil _) (by rfl)) (by decide) (by decide) (by rfl) (by rfl))) (fun _ _=>rfl))⟩) (by intro _; rfl)) (@pa_nil _) (by rfl)) (by rfl) (by rfl) (by rfl) (by rfl) (by rfl)))))),?_⟩
  try dsimp only [cxOf,Cx.nox,Cx.wish]
  obtain ⟨x,X1,x0,x1⟩:=rw_at hr_ h0 (by omega)
  obtain ⟨y,Y1,y0,y1⟩:=rw_at hr_ (show 0≤i + 1 by omega) (by omega)
  refine ⟨_,rfl,_,rfl,a,_,_,_,rfl,rfl,SqL.of hr_.1,X1,_,_,rfl,rfl,(by show (0:Int) < 4; decide),_,rfl,_,rfl,a,_,_,_,rfl,rfl,SqL.of hr_.1,X1,small (by show 3≤1000000; decide),fun p hp=>?_⟩
  have s1:=same_new hp (.lst [V.int (x % 4),V.int x,V.int 400])
  obtain ⟨m,hm,m0,m1⟩:∃ m,atI [V.int (x % 4),V.int x,V.int 400] (y % 5 / 2) = some (.int m)∧0≤m∧m≤400:=by
    have r0:=Int.emod_nonneg y (show (5:Int)≠0 by decide)
    have r1:=Int.emod_lt_of_pos y (show (0:Int) < 5 by decide)
    have t0:=Int.emod_nonneg x (show (4:Int)≠0 by decide)
    have t1:=Int.emod_lt_of_pos x (show (0:Int) < 4 by decide)
    generalize y % 5 = r at r0 r1
    have:r / 2 = 0∨r / 2 = 1∨r / 2 = 2:=by omega
    rcases this with e | e | e
    · exact ⟨x % 4,by rw [e]; rfl,t0,by omega⟩
    · exact ⟨x,by rw [e]; rfl,x0,by omega⟩
    · exact ⟨400,by rw [e]; rfl,by decide,by decide⟩
  refine ⟨_,rfl,_,rfl,_,_,rfl,rfl,a,_,_,_,rfl,rfl,SqL.of (s1.get hr_.1),Y1,_,_,rfl,rfl,(by show (0:Int) < 5; decide),_,_,rfl,rfl,⟨by decide,by decide⟩,p,_,_,_,rfl,rfl,SqL.of upd_same,hm,?_⟩
  dsimp only
  generalize upd H p (.lst [V.int (x % 4),V.int x,V.int 400]) = H1 at s1
  have hr1:Rw H1 a ns:=⟨s1.get hr_.1,hr_.2⟩
  refine ⟨rfl,_,rfl,m,rfl,by omega,by omega,?_⟩
  refine comp_rel (xs:=(List.range m.toNat).map fun (i:Nat)=>V.int (0 + (i:Int))) (fun _ y _=>∃ c,y = .str ⟨#[c]⟩∧c∈cod TS) (fun _ _ _ _ h _=>h) (fun _ _ _ _ _ _ h _ _=>h) itIs_range (by rw [List.length_map,List.length_range]; omega) (fun v H' R hv s' hR=>?_) fun l H2 ys n2 s2 h2 l2 hy=>?_
  · obtain ⟨k,hk,rfl⟩:=List.mem_map.mp hv
    have hk':=List.mem_range.mp hk
    have hr3:Rw H' a ns:=⟨s'.get hr1.1,hr1.2⟩
    obtain ⟨u,U1,u0,u1⟩:=rw_at hr3 (show 0≤i + 2 by omega) (by omega)
    obtain ⟨t,T1,t0,t1⟩:=rw_at hr3 (show 0≤i + 3 by omega) (by omega)
    obtain ⟨c,hc,mc⟩:=at_cod (z:=TS) (i:=(u + (0 + (k:Int)) * t) % (TS.length:Int)) (Int.emod_nonneg _ (by rw [ts_len]; decide)) (by rw [cod_len]; exact Int.emod_lt_of_pos _ (by rw [ts_len]; decide))
    refine ⟨_,rfl,_,rfl,_,rfl,_,_,rfl,rfl,a,_,_,_,rfl,rfl,SqL.of hr3.1,U1,_,rfl,_,rfl,_,rfl,_,_,rfl,rfl,a,_,_,_,rfl,rfl,SqL.of hr3.1,T1,_,_,rfl,rfl,.inl ⟨by omega,by omega⟩,_,_,rfl,rfl,_,rfl,TS,rfl,small (by decide +kernel),_,_,rfl,rfl,(by show (0:Int) < (TS.length:Int); rw [ts_len]; decide),TS,_,c,rfl,rfl,small (by decide +kernel),hc,?_⟩
    exact hR (.str ⟨#[c]⟩) H' (Same.refl _) (fun _ z=>by cases z) ⟨c,rfl,mc⟩
  obtain ⟨cs,rfl,hcs⟩:=signs_of ys fun y hm=>by
    obtain ⟨i,hi⟩:=List.getElem?_of_mem hm
    have il:=(List.getElem?_eq_some_iff.mp hi).1
    exact (hy i _ y (List.getElem?_eq_getElem (by omega)) hi).1
  have lcs:cs.length = m.toNat:=by
    rw [List.length_map,List.length_map,List.length_map,List.length_range] at l2
    exact l2
  have wl:(cod (PySem.Txt.join EM (cs.map fun c=>(⟨#[c]⟩:Str)))) = cs:=cod_signs cs
  refine ⟨l,EM,cs.map fun c=>(⟨#[c]⟩:Str),rfl,rfl,SqL.of h2,?_,q _ H2 (s1.trans s2) ⟨by rw [← cod_len,wl]; omega,fun c hc=>by rw [wl] at hc; exact ts_sg c (hcs c hc)⟩⟩
  have e:((cs.map fun c=>(⟨#[c]⟩:Str)).map (·.length)).sum = cs.length:=by
    rw [List.map_map]
    have:((fun z:Str=>z.length)∘fun c=>(⟨#[c]⟩:Str)) = fun _:Nat=>1:=rfl
    rw [this]
    clear this hcs h2 hy l2 wl lcs
    induction cs with
    | nil=>rfl
    | cons c cs ih=>rw [List.map_cons,List.sum_cons,ih,List.length_cons]; omega
  rw [e,List.length_map,lcs,show EM.length = 0 by decide +kernel]
  omega
end
abbrev W0:Str:=PySem.Str.ofString "keeper"
abbrev W1:Str:=PySem.Str.ofString "stem"
abbrev W2:Str:=PySem.Str.ofString "folder"
abbrev W3:Str:=PySem.Str.ofString "write"
abbrev W4:Str:=PySem.Str.ofString "splice"
abbrev W5:Str:=PySem.Str.ofString "remove"
abbrev W6:Str:=PySem.Str.ofString "move"
abbrev W7:Str:=PySem.Str.ofString "copy"
abbrev W8:Str:=PySem.Str.ofString "seal"
abbrev W9:Str:=PySem.Str.ofString "grow"
abbrev W10:Str:=PySem.Str.ofString "back"
abbrev W11:Str:=PySem.Str.ofString "graft"
abbrev W12:Str:=PySem.Str.ofString "drop"
def WS12:List Str:=[W0,W1,W2,W3,W4,W5,W6,W7,W8,W9,W10,W11]
theorem ln_no:(32 ∉ cod LN)∧(46 ∉ cod LN)∧∀ c∈cod LN,c∈cod SG:=by decide +kernel
theorem pk_w {z:Str} (h:nmP z):POk KW (.str z):=.wd h.1 (fun q=>ln_no.1 (h.2.2 _ q)) (fun c hc=>ln_no.2.2 c (h.2.2 c hc)) (by have:=h.2.1; omega)
theorem pk_p {z:Str} (h:paP z):POk KP (.str z):=.pa (fun q=>by
    rcases h.2 _ q with h | h
    · exact ln_no.1 h
    · cases h) (fun e=>by
    have m:46∈cod z:=by rw [e]; decide +kernel
    rcases h.2 _ m with h | h
    · exact ln_no.2.1 h
    · cases h) (fun c hc=>by
    rcases h.2 c hc with h | rfl
    · exact ln_no.2.2 c h
    · decide +kernel) (by have:=h.1; omega)
theorem pk_t {z:Str} (h:txP z):POk KX (.str z):=.tx h.2 (by have:=h.1; omega)
section
variable {P:Program} {w:World} {K:PySem.W.Frag} {mg:Str→Option Value} {base:Heap} {f:Addr} {XC:Nat→Addr} {fd:FuncData}
def sp__law_deed (K:PySem.W.Frag):Sp:=fun vs H Q _=>∃ (c:Int) (b:Addr) (zs:List Str),vs = [.int c,.ref b]∧Nms H b zs∧∀ l H' dw ks ps,Same H H'→H l = none→H' l = some (.tup (.str dw :: ps))→DOk dw ks ps→Q (.ref l) H'
theorem ok__law_deed (T:Txt w K mg XC) (F:Fun K "_law_deed" "_law_deed" s__law_deed f fd) (D__law_row:Def P w K mg base 1 "_law_row" ["_law_cell","_law_many"] (sp__law_row K)) (D__law_word:Def P w K mg base 1 "_law_word" ["_law_row_here","_law_at","_law_names_here"] (sp__law_word K)) (D__law_path:Def P w K mg base 1 "_law_path" ["_law_row_here","_law_at","_law_names_here"] (sp__law_path K)) (D__law_number:Def P w K mg base 1 "_law_number" ["_law_row_here","_law_at"] (sp__law_number K)) (D__law_text:Def P w K mg base 1 "_law_text" ["_law_row_here","_law_at"] (sp__law_text K)):FnOk P w K mg base CX0 2 f fd ["_law_cell","_law_names_here"] (sp__law_deed K):=by
  refine F.ok sc__law_deed (fun vs H Q E h=>?_) (fun cdv A outer s H vs Q E hr h=>?_)
  · obtain ⟨c,b,zs,rfl,_⟩:=h
    rfl
  obtain ⟨c,b,zs,rfl,hn,q⟩:=h
  refine ⟨_,(@pss_cons _ _ _ _ _ (@ps_set _ _ (2) _ _ _ _ sc__law_deed.nd rfl (by first | exact Or.inl rfl | exact Or.inr rfl) (@pe_fn _ _ _ _ _ _ _ _ _ _ D__law_row (hr.mono (by decide)) rfl (@pa_cons _ _ _ _ _ (pv 0) (@pa_cons _ _ _ _ _ (@pe_int _ _ _ _) (@pa_nil _) (by rfl)) (by rfl)) (by decide) (by rfl) (by rfl)) (by rfl) (by first | exact .inl rfl | exact .inr rfl | assumption)) (@pss_cons _ _ _ _ _ (@ps_set _ _ (3) _ _ _ _ sc__law_deed.nd rfl (by first | exact Or.inl rfl | exact Or.inr rfl) (@pe_lst _ _ _ _ (@pa_cons _ _ _ _ _ (@pe_str _ _ _ _) (@pa_cons _ _ _ _ _ (@pe_str _ _ _ _) (@pa_cons _ _ _ _ _ (@pe_str _ _ _ _) (@pa_cons _ _ _ _ _ (@pe_str _ _ _ _) (@pa_cons _ _ _ _ _ (@pe_str _ _ _ _) (@pa_cons _ _ _ _ _ (@pe_str _ _ _ _) (@pa_cons _ _ _ _ _ (@pe_str _ _ _ _) (@pa_cons _ _ _ _ _ (@pe_str _ _ _ _) (@pa_cons _ _ _ _ _ (@pe_str _ _ _ _) (@pa_cons _ _ _ _ _ (@pe_str _ _ _ _) (@pa_cons _ _ _ _ _ (@pe_str _ _ _ _) (@pa_cons _ _ _ _ _ (@pe_str _ _ _ _) (@pa_nil _) (by rfl)) (by rfl)) (by rfl)) (by rfl)) (by rfl)) (by rfl)) (by rfl)) (by rfl)) (by rfl)) (by rfl)) (by rfl)) (by rfl))) (by rfl) (by first | exact .inl rfl | exact .inr rfl | assumption)) (@pss_cons _ _ _ _ _ (@ps_expr _ _ _ _ (@pe_bm _ _ _ _ _ _ _ _ _ _ _ _ PySem.F.plainAttrs_list PySem.F.slot_list_append PySem.F.type_list_append mt_append (pv 3) (@pa_cons _ _ _ _ _ (@pe_str _ _ _ _) (@pa_nil _) (by rfl)) (by rfl) (by rfl) (by rfl) (by rfl) (by rfl)) (by rfl)) (@pss_cons _ _ _ _ _ (@ps_set _ _ (4) _ _ _ _ sc__law_deed.nd rfl (by first | exact Or.inl rfl | exact Or.inr rfl) (@pe_ix _ _ _ _ _ _ _ ix_list (pv 3) (@pe_op _ _ _ _ _ _ _ _ op_mod (@pe_ix _ _ _ _ _ _ _ ix_list (pv 2) (@pe_int _ _ _ _) (fun _ _=>rfl)) (@pe_int _ _ _ _)) (fun _ _=>rfl)) (by rfl) (by first | exact .inl rfl | exact .inr rfl | assumption)) (@pss_cons _ _ _ _ _ (@ps_set _ _ (5) _ _ _ _ sc__law_deed.nd rfl (by first | exact Or.inl rfl | exact Or.inr rfl) (@pe_fn _ _ _ _ _ _ _ _ _ _ D__law_word (hr.mono (by decide)) rfl (@pa_cons _ _ _ _ _ (pv 2) (@pa_cons _ _ _ _ _ (@pe_int _ _ _ _) (@pa_cons _ _ _ _ _ (pv 1) (@pa_nil _) (by rfl)) (by rfl)) (by rfl)) (by decide) (by rfl) (by rfl)) (by rfl) (by first | exact .inl rfl | exact .inr rfl | assumption)) (@pss_cons _ _ _ _ _ (@ps_set _ _ (6) _ _ _ _ sc__law_deed.nd rfl (by first | exact Or.inl rfl | exact Or.inr rfl) (@pe_fn _ _ _ _ _ _ _ _ _ _ D__law_path (hr.mono (by decide)) rfl (@pa_cons _ _ _ _ _ (pv 2) (@pa_cons _ _ _ _ _ (@pe_int _ _ _ _) (@pa_cons _ _ _ _ _ (pv 1) (@pa_nil _) (by rfl)) (by rfl)) (by rfl)) (by decide) (by rfl) (by rfl)) (by rfl) (by first | exact .inl rfl | exact .inr rfl | assumption)) (@pss_cons _ _ _ _ _ (@ps_set _ _ (7) _ _ _ _ sc__law_deed.nd rfl (by first | exact Or.inl rfl | exact Or.inr rfl) (@pe_fn _ _ _ _ _ _ _ _ _ _ D__law_path (hr.mono (by decide)) rfl (@pa_cons _ _ _ _ _ (pv 2) (@pa_cons _ _ _ _ _ (@pe_int _ _ _ _) (@pa_cons _ _ _ _ _ (pv 1) (@pa_nil _) (by rfl)) (by rfl)) (by rfl)) (by decide) (by rfl) (by rfl)) (by rfl) (by first | exact .inl rfl | exact .inr rfl | assumption)) (@pss_cons _ _ _ _ _ (@ps_set _ _ (8) _ _ _ _ sc__law_deed.nd rfl (by first | exact Or.inl rfl | exact Or.inr rfl) (@pe_fn _ _ _ _ _ _ _ _ _ _ D__law_word (hr.mono (by decide)) rfl (@pa_cons _ _ _ _ _ (pv 2) (@pa_cons _ _ _ _ _ (@pe_int _ _ _ _) (@pa_cons _ _ _ _ _ (pv 1) (@pa_nil _) (by rfl)) (by rfl)) (by rfl)) (by decide) (by rfl) (by rfl)) (by rfl) (by first | exact .inl rfl | exact .inr rfl | assumption)) (@pss_cons _ _ _ _ _ (@ps_if _ _ _ _ _ _ _ _ (@pt_cmpR _ _ _ _ _ _ _ _ op_eq (pv 4) (@pe_str _ _ _ _) (nomark _)) (@pss_one _ _ _ (@ps_ret _ _ _ _ (@pe_tup _ _ _ _ _ (@pa_cons _ _ _ _ _ (pv 4) (@pa_cons _ _ _ _ _ (pv 5) (@pa_cons _ _ _ _ _ (@pe_fn _ _ _ _ _ _ _ _ _ _ D__law_number (hr.mono (by decide)) rfl (@pa_cons _ _ _ _ _ (pv 2) (@pa_cons _ _ _ _ _ (@pe_int _ _ _ _) (@pa_nil _) (by rfl)) (by rfl)) (by decide) (by rfl) (by rfl)) (@pa_nil _) (by rfl)) (by rfl)) (by rfl))))) (@pss_nil _)) (@pss_cons _ _ _ _ _ (@ps_if _ _ _ _ _ _ _ _ (@pt_cmpR _ _ _ _ _ _ _ _ op_in_seq (pv 4) (@pe_lst _ _ _ _ (@pa_cons _ _ _ _ _ (@pe_str _ _ _ _) (@pa_cons _ _ _ _ _ (@pe_str _ _ _ _) (@pa_nil _) (by rfl)) (by rfl))) rfl) (@pss_one _ _ _ (@ps_ret _ _ _ _ (@pe_tup _ _ _ _ _ (@pa_cons _ _ _ _ _ (pv 4) (@pa_cons _ _ _ _ _ (pv 5) (@pa_cons _ _ _ _ _ (pv 8) (@pa_nil _) (by rfl)) (by rfl)) (by rfl))))) (@pss_nil _)) (@pss_cons _ _ _ _ _ (@ps_if _ _ _ _ _ _ _ _ (@pt_cmpR _ _ _ _ _ _ _ _ op_in_seq (pv 4) (@pe_lst _ _ _ _ (@pa_cons _ _ _ _ _ (@pe_str _ _ _ _) (@pa_cons _ _ _ _ _ (@pe_str _ _ _ _) (@pa_nil _) (by rfl)) (by rfl))) rfl) (@pss_one _ _ _ (@ps_ret _ _ _ _ (@pe_tup _ _ _ _ _ (@pa_cons _ _ _ _ _ (pv 4) (@pa_cons _ _ _ _ _ (pv 5) (@pa_cons _ _ _ _ _ (pv 6) (@pa_nil _) (by rfl)) (by rfl)) (by rfl))))) (@pss_nil _)) (@pss_cons _ _ _ _ _ (@ps_if _ _ _ _ _ _ _ _ (@pt_cmpR _ _ _ _ _ _ _ _ op_eq (pv 4) (@pe_str _ _ _ _) (nomark _)) (@pss_one _ _ _ (@ps_ret _ _ _ _ (@pe_tup _ _ _ _ _ (@pa_cons _ _ _ _ _ (pv 4) (@pa_cons _ _ _ _ _ (pv 5) (@pa_cons _ _ _ _ _ (pv 6) (@pa_cons _ _ _ _ _ (@pe_fn _ _ _ _ _ _ _ _ _ _ D__law_text (hr.mono (by decide)) rfl (@pa_cons _ _ _ _ _ (pv 2) (@pa_cons _ _ _ _ _ (@pe_int _ _ _ _) (@pa_nil _) (by rfl)) (by rfl)) (by decide) (by rfl) (by rfl)) (@pa_nil _) (by rfl)) (by rfl)) (by rfl)) (by rfl))))) (@pss_nil _)) (@pss_cons _ _ _ _ _ (@ps_if _ _ _ _ _ _ _ _ (@pt_cmpR _ _ _ _ _ _ _ _ op_eq (pv 4) (@pe_str _ _ _ _) (nomark _)) (@pss_one _ _ _ (@ps_ret _ _ _ _ (@pe_tup _ _ _ _ _ (@pa_cons _ _ _ _ _ (pv 4) (@pa_cons _ _ _ _ _ (pv 5) (@pa_cons _ _ _ _ _ (pv 6) (@pa_cons _ _ _ _ _ (@pe_fn _ _ _ _ _ _ _ _ _ _ D__law_number (hr.mono (by decide)) rfl (@pa_cons _ _ _ _ _ (pv 2) (@pa_cons _ _ _ _ _ (@pe_int _ _ _ _) (@pa_nil _) (by rfl)) (by rfl)) (by decide) (by rfl) (by rfl)) (@pa_cons _ _ _ _ _ (@pe_fn _ _ _ _ _ _ _ _ _ _ D__law_number (hr.mono (by decide)) rfl (@pa_cons _ _ _ _ _ (pv 2) (@pa_cons _ _ _ _ _ (@pe_int _ _ _ _) (@pa_nil _) (by rfl)) (by rfl)) (by decide) (by rfl) (by rfl)) (@pa_cons _ _ _ _ _ (@pe_fn _ _ _ _ _ _ _ _ _ _ D__law_text (hr.mono (by decide)) rfl (@pa_cons _ _ _ _ _ (pv 2) (@pa_cons _ _ _ _ _ (@pe_int _ _ _ _) (@pa_nil _) (by rfl)) (by rfl)) (by decide) (by rfl) (by rfl)) (@pa_nil _) (by rfl)) (by rfl)) (by rfl)) (by rfl)) (by rfl)) (by rfl))))) (@pss_nil _)) (@pss_cons _ _ _ _ _ (@ps_if _ _ _ _ _ _ _ _ (@pt_cmpR _ _ _ _ _ _ _ _ op_eq (pv 4) (@pe_str _ _ _ _) (nomark _)) (@pss_one _ _ _ (@ps_ret _ _ _ _ (@pe_tup _ _ _ _ _ (@pa_cons _ _ _ _ _ (pv 4) (@pa_cons _ _ _ _ _ (pv 5) (@pa_cons _ _ _ _ _ (pv 6) (@pa_cons _ _ _ _ _ (pv 7) (@pa_nil _) (by rfl)) (by rfl)) (by rfl)) (by rfl))))) (@pss_nil _)) (@pss_cons _ _ _ _ _ (@ps_if _ _ _ _ _ _ _ _ (@pt_cmpR _ _ _ _ _ _ _ _ op_eq (pv 4) (@pe_str _ _ _ _) (nomark _)) (@pss_one _ _ _ (@ps_ret _ _ _ _ (@pe_tup _ _ _ _ _ (@pa_cons _ _ _ _ _ (pv 4) (@pa_cons _ _ _ _ _ (pv 5) (@pa_cons _ _ _ _ _ (pv 7) (@pa_cons _ _ _ _ _ (pv 8) (@pa_cons _ _ _ _ _ (pv 6) (@pa_nil _) (by rfl)) (by rfl)) (by rfl)) (by rfl)) (by rfl))))) (@pss_nil _)) (@pss_cons _ _ _ _ _ (@ps_if _ _ _ _ _ _ _ _ (@pt_cmpR _ _ _ _ _ _ _ _ op_eq (pv 4) (@pe_str _ _ _ _) (nomark _)) (@pss_one _ _ _ (@ps_ret _ _ _ _ (@pe_tup _ _ _ _ _ (@pa_cons _ _ _ _ _ (pv 4) (@pa_cons _ _ _ _ _ (pv 5) (@pa_cons _ _ _ _ _ (pv 8) (@pa_cons _ _ _ _ _ (@pe_fn _ _ _ _ _ _ _ _ _ _ D__law_word (hr.mono (by decide)) rfl (@pa_cons _ _ _ _ _ (pv 2) (@pa_cons _ _ _ _ _ (@pe_int _ _ _ _) (@pa_cons _ _ _ _ _ (pv 1) (@pa_nil _) (by rfl)) (by rfl)) (by rfl)) (by decide) (by rfl) (by rfl)) (@pa_nil _) (by rfl)) (by rfl)) (by rfl)) (by rfl))))) (@pss_nil _)) (@pss_one _ _ _ (@ps_ret _ _ _ _ (@pe_tup _ _ _ _ _ (@pa_cons _ _ _ _ _ (pv 4) (@pa_cons _ _ _ _ _ (pv 5) (@pa_nil _) (by rfl)) (by rfl))))))))))))))))))))),?_⟩
  try dsimp only [cxOf,Cx.nox,Cx.wish]
  refine ⟨_,rfl,c,40,rfl,by decide,by decide,fun r H1 ns s1 n1 h1 l1 b1=>?_⟩
  have hr1:Rw H1 r ns:=⟨h1,by rw [l1]; rfl,b1⟩
  refine ⟨small (by show 12≤1000000; decide),fun p hp=>?_⟩
  have s2:=same_new hp (.lst (WS12.map V.str))
  have hp2:(upd H1 p (.lst (WS12.map V.str))) p = some (.lst (WS12.map V.str)):=upd_same
  change gName _ _ _ (upd H1 p (.lst (WS12.map V.str))) _
  generalize upd H1 p (.lst (WS12.map V.str)) = H2 at s2 hp2
  obtain ⟨x,X1,x0,x1⟩:=rw_at hr1 (show (0:Int)≤0 by decide) (by decide)
  have npr:p≠r:=fun e=>by rw [e,h1] at hp; cases hp
  have hpH:H p = none:=s1.free hp
  refine ⟨_,rfl,.inl ⟨rfl,_,SqL.of hp2⟩,p,_,_,rfl,rfl,hp2,smallLt (by decide),?_⟩
  obtain ⟨dw,hdw,mdw⟩:∃ dw,atI (WS12.map V.str ++ [V.str W12]) (x % 13) = some (.str dw)∧dw∈WS12 ++ [W12]:=by
    have r0:=Int.emod_nonneg x (show (13:Int)≠0 by decide)
    have r1:=Int.emod_lt_of_pos x (show (0:Int) < 13 by decide)
    generalize x % 13 = y at r0 r1
    have hk:y.toNat < (WS12 ++ [W12]).length:=by show y.toNat < 13; omega
    refine ⟨(WS12 ++ [W12])[y.toNat],?_,List.getElem_mem hk⟩
    have:=atI_nat (xs:=(WS12 ++ [W12]).map V.str) (j:=y.toNat) (v:=.str (WS12 ++ [W12])[y.toNat]) (by rw [List.getElem?_map,List.getElem?_eq_getElem hk]; rfl)
    rw [show ((y.toNat:Nat):Int) = y by omega] at this
    exact this
  have s3:Same H (upd H2 p (.lst (WS12.map V.str ++ [V.str W12]))):=same_upd (s1.trans s2) hpH _
  have hp3:(upd H2 p (.lst (WS12.map V.str ++ [V.str W12]))) p = some (.lst (WS12.map V.str ++ [V.str W12])):=upd_same
  have hr3:Rw (upd H2 p (.lst (WS12.map V.str ++ [V.str W12]))) r ns:=⟨by rw [upd_ne (Ne.symm npr)]; exact s2.get h1,hr1.2⟩
  change tSeq _ _ _ _ (upd H2 p (.lst (WS12.map V.str ++ [V.str W12])))
  generalize upd H2 p (.lst (WS12.map V.str ++ [V.str W12])) = H3 at s3 hp3 hr3
  have hn3:Nms H3 b zs:=⟨s3.get hn.1,hn.2⟩
  refine ⟨_,rfl,_,rfl,r,_,_,_,rfl,rfl,SqL.of hr3.1,X1,_,_,rfl,rfl,(by show (0:Int) < 13; decide),p,_,_,_,rfl,rfl,SqL.of hp3,hdw,?_⟩
  refine ⟨_,rfl,_,rfl,r,b,ns,zs,1,rfl,hr3,hn3,by decide,by decide,fun one on=>?_⟩
  refine ⟨_,rfl,_,rfl,r,b,ns,zs,3,rfl,hr3,hn3,by decide,by decide,fun pa H4 s4 pn=>?_⟩
  have hr4:Rw H4 r ns:=⟨s4.get hr3.1,hr3.2⟩
  have hn4:Nms H4 b zs:=⟨s4.get hn3.1,hn.2⟩
  refine ⟨_,rfl,_,rfl,r,b,ns,zs,6,rfl,hr4,hn4,by decide,by decide,fun to_ H5 s5 tn=>?_⟩
  have hr5:Rw H5 r ns:=⟨s5.get hr4.1,hr3.2⟩
  have hn5:Nms H5 b zs:=⟨s5.get hn4.1,hn.2⟩
  refine ⟨_,rfl,_,rfl,r,b,ns,zs,9,rfl,hr5,hn5,by decide,by decide,fun ot otn=>?_⟩
  have s5':Same H H5:=(s3.trans s4).trans s5
  clear s1 s2 s3 s4 s5 hp2 hp3 hr1 h1 hn3 hn4 hr3 hr4
  have fin:∀ (H':Hp) (l:Addr) (dw:Str) (ks:List Str) (ps:List V),Same H H'→H' l = none→DOk dw ks ps→Q (.ref l) (upd H' l (.tup (.str dw :: ps))):=fun H' l dw ks ps s' hl hd=>q l _ dw ks ps (s'.trans (same_new hl _)) (s'.free hl) upd_same hd
  refine ⟨_,rfl,rfl,_,rfl,ite2 (fun c1=>?_) (fun c1=>?_)⟩
  · have e:dw = W0:=V.str.inj (dec_true c1)
    subst e
    refine ⟨_,rfl,_,rfl,_,rfl,r,ns,11,rfl,hr5,by decide,by decide,fun n H6 s6 n0 n1=>⟨small (by show 3≤1000000; decide),fun l hl=>?_⟩⟩
    exact fin H6 l W0 [KW,KN] [.str one,.int n] (s5'.trans s6) hl ⟨by decide +kernel,.cons (pk_w on) (.cons (.nm n0 n1) .nil)⟩
  have k0:dw≠W0:=fun e=>dec_false c1 (by rw [e])
  refine ⟨_,rfl,small (by show 2≤1000000; decide),fun p1 hp1=>?_⟩
  have t1:=same_new hp1 (.lst [V.str W1,V.str W8])
  refine ⟨p1,[V.str W1,V.str W8],rfl,.inl (SqL.of upd_same),rfl,rfl,_,rfl,?_⟩
  have i1:inV (.str dw) [V.str W1,V.str W8] = decide (dw∈[W1,W8]):=inV_str dw [W1,W8]
  rw [if_neg Bool.false_ne_true,i1]
  dsimp only
  generalize upd H5 p1 (.lst [V.str W1,V.str W8]) = H6 at t1 ⊢
  have hr6:Rw H6 r ns:=⟨t1.get hr5.1,hr5.2⟩
  have hn6:Nms H6 b zs:=⟨t1.get hn5.1,hn.2⟩
  have s6:=s5'.trans t1
  refine ite2 (fun c2=>?_) (fun c2=>?_)
  · refine ⟨_,rfl,_,rfl,_,rfl,small (by show 3≤1000000; decide),fun l hl=>?_⟩
    have e:dw = W1∨dw = W8:=by simpa using of_decide_eq_true c2
    refine fin H6 l dw [KW,KW] [.str one,.str ot] s6 hl ⟨?_,.cons (pk_w on) (.cons (pk_w otn) .nil)⟩
    rcases e with rfl | rfl
    · decide +kernel
    · decide +kernel
  have k1:dw ∉ [W1,W8]:=of_decide_eq_false (Bool.eq_false_iff.mpr c2)
  refine ⟨_,rfl,small (by show 2≤1000000; decide),fun p2 hp2=>?_⟩
  have t2:=same_new hp2 (.lst [V.str W2,V.str W5])
  refine ⟨p2,[V.str W2,V.str W5],rfl,.inl (SqL.of upd_same),rfl,rfl,_,rfl,?_⟩
  have i2:inV (.str dw) [V.str W2,V.str W5] = decide (dw∈[W2,W5]):=inV_str dw [W2,W5]
  rw [if_neg Bool.false_ne_true,i2]
  dsimp only
  generalize upd H6 p2 (.lst [V.str W2,V.str W5]) = H7 at t2 ⊢
  have hr7:Rw H7 r ns:=⟨t2.get hr6.1,hr5.2⟩
  have hn7:Nms H7 b zs:=⟨t2.get hn6.1,hn.2⟩
  have s7:=s6.trans t2
  refine ite2 (fun c2=>?_) (fun c2=>?_)
  · refine ⟨_,rfl,_,rfl,_,rfl,small (by show 3≤1000000; decide),fun l hl=>?_⟩
    have e:dw = W2∨dw = W5:=by simpa using of_decide_eq_true c2
    refine fin H7 l dw [KW,KP] [.str one,.str pa] s7 hl ⟨?_,.cons (pk_w on) (.cons (pk_p pn) .nil)⟩
    rcases e with rfl | rfl
    · decide +kernel
    · decide +kernel
  have k2:dw ∉ [W2,W5]:=of_decide_eq_false (Bool.eq_false_iff.mpr c2)
  refine ⟨_,rfl,rfl,_,rfl,ite2 (fun c1=>?_) (fun c1=>?_)⟩
  · have e:dw = W3:=V.str.inj (dec_true c1)
    subst e
    refine ⟨_,rfl,_,rfl,_,rfl,_,rfl,r,ns,24,rfl,hr7,by decide,by decide,fun tx H8 s8 tp=>⟨small (by show 4≤1000000; decide),fun l hl=>?_⟩⟩
    exact fin H8 l W3 [KW,KP,KX] [.str one,.str pa,.str tx] (s7.trans s8) hl ⟨by decide +kernel,.cons (pk_w on) (.cons (pk_p pn) (.cons (pk_t tp) .nil))⟩
  have k3:dw≠W3:=fun e=>dec_false c1 (by rw [e])
  refine ⟨_,rfl,rfl,_,rfl,ite2 (fun c1=>?_) (fun c1=>?_)⟩
  · have e:dw = W4:=V.str.inj (dec_true c1)
    subst e
    refine ⟨_,rfl,_,rfl,_,rfl,_,rfl,r,ns,11,rfl,hr7,by decide,by decide,fun n H8 s8 n0 n1=>?_⟩
    have hr8:Rw H8 r ns:=⟨s8.get hr7.1,hr5.2⟩
    refine ⟨_,rfl,r,ns,17,rfl,hr8,by decide,by decide,fun m H9 s9 m0 m1=>?_⟩
    have hr9:Rw H9 r ns:=⟨s9.get hr8.1,hr5.2⟩
    refine ⟨_,rfl,r,ns,24,rfl,hr9,by decide,by decide,fun tx H10 s10 tp=>⟨small (by show 6≤1000000; decide),fun l hl=>?_⟩⟩
    exact fin H10 l W4 [KW,KP,KN,KN,KX] [.str one,.str pa,.int n,.int m,.str tx] (((s7.trans s8).trans s9).trans s10) hl ⟨by decide +kernel,.cons (pk_w on) (.cons (pk_p pn) (.cons (.nm n0 n1) (.cons (.nm m0 m1) (.cons (pk_t tp) .nil))))⟩
  have k4:dw≠W4:=fun e=>dec_false c1 (by rw [e])
  refine ⟨_,rfl,rfl,_,rfl,ite2 (fun c1=>?_) (fun c1=>?_)⟩
  · have e:dw = W6:=V.str.inj (dec_true c1)
    subst e
    refine ⟨_,rfl,_,rfl,_,rfl,_,rfl,small (by show 4≤1000000; decide),fun l hl=>?_⟩
    exact fin H7 l W6 [KW,KP,KP] [.str one,.str pa,.str to_] s7 hl ⟨by decide +kernel,.cons (pk_w on) (.cons (pk_p pn) (.cons (pk_p tn) .nil))⟩
  have k6:dw≠W6:=fun e=>dec_false c1 (by rw [e])
  refine ⟨_,rfl,rfl,_,rfl,ite2 (fun c1=>?_) (fun c1=>?_)⟩
  · have e:dw = W7:=V.str.inj (dec_true c1)
    subst e
    refine ⟨_,rfl,_,rfl,_,rfl,_,rfl,_,rfl,small (by show 5≤1000000; decide),fun l hl=>?_⟩
    exact fin H7 l W7 [KW,KP,KW,KP] [.str one,.str to_,.str ot,.str pa] s7 hl ⟨by decide +kernel,.cons (pk_w on) (.cons (pk_p tn) (.cons (pk_w otn) (.cons (pk_p pn) .nil)))⟩
  have k7:dw≠W7:=fun e=>dec_false c1 (by rw [e])
  refine ⟨_,rfl,rfl,_,rfl,ite2 (fun c1=>?_) (fun c1=>?_)⟩
  · have e:dw = W9:=V.str.inj (dec_true c1)
    subst e
    refine ⟨_,rfl,_,rfl,_,rfl,_,rfl,_,rfl,r,b,ns,zs,28,rfl,hr7,hn7,by decide,by decide,fun la ln=>⟨small (by show 4≤1000000; decide),fun l hl=>?_⟩⟩
    exact fin H7 l W9 [KW,KW,KW] [.str one,.str ot,.str la] s7 hl ⟨by decide +kernel,.cons (pk_w on) (.cons (pk_w otn) (.cons (pk_w ln) .nil))⟩
  have k9:dw≠W9:=fun e=>dec_false c1 (by rw [e])
  refine ⟨_,rfl,_,rfl,small (by show 2≤1000000; decide),fun l hl=>?_⟩
  refine fin H7 l dw [KW] [.str one] s7 hl ⟨?_,.cons (pk_w on) .nil⟩
  have e:dw = W10∨dw = W11∨dw = W12:=by
    have:dw = W0∨dw = W1∨dw = W2∨dw = W3∨dw = W4∨dw = W5∨dw = W6∨dw = W7∨dw = W8∨dw = W9∨dw = W10∨dw = W11∨dw = W12:=by simpa [WS12] using mdw
    have j1:dw≠W1∧dw≠W8:=by simpa using k1
    have j2:dw≠W2∧dw≠W5:=by simpa using k2
    rcases this with e | e | e | e | e | e | e | e | e | e | e
    · exact absurd e k0
    · exact absurd e j1.1
    · exact absurd e j2.1
    · exact absurd e k3
    · exact absurd e k4
    · exact absurd e j2.2
    · exact absurd e k6
    · exact absurd e k7
    · exact absurd e j1.2
    · exact absurd e k9
    · exact e
  rcases e with rfl | rfl | rfl
  · decide +kernel
  · decide +kernel
  · decide +kernel
end
section
variable {P:Program} {w:World} {K:PySem.W.Frag} {mg:Str→Option Value} {base:Heap} {f:Addr} {XC:Nat→Addr} {fd:FuncData}
abbrev BS:Str:=PySem.Str.ofString " 0123456789/.-+aAz"
theorem bs_len:(cod BS).length = 18:=by decide +kernel
theorem bs_sg:∀ c∈cod BS,c∈cod SG:=by decide +kernel
def RowV (H:Hp) (v:V):Prop:=(∃ z,v = .str z∧sgn z∧z.length≤100000)∨(Ok H v∧tyN H v≠"str")
def sp__law_bent (K:PySem.W.Frag):Sp:=fun vs H Q _=>∃ c z,vs = [.int c,.str z]∧sgn z∧z.length≤5000∧∀ v H',Same H H'→RowV H' v→Q v H'
theorem ok__law_bent (T:Txt w K mg XC) (F:Fun K "_law_bent" "_law_bent" s__law_bent f fd) (D__law_row:Def P w K mg base 1 "_law_row" ["_law_cell","_law_many"] (sp__law_row K)):FnOk P w K mg base CX0 2 f fd ["_law_cell","_law_text_here"] (sp__law_bent K):=by
  refine F.ok sc__law_bent (fun vs H Q E h=>?_) (fun cdv A outer s H vs Q E hr h=>?_)
  · obtain ⟨c,z,rfl,_⟩:=h
    rfl
  obtain ⟨c,z,rfl,zs,zl,q⟩:=h
  refine ⟨_,(@pss_cons _ _ _ _ _ (@ps_set _ _ (2) _ _ _ _ sc__law_bent.nd rfl (by first | exact Or.inl rfl | exact Or.inr rfl) (@pe_fn _ _ _ _ _ _ _ _ _ _ D__law_row (hr.mono (by decide)) rfl (@pa_cons _ _ _ _ _ (pv 0) (@pa_cons _ _ _ _ _ (@pe_int _ _ _ _) (@pa_nil _) (by rfl)) (by rfl)) (by decide) (by rfl) (by rfl)) (by rfl) (by first | exact .inl rfl | exact .inr rfl | assumption)) (@pss_cons _ _ _ _ _ (@ps_set _ _ (3) _ _ _ _ sc__law_bent.nd rfl (by first | exact Or.inl rfl | exact Or.inr rfl) (@pe_op _ _ _ _ _ _ _ _ op_mod (@pe_op _ _ _ _ _ _ _ _ op_add (@pe_op _ _ _ _ _ _ _ _ op_mul (@pe_ix _ _ _ _ _ _ _ ix_list (pv 2) (@pe_int _ _ _ _) (fun _ _=>rfl)) (@pe_int _ _ _ _)) (@pe_ix _ _ _ _ _ _ _ ix_list (pv 2) (@pe_int _ _ _ _) (fun _ _=>rfl))) (@pe_op _ _ _ _ _ _ _ _ op_add (@pe_callB _ _ _ _ _ _ _ _ _ call_len_str (by rfl) T.b_len bt_len (@pa_cons _ _ _ _ _ (pv 1) (@pa_nil _) (by rfl)) (by decide) (by decide) (by rfl) (by rfl)) (@pe_int _ _ _ _))) (by rfl) (by first | exact .inl rfl | exact .inr rfl | assumption)) (@pss_cons _ _ _ _ _ (@ps_set _ _ (4) _ _ _ _ sc__law_bent.nd rfl (by first | exact Or.inl rfl | exact Or.inr rfl) (@pe_ix _ _ _ _ _ _ _ ix_str (@pe_str _ _ _ _) (@pe_op _ _ _ _ _ _ _ _ op_mod (@pe_ix _ _ _ _ _ _ _ ix_list (pv 2) (@pe_int _ _ _ _) (fun _ _=>rfl)) (@pe_int _ _ _ _)) (fun _ _=>rfl)) (by rfl) (by first | exact .inl rfl | exact .inr rfl | assumption)) (@pss_tok _ (5) _ _ _ _ _ _ _ _ _ _ _ _ _ sc__law_bent.nd rfl (by first | exact Or.inl rfl | exact Or.inr rfl) op_mod (@pe_ix _ _ _ _ _ _ _ ix_list (pv 2) (@pe_int _ _ _ _) (fun _ _=>rfl)) (@pssp_cons _ _ _ _ _ (@psp_of _ _ _ (@ps_if _ _ _ _ _ _ _ _ (@pt_cmpR _ _ _ _ _ _ _ _ op_eq (pv 5) (@pe_int _ _ _ _) (nomark _)) (@pss_one _ _ _ (@ps_ret _ _ _ _ (@pe_op _ _ _ _ _ _ _ _ op_add_str (@pe_slice _ _ _ _ _ _ _ _ _ _ sl_str (pv 1) (@po_none _) (@po_some _ _ _ (pv 3))) (@pe_slice _ _ _ _ _ _ _ _ _ _ sl_str (pv 1) (@po_some _ _ _ (@pe_op _ _ _ _ _ _ _ _ op_add (pv 3) (@pe_int _ _ _ _))) (@po_none _))))) (@pss_nil _))) (@pssp_cons _ _ _ _ _ (@psp_of _ _ _ (@ps_if _ _ _ _ _ _ _ _ (@pt_cmpR _ _ _ _ _ _ _ _ op_eq (pv 5) (@pe_int _ _ _ _) (nomark _)) (@pss_one _ _ _ (@ps_ret _ _ _ _ (@pe_op _ _ _ _ _ _ _ _ op_add_str (@pe_op _ _ _ _ _ _ _ _ op_add_str (@pe_slice _ _ _ _ _ _ _ _ _ _ sl_str (pv 1) (@po_none _) (@po_some _ _ _ (pv 3))) (pv 4)) (@pe_slice _ _ _ _ _ _ _ _ _ _ sl_str (pv 1) (@po_some _ _ _ (pv 3)) (@po_none _))))) (@pss_nil _))) (@pssp_cons _ _ _ _ _ (@psp_of _ _ _ (@ps_if _ _ _ _ _ _ _ _ (@pt_cmpR _ _ _ _ _ _ _ _ op_eq (pv 5) (@pe_int _ _ _ _) (nomark _)) (@pss_one _ _ _ (@ps_ret _ _ _ _ (@pe_op _ _ _ _ _ _ _ _ op_add_str (@pe_op _ _ _ _ _ _ _ _ op_add_str (@pe_slice _ _ _ _ _ _ _ _ _ _ sl_str (pv 1) (@po_none _) (@po_some _ _ _ (pv 3))) (pv 4)) (@pe_slice _ _ _ _ _ _ _ _ _ _ sl_str (pv 1) (@po_some _ _ _ (@pe_op _ _ _ _ _ _ _ _ op_add (pv 3) (@pe_int _ _ _ _))) (@po_none _))))) (@pss_nil _))) (@pssp_cons _ _ _ _ _ (@psp_of _ _ _ (@ps_if _ _ _ _ _ _ _ _ (@pt_cmpR _ _ _ _ _ _ _ _ op_eq (pv 5) (@pe_int _ _ _ _) (nomark _)) (@pss_one _ _ _ (@ps_ret _ _ _ _ (@pe_slice _ _ _ _ _ _ _ _ _ _ sl_str (pv 1) (@po_none _) (@po_some _ _ _ (pv 3))))) (@pss_nil _))) (@pssp_cons _ _ _ _ _ (@psp_of _ _ _ (@ps_if _ _ _ _ _ _ _ _ (@pt_cmpR _ _ _ _ _ _ _ _ op_eq (pv 5) (@pe_int _ _ _ _) (nomark _)) (@pss_one _ _ _ (@ps_ret _ _ _ _ (@pe_op _ _ _ _ _ _ _ _ op_add_str (pv 1) (@pe_ix _ _ _ _ _ _ _ ix_list (@pe_lst _ _ _ _ (@pa_cons _ _ _ _ _ (@pe_str _ _ _ _) (@pa_cons _ _ _ _ _ (@pe_str _ _ _ _) (@pa_cons _ _ _ _ _ (@pe_str _ _ _ _) (@pa_nil _) (by rfl)) (by rfl)) (by rfl))) (@pe_op _ _ _ _ _ _ _ _ op_mod (@pe_ix _ _ _ _ _ _ _ ix_list (pv 2) (@pe_int _ _ _ _) (fun _ _=>rfl)) (@pe_int _ _ _ _)) (fun _ _=>rfl))))) (@pss_nil _))) (@pssp_cons _ _ _ _ _ (@psp_of _ _ _ (@ps_if _ _ _ _ _ _ _ _ (@pt_cmpR _ _ _ _ _ _ _ _ op_eq (pv 5) (@pe_int _ _ _ _) (nomark _)) (@pss_one _ _ _ (@ps_ret _ _ _ _ (@pe_ix _ _ _ _ _ _ _ ix_list (@pe_lst _ _ _ _ (@pa_cons _ _ _ _ _ (@pe_non _ _ _) (@pa_cons _ _ _ _ _ (@pe_int _ _ _ _) (@pa_cons _ _ _ _ _ (@pe_bl _ _ _ _) (@pa_cons _ _ _ _ _ (@pe_lst _ _ _ _ (@pa_cons _ _ _ _ _ (@pe_str _ _ _ _) (@pa_nil _) (by rfl))) (@pa_cons _ _ _ _ _ (@pe_tup _ _ _ _ _ (@pa_cons _ _ _ _ _ (@pe_str _ _ _ _) (@pa_cons _ _ _ _ _ (@pe_str _ _ _ _) (@pa_nil _) (by rfl)) (by rfl))) (@pa_cons _ _ _ _ _ (@pe_str _ _ _ _) (@pa_cons _ _ _ _ _ (@pe_str _ _ _ _) (@pa_cons _ _ _ _ _ (@pe_str _ _ _ _) (@pa_nil _) (by rfl)) (by rfl)) (by rfl)) (by rfl)) (by rfl)) (by rfl)) (by rfl)) (by rfl))) (@pe_op _ _ _ _ _ _ _ _ op_mod (@pe_ix _ _ _ _ _ _ _ ix_list (pv 2) (@pe_int _ _ _ _) (fun _ _=>rfl)) (@pe_int _ _ _ _)) (fun _ _=>rfl)))) (@pss_nil _))) (@pssp_cons _ _ _ _ _ (@psp_if _ _ _ _ _ _ _ _ (@pt_cmpR _ _ _ _ _ _ _ _ op_eq (pv 5) (@pe_int _ _ _ _) (nomark _)) (@pssp_one _ _ _ (@psp_ret _ _ _ _ (@pep_repl _ _ _ _ _ _ _ _ _ _ _ _ _ (pv 1) (@pe_op _ _ _ _ _ _ _ _ op_add (@pe_int _ _ _ _) (@pe_op _ _ _ _ _ _ _ _ op_mod (@pe_ix _ _ _ _ _ _ _ ix_list (pv 2) (@pe_int _ _ _ _) (fun _ _=>rfl)) (@pe_int _ _ _ _))) (by decide +kernel) (by decide +kernel) (by rfl) (by rfl) (by rfl) (by rfl)))) (@pssp_of _ _ _ (@pss_nil _))) (@pssp_one _ _ _ (@psp_of _ _ _ (@ps_ret _ _ _ _ (pv 1))))))))))) (by rfl) (by first | exact .inl rfl | exact .inr rfl))))),?_⟩
  try dsimp only [cxOf,Cx.nox,Cx.wish]
  refine ⟨_,rfl,c,50,rfl,by decide,by decide,fun r H1 ns s1 n1 h1 l1 b1=>?_⟩
  have at_:∀ {i:Int},0≤i→i < 50→∃ x,atI (ns.map V.int) i = some (.int x)∧0≤x∧x < 60:=fun {i} h0 hi=>by
    have hn:ns.length = 50:=by rw [l1]; rfl
    have hk:i.toNat < ns.length:=by omega
    refine ⟨ns.getD i.toNat 0,at_int h0 (by omega),?_⟩
    simp only [List.getD,List.getElem?_eq_getElem hk,Option.getD_some]
    exact b1 _ (List.getElem_mem hk)
  obtain ⟨x41,X41,_,_⟩:=at_ (i:=41) (by decide) (by decide)
  obtain ⟨x42,X42,_,_⟩:=at_ (i:=42) (by decide) (by decide)
  obtain ⟨x43,X43,_,_⟩:=at_ (i:=43) (by decide) (by decide)
  obtain ⟨x44,X44,_,_⟩:=at_ (i:=44) (by decide) (by decide)
  obtain ⟨x45,X45,_,_⟩:=at_ (i:=45) (by decide) (by decide)
  obtain ⟨sg,hsg,msg⟩:=at_cod (z:=BS) (i:=x43 % 18) (Int.emod_nonneg _ (by decide)) (by rw [bs_len]; exact Int.emod_lt_of_pos _ (by decide))
  refine ⟨_,rfl,r,_,_,_,rfl,rfl,SqL.of h1,X41,_,_,rfl,rfl,.inr ⟨by decide,by decide⟩,_,rfl,r,_,_,_,rfl,rfl,SqL.of h1,X42,_,_,rfl,rfl,_,rfl,z,rfl,small (by omega),_,_,rfl,rfl,_,_,rfl,rfl,(by show (0:Int) < (z.length:Int) + 1; omega),?_⟩
  have a0:=Int.emod_nonneg (x41 * 60 + x42) (show (z.length:Int) + 1≠0 by omega)
  dsimp only
  generalize (x41 * 60 + x42) % ((z.length:Int) + 1) = at0 at a0
  refine ⟨_,rfl,r,_,_,_,rfl,rfl,SqL.of h1,X43,_,_,rfl,rfl,(by show (0:Int) < 18; decide),BS,_,sg,rfl,rfl,small (by decide +kernel),hsg,?_⟩
  refine ⟨_,rfl,r,_,_,_,rfl,rfl,SqL.of h1,X44,_,_,rfl,rfl,(by show (0:Int) < 8; decide),?_⟩
  dsimp only
  generalize x44 % 8 = way
  have e1:=sl_to z a0
  obtain ⟨k1,e2⟩:=sl_rest z (i:=at0 + 1) (by omega)
  obtain ⟨k2,e3⟩:=sl_rest z a0
  have lz:=cod_len z
  have g1:sgn (PySem.Txt.slice z none (some at0))∧(PySem.Txt.slice z none (some at0)).length≤5000:=⟨fun c hc=>by rw [e1] at hc; exact zs c (List.mem_of_mem_take hc),by rw [← cod_len,e1,List.length_take]; omega⟩
  have g2:sgn (PySem.Txt.slice z (some (at0 + 1)) none)∧(PySem.Txt.slice z (some (at0 + 1)) none).length≤5000:=⟨fun c hc=>by rw [e2] at hc; exact zs c (List.mem_of_mem_drop hc),by rw [← cod_len,e2,List.length_drop]; omega⟩
  have g3:sgn (PySem.Txt.slice z (some at0) none)∧(PySem.Txt.slice z (some at0) none).length≤5000:=⟨fun c hc=>by rw [e3] at hc; exact zs c (List.mem_of_mem_drop hc),by rw [← cod_len,e3,List.length_drop]; omega⟩
  have gs:sgn (⟨#[sg]⟩:Str):=fun c hc=>by rw [List.mem_singleton.mp hc]; exact bs_sg sg msg
  have fin:∀ (y:Str) (H':Hp),Same H H'→sgn y→y.length≤100000→Q (.str y) H':=fun y H' s' h1 h2=>q _ H' s' (.inl ⟨y,rfl,h1,h2⟩)
  have app:∀ {a b:Str},sgn a→sgn b→sgn (a ++ b):=fun ha hb c hc=>by
    rw [cod_app] at hc
    rcases List.mem_append.mp hc with h | h
    · exact ha c h
    · exact hb c h
  refine ⟨_,rfl,rfl,_,rfl,ite2 (fun _=>?_) (fun _=>?_)⟩
  · exact ⟨_,rfl,_,rfl,_,rfl,z,rfl,small (by omega),_,rfl,_,rfl,_,_,rfl,rfl,_,rfl,z,rfl,small (by omega),_,_,rfl,rfl,small (by omega),fin _ H1 s1 (app g1.1 g2.1) (by rw [len_app]; omega)⟩
  refine ⟨_,rfl,rfl,_,rfl,ite2 (fun _=>?_) (fun _=>?_)⟩
  · exact ⟨_,rfl,_,rfl,_,rfl,z,rfl,small (by omega),_,rfl,_,_,rfl,rfl,small (by show _ + 1≤1000000; omega),_,rfl,_,rfl,_,rfl,z,rfl,small (by omega),_,_,rfl,rfl,small (by rw [len_app]; show _ + 1 + _≤1000000; omega),fin _ H1 s1 (app (app g1.1 gs) g3.1) (by rw [len_app,len_app]; show _ + 1 + _≤100000; omega)⟩
  refine ⟨_,rfl,rfl,_,rfl,ite2 (fun _=>?_) (fun _=>?_)⟩
  · exact ⟨_,rfl,_,rfl,_,rfl,z,rfl,small (by omega),_,rfl,_,_,rfl,rfl,small (by show _ + 1≤1000000; omega),_,rfl,_,rfl,_,_,rfl,rfl,_,rfl,z,rfl,small (by omega),_,_,rfl,rfl,small (by rw [len_app]; show _ + 1 + _≤1000000; omega),fin _ H1 s1 (app (app g1.1 gs) g2.1) (by rw [len_app,len_app]; show _ + 1 + _≤100000; omega)⟩
  refine ⟨_,rfl,rfl,_,rfl,ite2 (fun _=>?_) (fun _=>?_)⟩
  · exact ⟨_,rfl,_,rfl,_,rfl,z,rfl,small (by omega),fin _ H1 s1 g1.1 (by omega)⟩
  refine ⟨_,rfl,rfl,_,rfl,ite2 (fun _=>?_) (fun _=>?_)⟩
  · refine ⟨_,rfl,small (by show 3≤1000000; decide),fun p hp=>?_⟩
    have s2:=same_new hp (.lst [V.str BL,V.str (PySem.Str.ofString " a"),V.str (PySem.Str.ofString "  ")])
    obtain ⟨y,hy,ys,yl⟩:∃ y,atI [V.str BL,V.str (PySem.Str.ofString " a"),V.str (PySem.Str.ofString "  ")] (x45 % 3) = some (.str y)∧sgn y∧y.length≤2:=by
      have r0:=Int.emod_nonneg x45 (show (3:Int)≠0 by decide)
      have r1:=Int.emod_lt_of_pos x45 (show (0:Int) < 3 by decide)
      generalize x45 % 3 = r at r0 r1
      have:r = 0∨r = 1∨r = 2:=by omega
      rcases this with rfl | rfl | rfl
      · exact ⟨_,rfl,(show ∀ c∈cod BL,c∈cod SG by decide +kernel),by decide +kernel⟩
      · exact ⟨_,rfl,(show ∀ c∈cod (PySem.Str.ofString " a"),c∈cod SG by decide +kernel),by decide +kernel⟩
      · exact ⟨_,rfl,(show ∀ c∈cod (PySem.Str.ofString "  "),c∈cod SG by decide +kernel),by decide +kernel⟩
    exact ⟨_,rfl,r,_,_,_,rfl,rfl,SqL.of (s2.get h1),X45,_,_,rfl,rfl,(by show (0:Int) < 3; decide),p,_,_,_,rfl,rfl,SqL.of upd_same,hy,_,_,rfl,rfl,small (by omega),fin _ _ (s1.trans s2) (app zs ys) (by rw [len_app]; omega)⟩
  refine ⟨_,rfl,rfl,_,rfl,ite2 (fun _=>?_) (fun _=>?_)⟩
  · refine ⟨small (by show 1≤1000000; decide),fun p1 hp1=>⟨small (by show 2≤1000000; decide),fun p2 hp2=>⟨small (by show 8≤1000000; decide),fun p3 hp3=>?_⟩⟩⟩
    have s2:=same_new hp1 (.lst [V.str (PySem.Str.ofString "drop a")])
    have h2:(upd H1 p1 (.lst [V.str (PySem.Str.ofString "drop a")])) p1 = some (.lst [V.str (PySem.Str.ofString "drop a")]):=upd_same
    have s3:=same_new hp2 (.tup [V.str (PySem.Str.ofString "drop"),V.str (PySem.Str.ofString "a")])
    have h3:(upd (upd H1 p1 (.lst [V.str (PySem.Str.ofString "drop a")])) p2 (.tup [V.str (PySem.Str.ofString "drop"),V.str (PySem.Str.ofString "a")])) p2 = some (.tup [V.str (PySem.Str.ofString "drop"),V.str (PySem.Str.ofString "a")]):=upd_same
    have s4:=same_new hp3 (.lst [V.non,V.int 5,V.bl true,V.ref p1,V.ref p2,V.str EM,V.str BL,V.str DOT])
    have st:=((s1.trans s2).trans s3).trans s4
    have r0:=Int.emod_nonneg x45 (show (8:Int)≠0 by decide)
    have r1:=Int.emod_lt_of_pos x45 (show (0:Int) < 8 by decide)
    have key:∃ v,atI [V.non,V.int 5,V.bl true,V.ref p1,V.ref p2,V.str EM,V.str BL,V.str DOT] (x45 % 8) = some v∧RowV (upd (upd (upd H1 p1 (.lst [V.str (PySem.Str.ofString "drop a")])) p2 (.tup [V.str (PySem.Str.ofString "drop"),V.str (PySem.Str.ofString "a")])) p3 (.lst [V.non,V.int 5,V.bl true,V.ref p1,V.ref p2,V.str EM,V.str BL,V.str DOT])) v:=by
      have k1:=s4.get (s3.get h2)
      have k2:=s4.get h3
      generalize upd (upd (upd H1 p1 (.lst [V.str (PySem.Str.ofString "drop a")])) p2 (.tup [V.str (PySem.Str.ofString "drop"),V.str (PySem.Str.ofString "a")])) p3 (.lst [V.non,V.int 5,V.bl true,V.ref p1,V.ref p2,V.str EM,V.str BL,V.str DOT]) = H9 at k1 k2
      generalize x45 % 8 = j at r0 r1
      have:j = 0∨j = 1∨j = 2∨j = 3∨j = 4∨j = 5∨j = 6∨j = 7:=by omega
      rcases this with rfl | rfl | rfl | rfl | rfl | rfl | rfl | rfl
      · exact ⟨_,rfl,.inr ⟨trivial,(show "NoneType"≠"str" by decide)⟩⟩
      · exact ⟨_,rfl,.inr ⟨trivial,(show "int"≠"str" by decide)⟩⟩
      · exact ⟨_,rfl,.inr ⟨trivial,(show "bool"≠"str" by decide)⟩⟩
      · exact ⟨_,rfl,.inr ⟨.inl ⟨_,k1⟩,by simp only [tyN,k1]; decide⟩⟩
      · exact ⟨_,rfl,.inr ⟨.inr ⟨_,k2⟩,by simp only [tyN,k2]; decide⟩⟩
      · exact ⟨_,rfl,.inl ⟨_,rfl,(show ∀ c∈cod EM,c∈cod SG by decide +kernel),by decide +kernel⟩⟩
      · exact ⟨_,rfl,.inl ⟨_,rfl,(show ∀ c∈cod BL,c∈cod SG by decide +kernel),by decide +kernel⟩⟩
      · exact ⟨_,rfl,.inl ⟨_,rfl,(show ∀ c∈cod DOT,c∈cod SG by decide +kernel),by decide +kernel⟩⟩
    obtain ⟨v,hv,rv⟩:=key
    exact ⟨_,rfl,r,_,_,_,rfl,rfl,SqL.of (s4.get (s3.get (s2.get h1))),X45,_,_,rfl,rfl,(by show (0:Int) < 8; decide),p3,_,_,_,rfl,rfl,SqL.of upd_same,hv,q v _ st rv⟩
  refine ⟨_,rfl,rfl,_,rfl,ite2 (fun _=>?_) (fun _=>?_)⟩
  · refine ⟨_,rfl,z,rfl,by omega,_,rfl,r,_,_,_,rfl,rfl,SqL.of h1,X45,_,_,rfl,rfl,(by show (0:Int) < 3; decide),_,_,rfl,rfl,_,rfl,?_,?_,fun y hy=>?_⟩
    · have:=Int.emod_nonneg x45 (show (3:Int)≠0 by decide)
      omega
    · have:=Int.emod_lt_of_pos x45 (show (0:Int) < 3 by decide)
      omega
    · refine fin y H1 s1 (fun c hc=>?_) ?_
      · rcases hy.1 c hc with h | h
        · exact zs c h
        · exact (show ∀ c∈cod (PySem.Str.ofString "  "),c∈cod SG by decide +kernel) c h
      · have h1:=hy.2
        have h2:((1 + x45 % 3).toNat + 1) * (z.length + (PySem.Str.ofString "  ").length)≤5 * 5002:=Nat.mul_le_mul (by have:=Int.emod_lt_of_pos x45 (show (0:Int) < 3 by decide); omega) (by rw [show (PySem.Str.ofString "  ").length = 2 by decide +kernel]; omega)
        exact Nat.le_trans h1 (Nat.le_trans h2 (by decide))
  · exact ⟨_,rfl,fin z H1 s1 zs (by omega)⟩
def LT1:List (Key×V):=[(.inr (PySem.Str.ofString "keeper"),.str (PySem.Str.ofString "n1")),(.inr (PySem.Str.ofString "stem"),.str (PySem.Str.ofString "nn")),(.inr (PySem.Str.ofString "folder"),.str (PySem.Str.ofString "np")),(.inr (PySem.Str.ofString "write"),.str (PySem.Str.ofString "npt")),(.inr (PySem.Str.ofString "splice"),.str (PySem.Str.ofString "np11t")),(.inr (PySem.Str.ofString "remove"),.str (PySem.Str.ofString "np"))]
def LT2:List (Key×V):=[(.inr (PySem.Str.ofString "move"),.str (PySem.Str.ofString "npp")),(.inr (PySem.Str.ofString "copy"),.str (PySem.Str.ofString "npnp")),(.inr (PySem.Str.ofString "seal"),.str (PySem.Str.ofString "nn")),(.inr (PySem.Str.ofString "grow"),.str (PySem.Str.ofString "nnn")),(.inr (PySem.Str.ofString "back"),.str (PySem.Str.ofString "n")),(.inr (PySem.Str.ofString "graft"),.str (PySem.Str.ofString "n")),(.inr (PySem.Str.ofString "drop"),.str (PySem.Str.ofString "n"))]
def kcode (k:Str):Nat:=if k = KW then 110 else if k = KN then 49 else if k = KP then 112 else 116
def kc (ks:List Str):Str:=⟨(ks.map kcode).toArray⟩
theorem lt_tab:mergeK (mergeK [] LT1) (mergeK [] LT2) = TB_DEED_PARTS.map fun p=>((Sum.inr p.1:Key),V.str (kc p.2)):=by decide +kernel
theorem val_map (y:Str):∀ tb:List (Str×List Str),valV (tb.map fun p=>((Sum.inr p.1:Key),V.str (kc p.2))) (.inr y) = (tabLook tb y).map fun ks=>V.str (kc ks)
  | []=>rfl
  | p :: tb=>by
    have ih:=val_map y tb
    unfold valV tabLook at ih ⊢
    rw [List.map_cons,List.find?_cons,List.find?_cons]
    by_cases h:p.1 = y
    · rw [decide_eq_true h,decide_eq_true (show (Sum.inr p.1:Key) = Sum.inr y by rw [h])]
      rfl
    · rw [decide_eq_false h,decide_eq_false (show ¬ (Sum.inr p.1:Key) = Sum.inr y from fun e=>h (Sum.inr.inj e))]
      exact ih
def kindsR (y:Str):Str:=match tabLook TB_DEED_PARTS y with
  | some ks=>kc ks
  | none=>EM
def sp__law_kinds (K:PySem.W.Frag):Sp:=fun vs H Q _=>∃ y,vs = [.str y]∧∀ H',Same H H'→Q (.str (kindsR y)) H'
theorem ok__law_kinds (T:Txt w K mg XC) (F:Fun K "_law_kinds" "_law_kinds" s__law_kinds f fd):FnOk P w K mg base CX0 1 f fd ["_law_word_here"] (sp__law_kinds K):=by
  refine F.ok sc__law_kinds (fun vs H Q E h=>?_) (fun cdv A outer s H vs Q E hr h=>?_)
  · obtain ⟨y,rfl,_⟩:=h
    rfl
  obtain ⟨y,rfl,q⟩:=h
  have hu:=hu_of hr
  refine ⟨_,(@pss_cons _ _ _ _ _ (@ps_set _ _ (1) _ _ _ _ sc__law_kinds.nd rfl (by first | exact Or.inl rfl | exact Or.inr rfl) (@pe_disp _ _ _ _ _ (@pps_cons _ _ _ _ _ _ _ _ _ (@pe_str _ _ _ _) (@pe_str _ _ _ _) (@pps_cons _ _ _ _ _ _ _ _ _ (@pe_str _ _ _ _) (@pe_str _ _ _ _) (@pps_cons _ _ _ _ _ _ _ _ _ (@pe_str _ _ _ _) (@pe_str _ _ _ _) (@pps_cons _ _ _ _ _ _ _ _ _ (@pe_str _ _ _ _) (@pe_str _ _ _ _) (@pps_cons _ _ _ _ _ _ _ _ _ (@pe_str _ _ _ _) (@pe_str _ _ _ _) (@pps_cons _ _ _ _ _ _ _ _ _ (@pe_str _ _ _ _) (@pe_str _ _ _ _) (@pps_nil _ _))))))) rfl rfl (by intro z; cases z) (by decide)) (by rfl) (by first | exact .inl rfl | exact .inr rfl | assumption)) (@pss_cons _ _ _ _ _ (@ps_expr _ _ _ _ (@pe_bm _ _ _ _ _ _ _ _ _ _ _ _ PySem.F.plainAttrs_dict PySem.F.slot_dict_update PySem.F.type_dict_update mt_update (pv 1) (@pa_cons _ _ _ _ _ (@pe_disp _ _ _ _ _ (@pps_cons _ _ _ _ _ _ _ _ _ (@pe_str _ _ _ _) (@pe_str _ _ _ _) (@pps_cons _ _ _ _ _ _ _ _ _ (@pe_str _ _ _ _) (@pe_str _ _ _ _) (@pps_cons _ _ _ _ _ _ _ _ _ (@pe_str _ _ _ _) (@pe_str _ _ _ _) (@pps_cons _ _ _ _ _ _ _ _ _ (@pe_str _ _ _ _) (@pe_str _ _ _ _) (@pps_cons _ _ _ _ _ _ _ _ _ (@pe_str _ _ _ _) (@pe_str _ _ _ _) (@pps_cons _ _ _ _ _ _ _ _ _ (@pe_str _ _ _ _) (@pe_str _ _ _ _) (@pps_cons _ _ _ _ _ _ _ _ _ (@pe_str _ _ _ _) (@pe_str _ _ _ _) (@pps_nil _ _)))))))) rfl rfl (by intro z; cases z) (by decide)) (@pa_nil _) (by rfl)) (by rfl) (by rfl) (by rfl) (by rfl) (by rfl)) (by rfl)) (@pss_one _ _ _ (@ps_ret _ _ _ _ (@pe_dget2 _ _ _ _ _ _ _ _ _ hu (pv 1) (pv 0) (@pe_str _ _ _ _) ⟨rfl,rfl,rfl,rfl⟩))))),?_⟩
  try dsimp only [cxOf,Cx.nox,Cx.wish]
  refine fun p hp=>⟨upd_same,LT1,rfl,by decide,?_⟩
  have s1:Same H (upd (upd H p (.dK [])) p (.dK (mergeK [] LT1))):=same_upd (same_new hp _) hp _
  have h1:(upd (upd H p (.dK [])) p (.dK (mergeK [] LT1))) p = some (.dK (mergeK [] LT1)):=upd_same
  dsimp only [gName]
  generalize upd (upd H p (.dK [])) p (.dK (mergeK [] LT1)) = H1 at s1 h1
  refine ⟨_,rfl,.inr (.inr (.inl ⟨rfl,.inl ⟨_,h1⟩⟩)),fun p2 hp2=>⟨upd_same,LT2,rfl,by decide,?_⟩⟩
  have s2:Same H1 (upd (upd H1 p2 (.dK [])) p2 (.dK (mergeK [] LT2))):=same_upd (same_new hp2 _) hp2 _
  have h2:(upd (upd H1 p2 (.dK [])) p2 (.dK (mergeK [] LT2))) p2 = some (.dK (mergeK [] LT2)):=upd_same
  have ne:p≠p2:=fun e=>by rw [e,hp2] at h1; cases h1
  refine ⟨p,p2,_,_,rfl,rfl,ne,s2.get h1,h2,by decide +kernel,?_⟩
  generalize upd (upd H1 p2 (.dK [])) p2 (.dK (mergeK [] LT2)) = H2 at s2 h2
  have s3:Same H (upd H2 p (.dK (mergeK (mergeK [] LT1) (mergeK [] LT2)))):=same_upd (s1.trans s2) hp _
  refine ⟨_,rfl,p,rfl,.inl ⟨_,.inl upd_same⟩,_,rfl,_,DGet.k (k:=.inr y) upd_same,?_⟩
  have:=q _ s3
  rw [lt_tab,val_map]
  rw [lt_tab] at this
  unfold kindsR at this
  cases h:tabLook TB_DEED_PARTS y with
  | none=>rw [h] at this; exact this
  | some ks=>rw [h] at this; exact this
theorem dig_iff (c:Nat):(!(!(decide ((⟨#[c]⟩:Str).cps.toList < (PySem.Str.ofString "0").cps.toList)) && !(decide ((PySem.Str.ofString "9").cps.toList < (⟨#[c]⟩:Str).cps.toList)))) = false↔c∈cod FG:=by
  have e0:(PySem.Str.ofString "0").cps.toList = [48]:=by decide +kernel
  have e9:(PySem.Str.ofString "9").cps.toList = [57]:=by decide +kernel
  have ec:(⟨#[c]⟩:Str).cps.toList = [c]:=rfl
  rw [e0,e9,ec]
  have nl:¬ (([]:List Nat) < []):=by decide
  have lt1:∀ a b:Nat,([a] < [b])↔a < b:=fun a b=>by
    rw [List.cons_lt_cons_iff]
    exact ⟨fun h=>h.elim id fun z=>absurd z.2 nl,fun h=>.inl h⟩
  have h1:=lt1 c 48
  have h2:=lt1 57 c
  constructor
  · intro h
    by_cases a:c < 48
    · rw [decide_eq_true (h1.mpr a)] at h; cases h
    · by_cases b:57 < c
      · rw [decide_eq_false fun z=>a (h1.mp z),decide_eq_true (h2.mpr b)] at h; cases h
      · exact fig_fg c (by omega) (by omega)
  · intro h
    have:=fg_dig c h
    rw [decide_eq_false fun z=>absurd (h1.mp z) (by omega),decide_eq_false fun z=>absurd (h2.mp z) (by omega)]
    rfl
def sp__law_part (K:PySem.W.Frag):Sp:=fun vs H Q _=>∃ k y,vs = [.str ⟨#[kcode k]⟩,.str y]∧k∈[KW,KN,KP]∧y.length≤100000∧∀ H',Same H H'→Q ((partR k y).getD .non) H'
theorem ok__law_part (T:Txt w K mg XC) (F:Fun K "_law_part" "_law_part" s__law_part f fd):FnOk P w K mg base CX0 1 f fd ["_law_kind","_law_word_here"] (sp__law_part K):=by
  refine F.ok sc__law_part (fun vs H Q E h=>?_) (fun cdv A outer s H vs Q E hr h=>?_)
  · obtain ⟨k,y,rfl,_⟩:=h
    rfl
  obtain ⟨k,y,rfl,hk,yl,q⟩:=h
  have hu:=hu_of hr
  refine ⟨_,(@pss_cons _ _ _ _ _ (@ps_if _ _ _ _ _ _ _ _ (@pt_cmpR _ _ _ _ _ _ _ _ op_eq (pv 1) (@pe_str _ _ _ _) (nomark _)) (@pss_one _ _ _ (@ps_ret _ _ _ _ (@pe_non _ _ _))) (@pss_nil _)) (@pss_cons _ _ _ _ _ (@ps_if _ _ _ _ _ _ _ _ (@pt_cmpR _ _ _ _ _ _ _ _ op_eq (pv 0) (@pe_str _ _ _ _) (nomark _)) (@pss_cons _ _ _ _ _ (@ps_if _ _ _ _ _ _ _ _ (@PW.pt _ _ _ (@pw_or _ _ _ _ _ _ _ (@pt_cmpR _ _ _ _ _ _ _ _ op_gt (@pe_callB _ _ _ _ _ _ _ _ _ call_len_str (by rfl) T.b_len bt_len (@pa_cons _ _ _ _ _ (pv 1) (@pa_nil _) (by rfl)) (by decide) (by decide) (by rfl) (by rfl)) (@pe_int _ _ _ _) (nomark _)) (@pw_or _ _ _ _ _ _ _ (@pt_cmpR _ _ _ _ _ _ _ _ (op_neD hu) (@pe_comp0 _ ["_law_sign"] _ _ _ _ _ _ _ _ _ _ rfl (@pi_str _ _ _ _ (pv 1)) (by decide +kernel) (fun C s H fp=>⟨(@pg_name _ _ (0) _ (show (["_law_sign"]:List Str).Nodup by decide +kernel) rfl (by first | exact Or.inl rfl | exact Or.inr rfl) (by first | exact .inl rfl | exact .inr rfl | assumption)),(@pifs_one _ _ _ (@pt_not _ _ _ _ (@pt_chain _ _ _ _ _ _ _ _ _ _ _ _ op_leS op_leS (@pe_str _ _ _ _) (pv 0) (@pe_str _ _ _ _) (by with_unfolding_all rfl)))),(pv 0)⟩) (by intro _; rfl)) (@pe_lst _ _ _ _ (@pa_nil _)) (nomark _)) (@pw_or1 _ _ _ _ (@PW.pt _ _ _ (@pw_and _ _ _ _ _ _ _ (@pt_cmpR _ _ _ _ _ _ _ _ op_eq (@pe_ix _ _ _ _ _ _ _ ix_str (pv 1) (@pe_int _ _ _ _) (fun _ _=>rfl)) (@pe_str _ _ _ _) (nomark _)) (@pw_and1 _ _ _ _ (@pt_cmpR _ _ _ _ _ _ _ _ op_gt (@pe_callB _ _ _ _ _ _ _ _ _ call_len_str (by rfl) T.b_len bt_len (@pa_cons _ _ _ _ _ (pv 1) (@pa_nil _) (by rfl)) (by decide) (by decide) (by rfl) (by rfl)) (@pe_int _ _ _ _) (nomark _))))))))) (@pss_one _ _ _ (@ps_ret _ _ _ _ (@pe_non _ _ _))) (@pss_nil _)) (@pss_one _ _ _ (@ps_ret _ _ _ _ (@pe_callTy _ _ _ _ _ _ _ _ _ call_intS (by rfl) T.b_int bt_int (@pa_cons _ _ _ _ _ (pv 1) (@pa_nil _) (by rfl)) (by decide) (by decide) (by rfl) (by rfl))))) (@pss_nil _)) (@pss_one _ _ _ (@ps_ret _ _ _ _ (@pe_ix _ _ _ _ _ _ _ ix_list (@pe_lst _ _ _ _ (@pa_cons _ _ _ _ _ (pv 1) (@pa_cons _ _ _ _ _ (@pe_str _ _ _ _) (@pa_nil _) (by rfl)) (by rfl))) (@pe_callTy _ _ _ _ _ _ _ _ _ call_int1 (by rfl) T.b_int bt_int (@pa_cons _ _ _ _ _ (@pe_and _ _ _ _ _ _ _ (@pe_cmpR _ _ _ _ _ _ _ _ op_eq (pv 0) (@pe_str _ _ _ _) (nomark _)) (@pe_one _ _ _ _ _ (@pe_cmpR _ _ _ _ _ _ _ _ op_eq (pv 1) (@pe_str _ _ _ _) (nomark _)))) (@pa_nil _) (by rfl)) (by decide) (by decide) (by rfl) (by rfl)) (fun _ _=>rfl)))))),?_⟩
  try dsimp only [cxOf,Cx.nox,Cx.wish]
  have kx:k≠KX:=fun e=>by rw [e] at hk; exact absurd hk (by decide +kernel)
  have k1:∀ k∈[KW,KN,KP],decide (V.str ⟨#[kcode k]⟩ = V.str (PySem.Str.ofString "1")) = decide (k = KN):=by decide +kernel
  have k2:∀ k∈[KW,KN,KP],decide (V.str ⟨#[kcode k]⟩ = V.str (PySem.Str.ofString "p")) = decide (k = KP):=by decide +kernel
  refine ⟨_,rfl,rfl,_,rfl,ite2 (fun c=>?_) (fun c=>?_)⟩
  · have e:y = EM:=V.str.inj (dec_true c)
    have:=q H (Same.refl _)
    rw [show partR k y = none by unfold partR; rw [if_neg kx,if_pos e]] at this
    exact this
  have y1:y≠EM:=fun e=>dec_false c (by rw [e])
  refine ⟨_,rfl,rfl,_,rfl,?_⟩
  rw [k1 k hk]
  refine ite2 (fun c=>?_) (fun c=>?_)
  · have ek:=of_decide_eq_true c
    have ep:partR k y = numR y:=by unfold partR; rw [if_neg kx,if_neg y1,if_pos ek]
    rw [ep] at q
    have lc:=cod_len y
    have nq:¬ (y.length≤9∧(∀ c∈cod y,c∈cod FG)∧¬ (1 < y.length∧PySem.Txt.startswith y (PySem.Str.ofString "0") = true))→∀ H',Same H H'→Q .non H':=fun h H' s'=>by
      have:=q H' s'
      rw [show numR y = none from if_neg h] at this
      exact this
    refine ⟨_,rfl,y,rfl,small (by omega),_,_,rfl,rfl,_,rfl,ite2 (fun c=>?_) (fun c=>?_)⟩
    · have c':=of_decide_eq_true c
      exact nq (fun h=>by have:=h.1; omega) H (Same.refl _)
    have c9:y.length≤9:=by
      have:=of_decide_eq_false (Bool.eq_false_iff.mpr c)
      omega
    refine ⟨_,rfl,y,rfl,?_⟩
    refine comp_filter (fun v=>match v with | .str x=>!(!(decide (x.cps.toList < (PySem.Str.ofString "0").cps.toList)) && !(decide ((PySem.Str.ofString "9").cps.toList < x.cps.toList))) | _=>false) id itIs_str (by rw [List.length_map]; exact Nat.le_trans (Nat.le_of_eq lc) (by omega)) (fun x H' R hx s' hR=>?_) (fun x H' R hx hp s' hR=>⟨_,rfl,hR H' (Same.refl _)⟩) fun l H7 n7 s7 h7=>?_
    · obtain ⟨u,_,rfl⟩:=List.mem_map.mp hx
      dsimp only at hR
      refine ⟨_,rfl,_,_,rfl,rfl,_,rfl,ite2 (fun d=>?_) (fun d=>?_)⟩
      · rw [d,Bool.true_and] at hR
        exact ⟨_,_,rfl,rfl,_,rfl,hR⟩
      · rw [Bool.eq_false_iff.mpr d,Bool.false_and] at hR
        exact ⟨_,rfl,hR⟩
    rw [List.map_id] at h7
    refine ⟨small (by show 0≤1000000; decide),fun p9 n9=>?_⟩
    have s9:=same_new n9 (.lst [])
    refine ⟨l,p9,_,[],rfl,rfl,SqL.of (s9.get h7),SqL.of upd_same,?_,rfl,_,rfl,?_⟩
    · rw [List.all_eq_true]
      intro v hv
      obtain ⟨u,_,rfl⟩:=List.mem_map.mp (List.mem_filter.mp hv).1
      rfl
    have fe:(((cod y).map fun c=>V.str ⟨#[c]⟩).filter fun v=>match v with | .str x=>!(!(decide (x.cps.toList < (PySem.Str.ofString "0").cps.toList)) && !(decide ((PySem.Str.ofString "9").cps.toList < x.cps.toList))) | _=>false) = []↔∀ c∈cod y,c∈cod FG:=by
      rw [List.filter_eq_nil_iff]
      constructor
      · intro h c hc
        have:=h _ (List.mem_map.mpr ⟨c,hc,rfl⟩)
        exact (dig_iff c).mp (by simpa using this)
      · intro h v hv
        obtain ⟨c,hc,rfl⟩:=List.mem_map.mp hv
        have:=(dig_iff c).mpr (h c hc)
        dsimp only
        rw [this]
        decide
    by_cases hfg:∀ c∈cod y,c∈cod FG
    case neg=>
      refine iteTc ?_ (nq (fun h=>hfg h.2.1) _ (s7.trans s9))
      show (!decide _) = true
      rw [decide_eq_false fun e=>hfg (fe.mp e)]
      rfl
    refine iteFc ?_ ?_
    · show (!decide _) = false
      rw [decide_eq_true (fe.mpr hfg)]
      rfl
    obtain ⟨n,hn⟩:=num_some y1 hfg c9
    have yes:¬ (1 < y.length∧PySem.Txt.startswith y (PySem.Str.ofString "0") = true)→∀ H',Same H H'→Q (.int n) H':=fun h H' s'=>by
      have:=q H' s'
      rw [show numR y = some (.int n) by unfold numR; rw [if_pos ⟨c9,hfg,h⟩,hn]; rfl] at this
      exact this
    obtain ⟨c0,r0,e0⟩:∃ c0 r0,cod y = c0 :: r0:=by
      cases h:cod y with
      | nil=>exact absurd (str_ext (show cod y = cod EM by rw [h]; decide +kernel)) y1
      | cons c0 r0=>exact ⟨c0,r0,rfl⟩
    have st:PySem.Txt.startswith y (PySem.Str.ofString "0") = true↔c0 = 48:=by
      rw [starts_iff,show cod (PySem.Str.ofString "0") = [48] by decide +kernel,e0]
      exact ⟨fun ⟨r,e⟩=>(List.cons.inj e).1,fun e=>⟨r0,by rw [e]; rfl⟩⟩
    have s79:=s7.trans s9
    refine ⟨_,rfl,y,0,c0,rfl,rfl,small (by omega),(by show atI (cod y) 0 = _; rw [e0]; exact atI_nat (j:=0) rfl),rfl,_,rfl,ite2 (fun c=>?_) (fun c=>?_)⟩
    · have ec:c0 = 48:=by
        have e:=V.str.inj (of_decide_eq_true c)
        have:cod (⟨#[c0]⟩:Str) = cod (PySem.Str.ofString "0"):=by rw [e]
        rw [show cod (PySem.Str.ofString "0") = [48] by decide +kernel] at this
        exact (List.cons.inj this).1
      refine ⟨_,rfl,y,rfl,small (by omega),_,_,rfl,rfl,_,rfl,ite2 (fun d=>?_) (fun d=>?_)⟩
      · have d':=of_decide_eq_true d
        exact nq (fun h=>h.2.2 ⟨by omega,st.mpr ec⟩) _ s79
      · have d':=of_decide_eq_false (Bool.eq_false_iff.mpr d)
        exact ⟨_,rfl,y,n,rfl,hn,by omega,yes (fun h=>by have:=h.1; omega) _ s79⟩
    · have ec:c0≠48:=fun e=>c (by rw [e]; decide +kernel)
      exact ⟨_,rfl,y,n,rfl,hn,by omega,yes (fun h=>ec (st.mp h.2)) _ s79⟩
  have ek:=of_decide_eq_false (Bool.eq_false_iff.mpr c)
  have ep:partR k y = if k = KP∧y = DOT then some (.str EM) else some (.str y):=by unfold partR; rw [if_neg kx,if_neg y1,if_neg ek]
  rw [ep] at q
  refine ⟨_,rfl,small (by show 2≤1000000; decide),fun p hp=>?_⟩
  have s1:=same_new hp (.lst [V.str y,V.str EM])
  refine ⟨_,rfl,rfl,_,rfl,?_⟩
  rw [k2 k hk]
  refine ite2 (fun c=>?_) (fun c=>?_)
  · have e1:=of_decide_eq_true c
    refine ⟨_,rfl,rfl,.inr ⟨_,rfl,?_⟩⟩
    have:=q _ s1
    by_cases e2:y = DOT
    · rw [if_pos ⟨e1,e2⟩] at this
      rw [decide_eq_true (show V.str y = V.str DOT by rw [e2])]
      exact ⟨p,_,_,_,rfl,rfl,SqL.of upd_same,rfl,this⟩
    · rw [if_neg fun h=>e2 h.2] at this
      rw [decide_eq_false (show ¬ V.str y = V.str DOT from fun e=>e2 (V.str.inj e))]
      exact ⟨p,_,_,_,rfl,rfl,SqL.of upd_same,rfl,this⟩
  · have e1:=of_decide_eq_false (Bool.eq_false_iff.mpr c)
    have:=q _ s1
    rw [if_neg fun h=>e1 h.1] at this
    exact .inr ⟨_,rfl,p,_,_,_,rfl,rfl,SqL.of upd_same,rfl,this⟩
end
theorem cod_joinA:∀ (A B:List Str),B≠[]→cod (PySem.Txt.join BL (A ++ B)) = jcl 32 A (PySem.Txt.join BL B):=by
  intro A B hB
  show cod (PySem.Builtin.Str.glued BL (A ++ B)) = jcl 32 A (PySem.Builtin.Str.glued BL B)
  rw [StrLaws.glued_eq_join,StrLaws.glued_eq_join]
  induction A with
  | nil=>rfl
  | cons x r ih=>
    cases h:r ++ B with
    | nil=>exact absurd (List.append_eq_nil_iff.mp h).2 hB
    | cons y r'=>
      show cod (PySem.Str.join BL (x :: (r ++ B))) = cod x ++ 32 :: jcl 32 r (PySem.Str.join BL B)
      rw [← ih,h,show PySem.Str.join BL (x :: y :: r') = x ++ BL ++ PySem.Str.join BL (y :: r') from rfl,cod_app,cod_app,bl_cod,List.append_assoc]
      rfl
theorem join_splitB (z:Str):PySem.Txt.join BL (PySem.Txt.split z BL) = z:=by
  show PySem.Builtin.Str.glued BL _ = _
  rw [StrLaws.glued_eq_join,StrLaws.join_split]
theorem splitMax_few {c:Nat} {x t:Str} {ws:List Str} {k:Int} (h:cod x = jcl c ws t) (hf:∀ w∈ws,c ∉ cod w) (ht:c ∉ cod t) (hk:(ws.length:Int)≤k):PySem.Txt.splitMax x ⟨#[c]⟩ k = ws ++ [t]:=by
  obtain ⟨r,e,l⟩:=pos_jcl (c:=c) (ws:=ws) (t:=t) hf
  rw [posC_free ht,List.map_nil,List.append_nil] at e
  have ho:PySem.Builtin.Str.occurrences x ⟨#[c]⟩ 0 x.length (PySem.limitOf x k) = (posC c (cod x)).take ws.length:=by
    have hl:ws.length≤PySem.limitOf x k:=by
      unfold PySem.limitOf
      rw [if_neg (by omega)]
      omega
    rw [occ_pos,h,e,List.take_of_length_le (by omega),List.take_of_length_le (by omega)]
  unfold PySem.Txt.splitMax
  split
  · rename_i hc
    obtain ⟨rfl,rfl⟩:=jcl_free h (no_occ hc)
    rfl
  · split
    · rename_i he
      rw [ho,h,e,List.isEmpty_iff] at he
      cases ws with
      | nil=>rw [show x = t from str_ext h]; rfl
      | cons w ws=>
        cases r with
        | nil=>cases l
        | cons a r=>cases he
    · rw [ho]
      exact parts0 h hf rfl
theorem wds_is {z w0:Str} {ys ks:List Str} (hs:PySem.Txt.split z BL = w0 :: ys) (hk:KX ∉ ks.take (ks.length - 1)) (h1:1≤ks.length) (h:ys.length = ks.length∨(ks.length < ys.length∧KX∈ks)) :
    ∃ us,wdsR z ks = w0 :: us∧us.length = ks.length∧∀ i k,ks[i]? = some k→us[i]? = if k = KX then some (PySem.Txt.join BL (ys.drop i)) else ys[i]?:=by
  unfold wdsR
  by_cases hx:KX∈ks
  · rw [if_pos hx]
    have hz:cod z = jcl 32 ((w0 :: ys).take ks.length) (PySem.Txt.join BL ((w0 :: ys).drop ks.length)):=by
      rw [← cod_joinA _ _ (fun e=>by have:=congrArg List.length e; rw [List.length_drop,List.length_cons] at this; simp at this; omega),List.take_append_drop,← hs,join_splitB]
    have hf:∀ y∈(w0 :: ys).take ks.length,32 ∉ cod y:=fun y hy=>by
      have hy':y∈PySem.Txt.split z BL:=by rw [hs]; exact List.mem_of_mem_take hy
      rw [bl_one] at hy'
      exact StrLaws.split_free z 32 y hy'
    have hl:((w0 :: ys).take ks.length).length = ks.length:=by rw [List.length_take,List.length_cons]; omega
    have hm:=splitMax_jcl (c:=32) hz hf (k:=(ks.length:Int)) (by rw [hl])
    rw [← bl_one] at hm
    rw [hm]
    obtain ⟨n,en⟩:∃ n,ks.length = n + 1:=⟨ks.length - 1,by omega⟩
    refine ⟨ys.take n ++ [PySem.Txt.join BL (ys.drop n)],by rw [en]; rfl,by rw [List.length_append,List.length_take,List.length_singleton]; omega,fun i k hi=>?_⟩
    have il:=(List.getElem?_eq_some_iff.mp hi).1
    by_cases ei:i = n
    · subst ei
      have ekx:k = KX:=by
        obtain ⟨j,hj⟩:=List.getElem?_of_mem hx
        have jl:=(List.getElem?_eq_some_iff.mp hj).1
        by_cases ej:j = i
        · rw [ej,hi] at hj; exact Option.some.inj hj
        · exact absurd (List.mem_of_getElem? (i:=j) (show (ks.take (ks.length - 1))[j]? = some KX by rw [List.getElem?_take,if_pos (by omega)]; exact hj)) hk
      rw [if_pos ekx,List.getElem?_append_right (by rw [List.length_take]; omega),List.length_take,show i - min i ys.length = 0 by omega]
      rfl
    · have nk:k≠KX:=fun e=>hk (List.mem_of_getElem? (i:=i) (by rw [List.getElem?_take,if_pos (by omega),hi,e]))
      rw [if_neg nk,List.getElem?_append_left (by rw [List.length_take]; omega),List.getElem?_take,if_pos (by omega)]
  · rw [if_neg hx,hs]
    have he:ys.length = ks.length:=h.elim id fun z=>absurd z.2 hx
    exact ⟨ys,rfl,he,fun i k hi=>by rw [if_neg fun e=>hx (by rw [← e]; exact List.mem_of_getElem? hi)]⟩
theorem wds_not {z w0:Str} {ys ks:List Str} (hs:PySem.Txt.split z BL = w0 :: ys) (h:ys.length < ks.length∨(ks.length < ys.length∧KX ∉ ks)):(wdsR z ks).length≠ks.length + 1:=by
  unfold wdsR
  by_cases hx:KX∈ks
  · rw [if_pos hx]
    have hlt:ys.length < ks.length:=h.elim id fun z=>absurd hx z.2
    obtain ⟨ws,t,e1,e2,e3⟩:=split_ok z
    have el:ws.length = ys.length:=by
      have:=congrArg List.length (hs.symm.trans e1)
      rw [List.length_cons,List.length_append,List.length_singleton] at this
      omega
    have:=splitMax_few (k:=(ks.length:Int)) e2 (fun w hw=>e3 w (List.mem_append_left _ hw)) (e3 t (by simp)) (by omega)
    rw [← bl_one] at this
    rw [this,List.length_append,List.length_singleton]
    omega
  · rw [if_neg hx,hs,List.length_cons]
    rcases h with h | h
    · omega
    · omega
section
variable {P:Program} {w:World} {K:PySem.W.Frag} {mg:Str→Option Value} {base:Heap} {f:Addr} {XC:Nat→Addr} {fd:FuncData}
theorem split_cons (z:Str):∃ w0 ys,PySem.Txt.split z BL = w0 :: ys∧headR z = w0:=by
  unfold headR
  cases hs:PySem.Txt.split z BL with
  | nil=>have:=PyProof.Rows.split_pos z BL; rw [hs] at this; cases this
  | cons w0 ys=>exact ⟨w0,ys,rfl,rfl⟩
theorem tab_kinds:∀ p∈TB_DEED_PARTS,∀ k∈p.2,k∈[KW,KN,KP,KX]:=by decide +kernel
theorem kt_is:∀ k∈[KW,KN,KP,KX],decide (V.str ⟨#[kcode k]⟩ = V.str (PySem.Str.ofString "t")) = decide (k = KX):=by decide +kernel
theorem part_val (k y:Str):partR k y = none∨(∃ z,partR k y = some (.str z))∨∃ n,partR k y = some (.int n):=by
  unfold partR
  split
  · exact .inr (.inl ⟨_,rfl⟩)
  · split
    · exact .inl rfl
    · split
      · unfold numR
        split
        · cases PySem.intText? y with
          | none=>exact .inl rfl
          | some n=>exact .inr (.inr ⟨n,rfl⟩)
        · exact .inl rfl
      · split
        · exact .inr (.inl ⟨_,rfl⟩)
        · exact .inr (.inl ⟨_,rfl⟩)
theorem part_flat (k y:Str):flatV ((partR k y).getD .non) = true:=by
  rcases part_val k y with h | ⟨z,h⟩ | ⟨n,h⟩ <;> rw [h] <;> rfl
theorem part_non (k y:Str):eqV ((partR k y).getD .non) .non = (partR k y).isNone:=by
  rcases part_val k y with h | ⟨z,h⟩ | ⟨n,h⟩ <;> rw [h] <;> rfl
theorem sum_jcl (c:Nat) (t:Str):∀ ws:List Str,(jcl c ws t).length = ((ws ++ [t]).map (·.length)).sum + ws.length
  | []=>by
    show (cod t).length = [t.length].sum + 0
    rw [cod_len]; simp
  | w :: ws=>by
    have ih:=sum_jcl c t ws
    show (cod w ++ c :: jcl c ws t).length = _
    rw [List.length_append,List.length_cons,ih,cod_len,List.cons_append,List.map_cons,List.sum_cons,List.length_cons]
    omega
theorem split_sum {z w0:Str} {ys:List Str} (hs:PySem.Txt.split z BL = w0 :: ys) (i:Nat):((ys.drop i).map (·.length)).sum + ys.length≤z.length:=by
  obtain ⟨ws,t,e1,e2,_⟩:=split_ok z
  have h:=sum_jcl 32 t ws
  rw [← e2,cod_len,← e1,hs,List.map_cons,List.sum_cons] at h
  have el:ws.length = ys.length:=by
    have:=congrArg List.length (hs.symm.trans e1)
    rw [List.length_cons,List.length_append,List.length_singleton] at this
    omega
  have hd:(ys.map (·.length)).sum = ((ys.take i).map (·.length)).sum + ((ys.drop i).map (·.length)).sum:=by
    rw [← List.sum_append,← List.map_append,List.take_append_drop]
  omega
def sp__law_due (K:PySem.W.Frag):Sp:=fun vs H Q _=>(∃ z,vs = [.str z]∧z.length≤100000∧(∀ xs,readR z = some xs→∀ l H',Same H H'→H l = none→H' l = some (.tup xs)→Q (.ref l) H')∧(readR z = none→∀ H',Same H H'→Q .non H'))∨
  ∃ v,vs = [v]∧Ok H v∧tyN H v≠"str"∧∀ H',Same H H'→Q .non H'
theorem ok__law_due (T:Txt w K mg XC) (F:Fun K "_law_due" "_law_due" s__law_due f fd) (D__law_kinds:Def P w K mg base 1 "_law_kinds" ["_law_word_here"] (sp__law_kinds K)) (D__law_part:Def P w K mg base 1 "_law_part" ["_law_kind","_law_word_here"] (sp__law_part K)):FnOk P w K mg base CX0 2 f fd ["_law_text_here"] (sp__law_due K):=by
  refine F.ok sc__law_due (fun vs H Q E h=>?_) (fun cdv A outer s H vs Q E hr h=>?_)
  · rcases h with ⟨z,rfl,_⟩ | ⟨v,rfl,_⟩
    · rfl
    · rfl
  have hu:=hu_of hr
  have ok0:Ok H (.str EM):=(by show EM.length≤_; decide +kernel)
  refine ⟨_,(@pss_cons _ _ _ _ _ (@ps_if _ _ _ _ _ _ _ _ (@pt_not _ _ _ _ (@pt_val _ _ _ (@pe_callB _ _ _ _ _ _ _ _ _ call_isinst (by rfl) T.b_isinstance bt_isinstance (@pa_cons _ _ _ _ _ (pv 0) (@pa_cons _ _ _ _ _ (@pe_ty _ _ _ _ rfl T.b_str bt_str (by decide) (by decide)) (@pa_nil _) (by rfl)) (by rfl)) (by decide) (by decide) (by rfl) (by rfl)) (by intro _; rfl))) (@pss_one _ _ _ (@ps_ret _ _ _ _ (@pe_non _ _ _))) (@pss_nil _)) (@pss_cons _ _ _ _ _ (@ps_set _ _ (1) _ _ _ _ sc__law_due.nd rfl (by first | exact Or.inl rfl | exact Or.inr rfl) (@pe_bm _ _ _ _ _ _ _ _ _ _ _ _ PySem.F.plainAttrs_str PySem.F.slot_str_split PySem.F.type_str_split mt_split (pv 0) (@pa_cons _ _ _ _ _ (@pe_str _ _ _ _) (@pa_nil _) (by rfl)) (by rfl) (by rfl) (by rfl) (by rfl) (by rfl)) (by rfl) (by first | exact .inl rfl | exact .inr rfl | assumption)) (@pss_cons _ _ _ _ _ (@ps_set _ _ (2) _ _ _ _ sc__law_due.nd rfl (by first | exact Or.inl rfl | exact Or.inr rfl) (@pe_fn _ _ _ _ _ _ _ _ _ _ D__law_kinds (hr.mono (by decide)) rfl (@pa_cons _ _ _ _ _ (@pe_ix _ _ _ _ _ _ _ ix_list (pv 1) (@pe_int _ _ _ _) (fun _ _=>rfl)) (@pa_nil _) (by rfl)) (by decide) (by rfl) (by rfl)) (by rfl) (by first | exact .inl rfl | exact .inr rfl | assumption)) (@pss_cons _ _ _ _ _ (@ps_set _ _ (3) _ _ _ _ sc__law_due.nd rfl (by first | exact Or.inl rfl | exact Or.inr rfl) (@pe_lst _ _ _ _ (@pa_cons _ _ _ _ _ (@pe_ix _ _ _ _ _ _ _ ix_list (pv 1) (@pe_int _ _ _ _) (fun _ _=>rfl)) (@pa_nil _) (by rfl))) (by rfl) (by first | exact .inl rfl | exact .inr rfl | assumption)) (@pss_cons _ _ _ _ _ (@ps_set _ _ (1) _ _ _ _ sc__law_due.nd rfl (by first | exact Or.inl rfl | exact Or.inr rfl) (@pe_slice _ _ _ _ _ _ _ _ _ _ sl_list (pv 1) (@po_some _ _ _ (@pe_int _ _ _ _)) (@po_none _)) (by rfl) (by first | exact .inl rfl | exact .inr rfl | assumption)) (@pss_cons _ _ _ _ _ (@ps_if _ _ _ _ _ _ _ _ (@PW.pt _ _ _ (@pw_or _ _ _ _ _ _ _ (@pt_cmpR _ _ _ _ _ _ _ _ op_eq (pv 2) (@pe_str _ _ _ _) (nomark _)) (@pw_or _ _ _ _ _ _ _ (@pt_cmpR _ _ _ _ _ _ _ _ op_lt (@pe_callB _ _ _ _ _ _ _ _ _ call_len_seq (by rfl) T.b_len bt_len (@pa_cons _ _ _ _ _ (pv 1) (@pa_nil _) (by rfl)) (by decide) (by decide) (by rfl) (by rfl)) (@pe_callB _ _ _ _ _ _ _ _ _ call_len_str (by rfl) T.b_len bt_len (@pa_cons _ _ _ _ _ (pv 2) (@pa_nil _) (by rfl)) (by decide) (by decide) (by rfl) (by rfl)) (nomark _)) (@pw_or1 _ _ _ _ (@PW.pt _ _ _ (@pw_and _ _ _ _ _ _ _ (@pt_cmpR _ _ _ _ _ _ _ _ op_gt (@pe_callB _ _ _ _ _ _ _ _ _ call_len_seq (by rfl) T.b_len bt_len (@pa_cons _ _ _ _ _ (pv 1) (@pa_nil _) (by rfl)) (by decide) (by decide) (by rfl) (by rfl)) (@pe_callB _ _ _ _ _ _ _ _ _ call_len_str (by rfl) T.b_len bt_len (@pa_cons _ _ _ _ _ (pv 2) (@pa_nil _) (by rfl)) (by decide) (by decide) (by rfl) (by rfl)) (nomark _)) (@pw_and1 _ _ _ _ (@pt_cmpR _ _ _ _ _ _ _ _ op_ne (@pe_ix _ _ _ _ _ _ _ ix_str (pv 2) (@pe_un _ _ _ _ _ _ un_neg (@pe_int _ _ _ _)) (fun _ _=>rfl)) (@pe_str _ _ _ _) (nomark _))))))))) (@pss_one _ _ _ (@ps_ret _ _ _ _ (@pe_non _ _ _))) (@pss_nil _)) (@pss_cons _ _ _ _ _ (@ps_for _ _ _ _ _ _ _ _ PassesOwn.never rfl (@pi_range1 _ _ _ _ _ _ rfl T.b_range (@pa_cons _ _ _ _ _ (@pe_callB _ _ _ _ _ _ _ _ _ call_len_str (by rfl) T.b_len bt_len (@pa_cons _ _ _ _ _ (pv 2) (@pa_nil _) (by rfl)) (by decide) (by decide) (by rfl) (by rfl)) (@pa_nil _) (by rfl)) (by rfl)) (@pg_name _ _ (4) _ sc__law_due.nd rfl (by first | exact Or.inl rfl | exact Or.inr rfl) (by first | exact .inl rfl | exact .inr rfl | assumption)) (@pss_cons _ _ _ _ _ (@ps_set _ _ (5) _ _ _ _ sc__law_due.nd rfl (by first | exact Or.inl rfl | exact Or.inr rfl) (@pe_bm _ _ _ _ _ _ _ _ _ _ _ _ PySem.F.plainAttrs_str PySem.F.slot_str_join PySem.F.type_str_join (mt_join rfl) (@pe_str _ _ _ _) (@pa_cons _ _ _ _ _ (@pe_slice _ _ _ _ _ _ _ _ _ _ sl_list (pv 1) (@po_some _ _ _ (pv 4)) (@po_none _)) (@pa_nil _) (by rfl)) (by rfl) (by rfl) (by rfl) (by rfl) (by rfl)) (by rfl) (by first | exact .inl rfl | exact .inr rfl | assumption)) (@pss_cons _ _ _ _ _ (@ps_if _ _ _ _ _ _ _ _ (@pt_cmpR _ _ _ _ _ _ _ _ op_ne (@pe_ix _ _ _ _ _ _ _ ix_str (pv 2) (pv 4) (fun _ _=>rfl)) (@pe_str _ _ _ _) (nomark _)) (@pss_one _ _ _ (@ps_set _ _ (5) _ _ _ _ sc__law_due.nd rfl (by first | exact Or.inl rfl | exact Or.inr rfl) (@pe_fn _ _ _ _ _ _ _ _ _ _ D__law_part (hr.mono (by decide)) rfl (@pa_cons _ _ _ _ _ (@pe_ix _ _ _ _ _ _ _ ix_str (pv 2) (pv 4) (fun _ _=>rfl)) (@pa_cons _ _ _ _ _ (@pe_ix _ _ _ _ _ _ _ ix_list (pv 1) (pv 4) (fun _ _=>rfl)) (@pa_nil _) (by rfl)) (by rfl)) (by decide) (by rfl) (by rfl)) (by rfl) (by first | exact .inl rfl | exact .inr rfl | assumption))) (@pss_nil _)) (@pss_one _ _ _ (@ps_expr _ _ _ _ (@pe_bm _ _ _ _ _ _ _ _ _ _ _ _ PySem.F.plainAttrs_list PySem.F.slot_list_append PySem.F.type_list_append mt_append (pv 3) (@pa_cons _ _ _ _ _ (pv 5) (@pa_nil _) (by rfl)) (by rfl) (by rfl) (by rfl) (by rfl) (by rfl)) (by rfl))))) (by intro _; rfl)) (@pss_one _ _ _ (@ps_ret _ _ _ _ (@pe_ix _ _ _ _ _ _ _ ix_list (@pe_lst _ _ _ _ (@pa_cons _ _ _ _ _ (@pe_callTy _ _ _ _ _ _ _ _ _ call_tuple_of (by rfl) T.b_tuple bt_tuple (@pa_cons _ _ _ _ _ (pv 3) (@pa_nil _) (by rfl)) (by decide) (by decide) (by rfl) (by rfl)) (@pa_cons _ _ _ _ _ (@pe_non _ _ _) (@pa_nil _) (by rfl)) (by rfl))) (@pe_callTy _ _ _ _ _ _ _ _ _ call_int1 (by rfl) T.b_int bt_int (@pa_cons _ _ _ _ _ (@pe_cmpR _ _ _ _ _ _ _ _ op_in_seq (@pe_non _ _ _) (pv 3) rfl) (@pa_nil _) (by rfl)) (by decide) (by decide) (by rfl) (by rfl)) (fun _ _=>rfl))))))))))),?_⟩
  try dsimp only [cxOf,Cx.nox,Cx.wish]
  rcases h.symm with ⟨v,rfl,ok,nt,qN⟩ | ⟨z,rfl,zl,q,qN⟩
  · refine ⟨_,rfl,_,_,_,_,rfl,ok.ty K,ok.kit K,_,rfl,iteTc ?_ (qN H (Same.refl _))⟩
    have tm:=ok.tyMem
    generalize tyN H v = t at nt tm
    have:∀ t∈["NoneType","bool","int","str","list","tuple"],t≠"str"→(!isA t "str") = true:=by decide +kernel
    exact this t tm nt
  refine ⟨_,rfl,_,_,_,_,rfl,(show TyOf K H (.str z) (.type "str") from .str z),ok0.kit K,_,rfl,iteFc rfl ?_⟩
  refine ⟨_,rfl,rfl,z,BL,rfl,rfl,by decide +kernel,by omega,fun p hp=>?_⟩
  have wle:∀ y∈PySem.Txt.split z BL,y.length≤z.length:=fun y hy=>PyProof.Rows.part_short hy
  obtain ⟨w0,ys,hs,hh⟩:=split_cons z
  have sl:=PyProof.Rows.split_le z BL
  rw [hs] at wle sl ⊢
  have s1:=same_new hp (.lst ((w0 :: ys).map V.str))
  have hp1:(upd H p (.lst ((w0 :: ys).map V.str))) p = some (.lst ((w0 :: ys).map V.str)):=upd_same
  dsimp only [gName]
  generalize upd H p (.lst ((w0 :: ys).map V.str)) = H1 at s1 hp1
  refine ⟨_,rfl,p,_,_,_,rfl,rfl,SqL.of hp1,atI_nat (j:=0) rfl,w0,rfl,fun H2 s2=>?_⟩
  refine ⟨_,rfl,p,_,_,_,rfl,rfl,SqL.of (s2.get hp1),atI_nat (j:=0) rfl,small (by show 1≤1000000; decide),fun g hg=>?_⟩
  have s3:=same_new hg (.lst [V.str w0])
  have hg3:(upd H2 g (.lst [V.str w0])) g = some (.lst [V.str w0]):=upd_same
  dsimp only [gName]
  generalize upd H2 g (.lst [V.str w0]) = H3 at s3 hg3
  refine ⟨_,rfl,1,rfl,p,_,rfl,SqL.of (s3.get (s2.get hp1)),fun p4 n4=>?_⟩
  rw [cut_lo (by decide)]
  have s4:=same_new n4 (.lst (((w0 :: ys).map V.str).drop (1:Int).toNat))
  have hp4:(upd H3 p4 (.lst (((w0 :: ys).map V.str).drop (1:Int).toNat))) p4 = some (.lst (ys.map V.str)):=upd_same
  dsimp only [gName]
  generalize upd H3 p4 (.lst (((w0 :: ys).map V.str).drop (1:Int).toNat)) = H4 at s4 hp4
  have hg4:=s4.get hg3
  have hgH:H g = none:=(s1.trans s2).free hg
  have ngp:g≠p4:=fun e=>by rw [← e,hg3] at n4; cases n4
  have sH:Same H H4:=((s1.trans s2).trans s3).trans s4
  have yl:ys.length≤100002:=by rw [List.length_cons] at sl; omega
  cases ht:tabLook TB_DEED_PARTS w0 with
  | none=>
    have ek:kindsR w0 = EM:=by unfold kindsR; rw [ht]
    rw [ek]
    exact ⟨_,rfl,rfl,_,rfl,iteTc (by decide +kernel) (qN (by unfold readR; rw [hh,ht]) H4 sH)⟩
  | some ks=>
    have ek:kindsR w0 = kc ks:=by unfold kindsR; rw [ht]
    have er:readR z = rowR z ks:=by unfold readR; rw [hh,ht]
    obtain ⟨w1,w2,w3,w4,w5,w6⟩:=tab_word _ (tab_mem ht)
    have w4:1≤ks.length:=w4
    have w5:ks.length≤5:=w5
    have tt:=tab_text _ (tab_mem ht)
    have kl:(kc ks).length = ks.length:=by show (ks.map kcode).toArray.size = _; simp
    have nr:(ys.length < ks.length∨(ks.length < ys.length∧KX ∉ ks))→readR z = none:=fun h=>by rw [er]; exact if_neg (wds_not hs h)
    rw [ek]
    refine seq_mid (t:=tIfS _ _ _) (fun σ' H'=>σ' = [some (.str z),some (.ref p4),some (.str (kc ks)),some (.ref g),none,none]∧H' = H4∧(ys.length = ks.length∨(ks.length < ys.length∧KX∈ks))) (fun N hN=>?_) ?_
    · refine ⟨_,rfl,rfl,_,rfl,iteFc (decide_eq_false fun e=>?_) ?_⟩
      · have:(kc ks).length = 0:=by rw [V.str.inj e]; decide +kernel
        omega
      refine ⟨_,rfl,p4,_,rfl,.inl (SqL.of hp4),_,rfl,kc ks,rfl,small (by omega),_,_,rfl,rfl,_,rfl,ite2 (fun c=>?_) (fun c=>?_)⟩
      · have c':=of_decide_eq_true c
        rw [List.length_map,kl] at c'
        exact qN (nr (.inl (by omega))) H4 sH
      have c1:=of_decide_eq_false (Bool.eq_false_iff.mpr c)
      rw [List.length_map,kl] at c1
      refine ⟨_,rfl,p4,_,rfl,.inl (SqL.of hp4),_,rfl,kc ks,rfl,small (by omega),_,_,rfl,rfl,_,rfl,ite2 (fun c=>?_) (fun c=>?_)⟩
      · have c':=of_decide_eq_true c
        rw [List.length_map,kl] at c'
        obtain ⟨pre,kk,ee⟩:∃ pre kk,ks = pre ++ [kk]:=⟨ks.dropLast,ks.getLast (fun e=>by rw [e] at w4; cases w4),(List.dropLast_concat_getLast _).symm⟩
        have hkk:kk∈[KW,KN,KP,KX]:=tab_kinds _ (tab_mem ht) kk (by rw [ee]; simp)
        have hcd:atI (kc ks).cps.toList (-1) = some (kcode kk):=by
          show atI (ks.map kcode).toArray.toList (-1) = _
          rw [ee,List.map_append]
          exact atI_last _ _
        refine ⟨_,rfl,_,rfl,kc ks,_,kcode kk,rfl,rfl,small (by omega),hcd,rfl,_,rfl,?_⟩
        rw [kt_is kk hkk]
        by_cases ekk:kk = KX
        · rw [decide_eq_true ekk]
          exact hN _ _ ⟨rfl,rfl,.inr ⟨by omega,by rw [ee,ekk]; simp⟩⟩
        · rw [decide_eq_false ekk]
          refine qN (nr (.inr ⟨by omega,fun hx=>?_⟩)) H4 sH
          have tt':KX ∉ ks.take (ks.length - 1):=tt
          rw [ee,List.length_append,List.length_singleton,Nat.add_sub_cancel,List.take_left'] at tt'
          · rw [ee] at hx
            rcases List.mem_append.mp hx with h | h
            · exact tt' h
            · exact ekk (List.mem_singleton.mp h).symm
          · rfl
      · have c2:=of_decide_eq_false (Bool.eq_false_iff.mpr c)
        rw [List.length_map,kl] at c2
        exact hN _ _ ⟨rfl,rfl,.inl (by omega)⟩
    · rintro σ H' ⟨rfl,rfl,hc⟩
      obtain ⟨us,u1,u2,u3⟩:=wds_is hs tt w4 hc
      have u1:wdsR z ks = w0 :: us:=u1
      have u2:us.length = ks.length:=u2
      have er':readR z = (partsR ks us).map fun vs=>.str w0 :: vs:=by
        rw [er]
        unfold rowR
        rw [u1,if_pos (by rw [List.length_cons,u2])]
        rfl
      have kcl:(kc ks).cps.toList = ks.map kcode:=by show (ks.map kcode).toArray.toList = _; simp
      refine ⟨_,rfl,kc ks,rfl,small (by omega),_,rfl,by omega,by omega,?_⟩
      rw [show (((kc ks).length:Nat):Int).toNat = ks.length by omega]
      refine for_range (lo:=0) (n:=ks.length) (fun i σ H2=>∃ v4 v5,σ = [some (.str z),some (.ref p4),some (.str (kc ks)),some (.ref g),v4,v5]∧Same H H2∧H2 p4 = some (.lst (ys.map V.str))∧H2 g = some (.lst ([V.str w0] ++ (List.range i).map fun j=>(partR (ks.getD j EM) (us.getD j EM)).getD .non))) ⟨none,none,rfl,sH,hp4,hg4⟩ ?_ ?_
      · rintro i σ H8 hi ⟨v4,v5,rfl,s8,hp8,hg8⟩
        have hk:ks[i]? = some ks[i]:=List.getElem?_eq_getElem hi
        have uk:=u3 i _ hk
        have ekd:ks.getD i EM = ks[i]:=by rw [List.getD_eq_getElem?_getD,hk]; rfl
        have hkk:ks[i]∈[KW,KN,KP,KX]:=tab_kinds _ (tab_mem ht) _ (List.getElem_mem hi)
        have hcd:atI (kc ks).cps.toList (0 + (i:Int)) = some (kcode ks[i]):=by
          rw [kcl,Int.zero_add]
          exact atI_nat (by rw [List.getElem?_map,hk]; rfl)
        have yi:i < ys.length:=by rcases hc with h | h <;> omega
        have hyi:ys[i]? = some ys[i]:=List.getElem?_eq_getElem yi
        refine ⟨rfl,_,rfl,_,rfl,_,rfl,p4,_,rfl,SqL.of hp8,fun q5 n5=>?_⟩
        rw [cut_lo (by omega),← List.map_drop]
        have s9:=same_new n5 (.lst ((ys.drop (0 + (i:Int)).toNat).map V.str))
        refine ⟨q5,BL,ys.drop (0 + (i:Int)).toNat,rfl,rfl,SqL.of upd_same,?_,?_⟩
        · have b:=split_sum hs (0 + (i:Int)).toNat
          have dl:(ys.drop (0 + (i:Int)).toNat).length≤ys.length:=by rw [List.length_drop]; omega
          rw [show BL.length = 1 by decide +kernel]
          omega
        have hp9:=s9.get hp8
        have hg9:=s9.get hg8
        have t9:=s8.trans s9
        dsimp only [gName]
        rw [show (0 + (i:Int)).toNat = i by omega] at s9 hp9 hg9 t9 ⊢
        generalize upd H8 q5 (.lst ((ys.drop i).map V.str)) = H9 at s9 hp9 hg9 t9
        have app:∀ (v:V) (H':Hp) (v5:Option V),Same H9 H'→v = (partR (ks.getD i EM) (us.getD i EM)).getD .non→∃ v4 v5',[some (.str z),some (.ref p4),some (.str (kc ks)),some (.ref g),some (V.int (0 + (i:Int))),v5] = [some (.str z),some (.ref p4),some (.str (kc ks)),some (.ref g),v4,v5']∧Same H (upd H' g (.lst ([V.str w0] ++ ((List.range i).map fun j=>(partR (ks.getD j EM) (us.getD j EM)).getD .non) ++ [v])))∧(upd H' g (.lst ([V.str w0] ++ ((List.range i).map fun j=>(partR (ks.getD j EM) (us.getD j EM)).getD .non) ++ [v]))) p4 = some (.lst (ys.map V.str))∧(upd H' g (.lst ([V.str w0] ++ ((List.range i).map fun j=>(partR (ks.getD j EM) (us.getD j EM)).getD .non) ++ [v]))) g = some (.lst ([V.str w0] ++ (List.range (i + 1)).map fun j=>(partR (ks.getD j EM) (us.getD j EM)).getD .non)):=fun v H' v5 s' e=>⟨_,_,rfl,same_upd (t9.trans s') hgH _,by rw [upd_ne (Ne.symm ngp)]; exact s'.get hp9,by rw [upd_same,List.range_succ,List.map_append,← List.append_assoc,e]; rfl⟩
        have lim:([V.str w0] ++ (List.range i).map fun j=>(partR (ks.getD j EM) (us.getD j EM)).getD .non).length < sizeLine:=smallLt (by rw [List.length_append,List.length_map,List.length_range]; show 1 + i < 1000000; omega)
        refine ⟨_,rfl,_,rfl,kc ks,_,_,rfl,rfl,small (by omega),hcd,rfl,_,rfl,?_⟩
        rw [kt_is _ hkk]
        by_cases ek:ks[i] = KX
        · rw [decide_eq_true ek]
          have eu:us.getD i EM = PySem.Txt.join BL (ys.drop i):=by rw [List.getD_eq_getElem?_getD,uk,if_pos ek]; rfl
          exact ⟨_,rfl,.inl ⟨rfl,_,SqL.of hg9⟩,_,rfl,g,_,_,rfl,rfl,hg9,lim,app _ H9 _ (Same.refl _) (by rw [ekd,eu]; unfold partR; rw [if_pos ek]; rfl)⟩
        · rw [decide_eq_false ek]
          have eu:us.getD i EM = ys[i]:=by rw [List.getD_eq_getElem?_getD,uk,if_neg ek,hyi]; rfl
          refine ⟨_,rfl,_,rfl,kc ks,_,_,rfl,rfl,small (by omega),hcd,_,rfl,_,rfl,p4,_,_,_,rfl,rfl,SqL.of hp9,(by rw [Int.zero_add]; exact atI_nat (by rw [List.getElem?_map,hyi]; rfl)),ks[i],ys[i],rfl,?_,Nat.le_trans (wle _ (List.mem_cons_of_mem _ (List.getElem_mem yi))) zl,fun H10 s10=>?_⟩
          · simp only [List.mem_cons,List.not_mem_nil,or_false] at hkk ⊢
            rcases hkk with h | h | h | h
            · exact .inl h
            · exact .inr (.inl h)
            · exact .inr (.inr h)
            · exact absurd h ek
          exact ⟨_,rfl,.inl ⟨rfl,_,SqL.of (s10.get hg9)⟩,_,rfl,g,_,_,rfl,rfl,s10.get hg9,lim,app _ H10 _ s10 (by rw [ekd,eu])⟩
      · rintro σ H8 ⟨v4,v5,rfl,s8,hp8,hg8⟩
        refine ⟨_,rfl,g,_,rfl,.inl ⟨SqL.of hg8,fun l nl=>⟨small (by show 2≤1000000; decide),fun p9 n9=>?_⟩⟩⟩
        have s9:=same_new nl (.tup ([V.str w0] ++ (List.range ks.length).map fun j=>(partR (ks.getD j EM) (us.getD j EM)).getD .non))
        have hl9:(upd H8 l (.tup ([V.str w0] ++ (List.range ks.length).map fun j=>(partR (ks.getD j EM) (us.getD j EM)).getD .non))) l = some (.tup ([V.str w0] ++ (List.range ks.length).map fun j=>(partR (ks.getD j EM) (us.getD j EM)).getD .non)):=upd_same
        have s10:=same_new n9 (.lst [V.ref l,V.non])
        refine ⟨_,rfl,g,_,rfl,.inl (SqL.of (s10.get (s9.get hg8))),rfl,?_,.inr ⟨_,rfl,?_⟩⟩
        · rw [List.all_append,List.all_map,Bool.and_eq_true]
          exact ⟨rfl,List.all_eq_true.mpr fun j _=>part_flat _ _⟩
        have nH:H l = none:=s8.free nl
        have iv:inV .non ([V.str w0] ++ (List.range ks.length).map fun j=>(partR (ks.getD j EM) (us.getD j EM)).getD .non) = (List.range ks.length).any fun j=>(partR (ks.getD j EM) (us.getD j EM)).isNone:=by
          unfold inV
          rw [List.any_append,List.any_map]
          show (false || _) = _
          rw [Bool.false_or]
          congr 1
          funext j
          exact part_non _ _
        rw [if_neg Bool.false_ne_true,iv]
        cases ha:(List.range ks.length).any fun j=>(partR (ks.getD j EM) (us.getD j EM)).isNone with
        | true=>
          obtain ⟨j,hj,hjn⟩:=List.any_eq_true.mp ha
          have jl:=List.mem_range.mp hj
          have hn:partsR ks us = none:=partsR_none (i:=j) (k:=ks.getD j EM) (y:=us.getD j EM) u2.symm (by rw [List.getD_eq_getElem?_getD,List.getElem?_eq_getElem jl]; rfl) (by rw [List.getD_eq_getElem?_getD,List.getElem?_eq_getElem (show j < us.length by omega)]; rfl) (Option.isNone_iff_eq_none.mp hjn)
          exact ⟨p9,_,_,_,rfl,rfl,SqL.of upd_same,rfl,qN (by rw [er',hn]; rfl) _ ((s8.trans s9).trans s10)⟩
        | false=>
          have hsm:=partsR_some u2.symm fun i k y hk hy e=>by
            have il:=(List.getElem?_eq_some_iff.mp hk).1
            have:=List.any_eq_false.mp ha i (List.mem_range.mpr il)
            rw [show ks.getD i EM = k by rw [List.getD_eq_getElem?_getD,hk]; rfl,show us.getD i EM = y by rw [List.getD_eq_getElem?_getD,hy]; rfl,e] at this
            exact this rfl
          rw [u2] at hsm
          exact ⟨p9,_,_,_,rfl,rfl,SqL.of upd_same,rfl,q _ (by rw [er',hsm]; rfl) l _ ((s8.trans s9).trans s10) nH (s10.get hl9)⟩
end
section
variable {P:Program} {w:World} {K:PySem.W.Frag} {mg:Str→Option Value} {base:Heap} {f:Addr} {XC:Nat→Addr} {fd:FuncData}
def KDS:List V:=[.bl true,.bl true,.bl false,.bl false,.bl false,.bl false,.bl false,.bl false,.bl false]
def sp__law_read (K:PySem.W.Frag):Sp:=fun vs H Q _=>(∃ z,vs = [.str z]∧sgn z∧z.length≤100000∧(∀ xs,readR z = some xs→∀ l H',Same H H'→H l = none→H' l = some (.tup xs)→Q (.ref l) H')∧(readR z = none→∀ l H',Same H H'→H l = none→H' l = some (.lst KDS)→Q (.ref l) H'))∨
  ∃ v,vs = [v]∧Ok H v∧tyN H v≠"str"∧∀ l H',Same H H'→H l = none→H' l = some (.lst KDS)→Q (.ref l) H'
theorem ok__law_read (T:Txt w K mg XC) (F:Fun K "_law_read" "_law_read" s__law_read f fd) (D_read_row:DefX P w K mg base 4 "read_row" ["text"] (sp_read_row K XC)):FnOk P w K mg base CX0 5 f fd ["_law_text_here"] (sp__law_read K):=by
  refine F.ok sc__law_read (fun vs H Q E h=>?_) (fun cdv A outer s H vs Q E hr h=>?_)
  · rcases h with ⟨z,rfl,_⟩ | ⟨v,rfl,_⟩
    · rfl
    · rfl
  refine ⟨_,(@pss_cons _ _ _ _ _ (@ps_set _ _ (1) _ _ _ _ sc__law_read.nd rfl (by first | exact Or.inl rfl | exact Or.inr rfl) (@pe_non _ _ _) (by rfl) (by first | exact .inl rfl | exact .inr rfl | assumption)) (@pss_cons _ _ _ _ _ (@ps_tryAsF _ _ _ _ _ _ _ _ _ _ _ (2) _ _ _ ⟨rfl,rfl⟩ T.x_StemError rfl sc__law_read.nd rfl rfl (@pxs_one _ _ _ (@px_set _ _ _ (1) _ _ _ sc__law_read.nd rfl (by first | exact Or.inl rfl | exact Or.inr rfl) (@pex_fn _ _ _ _ _ _ _ _ _ _ D_read_row (hr.mono (by decide)) rfl (@pa_cons _ _ _ _ _ (pv 0) (@pa_nil _) (by rfl)) (by decide) (by rfl) (by rfl)) (by rfl) (by first | exact .inl rfl | exact .inr rfl | assumption))) (@pss_nil _) (fun ea=>(@pss_cons _ _ _ _ _ (@ps_set _ _ (3) _ _ _ _ sc__law_read.nd rfl (by first | exact Or.inl rfl | exact Or.inr rfl) (@pe_lst _ _ _ _ (@pa_cons _ _ _ _ _ (@pe_callB _ _ _ _ _ _ _ _ _ (call_isXD (K:=K) (by rfl)) (by rfl) T.b_isinstance bt_isinstance (@pa_cons _ _ _ _ _ (pv 2) (@pa_cons _ _ _ _ _ (@pe_xcl _ _ _ _ rfl T.x_NoRow (by decide)) (@pa_nil _) (by rfl)) (by rfl)) (by decide) (by decide) (by rfl) (by rfl)) (@pa_cons _ _ _ _ _ (@pe_callB _ _ _ _ _ _ _ _ _ (call_isXD (K:=K) (by rfl)) (by rfl) T.b_isinstance bt_isinstance (@pa_cons _ _ _ _ _ (pv 2) (@pa_cons _ _ _ _ _ (@pe_ty _ _ _ _ rfl T.b_ValueError bt_ValueError (by decide) (by decide)) (@pa_nil _) (by rfl)) (by rfl)) (by decide) (by decide) (by rfl) (by rfl)) (@pa_nil _) (by rfl)) (by rfl))) (by rfl) (by first | exact .inl rfl | exact .inr rfl | assumption)) (@pss_cons _ _ _ _ _ (@ps_forE _ _ _ (ea) _ _ _ _ _ PassesOwn.never rfl (@pe_lst _ _ _ _ (@pa_cons _ _ _ _ _ (@pe_callB _ _ _ _ _ _ _ _ _ (call_isXD (K:=K) (by rfl)) (by rfl) T.b_isinstance bt_isinstance (@pa_cons _ _ _ _ _ (pv 2) (@pa_cons _ _ _ _ _ (@pe_xcl _ _ _ _ rfl T.x_NoName (by decide)) (@pa_nil _) (by rfl)) (by rfl)) (by decide) (by decide) (by rfl) (by rfl)) (@pa_cons _ _ _ _ _ (@pe_callB _ _ _ _ _ _ _ _ _ (call_isXD (K:=K) (by rfl)) (by rfl) T.b_isinstance bt_isinstance (@pa_cons _ _ _ _ _ (pv 2) (@pa_cons _ _ _ _ _ (@pe_xcl _ _ _ _ rfl T.x_NoPath (by decide)) (@pa_nil _) (by rfl)) (by rfl)) (by decide) (by decide) (by rfl) (by rfl)) (@pa_cons _ _ _ _ _ (@pe_callB _ _ _ _ _ _ _ _ _ (call_isXD (K:=K) (by rfl)) (by rfl) T.b_isinstance bt_isinstance (@pa_cons _ _ _ _ _ (pv 2) (@pa_cons _ _ _ _ _ (@pe_xcl _ _ _ _ rfl T.x_NoThing (by decide)) (@pa_nil _) (by rfl)) (by rfl)) (by decide) (by decide) (by rfl) (by rfl)) (@pa_cons _ _ _ _ _ (@pe_callB _ _ _ _ _ _ _ _ _ (call_isXD (K:=K) (by rfl)) (by rfl) T.b_isinstance bt_isinstance (@pa_cons _ _ _ _ _ (pv 2) (@pa_cons _ _ _ _ _ (@pe_xcl _ _ _ _ rfl T.x_Twice (by decide)) (@pa_nil _) (by rfl)) (by rfl)) (by decide) (by decide) (by rfl) (by rfl)) (@pa_nil _) (by rfl)) (by rfl)) (by rfl)) (by rfl))) (@pg_name _ _ (4) _ sc__law_read.nd rfl (by first | exact Or.inl rfl | exact Or.inr rfl) (by first | exact .inl rfl | exact .inr rfl | assumption)) (@pss_one _ _ _ (@ps_expr _ _ _ _ (@pe_bm _ _ _ _ _ _ _ _ _ _ _ _ PySem.F.plainAttrs_list PySem.F.slot_list_append PySem.F.type_list_append mt_append (pv 3) (@pa_cons _ _ _ _ _ (pv 4) (@pa_nil _) (by rfl)) (by rfl) (by rfl) (by rfl) (by rfl) (by rfl)) (by rfl))) (by intro _; rfl)) (@pss_cons _ _ _ _ _ (@ps_set _ _ (3) _ _ _ _ sc__law_read.nd rfl (by first | exact Or.inl rfl | exact Or.inr rfl) (@pe_op _ _ _ _ _ _ _ _ op_catS (pv 3) (@pe_lst _ _ _ _ (@pa_cons _ _ _ _ _ (@pe_callB _ _ _ _ _ _ _ _ _ (call_isXD (K:=K) (by rfl)) (by rfl) T.b_isinstance bt_isinstance (@pa_cons _ _ _ _ _ (pv 2) (@pa_cons _ _ _ _ _ (@pe_xcl _ _ _ _ rfl T.x_Bare (by decide)) (@pa_nil _) (by rfl)) (by rfl)) (by decide) (by decide) (by rfl) (by rfl)) (@pa_cons _ _ _ _ _ (@pe_callB _ _ _ _ _ _ _ _ _ (call_isXD (K:=K) (by rfl)) (by rfl) T.b_isinstance bt_isinstance (@pa_cons _ _ _ _ _ (pv 2) (@pa_cons _ _ _ _ _ (@pe_xcl _ _ _ _ rfl T.x_Grown (by decide)) (@pa_nil _) (by rfl)) (by rfl)) (by decide) (by decide) (by rfl) (by rfl)) (@pa_cons _ _ _ _ _ (@pe_callB _ _ _ _ _ _ _ _ _ (call_isXD (K:=K) (by rfl)) (by rfl) T.b_isinstance bt_isinstance (@pa_cons _ _ _ _ _ (pv 2) (@pa_cons _ _ _ _ _ (@pe_xcl _ _ _ _ rfl T.x_TooMany (by decide)) (@pa_nil _) (by rfl)) (by rfl)) (by decide) (by decide) (by rfl) (by rfl)) (@pa_nil _) (by rfl)) (by rfl)) (by rfl)))) (by rfl) (by first | exact .inl rfl | exact .inr rfl | assumption)) (@pss_one _ _ _ (@ps_set _ _ (1) _ _ _ _ sc__law_read.nd rfl (by first | exact Or.inl rfl | exact Or.inr rfl) (pv 3) (by rfl) (by first | exact .inl rfl | exact .inr rfl | assumption))))))) (by decide)) (@pss_one _ _ _ (@ps_ret _ _ _ _ (pv 1))))),?_⟩
  try dsimp only [cxOf,Cx.nox,Cx.wish,Cx.held]
  obtain ⟨v,rfl,rd⟩:∃ v,vs = [v]∧∀ (Q':VK) (E':XK),(∀ l H',Q (.ref l) H'→Q' (.ref l) H')→(∀ H',Same H H'→(∀ l H'',Same H H''→H l = none→H'' l = some (.lst KDS)→Q (.ref l) H'')→E' (.ref (XC 0)) none H')→sp_read_row K XC [v] H Q' E':=by
    rcases h with ⟨z,rfl,rs,rl,q,qN⟩ | ⟨v,rfl,ok,nt,qN⟩
    · exact ⟨_,rfl,fun Q' E' hQ hE=>.inl ⟨z,rfl,rs,rl,fun xs hx l H' s' n' h'=>hQ l H' (q xs hx l H' s' n' h'),fun hn H' s'=>hE H' s' (qN hn)⟩⟩
    · exact ⟨_,rfl,fun Q' E' hQ hE=>.inr ⟨v,rfl,ok,nt,fun H' s'=>hE H' s' qN⟩⟩
  refine ⟨_,rfl,?_⟩
  dsimp only [tNil,List.cons_append,List.nil_append]
  refine rd _ _ (fun l H' h=>⟨_,rfl,h⟩) fun H1 s1 qN=>⟨T.m_NoRow_StemError,XC 0,rfl,fun ea d hea=>?_⟩
  have s2:=s1.trans (same_new hea (excD ea (XC 0) d))
  have he2:(upd H1 ea (excD ea (XC 0) d)) ea = some (excD ea (XC 0) d):=upd_same
  generalize upd H1 ea (excD ea (XC 0) d) = H2 at s2 he2
  refine ⟨_,rfl,ea,XC 0,d,_,_,_,rfl,he2,T.e_NoRow,(fun u h=>h),T.k_NoRow_NoRow,_,rfl,ea,XC 0,d,_,_,_,rfl,he2,T.e_NoRow,(fun u h=>h),T.k_NoRow_ValueError,small (by show 2≤1000000; decide),fun l nl=>?_⟩
  have s3:=same_new nl (.lst [V.bl true,V.bl true])
  have he3:=s3.get he2
  have hl3:(upd H2 l (.lst [V.bl true,V.bl true])) l = some (.lst [V.bl true,V.bl true]):=upd_same
  have nlH:H l = none:=s2.free nl
  dsimp only [gName]
  generalize upd H2 l (.lst [V.bl true,V.bl true]) = H3 at s3 he3 hl3
  have t3:=s2.trans s3
  refine ⟨_,rfl,ea,XC 0,d,_,_,_,rfl,he3,T.e_NoRow,(fun u h=>h),T.k_NoRow_NoName,_,rfl,ea,XC 0,d,_,_,_,rfl,he3,T.e_NoRow,(fun u h=>h),T.k_NoRow_NoPath,_,rfl,ea,XC 0,d,_,_,_,rfl,he3,T.e_NoRow,(fun u h=>h),T.k_NoRow_NoThing,_,rfl,ea,XC 0,d,_,_,_,rfl,he3,T.e_NoRow,(fun u h=>h),T.k_NoRow_Twice,small (by show 4≤1000000; decide),fun l4 n4=>?_⟩
  have s4:=same_new n4 (.lst [V.bl false,V.bl false,V.bl false,V.bl false])
  have he4:=s4.get he3
  have hl4:=s4.get hl3
  have hw4:(upd H3 l4 (.lst [V.bl false,V.bl false,V.bl false,V.bl false])) l4 = some (.lst [V.bl false,V.bl false,V.bl false,V.bl false]):=upd_same
  have nll:l≠l4:=fun e=>by rw [← e,hl3] at n4; cases n4
  have nel:ea≠l:=fun e=>by rw [← e,he2] at nl; cases nl
  generalize upd H3 l4 (.lst [V.bl false,V.bl false,V.bl false,V.bl false]) = H4 at s4 he4 hl4 hw4
  refine ⟨l4,rfl,⟨_,SqL.of hw4⟩,for_list (K:=K) (a:=l4) (xs:=[V.bl false,V.bl false,V.bl false,V.bl false]) (fun i σ H5=>∃ v4,σ = [some v,some .non,some (.ref ea),some (.ref l),v4]∧Same H H5∧H5 ea = some (excD ea (XC 0) d)∧H5 l4 = some (.lst [V.bl false,V.bl false,V.bl false,V.bl false])∧H5 l = some (.lst ([V.bl true,V.bl true] ++ List.replicate i (V.bl false)))) ⟨none,rfl,t3.trans s4,he4,hw4,hl4⟩ (fun i σ H5 _ ⟨_,_,_,_,h,_⟩=>SqL.of h) ?_ ?_⟩
  · rintro i x σ H5 hi ⟨v4,rfl,s5,he5,hw5,hl5⟩
    have ex:x = V.bl false:=by
      have:=List.mem_of_getElem? hi
      simp only [List.mem_cons,List.not_mem_nil,or_false,or_self] at this
      exact this
    subst ex
    have il:i < 4:=(List.getElem?_eq_some_iff.mp hi).1
    refine ⟨_,rfl,.inl ⟨rfl,_,SqL.of hl5⟩,_,rfl,l,_,_,rfl,rfl,hl5,smallLt (by rw [List.length_append,List.length_replicate]; show 2 + i < 1000000; omega),?_⟩
    refine ⟨_,rfl,same_upd s5 nlH _,by rw [upd_ne nel]; exact he5,by rw [upd_ne (Ne.symm nll)]; exact hw5,?_⟩
    rw [upd_same,List.replicate_succ',List.append_assoc]
  · rintro σ H5 ⟨v4,rfl,s5,he5,hw5,hl5⟩
    refine ⟨⟨_,_,he5⟩,?_⟩
    refine ⟨_,rfl,_,rfl,ea,XC 0,d,_,_,_,rfl,he5,T.e_NoRow,(fun u h=>h),T.k_NoRow_Bare,_,rfl,ea,XC 0,d,_,_,_,rfl,he5,T.e_NoRow,(fun u h=>h),T.k_NoRow_Grown,_,rfl,ea,XC 0,d,_,_,_,rfl,he5,T.e_NoRow,(fun u h=>h),T.k_NoRow_TooMany,small (by show 3≤1000000; decide),fun l6 n6=>?_⟩
    have s6:=same_new n6 (.lst [V.bl false,V.bl false,V.bl false])
    refine ⟨l,l6,_,_,rfl,rfl,SqL.of (s6.get hl5),SqL.of upd_same,small (by show 9≤1000000; decide),fun l7 n7=>?_⟩
    have s7:=same_new n7 (.lst KDS)
    exact ⟨_,rfl,_,rfl,qN l7 _ ((s5.trans s6).trans s7) ((s5.trans s6).free n7) upd_same⟩
end
section
variable {P:Program} {w:World} {K:PySem.W.Frag} {mg:Str→Option Value} {base:Heap} {f:Addr} {XC:Nat→Addr} {fd:FuncData}
def trV:V→Tr
  | .str z=>.str z
  | .int n=>.int n
  | _=>.non
def Fl (vs:List V):Prop:=∀ v∈vs,(∃ z,v = .str z)∨∃ n,v = .int n
theorem reps_fl {F:Addr→Prop} {H:Hp} {vs:List V} (h:Fl vs):Reps F H (vs.map trV) vs:=reps_of (by rw [List.length_map]) fun i t v h1 h2=>by
  rw [List.getElem?_map,h2] at h1
  cases h1
  rcases h v (List.mem_of_getElem? h2) with ⟨z,rfl⟩ | ⟨n,rfl⟩
  · rfl
  · rfl
theorem deps_fl (vs:List V):Tr.deps (vs.map trV)≤1:=deps_map fun v _=>by cases v <;> exact Nat.le_refl _
theorem rep_fl {F:Addr→Prop} {H:Hp} {a:Addr} {vs:List V} (h:Fl vs) (ha:H a = some (.tup vs)):Rep F H (.tup (vs.map trV)) (.ref a):=⟨a,vs,rfl,ha,reps_fl h⟩
theorem dep_fl (vs:List V):Tr.dep (.tup (vs.map trV))≤100:=by
  have:=deps_fl vs
  show 1 + Tr.deps (vs.map trV)≤100
  omega
theorem parts_fl:∀ {ks ys:List Str} {vs:List V},partsR ks ys = some vs→Fl vs
  | [],[],vs,hv=>by cases hv; exact fun v hm=>nomatch hm
  | [],_ :: _,_,hv=>by cases hv
  | _ :: _,[],_,hv=>by cases hv
  | k :: ks,y :: ys,vs,hv=>by
    change (match partR k y,partsR ks ys with | some v,some vs=>some (v :: vs) | _,_=>none) = some vs at hv
    split at hv
    · rename_i v0 vs0 h1 h2
      cases hv
      intro v hm
      rcases List.mem_cons.mp hm with rfl | hm
      · rcases part_val k y with e | ⟨u,e⟩ | ⟨n,e⟩
        · rw [e] at h1; cases h1
        · rw [e] at h1; cases h1; exact .inl ⟨_,rfl⟩
        · rw [e] at h1; cases h1; exact .inr ⟨_,rfl⟩
      · exact parts_fl h2 v hm
    · cases hv
theorem read_fl {z:Str} {xs:List V} (h:readR z = some xs):Fl xs:=by
  unfold readR at h
  split at h
  · cases h
  · unfold rowR at h
    split at h
    · obtain ⟨vs,hv,rfl⟩:=Option.map_eq_some_iff.mp h
      intro v hm
      rcases List.mem_cons.mp hm with rfl | hm
      · exact .inl ⟨_,rfl⟩
      · exact parts_fl hv v hm
    · cases h
theorem row_sgn {dw:Str} {ks:List Str} {ps:List V} (h:DOk dw ks ps):sgn (rowT dw ks ps)∧(rowT dw ks ps).length≤4000:=by
  obtain ⟨ws,t,e1,e2⟩:=cod_joinB dw (wrs ks ps)
  obtain ⟨w1,w2,w3,w4,w5,w6⟩:=h.word
  have rw_:∀ y∈dw :: wrs ks ps,y.length≤500∧sgn y:=fun y hy=>by
    rcases List.mem_cons.mp hy with rfl | hy
    · exact ⟨by omega,w6⟩
    · obtain ⟨k,p,g,rfl⟩:=wrs_mem h.parts hy
      exact ⟨(writ_ok g).2.1,(writ_ok g).1⟩
  have lw:=(wrs_len h.parts).1
  have el:ws.length = ks.length:=by
    have:=congrArg List.length e1
    rw [List.length_cons,List.length_append,List.length_singleton] at this
    omega
  rw [e1] at rw_
  constructor
  · intro c hc
    change c∈cod (PySem.Txt.join BL (dw :: wrs ks ps)) at hc
    rw [e2] at hc
    rcases mem_jcl hc with rfl | ⟨y,hy,hc⟩
    · decide +kernel
    · exact (rw_ y hy).2 c hc
  · have:=jcl_len (c:=32) (ws:=ws) (t:=t) fun y hy=>(rw_ y hy).1
    rw [← e2,cod_len] at this
    show (PySem.Txt.join BL (dw :: wrs ks ps)).length≤4000
    omega
theorem pok_kx {v:V} (h:POk KX v):∃ z,v = .str z∧sgn z∧z.length≤500:=by
  generalize e:KX = k at h
  cases h with
  | wd=>exact absurd e (by decide +kernel)
  | nm=>exact absurd e (by decide +kernel)
  | pa=>exact absurd e (by decide +kernel)
  | tx h1 h2=>exact ⟨_,rfl,h1,h2⟩
theorem deed_cut {dw:Str} {ks:List Str} {ps:List V} (h:DOk dw ks ps) (hw:dw∈[W3,W4]):∃ (pre:List V) (z:Str),ps = pre ++ [.str z]∧z.length≤500∧pre.length≤5∧DOk dw ks (pre ++ [.str (PySem.Txt.slice z none (some 40))]):=by
  have fin:∀ z:Str,sgn z→z.length≤500→POk KX (.str (PySem.Txt.slice z none (some 40))):=fun z h1 h2=>by
    have e:=sl_to z (show (0:Int)≤40 by decide)
    refine .tx (fun c hc=>?_) ?_
    · rw [e] at hc
      exact h1 c (List.mem_of_mem_take hc)
    · rw [← cod_len,e,List.length_take]
      have:=cod_len z
      omega
  obtain ⟨tab,parts⟩:=h
  simp only [List.mem_cons,List.not_mem_nil,or_false] at hw
  rcases hw with rfl | rfl
  · have e:tabLook TB_DEED_PARTS W3 = some [KW,KP,KX]:=by decide +kernel
    have ek:ks = [KW,KP,KX]:=Option.some.inj (tab.symm.trans e)
    subst ek
    cases parts with
    | cons a1 r=>cases r with
      | cons a2 r=>cases r with
        | cons a3 r=>cases r with
          | nil=>
            obtain ⟨z,rfl,h1,h2⟩:=pok_kx a3
            exact ⟨[_,_],z,rfl,h2,(by show 2≤5; decide),e,.cons a1 (.cons a2 (.cons (fin z h1 h2) .nil))⟩
  · have e:tabLook TB_DEED_PARTS W4 = some [KW,KP,KN,KN,KX]:=by decide +kernel
    have ek:ks = [KW,KP,KN,KN,KX]:=Option.some.inj (tab.symm.trans e)
    subst ek
    cases parts with
    | cons a1 r=>cases r with
      | cons a2 r=>cases r with
        | cons a3 r=>cases r with
          | cons a4 r=>cases r with
            | cons a5 r=>cases r with
              | nil=>
                obtain ⟨z,rfl,h1,h2⟩:=pok_kx a5
                exact ⟨[_,_,_,_],z,rfl,h2,(by show 4≤5; decide),e,.cons a1 (.cons a2 (.cons a3 (.cons a4 (.cons (fin z h1 h2) .nil))))⟩
theorem tyN_same {H H':Hp} {v:V} (h:Ok H v) (s:Same H H'):tyN H' v = tyN H v:=by
  cases v with
  | ref a=>
    rcases h with ⟨xs,h⟩ | ⟨xs,h⟩
    · simp only [tyN,h,s.get h]
    · simp only [tyN,h,s.get h]
  | _=>rfl
theorem RowV.same {H H':Hp} {v:V} (h:RowV H v) (s:Same H H'):RowV H' v:=by
  rcases h with h | ⟨h1,h2⟩
  · exact .inl h
  · exact .inr ⟨h1.same s,by rw [tyN_same h1 s]; exact h2⟩
theorem RowV.upd {H:Hp} {v:V} {g:Addr} {us us':List V} (h:RowV H v) (hg:H g = some (.lst us)):RowV (upd H g (.lst us')) v:=by
  rcases h with h | ⟨h1,h2⟩
  · exact .inl h
  · cases v with
    | ref a=>
      by_cases e:a = g
      · subst e
        exact .inr ⟨.inl ⟨us',upd_same⟩,by simp only [tyN,upd_same]; decide⟩
      · refine .inr ⟨?_,?_⟩
        · rcases h1 with ⟨xs,h⟩ | ⟨xs,h⟩
          · exact .inl ⟨xs,by rw [upd_ne e]; exact h⟩
          · exact .inr ⟨xs,by rw [upd_ne e]; exact h⟩
        · simp only [tyN,upd_ne e] at h2 ⊢
          exact h2
    | str z=>exact absurd rfl h2
    | _=>exact .inr ⟨h1,h2⟩
theorem sIx_m1 (n d:Nat):HT.sIx n d (some (-1)) = ((-1:Int) + (n:Int)).toNat:=by
  show (if (-1:Int) < 0 then ((-1:Int) + (n:Int)).toNat else min (-1:Int).toNat n) = _
  rw [if_pos (by decide)]
def KDT:List Tr:=[.bl true,.bl true,.bl false,.bl false,.bl false,.bl false,.bl false,.bl false,.bl false]
theorem kds_rep {F:Addr→Prop} {H:Hp}:Reps F H KDT KDS:=⟨_,_,rfl,rfl,_,_,rfl,rfl,_,_,rfl,rfl,_,_,rfl,rfl,_,_,rfl,rfl,_,_,rfl,rfl,_,_,rfl,rfl,_,_,rfl,rfl,_,_,rfl,rfl,rfl⟩
def sp_law (K:PySem.W.Frag):Sp:=fun vs H Q _=>∃ (a:Addr) (ns:List Int),vs = [.ref a]∧SqL K H a (ns.map V.int)∧ns.length≤63∧∀ H',Q (.bl true) H'
theorem ok_law (T:Txt w K mg XC) (F:Fun K "law" "law" s_law f fd) (D__law_names:Def P w K mg base 1 "_law_names" ["_law_row_here","_law_many"] (sp__law_names K)) (D__law_row:Def P w K mg base 1 "_law_row" ["_law_cell","_law_many"] (sp__law_row K)) (D__law_deed:Def P w K mg base 2 "_law_deed" ["_law_cell","_law_names_here"] (sp__law_deed K)) (D__law_due:Def P w K mg base 2 "_law_due" ["_law_text_here"] (sp__law_due K)) (D__law_read:Def P w K mg base 5 "_law_read" ["_law_text_here"] (sp__law_read K)) (D__law_bent:Def P w K mg base 2 "_law_bent" ["_law_cell","_law_text_here"] (sp__law_bent K)) (D_row_of:Def P w K mg base 3 "row_of" ["deed"] (sp_row_of K)):FnOk P w K mg base CX0 6 f fd ["_law_script"] (sp_law K):=by
  refine F.ok sc_law (fun vs H Q E h=>?_) (fun cdv A outer s H vs Q E hr h=>?_)
  · obtain ⟨a,ns,rfl,_⟩:=h
    rfl
  obtain ⟨a,ns,rfl,hS,hl,q⟩:=h
  have hu:=hu_of hr
  have hu9:=hu9_of hr
  refine ⟨_,(@pss_cons _ _ _ _ _ (@ps_set _ _ (1) _ _ _ _ sc_law.nd rfl (by first | exact Or.inl rfl | exact Or.inr rfl) (@pe_fn _ _ _ _ _ _ _ _ _ _ D__law_names (hr.mono (by decide)) rfl (@pa_cons _ _ _ _ _ (@pe_fn _ _ _ _ _ _ _ _ _ _ D__law_row (hr.mono (by decide)) rfl (@pa_cons _ _ _ _ _ (@pe_callB _ _ _ _ _ _ _ _ _ call_len_seq (by rfl) T.b_len bt_len (@pa_cons _ _ _ _ _ (pv 0) (@pa_nil _) (by rfl)) (by decide) (by decide) (by rfl) (by rfl)) (@pa_cons _ _ _ _ _ (@pe_int _ _ _ _) (@pa_nil _) (by rfl)) (by rfl)) (by decide) (by rfl) (by rfl)) (@pa_cons _ _ _ _ _ (@pe_int _ _ _ _) (@pa_nil _) (by rfl)) (by rfl)) (by decide) (by rfl) (by rfl)) (by rfl) (by first | exact .inl rfl | exact .inr rfl | assumption)) (@pss_cons _ _ _ _ _ (@ps_set _ _ (2) _ _ _ _ sc_law.nd rfl (by first | exact Or.inl rfl | exact Or.inr rfl) (@pe_lst _ _ _ _ (@pa_nil _)) (by rfl) (by first | exact .inl rfl | exact .inr rfl | assumption)) (@pss_cons _ _ _ _ _ (@ps_for _ _ _ _ _ _ _ _ PassesOwn.never rfl (@pi_list _ _ _ _ (@pe_slice _ _ _ _ _ _ _ _ _ _ sl_list (pv 0) (@po_none _) (@po_some _ _ _ (@pe_int _ _ _ _)))) (@pg_name _ _ (3) _ sc_law.nd rfl (by first | exact Or.inl rfl | exact Or.inr rfl) (by first | exact .inl rfl | exact .inr rfl | assumption)) (@pss_cons _ _ _ _ _ (@ps_set _ _ (4) _ _ _ _ sc_law.nd rfl (by first | exact Or.inl rfl | exact Or.inr rfl) (@pe_fn _ _ _ _ _ _ _ _ _ _ D__law_deed (hr.mono (by decide)) rfl (@pa_cons _ _ _ _ _ (pv 3) (@pa_cons _ _ _ _ _ (pv 1) (@pa_nil _) (by rfl)) (by rfl)) (by decide) (by rfl) (by rfl)) (by rfl) (by first | exact .inl rfl | exact .inr rfl | assumption)) (@pss_cons _ _ _ _ _ (@ps_if _ _ _ _ _ _ _ _ (@pt_cmpR _ _ _ _ _ _ _ _ op_in_seq (@pe_ix _ _ _ _ _ _ _ ix_tup (pv 4) (@pe_int _ _ _ _) (fun _ _=>rfl)) (@pe_lst _ _ _ _ (@pa_cons _ _ _ _ _ (@pe_str _ _ _ _) (@pa_cons _ _ _ _ _ (@pe_str _ _ _ _) (@pa_nil _) (by rfl)) (by rfl))) rfl) (@pss_one _ _ _ (@ps_set _ _ (4) _ _ _ _ sc_law.nd rfl (by first | exact Or.inl rfl | exact Or.inr rfl) (@pe_op _ _ _ _ _ _ _ _ op_catT3 (@pe_slice _ _ _ _ _ _ _ _ _ _ sl_tup (pv 4) (@po_none _) (@po_some _ _ _ (@pe_un _ _ _ _ _ _ un_neg (@pe_int _ _ _ _)))) (@pe_tup _ _ _ _ _ (@pa_cons _ _ _ _ _ (@pe_slice _ _ _ _ _ _ _ _ _ _ sl_str (@pe_ix _ _ _ _ _ _ _ ix_tup (pv 4) (@pe_un _ _ _ _ _ _ un_neg (@pe_int _ _ _ _)) (fun _ _=>rfl)) (@po_none _) (@po_some _ _ _ (@pe_int _ _ _ _))) (@pa_nil _) (by rfl)))) (by rfl) (by first | exact .inl rfl | exact .inr rfl | assumption))) (@pss_nil _)) (@pss_one _ _ _ (@ps_expr _ _ _ _ (@pe_bm _ _ _ _ _ _ _ _ _ _ _ _ PySem.F.plainAttrs_list PySem.F.slot_list_append PySem.F.type_list_append mt_append (pv 2) (@pa_cons _ _ _ _ _ (@pe_fn _ _ _ _ _ _ _ _ _ _ D__law_bent (hr.mono (by decide)) rfl (@pa_cons _ _ _ _ _ (pv 3) (@pa_cons _ _ _ _ _ (@pe_fn _ _ _ _ _ _ _ _ _ _ D_row_of (hr.mono (by decide)) rfl (@pa_cons _ _ _ _ _ (pv 4) (@pa_nil _) (by rfl)) (by decide) (by rfl) (by rfl)) (@pa_nil _) (by rfl)) (by rfl)) (by decide) (by rfl) (by rfl)) (@pa_nil _) (by rfl)) (by rfl) (by rfl) (by rfl) (by rfl) (by rfl)) (by rfl))))) (by intro _; rfl)) (@pss_cons _ _ _ _ _ (@ps_for _ _ _ _ _ _ _ _ PassesOwn.never rfl (@pi_list _ _ _ _ (@pe_op _ _ _ _ _ _ _ _ op_catS (pv 2) (@pe_rev _ _ _ _ _ _ _ (pv 2) (@po_some _ _ _ (@pe_un _ _ _ _ _ _ un_neg (@pe_int _ _ _ _)))))) (@pg_name _ _ (5) _ sc_law.nd rfl (by first | exact Or.inl rfl | exact Or.inr rfl) (by first | exact .inl rfl | exact .inr rfl | assumption)) (@pss_cons _ _ _ _ _ (@ps_set _ _ (6) _ _ _ _ sc_law.nd rfl (by first | exact Or.inl rfl | exact Or.inr rfl) (@pe_fn _ _ _ _ _ _ _ _ _ _ D__law_due (hr.mono (by decide)) rfl (@pa_cons _ _ _ _ _ (pv 5) (@pa_nil _) (by rfl)) (by decide) (by rfl) (by rfl)) (by rfl) (by first | exact .inl rfl | exact .inr rfl | assumption)) (@pss_cons _ _ _ _ _ (@ps_set _ _ (7) _ _ _ _ sc_law.nd rfl (by first | exact Or.inl rfl | exact Or.inr rfl) (@pe_fn _ _ _ _ _ _ _ _ _ _ D__law_read (hr.mono (by decide)) rfl (@pa_cons _ _ _ _ _ (pv 5) (@pa_nil _) (by rfl)) (by decide) (by rfl) (by rfl)) (by rfl) (by first | exact .inl rfl | exact .inr rfl | assumption)) (@pss_cons _ _ _ _ _ (@ps_if _ _ _ _ _ _ _ _ (@PW.pt _ _ _ (@pw_and _ _ _ _ _ _ _ (@pt_cmp _ _ _ _ _ _ (@pc_isN _ _ _ _ _ (pv 6)) (by first | exact nobehind _ (by decide) (by decide) | rfl)) (@pw_and1 _ _ _ _ (@pt_cmpR _ _ _ _ _ _ _ _ (op_neR hu9) (pv 7) (@pe_op _ _ _ _ _ _ _ _ op_catS (@pe_lst _ _ _ _ (@pa_cons _ _ _ _ _ (@pe_bl _ _ _ _) (@pa_cons _ _ _ _ _ (@pe_bl _ _ _ _) (@pa_nil _) (by rfl)) (by rfl))) (@pe_op _ _ _ _ _ _ _ _ op_rep (@pe_lst _ _ _ _ (@pa_cons _ _ _ _ _ (@pe_bl _ _ _ _) (@pa_nil _) (by rfl))) (@pe_int _ _ _ _))) (nomark _))))) (@pss_one _ _ _ (@ps_ret _ _ _ _ (@pe_bl _ _ _ _))) (@pss_nil _)) (@pss_one _ _ _ (@ps_if _ _ _ _ _ _ _ _ (@PW.pt _ _ _ (@pw_and _ _ _ _ _ _ _ (@pt_cmp _ _ _ _ _ _ (@pc_notN _ _ _ _ _ (pv 6)) (by first | exact nobehind _ (by decide) (by decide) | rfl)) (@pw_and1 _ _ _ _ (@PW.pt _ _ _ (@pw_or _ _ _ _ _ _ _ (@pt_not _ _ _ _ (@pt_val _ _ _ (@pe_callB _ _ _ _ _ _ _ _ _ call_isinst (by rfl) T.b_isinstance bt_isinstance (@pa_cons _ _ _ _ _ (pv 7) (@pa_cons _ _ _ _ _ (@pe_ty _ _ _ _ rfl T.b_tuple bt_tuple (by decide) (by decide)) (@pa_nil _) (by rfl)) (by rfl)) (by decide) (by decide) (by rfl) (by rfl)) (by intro _; rfl))) (@pw_or1 _ _ _ _ (@pt_cmpR _ _ _ _ _ _ _ _ (op_neR hu9) (pv 7) (pv 6) (nomark _)))))))) (@pss_one _ _ _ (@ps_ret _ _ _ _ (@pe_bl _ _ _ _))) (@pss_nil _)))))) (by intro _; rfl)) (@pss_one _ _ _ (@ps_ret _ _ _ _ (@pe_bl _ _ _ _))))))),?_⟩
  try dsimp only [cxOf,Cx.nox,Cx.wish]
  refine ⟨_,rfl,a,_,rfl,.inl hS,_,10,rfl,by decide,by decide,fun r H1 rs s1 n1 h1 l1 b1=>⟨r,rs,12,rfl,h1,by rw [l1]; rfl,b1,by decide,by decide,fun b H2 zs s2 n2 h2 lz nz=>?_⟩⟩
  have hb2:Nms H2 b zs:=⟨h2,by rw [lz]; rfl,nz⟩
  have s12:=s1.trans s2
  dsimp only [gName]
  refine ⟨small (by show 0≤1000000; decide),fun g ng=>?_⟩
  have s3:=s12.trans (same_new ng (.lst []))
  have hg3:(upd H2 g (.lst [])) g = some (.lst []):=upd_same
  have hb3:Nms (upd H2 g (.lst [])) b zs:=⟨(same_new ng _).get hb2.1,hb2.2⟩
  have ngH:H g = none:=s12.free ng
  have nbg:b≠g:=fun e=>by rw [← e,h2] at ng; cases ng
  dsimp only [gName]
  generalize upd H2 g (.lst []) = H3 at s3 hg3 hb3
  refine ⟨_,rfl,30,rfl,a,_,rfl,s3.seq hS,fun p hp=>?_⟩
  rw [cut_hi (by decide),← List.map_take]
  have s4:=same_new hp (.lst ((ns.take (30:Int).toNat).map V.int))
  have hp4:(upd H3 p (.lst ((ns.take (30:Int).toNat).map V.int))) p = some (.lst ((ns.take (30:Int).toNat).map V.int)):=upd_same
  have ml:(ns.take (30:Int).toNat).length≤30:=by
    rw [List.length_take]
    exact Nat.min_le_left _ _
  generalize ns.take (30:Int).toNat = ms at s4 hp4 ml
  have hg4:=s4.get hg3
  have hb4:Nms (upd H3 p (.lst (ms.map V.int))) b zs:=⟨s4.get hb3.1,hb3.2⟩
  have npg:p≠g:=fun e=>by rw [e,hg3] at hp; cases hp
  generalize upd H3 p (.lst (ms.map V.int)) = H4 at s4 hp4 hg4 hb4
  refine ⟨p,rfl,⟨_,SqL.of hp4⟩,for_list (K:=K) (a:=p) (xs:=ms.map V.int) (fun i σ H5=>∃ v3 v4 ys,σ = [some (.ref a),some (.ref b),some (.ref g),v3,v4,none,none,none]∧Same H H5∧Nms H5 b zs∧H5 p = some (.lst (ms.map V.int))∧H5 g = some (.lst ys)∧ys.length = i∧∀ y∈ys,RowV H5 y) ⟨none,none,[],rfl,s3.trans s4,hb4,hp4,hg4,rfl,fun y hy=>nomatch hy⟩ (fun i σ H5 _ ⟨_,_,_,_,_,_,h,_⟩=>SqL.of h) ?_ ?_⟩
  · rintro i x σ H5 hi ⟨v3,v4,ys,rfl,s5,hb5,hp5,hg5,ly,hys⟩
    have il:i < 30:=by
      have:=(List.getElem?_eq_some_iff.mp hi).1
      rw [List.length_map] at this
      omega
    obtain ⟨c,_,rfl⟩:=List.mem_map.mp (List.mem_of_getElem? hi)
    refine ⟨_,rfl,_,rfl,c,b,zs,rfl,hb5,fun d H6 dw ks ps s6 nd hd6 hd=>?_⟩
    dsimp only [gName]
    refine seq_mid (t:=tIfS _ _ _) (fun σ' H'=>∃ d ps,σ' = [some (.ref a),some (.ref b),some (.ref g),some (.int c),some (.ref d),none,none,none]∧Same H6 H'∧H' d = some (.tup (.str dw :: ps))∧DOk dw ks ps) (fun N hN=>?_) ?_
    · refine ⟨_,rfl,d,_,_,_,rfl,rfl,SqT.of hd6,atI_nat (j:=0) rfl,small (by show 2≤1000000; decide),fun p7 n7=>?_⟩
      have s7:=same_new n7 (.lst [V.str W3,V.str W4])
      refine ⟨p7,_,rfl,.inl (SqL.of upd_same),rfl,rfl,_,rfl,?_⟩
      rw [if_neg Bool.false_ne_true,show inV (.str dw) [V.str W3,V.str W4] = decide (dw∈[W3,W4]) from inV_str dw [W3,W4]]
      refine ite2 (fun cc=>?_) (fun cc=>?_)
      · obtain ⟨pre,z,rfl,zl,pl,hd'⟩:=deed_cut hd (of_decide_eq_true cc)
        have hd7:=s7.get hd6
        generalize upd H6 p7 (.lst [V.str W3,V.str W4]) = H7 at s7 hd7
        refine ⟨_,rfl,1,rfl,_,rfl,d,_,rfl,SqT.of hd7,fun h=>?_,fun p8 n8=>?_⟩
        · have:=h.2
          rw [sIx_m1,List.length_cons] at this
          omega
        rw [cut_last]
        have e8:(V.str dw :: (pre ++ [V.str z])).dropLast = V.str dw :: pre:=by rw [← List.cons_append,List.dropLast_concat]
        rw [e8]
        have s8:=same_new n8 (.tup (V.str dw :: pre))
        have hd8:=s8.get hd7
        have h8:(upd H7 p8 (.tup (V.str dw :: pre))) p8 = some (.tup (V.str dw :: pre)):=upd_same
        generalize upd H7 p8 (.tup (V.str dw :: pre)) = H8 at s8 hd8 h8
        refine ⟨_,rfl,1,rfl,d,_,_,_,rfl,rfl,SqT.of hd8,(show atI (V.str dw :: (pre ++ [V.str z])) (-1) = some (V.str z) by rw [← List.cons_append]; exact atI_last _ _),40,rfl,z,rfl,small (by omega),small (by show 1≤1000000; decide),fun p9 n9=>?_⟩
        have s9:=same_new n9 (.tup [V.str (PySem.Txt.slice z none (some 40))])
        refine ⟨p8,p9,_,_,rfl,rfl,SqT.of (s9.get h8),SqT.of upd_same,small (by show pre.length + 1 + 1≤1000000; omega),(fun e=>by cases e),(fun _ e=>by cases e),fun _ _ p10 n10=>?_⟩
        exact hN _ _ ⟨p10,_,rfl,((s7.trans s8).trans s9).trans (same_new n10 _),upd_same,hd'⟩
      · exact hN _ _ ⟨d,ps,rfl,s7,s7.get hd6,hd⟩
    · rintro σ H7 ⟨d,ps,rfl,s7,hd7,hd⟩
      have hg7:=s7.get (s6.get hg5)
      obtain ⟨rs1,rl1⟩:=row_sgn hd
      refine ⟨_,rfl,.inl ⟨rfl,_,SqL.of hg7⟩,_,rfl,_,rfl,d,dw,ks,ps,rfl,hd7,hd,fun H8 s8=>⟨c,_,rfl,rs1,by omega,fun v H9 s9 rv=>?_⟩⟩
      have s69:=((s6.trans s7).trans s8).trans s9
      have hg9:=s69.get hg5
      refine ⟨g,_,_,rfl,rfl,hg9,smallLt (by omega),?_⟩
      refine ⟨_,_,_,rfl,same_upd (s5.trans s69) ngH _,⟨by rw [upd_ne nbg]; exact s69.get hb5.1,hb5.2⟩,by rw [upd_ne npg]; exact s69.get hp5,upd_same,by rw [List.length_append,ly]; rfl,fun y hy=>?_⟩
      rcases List.mem_append.mp hy with h | h
      · exact ((hys y h).same s69).upd hg9
      · rw [List.mem_singleton.mp h]
        exact rv.upd hg9
  rintro σ H5 ⟨v3,v4,ys,rfl,s5,hb5,hp5,hg5,ly,hys⟩
  have ly:ys.length≤30:=by rw [ly,List.length_map]; exact ml
  refine ⟨_,rfl,_,rfl,1,rfl,_,rfl,rfl,g,ys,rfl,SqL.of hg5,fun p2 n2=>?_⟩
  have s6:=same_new n2 (.lst ys.reverse)
  refine ⟨g,p2,ys,ys.reverse,rfl,rfl,SqL.of (s6.get hg5),SqL.of upd_same,small (by rw [List.length_reverse]; omega),fun p3 n3=>?_⟩
  have s7:=s6.trans (same_new n3 (.lst (ys ++ ys.reverse)))
  have h7:(upd (upd H5 p2 (.lst ys.reverse)) p3 (.lst (ys ++ ys.reverse))) p3 = some (.lst (ys ++ ys.reverse)):=upd_same
  generalize upd (upd H5 p2 (.lst ys.reverse)) p3 (.lst (ys ++ ys.reverse)) = H7 at s7 h7
  refine ⟨p3,rfl,⟨_,SqL.of h7⟩,for_list (K:=K) (a:=p3) (xs:=ys ++ ys.reverse) (fun i σ H2=>∃ v5 v6 v7,σ = [some (.ref a),some (.ref b),some (.ref g),v3,v4,v5,v6,v7]∧Same H7 H2) ⟨none,none,none,rfl,Same.refl _⟩ (fun i σ H2 _ ⟨_,_,_,_,s'⟩=>SqL.of (s'.get h7)) ?_ fun σ H2 _=>q _⟩
  rintro i x σ H8 hi ⟨v5,v6,v7,rfl,s8⟩
  have hx:RowV H8 x:=by
    have:x∈ys:=by
      rcases List.mem_append.mp (List.mem_of_getElem? hi) with h | h
      · exact h
      · exact List.mem_reverse.mp h
    exact (hys x this).same (s7.trans s8)
  have alt:(∃ xs,Fl xs∧(∀ H' Q',Same H8 H'→(∀ l H'',Same H' H''→H'' l = some (.tup xs)→Q' (.ref l) H'')→sp__law_due K [x] H' Q' E0)∧(∀ H' Q',Same H8 H'→(∀ l H'',Same H' H''→H'' l = some (.tup xs)→Q' (.ref l) H'')→sp__law_read K [x] H' Q' E0))∨
      ((∀ H' Q',Same H8 H'→(∀ H'',Same H' H''→Q' .non H'')→sp__law_due K [x] H' Q' E0)∧(∀ H' Q',Same H8 H'→(∀ l H'',Same H' H''→H'' l = some (.lst KDS)→Q' (.ref l) H'')→sp__law_read K [x] H' Q' E0)):=by
    rcases hx with ⟨z,rfl,zs1,zl1⟩ | ⟨ok,nt⟩
    · cases hr1:readR z with
      | some xs=>exact .inl ⟨xs,read_fl hr1,fun H' Q' s' hq=>.inl ⟨z,rfl,zl1,fun xs' h' l H'' s'' _ h''=>by rw [hr1] at h'; cases h'; exact hq l H'' s'' h'',fun h'=>by rw [hr1] at h'; cases h'⟩,fun H' Q' s' hq=>.inl ⟨z,rfl,zs1,zl1,fun xs' h' l H'' s'' _ h''=>by rw [hr1] at h'; cases h'; exact hq l H'' s'' h'',fun h'=>by rw [hr1] at h'; cases h'⟩⟩
      | none=>exact .inr ⟨fun H' Q' s' hq=>.inl ⟨z,rfl,zl1,(fun xs' h'=>by rw [hr1] at h'; cases h'),fun _ H'' s''=>hq H'' s''⟩,fun H' Q' s' hq=>.inl ⟨z,rfl,zs1,zl1,(fun xs' h'=>by rw [hr1] at h'; cases h'),fun _ l H'' s'' _ h''=>hq l H'' s'' h''⟩⟩
    · exact .inr ⟨fun H' Q' s' hq=>.inr ⟨x,rfl,ok.same s',by rw [tyN_same ok s']; exact nt,fun H'' s''=>hq H'' s''⟩,fun H' Q' s' hq=>.inr ⟨x,rfl,ok.same s',by rw [tyN_same ok s']; exact nt,fun l H'' s'' _ h''=>hq l H'' s'' h''⟩⟩
  refine ⟨_,rfl,?_⟩
  dsimp only [tNil,List.cons_append,List.nil_append]
  rcases alt with ⟨xs,fl,hdue,hread⟩ | ⟨hdue,hread⟩
  · refine hdue _ _ (Same.refl _) fun l9 H9 s9 h9=>?_
    refine ⟨_,rfl,?_⟩
    dsimp only [tNil,List.cons_append,List.nil_append]
    refine hread _ _ s9 fun l10 H10 s10 h10=>?_
    refine ⟨_,rfl,_,rfl,iteFc (decide_eq_false fun e=>by cases e) (iteFc rfl ?_)⟩
    have ok:Ok H10 (.ref l10):=.inr ⟨xs,h10⟩
    have ty:tyN H10 (.ref l10) = "tuple":=by simp only [tyN,h10]
    refine ⟨_,rfl,_,rfl,iteTc (by rw [decide_eq_false (fun e=>by cases e)]; rfl) ?_⟩
    refine ⟨_,rfl,_,_,_,_,rfl,ok.ty K,ok.kit K,_,rfl,iteFc (by rw [ty]; rfl) ?_⟩
    refine ⟨_,rfl,_,rfl,.tup (xs.map trV),fun _=>True,fun _=>True,dep_fl xs,rep_fl fl h10,rep_fl fl (s10.get h9),_,rfl,iteFc rfl ?_⟩
    exact ⟨_,_,_,rfl,(s8.trans s9).trans s10⟩
  · refine hdue _ _ (Same.refl _) fun H9 s9=>?_
    refine ⟨_,rfl,?_⟩
    dsimp only [tNil,List.cons_append,List.nil_append]
    refine hread _ _ s9 fun l10 H10 s10 h10=>?_
    refine ⟨_,rfl,_,rfl,iteTc rfl ?_⟩
    refine ⟨_,rfl,small (by show 2≤1000000; decide),fun p11 n11=>⟨small (by show 1≤1000000; decide),fun p12 n12=>⟨p12,7,_,rfl,rfl,upd_same,by decide,by decide,small (by show 7≤1000000; decide),fun p13 n13=>?_⟩⟩⟩
    have s11:=same_new n11 (.lst [V.bl true,V.bl true])
    have s12:=same_new n12 (.lst [V.bl false])
    have s13:=same_new n13 (.lst (List.replicate (7:Int).toNat [V.bl false]).flatten)
    refine ⟨p11,p13,_,_,rfl,rfl,SqL.of (s13.get (s12.get upd_same)),SqL.of upd_same,small (by show 9≤1000000; decide),fun p14 n14=>?_⟩
    have s14:=same_new n14 (.lst KDS)
    have st:=((s11.trans s12).trans s13).trans s14
    refine ⟨.lst KDT,fun _=>True,fun _=>True,(by decide),⟨l10,KDS,rfl,trivial,st.get h10,kds_rep⟩,⟨p14,KDS,rfl,trivial,upd_same,kds_rep⟩,_,rfl,iteFc rfl ?_⟩
    refine ⟨_,rfl,_,rfl,iteFc rfl (iteFc rfl ?_)⟩
    exact ⟨_,_,_,rfl,((s8.trans s9).trans s10).trans st⟩
end
theorem all_mk {l:PySem.W.OpenLaw} {w:World} {K:PySem.W.Frag} {h:Heap} {mg:Str→Option Value} {fa:Addr} (X:K.In h) (G:h.Ns mainGlobals mg) (hfa:mg "law" = some (.ref fa))
    {f0:Addr} {od0 an0:Option Addr} {sl0:Array (Option Value)} {oc0 kV0 dc0 pm0 cd0 ct0:Value}
    {f1:Addr} {od1 an1:Option Addr} {sl1:Array (Option Value)} {oc1 kV1 dc1 pm1 cd1 ct1:Value}
    {f2:Addr} {od2 an2:Option Addr} {sl2:Array (Option Value)} {oc2 kV2 dc2 pm2 cd2 ct2:Value}
    {f3:Addr} {od3 an3:Option Addr} {sl3:Array (Option Value)} {oc3 kV3 dc3 pm3 cd3 ct3:Value}
    {f4:Addr} {od4 an4:Option Addr} {sl4:Array (Option Value)} {oc4 kV4 dc4 pm4 cd4 ct4:Value}
    {f5:Addr} {od5 an5:Option Addr} {sl5:Array (Option Value)} {oc5 kV5 dc5 pm5 cd5 ct5:Value}
    {f6:Addr} {od6 an6:Option Addr} {sl6:Array (Option Value)} {oc6 kV6 dc6 pm6 cd6 ct6:Value}
    {f7:Addr} {od7 an7:Option Addr} {sl7:Array (Option Value)} {oc7 kV7 dc7 pm7 cd7 ct7:Value}
    {f8:Addr} {od8 an8:Option Addr} {sl8:Array (Option Value)} {oc8 kV8 dc8 pm8 cd8 ct8:Value}
    {f9:Addr} {od9 an9:Option Addr} {sl9:Array (Option Value)} {oc9 kV9 dc9 pm9 cd9 ct9:Value}
    {f10:Addr} {od10 an10:Option Addr} {sl10:Array (Option Value)} {oc10 kV10 dc10 pm10 cd10 ct10:Value}
    {f11:Addr} {od11 an11:Option Addr} {sl11:Array (Option Value)} {oc11 kV11 dc11 pm11 cd11 ct11:Value}
    {f12:Addr} {od12 an12:Option Addr} {sl12:Array (Option Value)} {oc12 kV12 dc12 pm12 cd12 ct12:Value}
    {f13:Addr} {od13 an13:Option Addr} {sl13:Array (Option Value)} {oc13 kV13 dc13 pm13 cd13 ct13:Value}
    {f14:Addr} {od14 an14:Option Addr} {sl14:Array (Option Value)} {oc14 kV14 dc14 pm14 cd14 ct14:Value}
    {f15:Addr} {od15 an15:Option Addr} {sl15:Array (Option Value)} {oc15 kV15 dc15 pm15 cd15 ct15:Value}
    {f16:Addr} {od16 an16:Option Addr} {sl16:Array (Option Value)} {oc16 kV16 dc16 pm16 cd16 ct16:Value}
    {f17:Addr} {od17 an17:Option Addr} {sl17:Array (Option Value)} {oc17 kV17 dc17 pm17 cd17 ct17:Value}
    {f18:Addr} {od18 an18:Option Addr} {sl18:Array (Option Value)} {oc18 kV18 dc18 pm18 cd18 ct18:Value}
    {f19:Addr} {od19 an19:Option Addr} {sl19:Array (Option Value)} {oc19 kV19 dc19 pm19 cd19 ct19:Value}
    {f20:Addr} {od20 an20:Option Addr} {sl20:Array (Option Value)} {oc20 kV20 dc20 pm20 cd20 ct20:Value}
    {f21:Addr} {od21 an21:Option Addr} {sl21:Array (Option Value)} {oc21 kV21 dc21 pm21 cd21 ct21:Value}
    {X_NoRow:Addr}
    {X_StemError:Addr}
    {X_NoName:Addr}
    {X_NoPath:Addr}
    {X_NoThing:Addr}
    {X_Twice:Addr}
    {X_Bare:Addr}
    {X_Grown:Addr}
    {X_TooMany:Addr}
    {t_SIGNS:Tok}
    {t_FIGURES:Tok}
    {t_MOST_FIGURES:Tok}
    {t_ROOT_WORD:Tok}
    {dp_DEED_PARTS:Addr} {ep_DEED_PARTS:Nat} {tk_DEED_PARTS_0:Tok} {hv_DEED_PARTS_0:Int} {ta_DEED_PARTS_0:Addr} {td_DEED_PARTS_0:Option Addr} {tn_DEED_PARTS_0:Nat} {ts_DEED_PARTS_0:Array (Option Value)} {tk_DEED_PARTS_1:Tok} {hv_DEED_PARTS_1:Int} {ta_DEED_PARTS_1:Addr} {td_DEED_PARTS_1:Option Addr} {tn_DEED_PARTS_1:Nat} {ts_DEED_PARTS_1:Array (Option Value)} {tk_DEED_PARTS_2:Tok} {hv_DEED_PARTS_2:Int} {ta_DEED_PARTS_2:Addr} {td_DEED_PARTS_2:Option Addr} {tn_DEED_PARTS_2:Nat} {ts_DEED_PARTS_2:Array (Option Value)} {tk_DEED_PARTS_3:Tok} {hv_DEED_PARTS_3:Int} {ta_DEED_PARTS_3:Addr} {td_DEED_PARTS_3:Option Addr} {tn_DEED_PARTS_3:Nat} {ts_DEED_PARTS_3:Array (Option Value)} {tk_DEED_PARTS_4:Tok} {hv_DEED_PARTS_4:Int} {ta_DEED_PARTS_4:Addr} {td_DEED_PARTS_4:Option Addr} {tn_DEED_PARTS_4:Nat} {ts_DEED_PARTS_4:Array (Option Value)} {tk_DEED_PARTS_5:Tok} {hv_DEED_PARTS_5:Int} {ta_DEED_PARTS_5:Addr} {td_DEED_PARTS_5:Option Addr} {tn_DEED_PARTS_5:Nat} {ts_DEED_PARTS_5:Array (Option Value)} {tk_DEED_PARTS_6:Tok} {hv_DEED_PARTS_6:Int} {ta_DEED_PARTS_6:Addr} {td_DEED_PARTS_6:Option Addr} {tn_DEED_PARTS_6:Nat} {ts_DEED_PARTS_6:Array (Option Value)} {tk_DEED_PARTS_7:Tok} {hv_DEED_PARTS_7:Int} {ta_DEED_PARTS_7:Addr} {td_DEED_PARTS_7:Option Addr} {tn_DEED_PARTS_7:Nat} {ts_DEED_PARTS_7:Array (Option Value)} {tk_DEED_PARTS_8:Tok} {hv_DEED_PARTS_8:Int} {ta_DEED_PARTS_8:Addr} {td_DEED_PARTS_8:Option Addr} {tn_DEED_PARTS_8:Nat} {ts_DEED_PARTS_8:Array (Option Value)} {tk_DEED_PARTS_9:Tok} {hv_DEED_PARTS_9:Int} {ta_DEED_PARTS_9:Addr} {td_DEED_PARTS_9:Option Addr} {tn_DEED_PARTS_9:Nat} {ts_DEED_PARTS_9:Array (Option Value)} {tk_DEED_PARTS_10:Tok} {hv_DEED_PARTS_10:Int} {ta_DEED_PARTS_10:Addr} {td_DEED_PARTS_10:Option Addr} {tn_DEED_PARTS_10:Nat} {ts_DEED_PARTS_10:Array (Option Value)} {tk_DEED_PARTS_11:Tok} {hv_DEED_PARTS_11:Int} {ta_DEED_PARTS_11:Addr} {td_DEED_PARTS_11:Option Addr} {tn_DEED_PARTS_11:Nat} {ts_DEED_PARTS_11:Array (Option Value)} {tk_DEED_PARTS_12:Tok} {hv_DEED_PARTS_12:Int} {ta_DEED_PARTS_12:Addr} {td_DEED_PARTS_12:Option Addr} {tn_DEED_PARTS_12:Nat} {ts_DEED_PARTS_12:Array (Option Value)}
     {tx_DEED_PARTS_0_0:Tok} {tx_DEED_PARTS_0_1:Tok} {tx_DEED_PARTS_1_0:Tok} {tx_DEED_PARTS_1_1:Tok} {tx_DEED_PARTS_2_0:Tok} {tx_DEED_PARTS_2_1:Tok} {tx_DEED_PARTS_3_0:Tok} {tx_DEED_PARTS_3_1:Tok} {tx_DEED_PARTS_3_2:Tok} {tx_DEED_PARTS_4_0:Tok} {tx_DEED_PARTS_4_1:Tok} {tx_DEED_PARTS_4_2:Tok} {tx_DEED_PARTS_4_3:Tok} {tx_DEED_PARTS_4_4:Tok} {tx_DEED_PARTS_5_0:Tok} {tx_DEED_PARTS_5_1:Tok} {tx_DEED_PARTS_6_0:Tok} {tx_DEED_PARTS_6_1:Tok} {tx_DEED_PARTS_6_2:Tok} {tx_DEED_PARTS_7_0:Tok} {tx_DEED_PARTS_7_1:Tok} {tx_DEED_PARTS_7_2:Tok} {tx_DEED_PARTS_7_3:Tok} {tx_DEED_PARTS_8_0:Tok} {tx_DEED_PARTS_8_1:Tok} {tx_DEED_PARTS_9_0:Tok} {tx_DEED_PARTS_9_1:Tok} {tx_DEED_PARTS_9_2:Tok} {tx_DEED_PARTS_10_0:Tok} {tx_DEED_PARTS_11_0:Tok} {tx_DEED_PARTS_12_0:Tok}
    (a0:PySem.W.nsIn K mainGlobals "row_of" = some (some (.ref f0))) (l0:K.lookup f0 = some ⟨oc0,od0,.func (PySem.W.fnOf "row_of" "row_of" (defArgs s_row_of) (defBody s_row_of) (defScope s_row_of) .none kV0 dc0 pm0 an0 cd0 ct0),sl0⟩) (c0:PySem.W.codeIn K cd0 "row_of" = true) (k0:PySem.W.keepIn K (.ref f0) = true)
    (a1:PySem.W.nsIn K mainGlobals "part_written" = some (some (.ref f1))) (l1:K.lookup f1 = some ⟨oc1,od1,.func (PySem.W.fnOf "part_written" "part_written" (defArgs s_part_written) (defBody s_part_written) (defScope s_part_written) .none kV1 dc1 pm1 an1 cd1 ct1),sl1⟩) (c1:PySem.W.codeIn K cd1 "part_written" = true) (k1:PySem.W.keepIn K (.ref f1) = true)
    (a2:PySem.W.nsIn K mainGlobals "path_written" = some (some (.ref f2))) (l2:K.lookup f2 = some ⟨oc2,od2,.func (PySem.W.fnOf "path_written" "path_written" (defArgs s_path_written) (defBody s_path_written) (defScope s_path_written) .none kV2 dc2 pm2 an2 cd2 ct2),sl2⟩) (c2:PySem.W.codeIn K cd2 "path_written" = true) (k2:PySem.W.keepIn K (.ref f2) = true)
    (a3:PySem.W.nsIn K mainGlobals "read_row" = some (some (.ref f3))) (l3:K.lookup f3 = some ⟨oc3,od3,.func (PySem.W.fnOf "read_row" "read_row" (defArgs s_read_row) (defBody s_read_row) (defScope s_read_row) .none kV3 dc3 pm3 an3 cd3 ct3),sl3⟩) (c3:PySem.W.codeIn K cd3 "read_row" = true) (k3:PySem.W.keepIn K (.ref f3) = true)
    (a4:PySem.W.nsIn K mainGlobals "word_of" = some (some (.ref f4))) (l4:K.lookup f4 = some ⟨oc4,od4,.func (PySem.W.fnOf "word_of" "word_of" (defArgs s_word_of) (defBody s_word_of) (defScope s_word_of) .none kV4 dc4 pm4 an4 cd4 ct4),sl4⟩) (c4:PySem.W.codeIn K cd4 "word_of" = true) (k4:PySem.W.keepIn K (.ref f4) = true)
    (a5:PySem.W.nsIn K mainGlobals "parts_read" = some (some (.ref f5))) (l5:K.lookup f5 = some ⟨oc5,od5,.func (PySem.W.fnOf "parts_read" "parts_read" (defArgs s_parts_read) (defBody s_parts_read) (defScope s_parts_read) .none kV5 dc5 pm5 an5 cd5 ct5),sl5⟩) (c5:PySem.W.codeIn K cd5 "parts_read" = true) (k5:PySem.W.keepIn K (.ref f5) = true)
    (a6:PySem.W.nsIn K mainGlobals "words_in" = some (some (.ref f6))) (l6:K.lookup f6 = some ⟨oc6,od6,.func (PySem.W.fnOf "words_in" "words_in" (defArgs s_words_in) (defBody s_words_in) (defScope s_words_in) .none kV6 dc6 pm6 an6 cd6 ct6),sl6⟩) (c6:PySem.W.codeIn K cd6 "words_in" = true) (k6:PySem.W.keepIn K (.ref f6) = true)
    (a7:PySem.W.nsIn K mainGlobals "part_read" = some (some (.ref f7))) (l7:K.lookup f7 = some ⟨oc7,od7,.func (PySem.W.fnOf "part_read" "part_read" (defArgs s_part_read) (defBody s_part_read) (defScope s_part_read) .none kV7 dc7 pm7 an7 cd7 ct7),sl7⟩) (c7:PySem.W.codeIn K cd7 "part_read" = true) (k7:PySem.W.keepIn K (.ref f7) = true)
    (a8:PySem.W.nsIn K mainGlobals "number_read" = some (some (.ref f8))) (l8:K.lookup f8 = some ⟨oc8,od8,.func (PySem.W.fnOf "number_read" "number_read" (defArgs s_number_read) (defBody s_number_read) (defScope s_number_read) .none kV8 dc8 pm8 an8 cd8 ct8),sl8⟩) (c8:PySem.W.codeIn K cd8 "number_read" = true) (k8:PySem.W.keepIn K (.ref f8) = true)
    (a9:PySem.W.nsIn K mainGlobals "_law_row" = some (some (.ref f9))) (l9:K.lookup f9 = some ⟨oc9,od9,.func (PySem.W.fnOf "_law_row" "_law_row" (defArgs s__law_row) (defBody s__law_row) (defScope s__law_row) .none kV9 dc9 pm9 an9 cd9 ct9),sl9⟩) (c9:PySem.W.codeIn K cd9 "_law_row" = true) (k9:PySem.W.keepIn K (.ref f9) = true)
    (a10:PySem.W.nsIn K mainGlobals "_law_names" = some (some (.ref f10))) (l10:K.lookup f10 = some ⟨oc10,od10,.func (PySem.W.fnOf "_law_names" "_law_names" (defArgs s__law_names) (defBody s__law_names) (defScope s__law_names) .none kV10 dc10 pm10 an10 cd10 ct10),sl10⟩) (c10:PySem.W.codeIn K cd10 "_law_names" = true) (k10:PySem.W.keepIn K (.ref f10) = true)
    (a11:PySem.W.nsIn K mainGlobals "_law_word" = some (some (.ref f11))) (l11:K.lookup f11 = some ⟨oc11,od11,.func (PySem.W.fnOf "_law_word" "_law_word" (defArgs s__law_word) (defBody s__law_word) (defScope s__law_word) .none kV11 dc11 pm11 an11 cd11 ct11),sl11⟩) (c11:PySem.W.codeIn K cd11 "_law_word" = true) (k11:PySem.W.keepIn K (.ref f11) = true)
    (a12:PySem.W.nsIn K mainGlobals "_law_path" = some (some (.ref f12))) (l12:K.lookup f12 = some ⟨oc12,od12,.func (PySem.W.fnOf "_law_path" "_law_path" (defArgs s__law_path) (defBody s__law_path) (defScope s__law_path) .none kV12 dc12 pm12 an12 cd12 ct12),sl12⟩) (c12:PySem.W.codeIn K cd12 "_law_path" = true) (k12:PySem.W.keepIn K (.ref f12) = true)
    (a13:PySem.W.nsIn K mainGlobals "_law_number" = some (some (.ref f13))) (l13:K.lookup f13 = some ⟨oc13,od13,.func (PySem.W.fnOf "_law_number" "_law_number" (defArgs s__law_number) (defBody s__law_number) (defScope s__law_number) .none kV13 dc13 pm13 an13 cd13 ct13),sl13⟩) (c13:PySem.W.codeIn K cd13 "_law_number" = true) (k13:PySem.W.keepIn K (.ref f13) = true)
    (a14:PySem.W.nsIn K mainGlobals "_law_text" = some (some (.ref f14))) (l14:K.lookup f14 = some ⟨oc14,od14,.func (PySem.W.fnOf "_law_text" "_law_text" (defArgs s__law_text) (defBody s__law_text) (defScope s__law_text) .none kV14 dc14 pm14 an14 cd14 ct14),sl14⟩) (c14:PySem.W.codeIn K cd14 "_law_text" = true) (k14:PySem.W.keepIn K (.ref f14) = true)
    (a15:PySem.W.nsIn K mainGlobals "_law_deed" = some (some (.ref f15))) (l15:K.lookup f15 = some ⟨oc15,od15,.func (PySem.W.fnOf "_law_deed" "_law_deed" (defArgs s__law_deed) (defBody s__law_deed) (defScope s__law_deed) .none kV15 dc15 pm15 an15 cd15 ct15),sl15⟩) (c15:PySem.W.codeIn K cd15 "_law_deed" = true) (k15:PySem.W.keepIn K (.ref f15) = true)
    (a16:PySem.W.nsIn K mainGlobals "_law_bent" = some (some (.ref f16))) (l16:K.lookup f16 = some ⟨oc16,od16,.func (PySem.W.fnOf "_law_bent" "_law_bent" (defArgs s__law_bent) (defBody s__law_bent) (defScope s__law_bent) .none kV16 dc16 pm16 an16 cd16 ct16),sl16⟩) (c16:PySem.W.codeIn K cd16 "_law_bent" = true) (k16:PySem.W.keepIn K (.ref f16) = true)
    (a17:PySem.W.nsIn K mainGlobals "_law_kinds" = some (some (.ref f17))) (l17:K.lookup f17 = some ⟨oc17,od17,.func (PySem.W.fnOf "_law_kinds" "_law_kinds" (defArgs s__law_kinds) (defBody s__law_kinds) (defScope s__law_kinds) .none kV17 dc17 pm17 an17 cd17 ct17),sl17⟩) (c17:PySem.W.codeIn K cd17 "_law_kinds" = true) (k17:PySem.W.keepIn K (.ref f17) = true)
    (a18:PySem.W.nsIn K mainGlobals "_law_part" = some (some (.ref f18))) (l18:K.lookup f18 = some ⟨oc18,od18,.func (PySem.W.fnOf "_law_part" "_law_part" (defArgs s__law_part) (defBody s__law_part) (defScope s__law_part) .none kV18 dc18 pm18 an18 cd18 ct18),sl18⟩) (c18:PySem.W.codeIn K cd18 "_law_part" = true) (k18:PySem.W.keepIn K (.ref f18) = true)
    (a19:PySem.W.nsIn K mainGlobals "_law_due" = some (some (.ref f19))) (l19:K.lookup f19 = some ⟨oc19,od19,.func (PySem.W.fnOf "_law_due" "_law_due" (defArgs s__law_due) (defBody s__law_due) (defScope s__law_due) .none kV19 dc19 pm19 an19 cd19 ct19),sl19⟩) (c19:PySem.W.codeIn K cd19 "_law_due" = true) (k19:PySem.W.keepIn K (.ref f19) = true)
    (a20:PySem.W.nsIn K mainGlobals "_law_read" = some (some (.ref f20))) (l20:K.lookup f20 = some ⟨oc20,od20,.func (PySem.W.fnOf "_law_read" "_law_read" (defArgs s__law_read) (defBody s__law_read) (defScope s__law_read) .none kV20 dc20 pm20 an20 cd20 ct20),sl20⟩) (c20:PySem.W.codeIn K cd20 "_law_read" = true) (k20:PySem.W.keepIn K (.ref f20) = true)
    (a21:PySem.W.nsIn K mainGlobals "law" = some (some (.ref f21))) (l21:K.lookup f21 = some ⟨oc21,od21,.func (PySem.W.fnOf "law" "law" (defArgs s_law) (defBody s_law) (defScope s_law) .none kV21 dc21 pm21 an21 cd21 ct21),sl21⟩) (c21:PySem.W.codeIn K cd21 "law" = true) (k21:PySem.W.keepIn K (.ref f21) = true)
    (x_NoRow:PySem.W.nsIn K mainGlobals "NoRow" = some (some (.ref X_NoRow)))
    (x_StemError:PySem.W.nsIn K mainGlobals "StemError" = some (some (.ref X_StemError)))
    (x_NoName:PySem.W.nsIn K mainGlobals "NoName" = some (some (.ref X_NoName)))
    (x_NoPath:PySem.W.nsIn K mainGlobals "NoPath" = some (some (.ref X_NoPath)))
    (x_NoThing:PySem.W.nsIn K mainGlobals "NoThing" = some (some (.ref X_NoThing)))
    (x_Twice:PySem.W.nsIn K mainGlobals "Twice" = some (some (.ref X_Twice)))
    (x_Bare:PySem.W.nsIn K mainGlobals "Bare" = some (some (.ref X_Bare)))
    (x_Grown:PySem.W.nsIn K mainGlobals "Grown" = some (some (.ref X_Grown)))
    (x_TooMany:PySem.W.nsIn K mainGlobals "TooMany" = some (some (.ref X_TooMany)))
    (q_NoRow:PySem.W.excIn K X_NoRow [.type "ValueError",.type "Exception",.type "BaseException",.type "object"] "ValueError.__new__" = true)
    (m_NoRow_StemError:PySem.W.exmOne K (.ref X_NoRow) (.ref X_StemError) = some true)
    (ga_NoRow:PySem.W.findIn K (.ref X_NoRow) "__getattribute__" = some (some (.builtin "BaseException.__getattribute__")))
    (gg_NoRow:PySem.W.findIn K (.ref X_NoRow) "__getattr__" = some none)
    (gc_NoRow:PySem.W.findIn K (.ref X_NoRow) "__class__" = some (some (.builtin "object.__class__")))
    (gs_NoRow:PySem.W.specialIn K (.builtin "object.__class__") "__get__" = some (some (.builtin "getset_descriptor.__get__")))
    (gt_NoRow:PySem.W.takesIn K (.builtin "object.__class__") = some true)
    (go_NoRow:PySem.W.mroIn K X_NoRow (.type "object") = some true)
    (gb_NoRow:PySem.W.mroIn K X_NoRow (.type "BaseException") = some true)
    (k_NoRow_NoRow:PySem.W.kitOne K (.ref X_NoRow) (.ref X_NoRow) = some true)
    (k_NoRow_ValueError:PySem.W.kitOne K (.ref X_NoRow) (.type "ValueError") = some true)
    (k_NoRow_NoName:PySem.W.kitOne K (.ref X_NoRow) (.ref X_NoName) = some false)
    (k_NoRow_NoPath:PySem.W.kitOne K (.ref X_NoRow) (.ref X_NoPath) = some false)
    (k_NoRow_NoThing:PySem.W.kitOne K (.ref X_NoRow) (.ref X_NoThing) = some false)
    (k_NoRow_Twice:PySem.W.kitOne K (.ref X_NoRow) (.ref X_Twice) = some false)
    (k_NoRow_Bare:PySem.W.kitOne K (.ref X_NoRow) (.ref X_Bare) = some false)
    (k_NoRow_Grown:PySem.W.kitOne K (.ref X_NoRow) (.ref X_Grown) = some false)
    (k_NoRow_TooMany:PySem.W.kitOne K (.ref X_NoRow) (.ref X_TooMany) = some false)
    (z_ValueError:PySem.W.nsIn K mainGlobals "ValueError" = some none)
    (z_all:PySem.W.nsIn K mainGlobals "all" = some none)
    (z_int:PySem.W.nsIn K mainGlobals "int" = some none)
    (z_isinstance:PySem.W.nsIn K mainGlobals "isinstance" = some none)
    (z_len:PySem.W.nsIn K mainGlobals "len" = some none)
    (z_range:PySem.W.nsIn K mainGlobals "range" = some none)
    (z_str:PySem.W.nsIn K mainGlobals "str" = some none)
    (z_tuple:PySem.W.nsIn K mainGlobals "tuple" = some none)
    (z_zip:PySem.W.nsIn K mainGlobals "zip" = some none)
    (w_SIGNS:PySem.W.nsIn K mainGlobals "SIGNS" = some (some (.str (PySem.Str.ofString " !\"#$&'()*+,-./0123456789:;<=>?@ABCDEFGHIJKLMNOPQRSTUVWXYZ[\\]^_`abcdefghijklmnopqrstuvwxyz{|}~") t_SIGNS)))
    (w_FIGURES:PySem.W.nsIn K mainGlobals "FIGURES" = some (some (.str (PySem.Str.ofString "0123456789") t_FIGURES)))
    (w_MOST_FIGURES:PySem.W.nsIn K mainGlobals "MOST_FIGURES" = some (some (.int 9 t_MOST_FIGURES)))
    (w_ROOT_WORD:PySem.W.nsIn K mainGlobals "ROOT_WORD" = some (some (.str (PySem.Str.ofString ".") t_ROOT_WORD)))
    (tm_DEED_PARTS:PySem.W.nsIn K mainGlobals "DEED_PARTS" = some (some (.ref dp_DEED_PARTS)))
    (tl_DEED_PARTS:K.lookup dp_DEED_PARTS = some ⟨.type "dict",none,.dict #[⟨hv_DEED_PARTS_0,.str (PySem.Str.ofString "keeper") tk_DEED_PARTS_0,.ref ta_DEED_PARTS_0⟩,⟨hv_DEED_PARTS_1,.str (PySem.Str.ofString "stem") tk_DEED_PARTS_1,.ref ta_DEED_PARTS_1⟩,⟨hv_DEED_PARTS_2,.str (PySem.Str.ofString "folder") tk_DEED_PARTS_2,.ref ta_DEED_PARTS_2⟩,⟨hv_DEED_PARTS_3,.str (PySem.Str.ofString "write") tk_DEED_PARTS_3,.ref ta_DEED_PARTS_3⟩,⟨hv_DEED_PARTS_4,.str (PySem.Str.ofString "splice") tk_DEED_PARTS_4,.ref ta_DEED_PARTS_4⟩,⟨hv_DEED_PARTS_5,.str (PySem.Str.ofString "remove") tk_DEED_PARTS_5,.ref ta_DEED_PARTS_5⟩,⟨hv_DEED_PARTS_6,.str (PySem.Str.ofString "move") tk_DEED_PARTS_6,.ref ta_DEED_PARTS_6⟩,⟨hv_DEED_PARTS_7,.str (PySem.Str.ofString "copy") tk_DEED_PARTS_7,.ref ta_DEED_PARTS_7⟩,⟨hv_DEED_PARTS_8,.str (PySem.Str.ofString "seal") tk_DEED_PARTS_8,.ref ta_DEED_PARTS_8⟩,⟨hv_DEED_PARTS_9,.str (PySem.Str.ofString "grow") tk_DEED_PARTS_9,.ref ta_DEED_PARTS_9⟩,⟨hv_DEED_PARTS_10,.str (PySem.Str.ofString "back") tk_DEED_PARTS_10,.ref ta_DEED_PARTS_10⟩,⟨hv_DEED_PARTS_11,.str (PySem.Str.ofString "graft") tk_DEED_PARTS_11,.ref ta_DEED_PARTS_11⟩,⟨hv_DEED_PARTS_12,.str (PySem.Str.ofString "drop") tk_DEED_PARTS_12,.ref ta_DEED_PARTS_12⟩] ep_DEED_PARTS,#[]⟩)
    (ty_DEED_PARTS:(dp_DEED_PARTS == sysModules) = false)
    (tr_DEED_PARTS_0:K.lookup ta_DEED_PARTS_0 = some ⟨.type "tuple",td_DEED_PARTS_0,.seq #[.str (PySem.Str.ofString "word") tx_DEED_PARTS_0_0,.str (PySem.Str.ofString "number") tx_DEED_PARTS_0_1] tn_DEED_PARTS_0,ts_DEED_PARTS_0⟩)
    (th_DEED_PARTS_0:hv_DEED_PARTS_0 = keyH w (.inr (PySem.Str.ofString "keeper")))
    (tr_DEED_PARTS_1:K.lookup ta_DEED_PARTS_1 = some ⟨.type "tuple",td_DEED_PARTS_1,.seq #[.str (PySem.Str.ofString "word") tx_DEED_PARTS_1_0,.str (PySem.Str.ofString "word") tx_DEED_PARTS_1_1] tn_DEED_PARTS_1,ts_DEED_PARTS_1⟩)
    (th_DEED_PARTS_1:hv_DEED_PARTS_1 = keyH w (.inr (PySem.Str.ofString "stem")))
    (tr_DEED_PARTS_2:K.lookup ta_DEED_PARTS_2 = some ⟨.type "tuple",td_DEED_PARTS_2,.seq #[.str (PySem.Str.ofString "word") tx_DEED_PARTS_2_0,.str (PySem.Str.ofString "path") tx_DEED_PARTS_2_1] tn_DEED_PARTS_2,ts_DEED_PARTS_2⟩)
    (th_DEED_PARTS_2:hv_DEED_PARTS_2 = keyH w (.inr (PySem.Str.ofString "folder")))
    (tr_DEED_PARTS_3:K.lookup ta_DEED_PARTS_3 = some ⟨.type "tuple",td_DEED_PARTS_3,.seq #[.str (PySem.Str.ofString "word") tx_DEED_PARTS_3_0,.str (PySem.Str.ofString "path") tx_DEED_PARTS_3_1,.str (PySem.Str.ofString "text") tx_DEED_PARTS_3_2] tn_DEED_PARTS_3,ts_DEED_PARTS_3⟩)
    (th_DEED_PARTS_3:hv_DEED_PARTS_3 = keyH w (.inr (PySem.Str.ofString "write")))
    (tr_DEED_PARTS_4:K.lookup ta_DEED_PARTS_4 = some ⟨.type "tuple",td_DEED_PARTS_4,.seq #[.str (PySem.Str.ofString "word") tx_DEED_PARTS_4_0,.str (PySem.Str.ofString "path") tx_DEED_PARTS_4_1,.str (PySem.Str.ofString "number") tx_DEED_PARTS_4_2,.str (PySem.Str.ofString "number") tx_DEED_PARTS_4_3,.str (PySem.Str.ofString "text") tx_DEED_PARTS_4_4] tn_DEED_PARTS_4,ts_DEED_PARTS_4⟩)
    (th_DEED_PARTS_4:hv_DEED_PARTS_4 = keyH w (.inr (PySem.Str.ofString "splice")))
    (tr_DEED_PARTS_5:K.lookup ta_DEED_PARTS_5 = some ⟨.type "tuple",td_DEED_PARTS_5,.seq #[.str (PySem.Str.ofString "word") tx_DEED_PARTS_5_0,.str (PySem.Str.ofString "path") tx_DEED_PARTS_5_1] tn_DEED_PARTS_5,ts_DEED_PARTS_5⟩)
    (th_DEED_PARTS_5:hv_DEED_PARTS_5 = keyH w (.inr (PySem.Str.ofString "remove")))
    (tr_DEED_PARTS_6:K.lookup ta_DEED_PARTS_6 = some ⟨.type "tuple",td_DEED_PARTS_6,.seq #[.str (PySem.Str.ofString "word") tx_DEED_PARTS_6_0,.str (PySem.Str.ofString "path") tx_DEED_PARTS_6_1,.str (PySem.Str.ofString "path") tx_DEED_PARTS_6_2] tn_DEED_PARTS_6,ts_DEED_PARTS_6⟩)
    (th_DEED_PARTS_6:hv_DEED_PARTS_6 = keyH w (.inr (PySem.Str.ofString "move")))
    (tr_DEED_PARTS_7:K.lookup ta_DEED_PARTS_7 = some ⟨.type "tuple",td_DEED_PARTS_7,.seq #[.str (PySem.Str.ofString "word") tx_DEED_PARTS_7_0,.str (PySem.Str.ofString "path") tx_DEED_PARTS_7_1,.str (PySem.Str.ofString "word") tx_DEED_PARTS_7_2,.str (PySem.Str.ofString "path") tx_DEED_PARTS_7_3] tn_DEED_PARTS_7,ts_DEED_PARTS_7⟩)
    (th_DEED_PARTS_7:hv_DEED_PARTS_7 = keyH w (.inr (PySem.Str.ofString "copy")))
    (tr_DEED_PARTS_8:K.lookup ta_DEED_PARTS_8 = some ⟨.type "tuple",td_DEED_PARTS_8,.seq #[.str (PySem.Str.ofString "word") tx_DEED_PARTS_8_0,.str (PySem.Str.ofString "word") tx_DEED_PARTS_8_1] tn_DEED_PARTS_8,ts_DEED_PARTS_8⟩)
    (th_DEED_PARTS_8:hv_DEED_PARTS_8 = keyH w (.inr (PySem.Str.ofString "seal")))
    (tr_DEED_PARTS_9:K.lookup ta_DEED_PARTS_9 = some ⟨.type "tuple",td_DEED_PARTS_9,.seq #[.str (PySem.Str.ofString "word") tx_DEED_PARTS_9_0,.str (PySem.Str.ofString "word") tx_DEED_PARTS_9_1,.str (PySem.Str.ofString "word") tx_DEED_PARTS_9_2] tn_DEED_PARTS_9,ts_DEED_PARTS_9⟩)
    (th_DEED_PARTS_9:hv_DEED_PARTS_9 = keyH w (.inr (PySem.Str.ofString "grow")))
    (tr_DEED_PARTS_10:K.lookup ta_DEED_PARTS_10 = some ⟨.type "tuple",td_DEED_PARTS_10,.seq #[.str (PySem.Str.ofString "word") tx_DEED_PARTS_10_0] tn_DEED_PARTS_10,ts_DEED_PARTS_10⟩)
    (th_DEED_PARTS_10:hv_DEED_PARTS_10 = keyH w (.inr (PySem.Str.ofString "back")))
    (tr_DEED_PARTS_11:K.lookup ta_DEED_PARTS_11 = some ⟨.type "tuple",td_DEED_PARTS_11,.seq #[.str (PySem.Str.ofString "word") tx_DEED_PARTS_11_0] tn_DEED_PARTS_11,ts_DEED_PARTS_11⟩)
    (th_DEED_PARTS_11:hv_DEED_PARTS_11 = keyH w (.inr (PySem.Str.ofString "graft")))
    (tr_DEED_PARTS_12:K.lookup ta_DEED_PARTS_12 = some ⟨.type "tuple",td_DEED_PARTS_12,.seq #[.str (PySem.Str.ofString "word") tx_DEED_PARTS_12_0] tn_DEED_PARTS_12,ts_DEED_PARTS_12⟩)
    (th_DEED_PARTS_12:hv_DEED_PARTS_12 = keyH w (.inr (PySem.Str.ofString "drop"))) :
    ∃ fd:FuncData,(∀ (s:Shared) (v:Value),BindsTo s fd ⟨[v],[]⟩ [("_law_script",v)])∧∀ base:Heap,K.In base→base.Ns mainGlobals mg→FnOk l.prog w K mg base CX0 6 fa fd ["_law_script"] (sp_law K):=by
  have e:=hfa.symm.trans (PySem.W.mg_of X G a21)
  cases e
  have T:Txt w K mg (fun n=>match n with | 0=>X_NoRow | 1=>X_StemError | 2=>X_NoName | 3=>X_NoPath | 4=>X_NoThing | 5=>X_Twice | 6=>X_Bare | 7=>X_Grown | 8=>X_TooMany | _=>0):=⟨PySem.W.mg_of X G x_NoRow,PySem.W.mg_of X G x_StemError,PySem.W.mg_of X G x_NoName,PySem.W.mg_of X G x_NoPath,PySem.W.mg_of X G x_NoThing,PySem.W.mg_of X G x_Twice,PySem.W.mg_of X G x_Bare,PySem.W.mg_of X G x_Grown,PySem.W.mg_of X G x_TooMany,q_NoRow,m_NoRow_StemError,⟨ga_NoRow,gg_NoRow,gc_NoRow,gs_NoRow,gt_NoRow,go_NoRow,gb_NoRow⟩,k_NoRow_NoRow,k_NoRow_ValueError,k_NoRow_NoName,k_NoRow_NoPath,k_NoRow_NoThing,k_NoRow_Twice,k_NoRow_Bare,k_NoRow_Grown,k_NoRow_TooMany,PySem.W.mg_none_of X G z_ValueError,PySem.W.mg_none_of X G z_all,PySem.W.mg_none_of X G z_int,PySem.W.mg_none_of X G z_isinstance,PySem.W.mg_none_of X G z_len,PySem.W.mg_none_of X G z_range,PySem.W.mg_none_of X G z_str,PySem.W.mg_none_of X G z_tuple,PySem.W.mg_none_of X G z_zip,⟨_,PySem.W.mg_of X G w_SIGNS⟩,⟨_,PySem.W.mg_of X G w_FIGURES⟩,⟨_,PySem.W.mg_of X G w_MOST_FIGURES⟩,⟨_,PySem.W.mg_of X G w_ROOT_WORD⟩,⟨_,PySem.W.mg_of X G tm_DEED_PARTS,ty_DEED_PARTS,by decide +kernel,by decide,_,_,tl_DEED_PARTS,.cons th_DEED_PARTS_0 ⟨_,_,_,tr_DEED_PARTS_0,rfl,rfl,(by show 2≤sizeLine; decide),.cons ⟨_,rfl⟩ (.cons ⟨_,rfl⟩ .nil)⟩ (.cons th_DEED_PARTS_1 ⟨_,_,_,tr_DEED_PARTS_1,rfl,rfl,(by show 2≤sizeLine; decide),.cons ⟨_,rfl⟩ (.cons ⟨_,rfl⟩ .nil)⟩ (.cons th_DEED_PARTS_2 ⟨_,_,_,tr_DEED_PARTS_2,rfl,rfl,(by show 2≤sizeLine; decide),.cons ⟨_,rfl⟩ (.cons ⟨_,rfl⟩ .nil)⟩ (.cons th_DEED_PARTS_3 ⟨_,_,_,tr_DEED_PARTS_3,rfl,rfl,(by show 3≤sizeLine; decide),.cons ⟨_,rfl⟩ (.cons ⟨_,rfl⟩ (.cons ⟨_,rfl⟩ .nil))⟩ (.cons th_DEED_PARTS_4 ⟨_,_,_,tr_DEED_PARTS_4,rfl,rfl,(by show 5≤sizeLine; decide),.cons ⟨_,rfl⟩ (.cons ⟨_,rfl⟩ (.cons ⟨_,rfl⟩ (.cons ⟨_,rfl⟩ (.cons ⟨_,rfl⟩ .nil))))⟩ (.cons th_DEED_PARTS_5 ⟨_,_,_,tr_DEED_PARTS_5,rfl,rfl,(by show 2≤sizeLine; decide),.cons ⟨_,rfl⟩ (.cons ⟨_,rfl⟩ .nil)⟩ (.cons th_DEED_PARTS_6 ⟨_,_,_,tr_DEED_PARTS_6,rfl,rfl,(by show 3≤sizeLine; decide),.cons ⟨_,rfl⟩ (.cons ⟨_,rfl⟩ (.cons ⟨_,rfl⟩ .nil))⟩ (.cons th_DEED_PARTS_7 ⟨_,_,_,tr_DEED_PARTS_7,rfl,rfl,(by show 4≤sizeLine; decide),.cons ⟨_,rfl⟩ (.cons ⟨_,rfl⟩ (.cons ⟨_,rfl⟩ (.cons ⟨_,rfl⟩ .nil)))⟩ (.cons th_DEED_PARTS_8 ⟨_,_,_,tr_DEED_PARTS_8,rfl,rfl,(by show 2≤sizeLine; decide),.cons ⟨_,rfl⟩ (.cons ⟨_,rfl⟩ .nil)⟩ (.cons th_DEED_PARTS_9 ⟨_,_,_,tr_DEED_PARTS_9,rfl,rfl,(by show 3≤sizeLine; decide),.cons ⟨_,rfl⟩ (.cons ⟨_,rfl⟩ (.cons ⟨_,rfl⟩ .nil))⟩ (.cons th_DEED_PARTS_10 ⟨_,_,_,tr_DEED_PARTS_10,rfl,rfl,(by show 1≤sizeLine; decide),.cons ⟨_,rfl⟩ .nil⟩ (.cons th_DEED_PARTS_11 ⟨_,_,_,tr_DEED_PARTS_11,rfl,rfl,(by show 1≤sizeLine; decide),.cons ⟨_,rfl⟩ .nil⟩ (.cons th_DEED_PARTS_12 ⟨_,_,_,tr_DEED_PARTS_12,rfl,rfl,(by show 1≤sizeLine; decide),.cons ⟨_,rfl⟩ .nil⟩ .nil))))))))))))⟩⟩
  have F0:=fun_mk (st:=s_row_of) l0 c0 k0
  have b0:=F0.binds (ps:=["deed"]) fun _ _ _ _ _ _ us hl=>match us,hl with | [_],_=>rfl
  have F1:=fun_mk (st:=s_part_written) l1 c1 k1
  have b1:=F1.binds (ps:=["part","kind"]) fun _ _ _ _ _ _ us hl=>match us,hl with | [_,_],_=>rfl
  have F2:=fun_mk (st:=s_path_written) l2 c2 k2
  have b2:=F2.binds (ps:=["path"]) fun _ _ _ _ _ _ us hl=>match us,hl with | [_],_=>rfl
  have F3:=fun_mk (st:=s_read_row) l3 c3 k3
  have b3:=F3.binds (ps:=["text"]) fun _ _ _ _ _ _ us hl=>match us,hl with | [_],_=>rfl
  have F4:=fun_mk (st:=s_word_of) l4 c4 k4
  have b4:=F4.binds (ps:=["text"]) fun _ _ _ _ _ _ us hl=>match us,hl with | [_],_=>rfl
  have F5:=fun_mk (st:=s_parts_read) l5 c5 k5
  have b5:=F5.binds (ps:=["text","kinds"]) fun _ _ _ _ _ _ us hl=>match us,hl with | [_,_],_=>rfl
  have F6:=fun_mk (st:=s_words_in) l6 c6 k6
  have b6:=F6.binds (ps:=["text","kinds"]) fun _ _ _ _ _ _ us hl=>match us,hl with | [_,_],_=>rfl
  have F7:=fun_mk (st:=s_part_read) l7 c7 k7
  have b7:=F7.binds (ps:=["word","kind"]) fun _ _ _ _ _ _ us hl=>match us,hl with | [_,_],_=>rfl
  have F8:=fun_mk (st:=s_number_read) l8 c8 k8
  have b8:=F8.binds (ps:=["word"]) fun _ _ _ _ _ _ us hl=>match us,hl with | [_],_=>rfl
  have F9:=fun_mk (st:=s__law_row) l9 c9 k9
  have b9:=F9.binds (ps:=["_law_cell","_law_many"]) fun _ _ _ _ _ _ us hl=>match us,hl with | [_,_],_=>rfl
  have F10:=fun_mk (st:=s__law_names) l10 c10 k10
  have b10:=F10.binds (ps:=["_law_row_here","_law_many"]) fun _ _ _ _ _ _ us hl=>match us,hl with | [_,_],_=>rfl
  have F11:=fun_mk (st:=s__law_word) l11 c11 k11
  have b11:=F11.binds (ps:=["_law_row_here","_law_at","_law_names_here"]) fun _ _ _ _ _ _ us hl=>match us,hl with | [_,_,_],_=>rfl
  have F12:=fun_mk (st:=s__law_path) l12 c12 k12
  have b12:=F12.binds (ps:=["_law_row_here","_law_at","_law_names_here"]) fun _ _ _ _ _ _ us hl=>match us,hl with | [_,_,_],_=>rfl
  have F13:=fun_mk (st:=s__law_number) l13 c13 k13
  have b13:=F13.binds (ps:=["_law_row_here","_law_at"]) fun _ _ _ _ _ _ us hl=>match us,hl with | [_,_],_=>rfl
  have F14:=fun_mk (st:=s__law_text) l14 c14 k14
  have b14:=F14.binds (ps:=["_law_row_here","_law_at"]) fun _ _ _ _ _ _ us hl=>match us,hl with | [_,_],_=>rfl
  have F15:=fun_mk (st:=s__law_deed) l15 c15 k15
  have b15:=F15.binds (ps:=["_law_cell","_law_names_here"]) fun _ _ _ _ _ _ us hl=>match us,hl with | [_,_],_=>rfl
  have F16:=fun_mk (st:=s__law_bent) l16 c16 k16
  have b16:=F16.binds (ps:=["_law_cell","_law_text_here"]) fun _ _ _ _ _ _ us hl=>match us,hl with | [_,_],_=>rfl
  have F17:=fun_mk (st:=s__law_kinds) l17 c17 k17
  have b17:=F17.binds (ps:=["_law_word_here"]) fun _ _ _ _ _ _ us hl=>match us,hl with | [_],_=>rfl
  have F18:=fun_mk (st:=s__law_part) l18 c18 k18
  have b18:=F18.binds (ps:=["_law_kind","_law_word_here"]) fun _ _ _ _ _ _ us hl=>match us,hl with | [_,_],_=>rfl
  have F19:=fun_mk (st:=s__law_due) l19 c19 k19
  have b19:=F19.binds (ps:=["_law_text_here"]) fun _ _ _ _ _ _ us hl=>match us,hl with | [_],_=>rfl
  have F20:=fun_mk (st:=s__law_read) l20 c20 k20
  have b20:=F20.binds (ps:=["_law_text_here"]) fun _ _ _ _ _ _ us hl=>match us,hl with | [_],_=>rfl
  have F21:=fun_mk (st:=s_law) l21 c21 k21
  refine ⟨PySem.W.fnOf "law" "law" (defArgs s_law) (defBody s_law) (defScope s_law) .none kV21 dc21 pm21 an21 cd21 ct21,fun s v=>.of_eq rfl,fun base _ _=>?_⟩
  have D_path_written:Def l.prog w K mg base 1 "path_written" ["path"] (sp_path_written K):=⟨_,_,ok_path_written T F2 ,PySem.W.mg_of X G a2,k2,b2⟩
  have D_word_of:DefX l.prog w K mg base 1 "word_of" ["text"] (sp_word_of K (fun n=>match n with | 0=>X_NoRow | 1=>X_StemError | 2=>X_NoName | 3=>X_NoPath | 4=>X_NoThing | 5=>X_Twice | 6=>X_Bare | 7=>X_Grown | 8=>X_TooMany | _=>0)):=⟨_,_,ok_word_of T F4 ,PySem.W.mg_of X G a4,k4,b4⟩
  have D_words_in:Def l.prog w K mg base 1 "words_in" ["text","kinds"] (sp_words_in K):=⟨_,_,ok_words_in T F6 ,PySem.W.mg_of X G a6,k6,b6⟩
  have D_number_read:DefX l.prog w K mg base 1 "number_read" ["word"] (sp_number_read K (fun n=>match n with | 0=>X_NoRow | 1=>X_StemError | 2=>X_NoName | 3=>X_NoPath | 4=>X_NoThing | 5=>X_Twice | 6=>X_Bare | 7=>X_Grown | 8=>X_TooMany | _=>0)):=⟨_,_,ok_number_read T F8 ,PySem.W.mg_of X G a8,k8,b8⟩
  have D__law_row:Def l.prog w K mg base 1 "_law_row" ["_law_cell","_law_many"] (sp__law_row K):=⟨_,_,ok__law_row T F9 ,PySem.W.mg_of X G a9,k9,b9⟩
  have D__law_names:Def l.prog w K mg base 1 "_law_names" ["_law_row_here","_law_many"] (sp__law_names K):=⟨_,_,ok__law_names T F10 ,PySem.W.mg_of X G a10,k10,b10⟩
  have D__law_word:Def l.prog w K mg base 1 "_law_word" ["_law_row_here","_law_at","_law_names_here"] (sp__law_word K):=⟨_,_,ok__law_word T F11 ,PySem.W.mg_of X G a11,k11,b11⟩
  have D__law_path:Def l.prog w K mg base 1 "_law_path" ["_law_row_here","_law_at","_law_names_here"] (sp__law_path K):=⟨_,_,ok__law_path T F12 ,PySem.W.mg_of X G a12,k12,b12⟩
  have D__law_number:Def l.prog w K mg base 1 "_law_number" ["_law_row_here","_law_at"] (sp__law_number K):=⟨_,_,ok__law_number T F13 ,PySem.W.mg_of X G a13,k13,b13⟩
  have D__law_text:Def l.prog w K mg base 1 "_law_text" ["_law_row_here","_law_at"] (sp__law_text K):=⟨_,_,ok__law_text T F14 ,PySem.W.mg_of X G a14,k14,b14⟩
  have D__law_kinds:Def l.prog w K mg base 1 "_law_kinds" ["_law_word_here"] (sp__law_kinds K):=⟨_,_,ok__law_kinds T F17 ,PySem.W.mg_of X G a17,k17,b17⟩
  have D__law_part:Def l.prog w K mg base 1 "_law_part" ["_law_kind","_law_word_here"] (sp__law_part K):=⟨_,_,ok__law_part T F18 ,PySem.W.mg_of X G a18,k18,b18⟩
  have D_part_written:Def l.prog w K mg base 2 "part_written" ["part","kind"] (sp_part_written K):=⟨_,_,ok_part_written T F1 D_path_written,PySem.W.mg_of X G a1,k1,b1⟩
  have D_part_read:DefX l.prog w K mg base 2 "part_read" ["word","kind"] (sp_part_read K (fun n=>match n with | 0=>X_NoRow | 1=>X_StemError | 2=>X_NoName | 3=>X_NoPath | 4=>X_NoThing | 5=>X_Twice | 6=>X_Bare | 7=>X_Grown | 8=>X_TooMany | _=>0)):=⟨_,_,ok_part_read T F7 D_number_read,PySem.W.mg_of X G a7,k7,b7⟩
  have D__law_deed:Def l.prog w K mg base 2 "_law_deed" ["_law_cell","_law_names_here"] (sp__law_deed K):=⟨_,_,ok__law_deed T F15 D__law_row D__law_word D__law_path D__law_number D__law_text,PySem.W.mg_of X G a15,k15,b15⟩
  have D__law_bent:Def l.prog w K mg base 2 "_law_bent" ["_law_cell","_law_text_here"] (sp__law_bent K):=⟨_,_,ok__law_bent T F16 D__law_row,PySem.W.mg_of X G a16,k16,b16⟩
  have D__law_due:Def l.prog w K mg base 2 "_law_due" ["_law_text_here"] (sp__law_due K):=⟨_,_,ok__law_due T F19 D__law_kinds D__law_part,PySem.W.mg_of X G a19,k19,b19⟩
  have D_row_of:Def l.prog w K mg base 3 "row_of" ["deed"] (sp_row_of K):=⟨_,_,ok_row_of T F0 D_part_written,PySem.W.mg_of X G a0,k0,b0⟩
  have D_parts_read:DefX l.prog w K mg base 3 "parts_read" ["text","kinds"] (sp_parts_read K (fun n=>match n with | 0=>X_NoRow | 1=>X_StemError | 2=>X_NoName | 3=>X_NoPath | 4=>X_NoThing | 5=>X_Twice | 6=>X_Bare | 7=>X_Grown | 8=>X_TooMany | _=>0)):=⟨_,_,ok_parts_read T F5 D_words_in D_part_read,PySem.W.mg_of X G a5,k5,b5⟩
  have D_read_row:DefX l.prog w K mg base 4 "read_row" ["text"] (sp_read_row K (fun n=>match n with | 0=>X_NoRow | 1=>X_StemError | 2=>X_NoName | 3=>X_NoPath | 4=>X_NoThing | 5=>X_Twice | 6=>X_Bare | 7=>X_Grown | 8=>X_TooMany | _=>0)):=⟨_,_,ok_read_row T F3 D_parts_read D_word_of,PySem.W.mg_of X G a3,k3,b3⟩
  have D__law_read:Def l.prog w K mg base 5 "_law_read" ["_law_text_here"] (sp__law_read K):=⟨_,_,ok__law_read T F20 D_read_row,PySem.W.mg_of X G a20,k20,b20⟩
  exact ok_law T F21 D__law_names D__law_row D__law_deed D__law_due D__law_read D__law_bent D_row_of
theorem walk {l:PySem.W.OpenLaw} {q:Program} {loose:List Str} {XP:(Str→Option Value)→Heap→Prop} {YP:World→Heap→Prop} {d:DefRec} {K:Params→PySem.W.Frag} (hn:l.most = some 63) (hdf:d.params.defaults = [])
    (hY:∀ (w:World) (h:Heap),YP w h→(K w.params).In h)
    (F:∀ (w:World) (mg:Str→Option Value) (fa:Addr) (h:Heap),(K w.params).In h→h.Ns mainGlobals mg→mg d.name = some (.ref fa)→
      ∃ fd:FuncData,(∀ (s:Shared) (u:Value),BindsTo s fd ⟨[u],[]⟩ [("_law_script",u)])∧∀ base:Heap,(K w.params).In base→base.Ns mainGlobals mg→FnOk l.prog w (K w.params) mg base CX0 6 fa fd ["_law_script"] (sp_law (K w.params))) :
    PySem.W.WalkO q loose XP YP l.row.toRowW d [] (fun f vs=>PySem.call f vs):=
  L2.walk_of (n:=63) (k:=6) (x:="_law_script") (CX:=fun _=>CX0) (sp:=fun w=>sp_law (K w.params)) hn (by decide) hdf ⟨rfl,by decide,by decide⟩ hY F (fun _ _ a ns hl _ hS=>⟨a,ns,rfl,hS,hl,fun _=>rfl⟩) fun _ _ _ _ _ z=>z
end K73
def PySem.W.Fast.tw15641715125113993005:Type:=PySem.Expr
theorem PySem.W.Fast.te15641715125113993005:PySem.Expr = PySem.W.Fast.tw15641715125113993005:=rfl
def PySem.W.Fast.tw90343872475197607:Type:=PySem.Params
theorem PySem.W.Fast.te90343872475197607:PySem.Params = PySem.W.Fast.tw90343872475197607:=rfl
open PySem PySem.W PyProof.Rows
set_option maxRecDepth 100000 in
set_option maxHeartbeats 0 in
theorem PySem.Challenge.cw_stemshelf_k73_rows_refused_holds : PySem.Challenge.rw_stemshelf_k73_rows_refused.Holds := by
  w_on; o_law; k_head; (case hw=>w_witness2)
  k_fill
  refine K73.walk (l:=PySem.Challenge.rw_stemshelf_k73_rows_refused) rfl rfl (fun w h Y=>PySem.W.kIn_of Y) ?F
  case F=>
    intro w mg fa h KX G hmg
    refine' K73.all_mk KX G hmg ?a0 ?l0 ?c0 ?k0 ?a1 ?l1 ?c1 ?k1 ?a2 ?l2 ?c2 ?k2 ?a3 ?l3 ?c3 ?k3 ?a4 ?l4 ?c4 ?k4 ?a5 ?l5 ?c5 ?k5 ?a6 ?l6 ?c6 ?k6 ?a7 ?l7 ?c7 ?k7 ?a8 ?l8 ?c8 ?k8 ?a9 ?l9 ?c9 ?k9 ?a10 ?l10 ?c10 ?k10 ?a11 ?l11 ?c11 ?k11 ?a12 ?l12 ?c12 ?k12 ?a13 ?l13 ?c13 ?k13 ?a14 ?l14 ?c14 ?k14 ?a15 ?l15 ?c15 ?k15 ?a16 ?l16 ?c16 ?k16 ?a17 ?l17 ?c17 ?k17 ?a18 ?l18 ?c18 ?k18 ?a19 ?l19 ?c19 ?k19 ?a20 ?l20 ?c20 ?k20 ?a21 ?l21 ?c21 ?k21 ?x_NoRow ?x_StemError ?x_NoName ?x_NoPath ?x_NoThing ?x_Twice ?x_Bare ?x_Grown ?x_TooMany ?q_NoRow ?m_NoRow_StemError ?ga_NoRow ?gg_NoRow ?gc_NoRow ?gs_NoRow ?gt_NoRow ?go_NoRow ?gb_NoRow ?k_NoRow_NoRow ?k_NoRow_ValueError ?k_NoRow_NoName ?k_NoRow_NoPath ?k_NoRow_NoThing ?k_NoRow_Twice ?k_NoRow_Bare ?k_NoRow_Grown ?k_NoRow_TooMany ?z_ValueError ?z_all ?z_int ?z_isinstance ?z_len ?z_range ?z_str ?z_tuple ?z_zip ?w_SIGNS ?w_FIGURES ?w_MOST_FIGURES ?w_ROOT_WORD ?tm_DEED_PARTS ?tl_DEED_PARTS ?ty_DEED_PARTS ?tr_DEED_PARTS_0 ?th_DEED_PARTS_0 ?tr_DEED_PARTS_1 ?th_DEED_PARTS_1 ?tr_DEED_PARTS_2 ?th_DEED_PARTS_2 ?tr_DEED_PARTS_3 ?th_DEED_PARTS_3 ?tr_DEED_PARTS_4 ?th_DEED_PARTS_4 ?tr_DEED_PARTS_5 ?th_DEED_PARTS_5 ?tr_DEED_PARTS_6 ?th_DEED_PARTS_6 ?tr_DEED_PARTS_7 ?th_DEED_PARTS_7 ?tr_DEED_PARTS_8 ?th_DEED_PARTS_8 ?tr_DEED_PARTS_9 ?th_DEED_PARTS_9 ?tr_DEED_PARTS_10 ?th_DEED_PARTS_10 ?tr_DEED_PARTS_11 ?th_DEED_PARTS_11 ?tr_DEED_PARTS_12 ?th_DEED_PARTS_12
    (case x_NoRow=>k_is)
    (case x_StemError=>k_is)
    (case x_NoName=>k_is)
    (case x_NoPath=>k_is)
    (case x_NoThing=>k_is)
    (case x_Twice=>k_is)
    (case x_Bare=>k_is)
    (case x_Grown=>k_is)
    (case x_TooMany=>k_is)
    (case tm_DEED_PARTS=>k_is)
    (case tl_DEED_PARTS=>k_is)
    (case a0=>k_is)
    (case l0=>k_is)
    (case c0=>k_is)
    (case k0=>k_is)
    (case a1=>k_is)
    (case l1=>k_is)
    (case c1=>k_is)
    (case k1=>k_is)
    (case a2=>k_is)
    (case l2=>k_is)
    (case c2=>k_is)
    (case k2=>k_is)
    (case a3=>k_is)
    (case l3=>k_is)
    (case c3=>k_is)
    (case k3=>k_is)
    (case a4=>k_is)
    (case l4=>k_is)
    (case c4=>k_is)
    (case k4=>k_is)
    (case a5=>k_is)
    (case l5=>k_is)
    (case c5=>k_is)
    (case k5=>k_is)
    (case a6=>k_is)
    (case l6=>k_is)
    (case c6=>k_is)
    (case k6=>k_is)
    (case a7=>k_is)
    (case l7=>k_is)
    (case c7=>k_is)
    (case k7=>k_is)
    (case a8=>k_is)
    (case l8=>k_is)
    (case c8=>k_is)
    (case k8=>k_is)
    (case a9=>k_is)
    (case l9=>k_is)
    (case c9=>k_is)
    (case k9=>k_is)
    (case a10=>k_is)
    (case l10=>k_is)
    (case c10=>k_is)
    (case k10=>k_is)
    (case a11=>k_is)
    (case l11=>k_is)
    (case c11=>k_is)
    (case k11=>k_is)
    (case a12=>k_is)
    (case l12=>k_is)
    (case c12=>k_is)
    (case k12=>k_is)
    (case a13=>k_is)
    (case l13=>k_is)
    (case c13=>k_is)
    (case k13=>k_is)
    (case a14=>k_is)
    (case l14=>k_is)
    (case c14=>k_is)
    (case k14=>k_is)
    (case a15=>k_is)
    (case l15=>k_is)
    (case c15=>k_is)
    (case k15=>k_is)
    (case a16=>k_is)
    (case l16=>k_is)
    (case c16=>k_is)
    (case k16=>k_is)
    (case a17=>k_is)
    (case l17=>k_is)
    (case c17=>k_is)
    (case k17=>k_is)
    (case a18=>k_is)
    (case l18=>k_is)
    (case c18=>k_is)
    (case k18=>k_is)
    (case a19=>k_is)
    (case l19=>k_is)
    (case c19=>k_is)
    (case k19=>k_is)
    (case a20=>k_is)
    (case l20=>k_is)
    (case c20=>k_is)
    (case k20=>k_is)
    (case a21=>k_is)
    (case l21=>k_is)
    (case c21=>k_is)
    (case k21=>k_is)
    (case q_NoRow=>k_exc)
    (case m_NoRow_StemError=>kts_exm)
    (case ga_NoRow=>k_is)
    (case gg_NoRow=>k_is)
    (case gc_NoRow=>k_is)
    (case gs_NoRow=>k_is)
    (case gt_NoRow=>k_is)
    (case go_NoRow=>k_is)
    (case gb_NoRow=>k_is)
    (case k_NoRow_NoRow=>kit_is)
    (case k_NoRow_ValueError=>kit_is)
    (case k_NoRow_NoName=>kit_is)
    (case k_NoRow_NoPath=>kit_is)
    (case k_NoRow_NoThing=>kit_is)
    (case k_NoRow_Twice=>kit_is)
    (case k_NoRow_Bare=>kit_is)
    (case k_NoRow_Grown=>kit_is)
    (case k_NoRow_TooMany=>kit_is)
    (case z_ValueError=>k_is)
    (case z_all=>k_is)
    (case z_int=>k_is)
    (case z_isinstance=>k_is)
    (case z_len=>k_is)
    (case z_range=>k_is)
    (case z_str=>k_is)
    (case z_tuple=>k_is)
    (case z_zip=>k_is)
    (case w_SIGNS=>k_is)
    (case w_FIGURES=>k_is)
    (case w_MOST_FIGURES=>k_is)
    (case w_ROOT_WORD=>k_is)
    (case ty_DEED_PARTS=>decide)
    (case tr_DEED_PARTS_0=>k_is)
    (case th_DEED_PARTS_0=>rfl)
    (case tr_DEED_PARTS_1=>k_is)
    (case th_DEED_PARTS_1=>rfl)
    (case tr_DEED_PARTS_2=>k_is)
    (case th_DEED_PARTS_2=>rfl)
    (case tr_DEED_PARTS_3=>k_is)
    (case th_DEED_PARTS_3=>rfl)
    (case tr_DEED_PARTS_4=>k_is)
    (case th_DEED_PARTS_4=>rfl)
    (case tr_DEED_PARTS_5=>k_is)
    (case th_DEED_PARTS_5=>rfl)
    (case tr_DEED_PARTS_6=>k_is)
    (case th_DEED_PARTS_6=>rfl)
    (case tr_DEED_PARTS_7=>k_is)
    (case th_DEED_PARTS_7=>rfl)
    (case tr_DEED_PARTS_8=>k_is)
    (case th_DEED_PARTS_8=>rfl)
    (case tr_DEED_PARTS_9=>k_is)
    (case th_DEED_PARTS_9=>rfl)
    (case tr_DEED_PARTS_10=>k_is)
    (case th_DEED_PARTS_10=>rfl)
    (case tr_DEED_PARTS_11=>k_is)
    (case th_DEED_PARTS_11=>rfl)
    (case tr_DEED_PARTS_12=>k_is)
    (case th_DEED_PARTS_12=>rfl)
