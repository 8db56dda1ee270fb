import PyProof.Rows.All
import Wide.All
import OpenK.AllK
import Wide.FinOn
import Lean
import PyProof.EqAt
import PyProof.EqKinds
import PyProof.TupleCall
import PySem.Challenge.RW_stemshelf_k29_alike_by_words
set_option Elab.async false
set_option linter.all false
set_option maxRecDepth 100000
namespace L2
open PySem PySem.Spec PyProof.Rows
abbrev Key:=Sum Int Str
def keyIs:Key→Value→Bool
  | .inl k,v=>Value.isInt k v
  | .inr x,v=>Value.isStrOf x v
def keyH (w:World):Key→Int
  | .inl k=>hashInt k
  | .inr x=>hashStr w x
theorem keyIs_shape:∀ {k:Key} {v:Value},keyIs k v = true→(∃ i t,k = Sum.inl i∧v = Value.int i t)∨(∃ x t,k = Sum.inr x∧v = Value.str x t)
  | .inl i,v,h=>by
    obtain ⟨t,e⟩:=Value.isInt_shape (k:=i) (v:=v) h
    exact .inl ⟨i,t,rfl,e⟩
  | .inr x,v,h=>by
    obtain ⟨t,e⟩:=Value.isStrOf_shape (x:=x) (v:=v) h
    exact .inr ⟨x,t,rfl,e⟩
theorem keyIs_int (i:Int) (t:Tok):keyIs (.inl i) (.int i t) = true:=by simp [keyIs,Value.isInt]
theorem keyIs_str (x:Str) (t:Tok):keyIs (.inr x) (.str x t) = true:=by simp [keyIs,Value.isStrOf]
theorem key_ll (a b:Int):decide ((Sum.inl a:Key) = Sum.inl b) = (a == b):=by
  by_cases e:a = b
  · subst e; simp
  · have h:¬ (Sum.inl a:Key) = Sum.inl b:=fun q=>e (Sum.inl.inj q)
    rw [decide_eq_false h]
    exact (beq_eq_false_iff_ne.mpr e).symm
theorem key_rr (a b:Str):decide ((Sum.inr a:Key) = Sum.inr b) = decide (a = b):=by
  by_cases e:a = b
  · subst e; simp
  · have h:¬ (Sum.inr a:Key) = Sum.inr b:=fun q=>e (Sum.inr.inj q)
    rw [decide_eq_false h,decide_eq_false e]
theorem key_lr (a:Int) (b:Str):decide ((Sum.inl a:Key) = Sum.inr b) = false:=decide_eq_false (fun q=>nomatch q)
theorem key_rl (a:Str) (b:Int):decide ((Sum.inr a:Key) = Sum.inl b) = false:=decide_eq_false (fun q=>nomatch q)
def mixKind (prog:Program) (w:World):PySem.KeyKind prog w Key where
  is:=keyIs
  hash:=keyH w
  inj:=fun v a b ha hb=>by
    rcases keyIs_shape ha with ⟨i,t,rfl,rfl⟩ | ⟨x,t,rfl,rfl⟩
    · rcases keyIs_shape hb with ⟨j,u,rfl,e⟩ | ⟨y,u,rfl,e⟩
      · injection e with e1 _; rw [e1]
      · exact nomatch e
    · rcases keyIs_shape hb with ⟨j,u,rfl,e⟩ | ⟨y,u,rfl,e⟩
      · exact nomatch e
      · injection e with e1 _; rw [e1]
  byValue:=fun k v h=>by
    rcases keyIs_shape h with ⟨i,t,rfl,rfl⟩ | ⟨x,t,rfl,rfl⟩ <;> rfl
  pyHash:=fun hv h=>by
    rcases keyIs_shape hv with ⟨i,t,rfl,rfl⟩ | ⟨x,t,rfl,rfl⟩
    · exact wpAny_pyHash_int h
    · exact wpAny_pyHash_str h
  eqBool:=fun hu hv h=>by
    rcases keyIs_shape hu with ⟨i,t,rfl,rfl⟩ | ⟨x,t,rfl,rfl⟩
    · rcases keyIs_shape hv with ⟨j,u,rfl,rfl⟩ | ⟨y,u,rfl,rfl⟩
      · rw [key_ll] at h; exact wpAny_eqBool_int h
      · rw [key_lr] at h; exact SeqAt.EqAt.int_str i t y u _ _ _ _ h
    · rcases keyIs_shape hv with ⟨j,u,rfl,rfl⟩ | ⟨y,u,rfl,rfl⟩
      · rw [key_rl] at h; exact SeqAt.EqAt.str_int x t j u _ _ _ _ h
      · rw [key_rr] at h; exact wpAny_eqBool_str h
  «strs»:=fun k x t v h=>by
    rcases keyIs_shape h with ⟨i,u,rfl,e⟩ | ⟨y,u,rfl,e⟩
    · exact nomatch e
    · injection e with e1 _
      subst e1
      cases v <;> rfl
theorem mixKind_int (prog:Program) (w:World) (i:Int) (t:Tok):(mixKind prog w).is (.inl i) (.int i t) = true:=keyIs_int i t
theorem mixKind_str (prog:Program) (w:World) (x:Str) (t:Tok):(mixKind prog w).is (.inr x) (.str x t) = true:=keyIs_str x t
end L2
namespace L2
open PySem PySem.Spec PyProof.Rows
inductive V where
  | non | bl (b:Bool) | int (i:Int) | str (x:Str) | byt (b:Array UInt8) | flt (b:UInt64) | ref (a:Addr) | ty (n:String)
  deriving DecidableEq
def RelV:V→Value→Prop
  | .non,u=>u = Value.none
  | .bl b,u=>u = Value.bool b
  | .int i,u=>∃ t,u = Value.int i t
  | .str x,u=>∃ t,u = Value.str x t
  | .byt b,u=>∃ t,u = Value.bytes b t
  | .flt b,u=>∃ t,u = Value.float b t
  | .ref a,u=>u = Value.ref a
  | .ty n,u=>u = Value.type n
abbrev Vals:List V→List Value→Prop:=Paired RelV
theorem Vals.length {xs:List V} {us:List Value} (r:Vals xs us):xs.length = us.length:=Paired.length r
theorem Vals.get:∀ {xs:List V} {us:List Value} {i:Nat} {x:V},Vals xs us→xs[i]? = some x→∃ u,us[i]? = some u∧RelV x u
  | _,_,_,_,.nil,e=>by simp at e
  | _,_,0,_,.cons r _,e=>by simp at e; subst e; exact ⟨_,rfl,r⟩
  | _,_,i + 1,x,.cons _ t,e=>by
    obtain ⟨u,h1,h2⟩:=Vals.get (i:=i) (x:=x) t (by simpa using e)
    exact ⟨u,by simpa using h1,h2⟩
theorem Vals.set {x:V} {u:Value} (r:RelV x u):∀ {xs:List V} {us:List Value} (i:Nat),Vals xs us→Vals (xs.set i x) (us.set i u)
  | _,_,_,.nil=>.nil
  | _,_,0,.cons _ t=>.cons r t
  | _,_,i + 1,.cons q t=>.cons q (Vals.set r i t)
theorem Vals.append:∀ {xs ys:List V} {us ws:List Value},Vals xs us→Vals ys ws→Vals (xs ++ ys) (us ++ ws)
  | _,_,_,_,.nil,s=>s
  | _,_,_,_,.cons r t,s=>.cons r (Vals.append t s)
theorem Vals.take:∀ {xs:List V} {us:List Value} (n:Nat),Vals xs us→Vals (xs.take n) (us.take n)
  | _,_,0,_=>.nil
  | _,_,_ + 1,.nil=>.nil
  | _,_,n + 1,.cons r t=>.cons r (Vals.take n t)
theorem Vals.drop:∀ {xs:List V} {us:List Value} (n:Nat),Vals xs us→Vals (xs.drop n) (us.drop n)
  | _,_,0,r=>r
  | _,_,_ + 1,.nil=>.nil
  | _,_,n + 1,.cons _ t=>Vals.drop n t
theorem Vals.none_of:∀ {xs:List V} {us:List Value} {i:Nat},Vals xs us→xs[i]? = none→us[i]? = none:=fun {xs us i} r e=>by
  have h1:=r.length
  have h2:xs.length≤i:=List.getElem?_eq_none_iff.mp e
  exact List.getElem?_eq_none_iff.mpr (by omega)
def RelO:Option V→Option Value→Prop
  | some v,some u=>RelV v u
  | none,none=>True
  | _,_=>False
def KV {κ:Type}:List (κ×V)→List (κ×Value)→Prop:=Paired fun (p:κ×V) (q:κ×Value)=>p.1 = q.1∧RelV p.2 q.2
def kV:Key→V
  | .inl i=>.int i
  | .inr x=>.str x
inductive HO where
  | lst (xs:List V)
  | tup (xs:List V)
  | dK (kvs:List (Key×V)) | dT (kvs:List (List Key×V))
  | set (S:Int→Bool) (n:Nat)
  | ins (C dx:Addr) (fs:List (Str×V))
  | own (x:Addr)
  | xd (fs:List (Str×V))
  | met (f x:Addr)
  | rng (lo hi:Int)
  | frz (o:Obj) (u:HO)
  | tbl (ps:Array Value)
  | ext (φ:Heap→Prop)
abbrev Hp:=Addr→Option HO
def upd (H:Hp) (a:Addr) (o:HO):Hp:=fun b=>if b = a then some o else H b
theorem upd_same {H:Hp} {a:Addr} {o:HO}:upd H a o a = some o:=by unfold upd; rw [if_pos rfl]
theorem upd_ne {H:Hp} {a b:Addr} {o:HO} (h:b≠a):upd H a o b = H b:=by unfold upd; rw [if_neg h]
theorem upd_upd {H:Hp} {a:Addr} {o u:HO}:upd (upd H a o) a u = upd H a u:=by
  funext b; unfold upd; split <;> rfl
theorem ne_of {H:Hp} {a b:Addr} {o u:HO} (h:H a = some o) (h':H b = some u) (d:o≠u):a≠b:=by
  intro e; subst e; rw [h] at h'; exact d (Option.some.inj h')
theorem ne_of_none {H:Hp} {a b:Addr} {o:HO} (h:H a = some o) (h':H b = none):a≠b:=by
  intro e; subst e; rw [h] at h'; cases h'
section
variable (P:Program) (w:World)
def ObjOk (H:Hp) (h:Heap) (a:Addr):HO→Prop
  | .lst xs=>xs.length≤sizeLine∧∃ (its:List Value) (n:Nat),Vals xs its∧h.get? a = some { cls:=.type "list",data:=.seq its.toArray n }
  | .tup xs=>xs.length≤sizeLine∧∃ its:List Value,Vals xs its∧IsTup h a its.toArray
  | .dK kvs=>kvs.length≤sizeLine∧(a == sysModules) = false∧∃ vs,KV kvs vs∧h.DictOf (mixKind P w) a vs
  | .dT kvs=>kvs.length≤sizeLine∧(a == sysModules) = false∧∃ xs:List (List Key×Addr×Value),
      Paired (fun (p:List Key×V) (q:List Key×Addr×Value)=>p.1 = q.1∧H q.2.1 = some (.tup (p.1.map kV))∧RelV p.2 q.2.2) kvs xs∧
      ∃ o es ep,h.get? a = some o∧o.ExactDict∧o.data = .dict es ep∧es.toList = xs.map (entryOfKey (tupleKind (mixKind P w)))∧(xs.map (·.1)).Nodup
  | .set S n=>h.SetOf (intKind P w) a S n
  | .ins C dx fs=>H dx = some (.own a)∧fs.length≤1000∧dx≠a∧h.get? a = some (PySem.W.instObj C dx)∧
      ∃ mA,h.Ns1 dx mA∧(∀ f,RelO (fs.lookup f) (mA f))∧PySem.Within mA (fs.map (·.1))
  | .own _=>∃ o,h.get? a = some o
  | .xd fs=>∃ mA,h.Ns1 a mA∧∀ f,RelO (fs.lookup f) (mA f)
  | .rng lo hi=>∃ t u v,h.get? a = some { cls:=.type "range",data:=.fields #[.int lo t,.int hi u,.int 1 v] }
  | .frz o u=>h.get? a = some o∧ObjOk H h a u
  | .tbl ps=>h.get? a = some { cls:=.none,data:=.fields ps }
  | .met f x=>h.get? a = some (PySem.W.methodObj (.ref f) (.ref x))
  | .ext φ=>φ h∧(∃ o,h.get? a = some o)∧∀ h1 h2:Heap,φ h1→(∀ o,h1.get? a = some o→h2.get? a = some o)→φ h2
def HOk (H:Hp) (h:Heap):Prop:=∀ a o,H a = some o→ObjOk P w H h a o
end
section
variable {P:Program} {w:World} {H H':Hp} {h h':Heap} {a:Addr} {o:HO}
theorem ObjOk.lt (x:ObjOk P w H h a o):a < h.objs.size:=by
  cases o with
  | lst xs=>obtain ⟨_,_,_,_,e⟩:=x; exact Heap.lt_size e
  | tup xs=>obtain ⟨_,_,_,p⟩:=x; exact p.lt
  | dK kvs=>obtain ⟨_,_,_,_,o,_,_,e,_⟩:=x; exact Heap.lt_size e
  | dT kvs=>obtain ⟨_,_,_,_,o,_,_,e,_⟩:=x; exact Heap.lt_size e
  | set S n=>obtain ⟨o,_,_,_,e,_⟩:=x; exact Heap.lt_size e
  | ins C dx fs=>obtain ⟨_,_,_,e,_⟩:=x; exact Heap.lt_size e
  | own y=>obtain ⟨_,e⟩:=x; exact Heap.lt_size e
  | xd fs=>obtain ⟨_,⟨_,_,_,e,_⟩,_⟩:=x; exact Heap.lt_size e
  | rng lo hi=>obtain ⟨_,_,_,e⟩:=x; exact Heap.lt_size e
  | frz ob u=>obtain ⟨e,_⟩:=x; exact Heap.lt_size e
  | tbl ps=>exact Heap.lt_size (show h.get? a = some _ from x)
  | met f y=>exact Heap.lt_size (show h.get? a = some _ from x)
  | ext φ=>obtain ⟨_,⟨_,e⟩,_⟩:=x; exact Heap.lt_size e
theorem Paired.mapP {α β:Type} {F G:α→β→Prop}:∀ {l₁:List α} {l₂:List β},Paired F l₁ l₂→(∀ a b,F a b→G a b)→Paired G l₁ l₂
  | _,_,.nil,_=>.nil
  | _,_,.cons r t,f=>.cons (f _ _ r) (Paired.mapP t f)
theorem ObjOk.stay (x:ObjOk P w H h a o) (k:∀ b u,(b = a∨H b = some (.own a))→h.get? b = some u→h'.get? b = some u)
    (ho:∀ b,H b = some (.own a)→H' b = some (.own a)) (ht:∀ b xs,H b = some (.tup xs)→H' b = some (.tup xs)):ObjOk P w H' h' a o:=by
  induction o with
  | lst xs=>obtain ⟨z,its,n,r,e⟩:=x; exact ⟨z,its,n,r,k _ _ (.inl rfl) e⟩
  | tup xs=>obtain ⟨z,its,r,ob,e,c⟩:=x; exact ⟨z,its,r,ob,k _ _ (.inl rfl) e,c⟩
  | dK kvs=>obtain ⟨z,y,vs,r,ob,es,ep,e,c⟩:=x; exact ⟨z,y,vs,r,ob,es,ep,k _ _ (.inl rfl) e,c⟩
  | dT kvs=>
    obtain ⟨z,y,xs,r,ob,es,ep,e,c⟩:=x
    exact ⟨z,y,xs,Paired.mapP r fun p q z=>⟨z.1,ht _ _ z.2.1,z.2.2⟩,ob,es,ep,k _ _ (.inl rfl) e,c⟩
  | set S n=>obtain ⟨ob,es,ep,t,e,c⟩:=x; exact ⟨ob,es,ep,t,k _ _ (.inl rfl) e,c⟩
  | ins C dx fs=>
    obtain ⟨d,z,ne,e,mA,⟨od,es,ep,e2,c⟩,r⟩:=x
    exact ⟨ho _ d,z,ne,k _ _ (.inl rfl) e,mA,⟨od,es,ep,k _ _ (.inr d) e2,c⟩,r⟩
  | own y=>obtain ⟨ob,e⟩:=x; exact ⟨ob,k _ _ (.inl rfl) e⟩
  | xd fs=>obtain ⟨mA,⟨od,es,ep,e,c⟩,r⟩:=x; exact ⟨mA,⟨od,es,ep,k _ _ (.inl rfl) e,c⟩,r⟩
  | rng lo hi=>obtain ⟨t,u,v,e⟩:=x; exact ⟨t,u,v,k _ _ (.inl rfl) e⟩
  | frz ob u ih=>obtain ⟨e,q⟩:=x; exact ⟨k _ _ (.inl rfl) e,ih q⟩
  | tbl ps=>
    have e:h.get? a = some { cls:=.none,data:=.fields ps }:=x
    show h'.get? a = some { cls:=.none,data:=.fields ps }
    exact k a _ (.inl rfl) e
  | met f y=>
    have e:h.get? a = some (PySem.W.methodObj (.ref f) (.ref y)):=x
    show h'.get? a = some (PySem.W.methodObj (.ref f) (.ref y))
    exact k a _ (.inl rfl) e
  | ext φ=>obtain ⟨p,⟨o,e⟩,st⟩:=x; exact ⟨st _ _ p fun o q=>k _ _ (.inl rfl) q,⟨o,k _ _ (.inl rfl) e⟩,st⟩
theorem HOk.lt (x:HOk P w H h) (e:H a = some o):a < h.objs.size:=(x a o e).lt
theorem HOk.fresh (x:HOk P w H h) (e:h.objs.size≤a):H a = none:=by
  cases q:H a with
  | none=>rfl
  | some u=>exact absurd (Nat.lt_of_lt_of_le (x.lt q) e) (Nat.lt_irrefl _)
theorem HOk.kept (x:HOk P w H h) (k:∀ b u,h.get? b = some u→h'.get? b = some u):HOk P w H h':=fun a o e=>
  (x a o e).stay (fun b u _ q=>k b u q) (fun _ q=>q) fun _ _ q=>q
theorem HOk.laid (x:HOk P w H h) (k:∀ b u,h.get? b = some u→h'.get? b = some u) (hp:h.objs.size≤a) (new:ObjOk P w (upd H a o) h' a o):HOk P w (upd H a o) h':=fun b u e=>by
  have hn:=x.fresh hp
  by_cases hb:b = a
  · subst hb; rw [upd_same] at e; cases e; exact new
  · rw [upd_ne hb] at e
    exact (x b u e).stay (fun c v _ q=>k c v q) (fun c q=>by rw [upd_ne (ne_of_none q hn)]; exact q) fun c xs q=>by rw [upd_ne (ne_of_none q hn)]; exact q
end
def Rd (H:Hp) (a:Addr) (u:HO):Prop:=H a = some u∨∃ o,H a = some (.frz o u)
theorem Rd.of {H:Hp} {a:Addr} {u:HO} (h:H a = some u):Rd H a u:=.inl h
theorem Rd.ok {P:Program} {w:World} {H:Hp} {h:Heap} {a:Addr} {u:HO} (r:Rd H a u) (x:HOk P w H h):ObjOk P w H h a u:=by
  rcases r with r | ⟨o,r⟩
  · exact x a u r
  · obtain ⟨_,q⟩:=x a _ r
    exact q
def Mut:Option HO→Prop
  | some (.lst _)=>True
  | some (.dK _)=>True
  | some (.dT _)=>True
  | some (.set _ _)=>True
  | some (.ins _ _ _)=>True
  | some (.ext _)=>True
  | _=>False
section
variable {P:Program} {w:World} {H:Hp} {h h':Heap} {x e:Addr} {o':HO}
theorem HOk.write (ok:HOk P w H h) (mu:Mut (H x)) (he:e = x∨H e = some (.own x)) (k:∀ b u,b≠e→h.get? b = some u→h'.get? b = some u) (heo:∃ u,h'.get? e = some u)
    (new:ObjOk P w (upd H x o') h' x o'):HOk P w (upd H x o') h':=fun b u q=>by
  have nown:∀ c y,H c = some (.own y)→c≠x:=fun c y r z=>by subst z; rw [r] at mu; exact mu
  have ntup:∀ c xs,H c = some (.tup xs)→c≠x:=fun c xs r z=>by subst z; rw [r] at mu; exact mu
  by_cases hb:b = x
  · subst hb; rw [upd_same] at q; cases q; exact new
  · rw [upd_ne hb] at q
    by_cases hbe:b = e
    · have q':H b = some (.own x):=by
        rcases he with z | z
        · exact absurd (hbe.trans z) hb
        · rw [hbe]; exact z
      rw [q] at q'; cases q'
      obtain ⟨v,hv⟩:=heo
      exact ⟨v,by rw [hbe]; exact hv⟩
    · refine (ok b u q).stay (fun c v hc r=>k c v ?_ r) (fun c r=>by rw [upd_ne (nown c b r)]; exact r) fun c xs r=>by rw [upd_ne (ntup c xs r)]; exact r
      rcases hc with rfl | hc
      · exact hbe
      · rintro rfl
        rcases he with z | z
        · exact nown c b hc z
        · rw [hc] at z; cases z; exact hb rfl
end
structure Un (fs ex:List Addr) (H H':Hp) (h h':Heap):Prop where
  keep:∀ b o,h.get? b = some o→H b = none→b ∉ fs→b ∉ ex→h'.get? b = some o
  slot:∀ b o,h.get? b = some o→H b = none→b∈fs→b ∉ ex→∃ sl,h'.get? b = some { o with slots:=sl }
  free:∀ b o,h.get? b = some o→H b = none→b ∉ ex→H' b = none
  there:∀ b o,h.get? b = some o→b ∉ ex→∃ o',h'.get? b = some o'
  tups:∀ b xs,H b = some (.tup xs)→H' b = some (.tup xs)
  frzs:∀ b o u,H b = some (.frz o u)→H' b = some (.frz o u)
  tbls:∀ b ps,H b = some (.tbl ps)→∃ more,H' b = some (.tbl (ps ++ more))
section
variable {fs fs' ex ex':List Addr} {H H1 H2:Hp} {h h1 h2 h':Heap} {a x e:Addr} {o:HO}
theorem Un.any (u:Un fs ex H H1 h h1) {b:Addr} {ob:Obj} (q:h.get? b = some ob) (n:H b = none) (hx:b ∉ ex):∃ sl,h1.get? b = some { ob with slots:=sl }:=by
  by_cases hb:b∈fs
  · exact u.slot b ob q n hb hx
  · exact ⟨ob.slots,u.keep b ob q n hb hx⟩
theorem Un.trans (a:Un fs ex H H1 h h1) (b:Un fs ex H1 H2 h1 h2):Un fs ex H H2 h h2 where
  keep:=fun c ob q n hc hx=>b.keep c ob (a.keep c ob q n hc hx) (a.free c ob q n hx) hc hx
  slot:=fun c ob q n hc hx=>by
    obtain ⟨sl,e1⟩:=a.slot c ob q n hc hx
    obtain ⟨sl',e2⟩:=b.slot c _ e1 (a.free c ob q n hx) hc hx
    exact ⟨sl',e2⟩
  free:=fun c ob q n hx=>by
    obtain ⟨o',e1⟩:=a.there c ob q hx
    exact b.free c o' e1 (a.free c ob q n hx) hx
  there:=fun c ob q hx=>by
    obtain ⟨o',e1⟩:=a.there c ob q hx
    exact b.there c o' e1 hx
  tups:=fun c xs q=>b.tups c xs (a.tups c xs q)
  frzs:=fun c ob xs q=>b.frzs c ob xs (a.frzs c ob xs q)
  tbls:=fun c ps q=>by
    obtain ⟨m1,e1⟩:=a.tbls c ps q
    obtain ⟨m2,e2⟩:=b.tbls c _ e1
    exact ⟨m1 ++ m2,by rw [e2,Array.append_assoc]⟩
theorem Un.kept (k:∀ b u,h.get? b = some u→h'.get? b = some u):Un fs ex H H h h':=
  ⟨fun b ob q _ _ _=>k b ob q,fun b ob q _ _ _=>⟨ob.slots,k b ob q⟩,fun _ _ _ n _=>n,fun b ob q _=>⟨ob,k b ob q⟩,fun _ _ q=>q,fun _ _ _ q=>q,fun _ ps q=>⟨#[],by rw [q]; simp⟩⟩
theorem Un.refl:Un fs ex H H h h:=Un.kept fun _ _ q=>q
theorem Un.laid (k:∀ b u,h.get? b = some u→h'.get? b = some u) (hp:h.objs.size≤a) (hn:H a = none):Un fs ex H (upd H a o) h h' where
  keep:=fun b u q _ _ _=>k b u q
  slot:=fun b u q _ _ _=>⟨u.slots,k b u q⟩
  free:=fun b u q n _=>by rw [upd_ne (Nat.ne_of_lt (Nat.lt_of_lt_of_le (Heap.lt_size q) hp))]; exact n
  there:=fun b u q _=>⟨u,k b u q⟩
  tups:=fun b xs q=>by rw [upd_ne (ne_of_none q hn)]; exact q
  frzs:=fun b u xs q=>by rw [upd_ne (ne_of_none q hn)]; exact q
  tbls:=fun b ps q=>⟨#[],by rw [upd_ne (ne_of_none q hn),q]; simp⟩
theorem Un.write (mu:Mut (H x)) (he:e = x∨H e = some (.own x)) (k:∀ b u,b≠e→h.get? b = some u→h'.get? b = some u) (heo:∃ u,h'.get? e = some u):Un fs ex H (upd H x o) h h':=by
  have hx:∀ b,H b = none→b≠x:=fun b n z=>by subst z; rw [n] at mu; exact mu
  have hb:∀ b,H b = none→b≠e:=fun b n z=>by
    subst z
    rcases he with r | r
    · exact hx b n r
    · rw [n] at r; cases r
  have hm:∀ b u,H b = some u→¬ Mut (some u)→b≠x:=fun b u q nm z=>by subst z; rw [q] at mu; exact nm mu
  refine ⟨fun b u q n _ _=>k b u (hb b n) q,fun b u q n _ _=>⟨u.slots,k b u (hb b n) q⟩,fun b u q n _=>by rw [upd_ne (hx b n)]; exact n,fun b u q _=>?_,
    fun b xs q=>by rw [upd_ne (hm b _ q fun z=>z)]; exact q,fun b u xs q=>by rw [upd_ne (hm b _ q fun z=>z)]; exact q,fun b ps q=>⟨#[],by rw [upd_ne (hm b _ q fun z=>z),q]; simp⟩⟩
  by_cases hbe:b = e
  · subst hbe; exact heo
  · exact ⟨u,k b u hbe q⟩
theorem Un.mono (u:Un fs ex H H1 h h1) (hs:∀ b∈fs,b∈fs') (hx:∀ b∈ex,b∈ex'):Un fs' ex' H H1 h h1:=
  ⟨fun b ob q n hb he=>u.keep b ob q n (fun z=>hb (hs b z)) fun z=>he (hx b z),fun _ _ q n _ he=>u.any q n fun z=>he (hx _ z),fun b ob q n he=>u.free b ob q n fun z=>he (hx b z),fun b ob q he=>u.there b ob q fun z=>he (hx b z),u.tups,u.frzs,u.tbls⟩
end
def trk (h:Heap) (H:Hp):List Addr:=(List.range h.objs.size).filter fun a=>(H a).isSome
def hidT (h:Heap) (H:Hp):Heap:=PySem.W.hideAll h (trk h H)
theorem hidT_size (h:Heap) (H:Hp):(hidT h H).objs.size = h.objs.size:=PySem.W.hideAll_size _ _
theorem hidT_get {h:Heap} {H:Hp} {b:Addr} {o:Obj} (e:h.get? b = some o) (n:H b = none):(hidT h H).get? b = some o:=
  PySem.W.hideAll_get _ e fun hm=>by
    have q:(H b).isSome = true:=(List.mem_filter.mp hm).2
    rw [n] at q; simp at q
theorem of_hidT {h:Heap} {H:Hp} {b:Addr} {o:Obj} (e:(hidT h H).get? b = some o):h.get? b = some o∧H b = none:=by
  have e':h.get? b = some o:=PySem.W.of_hideAll (trk h H) e
  refine ⟨e',?_⟩
  cases q:H b with
  | none=>rfl
  | some x=>
    have hm:b∈trk h H:=List.mem_filter.mpr ⟨List.mem_range.mpr (Heap.lt_size e'),by simp [q]⟩
    have z:(hidT h H).get? b = none:=PySem.W.hideAll_none (trk h H) hm
    rw [z] at e; cases e
def allNews (g h:Heap) (L:Addr):List (Addr×Obj):=(List.range h.objs.size).filterMap fun a=>if a = L∨(g.get? a).isSome = true then none else (h.get? a).map fun o=>(a,o)
def rest (g h:Heap) (L d:Addr):List (Addr×Obj):=(allNews g h L).filter fun p=>decide (p.1≠d)
end L2
namespace L2
open PySem PySem.Spec PyProof.Rows
structure Mod (K:PySem.W.Frag) (mg:Str→Option Value) (base:Heap):Prop where
  kin:K.In base
  glob:base.Ns mainGlobals mg
  blt:∃ mb,base.Ns builtinsNs mb∧∀ x:Str,x≠"__name__"→mb x = bootBuiltins x
  nolimit:base.NoLimit
structure Cx where
  prog:Program
  w:World
  K:PySem.W.Frag
  mg:Str→Option Value
  base:Heap
  A:Around
  N:List Str
  s₀:Shared
  H₀:Hp
  env:Env
  outer:List Env
  stack:List Env
  ex:List Addr
  fn:Str→Bool
  calm:Bool
  pn:List (Addr×Obj)
  xe:Value→Shared→Prop
def frs (l:List Env):List Addr:=l.filterMap (·.frame)
abbrev Cx.fs (X:Cx):List Addr:=frs X.outer
def Vis (sc:Scope) (x:Str):Prop:=sc.names.lookup x = some .local∨sc.names.lookup x = some .cell∨sc.names.lookup x = some .free
def Loc (sc:Scope) (x:Str):Prop:=sc.names.lookup x = some .local∨sc.names.lookup x = some .cell
def Look (env:Env) (h:Heap) (m:Str→Option Value) (x:Str) (u:Value):Prop:=
  (env.kindOf x = some .local∧m x = some u)∨((env.kindOf x = some .cell∨env.kindOf x = some .free)∧∃ c,env.cells.lookup x = some c∧h.IsCell c (some u))
structure Cx.Ok (X:Cx):Prop where
  mod:Mod X.K X.mg X.base
  kind:X.env.scope.kind = .function
  glob:X.env.globals = mainGlobals
  blt:X.env.builtins = builtinsNs
  above:X.s₀.heap.objs.size≤X.env.locals
  inj:∀ x y c,X.env.cells.lookup x = some c→X.env.cells.lookup y = some c→x = y
  has:∀ x,(X.env.kindOf x = some .cell∨X.env.kindOf x = some .free)→∃ c,X.env.cells.lookup x = some c
  cab:∀ x c,X.fn x = true→X.env.cells.lookup x = some c→X.s₀.heap.objs.size≤c
  hd:X.calm = true→X.A.handled = none
  frames:X.A.frames = some X.stack
  stk:X.stack = X.outer∨(X.stack = X.env :: X.outer∧X.env.frame = some X.env.locals)
  exf:∀ b∈X.ex,b≠X.env.locals∧∀ x c,X.env.cells.lookup x = some c→c≠b
  bs:∀ b o,X.base.get? b = some o→X.s₀.heap.get? b = some o∧X.H₀ b = none
  bsz:X.base.objs.size≤X.s₀.heap.objs.size
  noex:∀ b o,X.base.get? b = some o→b ∉ X.ex
  exfs:∀ b∈X.ex,b ∉ X.fs
  funs:X.s₀.heap.FunFrames X.base X.outer
  frf:∀ b∈X.fs,X.H₀ b = none
structure Inv (X:Cx) (pins:List (Addr×Obj)) (σ:List (Option V)) (H:Hp) (s:Shared):Prop where
  ok:X.Ok
  os:s.os = X.s₀.os
  bare:AllBare s.gens
  base:Un X.fs X.ex X.H₀ H X.s₀.heap s.heap
  loc:∃ m,s.heap.Ns X.env.locals m∧∀ (i:Nat) (x:Str) (v:V),X.N[i]? = some x→σ[i]? = some (some v)→Vis X.env.scope x→∃ u,RelV v u∧Look X.env s.heap m x u
  cell:∀ x c,X.env.cells.lookup x = some c→∃ v,s.heap.IsCell c v
  free:H X.env.locals = none
  freeC:∀ x c,X.env.cells.lookup x = some c→H c = none
  pin:∀ p∈X.pn ++ pins,s.heap.get? p.1 = some p.2∧H p.1 = none∧p.1≠X.env.locals∧p.1 ∉ X.fs∧∀ v,p.2.data≠.cell v
  hok:HOk X.prog X.w H s.heap
  len:σ.length = X.N.length
section
variable {X:Cx} {pins:List (Addr×Obj)} {σ:List (Option V)} {H H':Hp} {s:Shared} {h':Heap}
theorem Cx.Ok.nofr (ok:X.Ok) {b:Addr} {o:Obj} (e:X.base.get? b = some o):b ∉ X.fs:=fun hb=>by
  have:=(ok.funs.mem hb).1
  rw [e] at this; cases this
theorem Inv.bs (I:Inv X pins σ H s):∀ b o,X.base.get? b = some o→s.heap.get? b = some o∧H b = none:=fun b o e=>
  ⟨I.base.keep b o (I.ok.bs b o e).1 (I.ok.bs b o e).2 (I.ok.nofr e) (I.ok.noex b o e),I.base.free b o (I.ok.bs b o e).1 (I.ok.bs b o e).2 (I.ok.noex b o e)⟩
theorem Inv.bk (I:Inv X pins σ H s):∀ b o,X.base.get? b = some o→s.heap.get? b = some o:=fun b o e=>(I.bs b o e).1
theorem Inv.mod (I:Inv X pins σ H s):Mod X.K X.mg X.base:=I.ok.mod
theorem Inv.kIn (I:Inv X pins σ H s):X.K.In s.heap:=I.ok.mod.kin.keeps I.bk
theorem Inv.nolimit (I:Inv X pins σ H s):s.heap.NoLimit:=I.ok.mod.nolimit.keeps I.bk
theorem Inv.fr (I:Inv X pins σ H s):∃ m,Fr X.base X.env.locals s.heap m:=
  let ⟨m,hn,_⟩:=I.loc
  ⟨m,hn,I.bk,Nat.le_trans I.ok.bsz I.ok.above⟩
theorem Inv.lt (I:Inv X pins σ H s):X.env.locals < s.heap.objs.size:=let ⟨_,hn,_⟩:=I.loc; hn.lt
theorem Inv.sz (I:Inv X pins σ H s):X.s₀.heap.objs.size≤s.heap.objs.size:=Nat.le_trans I.ok.above (Nat.le_of_lt I.lt)
theorem Inv.nofs (I:Inv X pins σ H s) {a:Addr} (h:s.heap.objs.size≤a):a ∉ X.fs:=fun hb=>by
  obtain ⟨_,o,ho,_⟩:=I.ok.funs.mem hb
  exact absurd (Nat.lt_of_lt_of_le (Heap.lt_size ho) (Nat.le_trans I.sz h)) (Nat.lt_irrefl _)
theorem Inv.cne (I:Inv X pins σ H s):∀ x c,X.env.cells.lookup x = some c→c≠X.env.locals:=fun x c e z=>by
  obtain ⟨v,o,ho,hd⟩:=I.cell x c e
  obtain ⟨m,⟨o',es,ep,ho',hd',_⟩,_⟩:=I.loc
  rw [z,ho'] at ho; cases ho; rw [hd'] at hd; cases hd
theorem Inv.funs (I:Inv X pins σ H s):s.heap.FunFrames X.base X.outer:=by
  have all:∀ (l:List Env),(∀ b∈frs l,b∈X.fs)→X.s₀.heap.FunFrames X.base l→s.heap.FunFrames X.base l:=by
    intro l
    induction l with
    | nil=>intro _ _; trivial
    | cons env r ih=>
      intro hs hl
      obtain ⟨hk,⟨L,o,hf,hn,ho,hd⟩,hr⟩:=hl
      have hL:L∈X.fs:=hs L (by unfold frs; rw [List.filterMap_cons,hf]; exact List.mem_cons_self)
      obtain ⟨sl,e⟩:=I.base.slot L o ho (I.ok.frf L hL) hL fun z=>I.ok.exfs L z hL
      exact ⟨hk,⟨L,_,hf,hn,e,hd⟩,ih (fun b hb=>hs b (by unfold frs; rw [List.filterMap_cons,hf]; exact List.mem_cons_of_mem _ hb)) hr⟩
  exact all X.outer (fun _ hb=>hb) I.ok.funs
theorem Inv.stack (I:Inv X pins σ H s):s.heap.FunFrames X.base X.stack:=by
  rcases I.ok.stk with e | ⟨e,hf⟩
  · rw [e]; exact I.funs
  · rw [e]
    obtain ⟨m,hn,_⟩:=I.loc
    refine .cons (by rw [I.ok.kind]; decide) hf hn ?_ I.funs
    exact Heap.get?_none_of_le (Nat.le_trans I.ok.bsz I.ok.above)
theorem Inv.stkSub (I:Inv X pins σ H s):∀ b∈frs X.stack,b∈X.env.locals :: X.fs:=fun b hb=>by
  rcases I.ok.stk with e | ⟨e,hf⟩
  · rw [e] at hb; exact List.mem_cons_of_mem _ hb
  · rw [e] at hb
    unfold frs at hb
    rw [List.filterMap_cons,hf] at hb
    exact hb
theorem Inv.stkFree (I:Inv X pins σ H s):∀ b∈frs X.stack,H b = none:=fun b hb=>by
  rcases List.mem_cons.mp (I.stkSub b hb) with e | hb
  · rw [e]; exact I.free
  · obtain ⟨_,o,ho,_⟩:=I.ok.funs.mem hb
    exact I.base.free b o ho (I.ok.frf b hb) fun z=>I.ok.exfs b z hb
theorem Inv.step {g':Array GenState} {t':Nat} {d':Drawn} {ch:List Addr} (I:Inv X pins σ H s)
    (hch:∀ b∈ch,(b∈X.ex∨X.s₀.heap.objs.size≤b)∧b≠X.env.locals∧(∀ x c,X.env.cells.lookup x = some c→c≠b)∧∀ p∈X.pn ++ pins,p.1≠b)
    (keep:∀ b o,b≠X.env.locals→b ∉ X.fs→b ∉ ch→s.heap.get? b = some o→H b = none→h'.get? b = some o)
    (slot:∀ b o,b≠X.env.locals→b∈X.fs→b ∉ ch→s.heap.get? b = some o→H b = none→∃ sl,h'.get? b = some { o with slots:=sl }) (free:∀ b o,b ∉ ch→s.heap.get? b = some o→H b = none→H' b = none)
    (there:∀ b o,b ∉ ch→s.heap.get? b = some o→∃ o',h'.get? b = some o')
    (tups:∀ b xs,H b = some (.tup xs)→H' b = some (.tup xs)) (frzs:∀ b o u,H b = some (.frz o u)→H' b = some (.frz o u)) (tbls:∀ b ps,H b = some (.tbl ps)→∃ more,H' b = some (.tbl (ps ++ more)))
    (ns:∀ m,s.heap.Ns X.env.locals m→h'.Ns X.env.locals m) (hok:HOk X.prog X.w H' h') (hg:AllBare g') :
    Inv X pins σ H' { s with heap:=h',gens:=g',drawn:=d',toks:=t' }:=by
  have neL:∀ b o,X.s₀.heap.get? b = some o→b≠X.env.locals:=fun b o e=>Nat.ne_of_lt (Nat.lt_of_lt_of_le (Heap.lt_size e) I.ok.above)
  have neC:∀ b o,X.s₀.heap.get? b = some o→b ∉ X.ex→b ∉ ch:=fun b o e hx hb=>by
    rcases (hch b hb).1 with z | z
    · exact hx z
    · exact absurd (Nat.lt_of_lt_of_le (Heap.lt_size e) z) (Nat.lt_irrefl _)
  have cellK:∀ x c,X.env.cells.lookup x = some c→∀ v,s.heap.IsCell c v→h'.IsCell c v:=fun x c e v ⟨o,ho,hd⟩=>by
    have nch:c ∉ ch:=fun z=>(hch c z).2.2.1 x c e rfl
    by_cases hc:c∈X.fs
    · obtain ⟨sl,q⟩:=slot c o (I.cne x c e) hc nch ho (I.freeC x c e)
      exact ⟨_,q,hd⟩
    · exact ⟨o,keep c o (I.cne x c e) hc nch ho (I.freeC x c e),hd⟩
  refine ⟨I.ok,I.os,hg,⟨fun b o e n hb hx=>?_,fun b o e n hb hx=>?_,fun b o e n hx=>?_,fun b o e hx=>?_,fun b xs e=>tups b xs (I.base.tups b xs e),fun b o xs e=>frzs b o xs (I.base.frzs b o xs e),fun b ps e=>?_⟩,?_,fun x c e=>?_,?_,fun x c e=>?_,fun p hp=>?_,hok,I.len⟩
  · exact keep b o (neL b o e) hb (neC b o e hx) (I.base.keep b o e n hb hx) (I.base.free b o e n hx)
  · obtain ⟨sl,e1⟩:=I.base.slot b o e n hb hx
    obtain ⟨sl',e2⟩:=slot b _ (neL b o e) hb (neC b o e hx) e1 (I.base.free b o e n hx)
    exact ⟨sl',e2⟩
  · obtain ⟨o',e1⟩:=I.base.there b o e hx
    exact free b o' (neC b o e hx) e1 (I.base.free b o e n hx)
  · obtain ⟨o',e1⟩:=I.base.there b o e hx
    exact there b o' (neC b o e hx) e1
  · obtain ⟨m1,e1⟩:=I.base.tbls b ps e
    obtain ⟨m2,e2⟩:=tbls b _ e1
    exact ⟨m1 ++ m2,by rw [e2,Array.append_assoc]⟩
  · obtain ⟨m,hn,hl⟩:=I.loc
    refine ⟨m,ns m hn,fun i x v e1 e2 e3=>?_⟩
    obtain ⟨u,r,l⟩:=hl i x v e1 e2 e3
    refine ⟨u,r,?_⟩
    rcases l with l | ⟨k,c,e,z⟩
    · exact .inl l
    · exact .inr ⟨k,c,e,cellK x c e _ z⟩
  · obtain ⟨v,z⟩:=I.cell x c e
    exact ⟨v,cellK x c e v z⟩
  · obtain ⟨m,⟨o,_,_,ho,_⟩,_⟩:=I.loc
    exact free _ o (fun z=>(hch _ z).2.1 rfl) ho I.free
  · obtain ⟨v,o,ho,hd⟩:=I.cell x c e
    exact free c o (fun z=>(hch c z).2.2.1 x c e rfl) ho (I.freeC x c e)
  · obtain ⟨e,n,ne,nf,d⟩:=I.pin p hp
    have nch:p.1 ∉ ch:=fun z=>(hch p.1 z).2.2.2 p hp rfl
    exact ⟨keep p.1 p.2 ne nf nch e n,free p.1 p.2 nch e n,ne,nf,d⟩
theorem Inv.un {t':Nat} (I:Inv X pins σ H s) (u:Un X.fs [] H H' s.heap h') (hok:HOk X.prog X.w H' h'):Inv X pins σ H' { s with heap:=h',toks:=t' }:=by
  obtain ⟨m,⟨o,es,ep,ho,r⟩,_⟩:=id I.loc
  obtain ⟨sl,hL⟩:=u.any ho I.free (by simp)
  exact I.step (g':=s.gens) (d':=s.drawn) (ch:=[]) (fun _ z=>nomatch z) (fun b o _ hb _ e n=>u.keep b o e n hb (by simp)) (fun b o _ hb _ e n=>u.slot b o e n hb (by simp)) (fun b o _ e n=>u.free b o e n (by simp)) (fun b o _ e=>u.there b o e (by simp)) u.tups u.frzs u.tbls (fun m' hm=>by
    obtain ⟨o',es',ep',ho',r'⟩:=hm
    rw [ho] at ho'; cases ho'
    exact ⟨_,es',ep',hL,r'⟩) hok I.bare
theorem Inv.call {g':Array GenState} {t':Nat} {d':Drawn} {ch:List Addr} (I:Inv X pins σ H s) (u:Un (frs X.stack) ch H H' s.heap h') (hok:HOk X.prog X.w H' h') (hg:AllBare g')
    (hch:∀ b∈ch,(b∈X.ex∨X.s₀.heap.objs.size≤b)∧b≠X.env.locals∧(∀ x c,X.env.cells.lookup x = some c→c≠b)∧∀ p∈X.pn ++ pins,p.1≠b) :
    Inv X pins σ H' { s with heap:=h',gens:=g',drawn:=d',toks:=t' }:=by
  obtain ⟨m,⟨o,es,ep,ho,r⟩,_⟩:=id I.loc
  obtain ⟨sl,hL⟩:=u.any ho I.free fun z=>(hch _ z).2.1 rfl
  exact I.step (ch:=ch) hch (fun b o hL hb hc e n=>u.keep b o e n (fun z=>(List.mem_cons.mp (I.stkSub b z)).elim hL hb) hc) (fun b o _ _ hc e n=>u.any e n hc) (fun b o hc e n=>u.free b o e n hc) (fun b o hc e=>u.there b o e hc) u.tups u.frzs u.tbls (fun m' hm=>by
    obtain ⟨o',es',ep',ho',r'⟩:=hm
    rw [ho] at ho'; cases ho'
    exact ⟨_,es',ep',hL,r'⟩) hok hg
theorem Inv.turned {t':Nat} {it:Addr} (I:Inv X pins σ H s) (k:∀ b o,b≠it→s.heap.get? b = some o→h'.get? b = some o) (hn:H it = none) (hL:it≠X.env.locals)
    (h1:it∈X.ex∨X.s₀.heap.objs.size≤it) (h2:∀ x c,X.env.cells.lookup x = some c→c≠it) (h3:∀ p∈X.pn ++ pins,p.1≠it):Inv X pins σ H { s with heap:=h',toks:=t' }:=by
  have nit:∀ b u,H b = some u→b≠it:=fun b u e z=>by rw [z,hn] at e; cases e
  refine I.step (g':=s.gens) (d':=s.drawn) (ch:=[it]) (fun b hb=>?_) (fun b o _ _ hc e _=>k b o (fun z=>hc (by simp [z])) e) (fun b o _ _ hc e _=>⟨o.slots,k b o (fun z=>hc (by simp [z])) e⟩) (fun _ _ _ _ n=>n)
    (fun b o hc e=>⟨o,k b o (fun z=>hc (by simp [z])) e⟩) (fun _ _ e=>e) (fun _ _ _ e=>e) (fun b ps e=>⟨#[],by rw [e]; simp⟩) (fun m hm=>?_) (fun b u e=>?_) I.bare
  · have e:b = it:=by simpa using hb
    subst e
    exact ⟨h1,hL,h2,h3⟩
  · obtain ⟨o,es,ep,ho,r⟩:=hm
    exact ⟨o,es,ep,k _ o (Ne.symm hL) ho,r⟩
  · refine (I.hok b u e).stay (fun c v hc q=>k c v ?_ q) (fun _ q=>q) fun _ _ q=>q
    rcases hc with z | z
    · rw [z]; exact nit b u e
    · exact nit c _ z
theorem Inv.tok (I:Inv X pins σ H s) (t:Nat):Inv X pins σ H { s with toks:=t }:=I.un (h':=s.heap) (t':=t) Un.refl I.hok
theorem Inv.kept {t':Nat} (I:Inv X pins σ H s) (k:∀ b u,s.heap.get? b = some u→h'.get? b = some u):Inv X pins σ H { s with heap:=h',toks:=t' }:=I.un (Un.kept k) (I.hok.kept k)
theorem Inv.laid {a:Addr} {o:HO} {t':Nat} (I:Inv X pins σ H s) (k:∀ b u,s.heap.get? b = some u→h'.get? b = some u) (hp:s.heap.objs.size≤a) (new:ObjOk X.prog X.w (upd H a o) h' a o) :
    Inv X pins σ (upd H a o) { s with heap:=h',toks:=t' }:=I.un (Un.laid k hp (I.hok.fresh hp)) (I.hok.laid k hp new)
theorem Inv.write {x e:Addr} {o:HO} {t':Nat} (I:Inv X pins σ H s) (mu:Mut (H x)) (he:e = x∨H e = some (.own x)) (k:∀ b u,b≠e→s.heap.get? b = some u→h'.get? b = some u) (heo:∃ u,h'.get? e = some u)
    (new:ObjOk X.prog X.w (upd H x o) h' x o):Inv X pins σ (upd H x o) { s with heap:=h',toks:=t' }:=I.un (Un.write mu he k heo) (I.hok.write mu he k heo new)
theorem Inv.pins_of {pins':List (Addr×Obj)} (I:Inv X pins σ H s) (h:∀ p∈pins',s.heap.get? p.1 = some p.2∧H p.1 = none∧p.1≠X.env.locals∧p.1 ∉ X.fs∧∀ v,p.2.data≠.cell v):Inv X pins' σ H s:=
  ⟨I.ok,I.os,I.bare,I.base,I.loc,I.cell,I.free,I.freeC,fun p hp=>(List.mem_append.mp hp).elim (fun z=>I.pin p (List.mem_append_left _ z)) (h p),I.hok,I.len⟩
theorem nodup_ix {N:List Str} (hN:N.Nodup) {i j:Nat} {x:Str} (a:N[i]? = some x) (b:N[j]? = some x):i = j:=by
  obtain ⟨h1,e1⟩:=List.getElem?_eq_some_iff.mp a
  obtain ⟨h2,e2⟩:=List.getElem?_eq_some_iff.mp b
  exact (List.getElem_inj hN).mp (e1.trans e2.symm)
theorem store_ok2 {M:Model} {A:Around} {E:Value→Shared→Prop} {i:Nat} {x:Str} {v:V} {u:Value} {Q:Unit→Shared→Prop} (I:Inv X pins σ H s) (hN:X.N.Nodup) (hi:X.N[i]? = some x) (hx:Loc X.env.scope x) (r:RelV v u)
    (h:∀ s',Inv X pins (σ.set i (some v)) H s'→(∃ a,Heap.SameBut a s.heap s'.heap∧(a = X.env.locals∨X.env.cells.lookup x = some a))→Q () s') (hf:X.fn x = true∨X.env.scope.names.lookup x = some .local:=by first | exact .inl rfl | exact .inr rfl | assumption):wpAny M A (storeName X.env x u) Q E s:=by
  obtain ⟨m,hn,hl⟩:=id I.loc
  have hcls:(X.env.scope.kind == .class || (X.env.scope.kind == .module && X.env.locals != X.env.globals)) = false:=by rw [I.ok.kind]; rfl
  have hiσ:i < σ.length:=by rw [I.len]; exact (List.getElem?_eq_some_iff.mp hi).1
  have cne:=I.cne
  have tracked:∀ {a:Addr} {h':Heap},(∃ o,s.heap.get? a = some o∧H a = none)→Heap.SameBut a s.heap h'→HOk X.prog X.w H h':=fun {a h'} ha hs b ob e=>by
    obtain ⟨_,_,hfree⟩:=ha
    refine (I.hok b ob e).stay (fun c w' hc q=>(hs.2 c ?_).trans q) (fun _ q=>q) fun _ _ q=>q
    rintro rfl
    rcases hc with rfl | hc
    · rw [hfree] at e; cases e
    · rw [hfree] at hc; cases hc
  rcases hx with hk | hk
  · refine wpAny_storeName_local hk hn (fun h' hn' hs=>?_) hcls
    obtain ⟨oL,_,_,hoL,_⟩:=id hn
    refine h _ ⟨I.ok,I.os,I.bare,⟨fun b o e n hb hx=>?_,fun b o e n hb hx=>?_,I.base.free,fun b o e hx=>?_,I.base.tups,I.base.frzs,I.base.tbls⟩,⟨_,hn',fun j y v' e1 e2 e3=>?_⟩,fun y c e=>?_,I.free,I.freeC,fun p hp=>?_,tracked ⟨oL,hoL,I.free⟩ hs,by simpa using I.len⟩ ⟨_,hs,.inl rfl⟩
    · exact (hs.2 b (Nat.ne_of_lt (Nat.lt_of_lt_of_le (Heap.lt_size e) I.ok.above))).trans (I.base.keep b o e n hb hx)
    · obtain ⟨sl,e1⟩:=I.base.slot b o e n hb hx
      exact ⟨sl,(hs.2 b (Nat.ne_of_lt (Nat.lt_of_lt_of_le (Heap.lt_size e) I.ok.above))).trans e1⟩
    · obtain ⟨o',e1⟩:=I.base.there b o e hx
      exact ⟨o',(hs.2 b (Nat.ne_of_lt (Nat.lt_of_lt_of_le (Heap.lt_size e) I.ok.above))).trans e1⟩
    · by_cases hj:j = i
      · subst hj
        rw [hi] at e1; cases e1
        rw [List.getElem?_set_self hiσ] at e2
        cases e2
        exact ⟨u,r,.inl ⟨hk,by simp⟩⟩
      · rw [List.getElem?_set_ne (Ne.symm hj)] at e2
        obtain ⟨u',r',q⟩:=hl j y v' e1 e2 e3
        refine ⟨u',r',?_⟩
        rcases q with ⟨k,e⟩ | ⟨k,c,e,z⟩
        · refine .inl ⟨k,?_⟩
          have:y≠x:=fun e=>hj (nodup_ix hN e1 (e ▸ hi))
          simp [this,e]
        · exact .inr ⟨k,c,e,z.sameBut hs (cne y c e)⟩
    · obtain ⟨w',z⟩:=I.cell y c e
      exact ⟨w',z.sameBut hs (cne y c e)⟩
    · obtain ⟨e,n,ne,nf,d⟩:=I.pin p hp
      exact ⟨(hs.2 p.1 ne).trans e,n,ne,nf,d⟩
  · have hfn:X.fn x = true:=by
      rcases hf with z | z
      · exact z
      · rw [z] at hk; cases hk
    obtain ⟨c,hc⟩:=I.ok.has x (.inl hk)
    obtain ⟨w',z⟩:=I.cell x c hc
    refine wpAny_storeName_cell I.ok.kind hk hc z (fun h' hc' hs=>?_)
    obtain ⟨oc,hoc,hocd⟩:=id z
    refine h { s with heap:=h' } ⟨I.ok,I.os,I.bare,⟨fun b o e n hb hx=>?_,fun b o e n hb hx=>?_,I.base.free,fun b o e hx=>?_,I.base.tups,I.base.frzs,I.base.tbls⟩,⟨m,hn.sameBut hs (Ne.symm (cne x c hc)),fun j y v' e1 e2 e3=>?_⟩,fun y c' e=>?_,I.free,I.freeC,fun p hp=>?_,tracked ⟨oc,hoc,I.freeC x c hc⟩ hs,by simpa using I.len⟩ ⟨c,hs,.inr hc⟩
    · exact (hs.2 b (Nat.ne_of_lt (Nat.lt_of_lt_of_le (Heap.lt_size e) (I.ok.cab x c hfn hc)))).trans (I.base.keep b o e n hb hx)
    · obtain ⟨sl,e1⟩:=I.base.slot b o e n hb hx
      exact ⟨sl,(hs.2 b (Nat.ne_of_lt (Nat.lt_of_lt_of_le (Heap.lt_size e) (I.ok.cab x c hfn hc)))).trans e1⟩
    · obtain ⟨o',e1⟩:=I.base.there b o e hx
      exact ⟨o',(hs.2 b (Nat.ne_of_lt (Nat.lt_of_lt_of_le (Heap.lt_size e) (I.ok.cab x c hfn hc)))).trans e1⟩
    · by_cases hj:j = i
      · subst hj
        rw [hi] at e1; cases e1
        rw [List.getElem?_set_self hiσ] at e2
        cases e2
        exact ⟨u,r,.inr ⟨.inl hk,c,hc,hc'⟩⟩
      · rw [List.getElem?_set_ne (Ne.symm hj)] at e2
        obtain ⟨u',r',q⟩:=hl j y v' e1 e2 e3
        refine ⟨u',r',?_⟩
        rcases q with q | ⟨k,c',e,z'⟩
        · exact .inl q
        · refine .inr ⟨k,c',e,z'.sameBut hs ?_⟩
          rintro rfl
          exact hj (nodup_ix hN e1 (I.ok.inj _ _ _ e hc ▸ hi))
    · by_cases hcc:c' = c
      · subst hcc; exact ⟨_,hc'⟩
      · obtain ⟨w2,z2⟩:=I.cell y c' e
        exact ⟨w2,z2.sameBut hs hcc⟩
    · obtain ⟨e,n,ne,nf,d⟩:=I.pin p hp
      refine ⟨(hs.2 p.1 ?_).trans e,n,ne,nf,d⟩
      intro q
      rw [q,hoc] at e
      have q':oc = p.2:=Option.some.inj e
      exact d w' (by rw [← q']; exact hocd)
theorem store_ok {M:Model} {A:Around} {E:Value→Shared→Prop} {i:Nat} {x:Str} {v:V} {u:Value} {Q:Unit→Shared→Prop} (I:Inv X pins σ H s) (hN:X.N.Nodup) (hi:X.N[i]? = some x) (hx:Loc X.env.scope x) (r:RelV v u)
    (h:∀ s',Inv X pins (σ.set i (some v)) H s'→Q () s') (hf:X.fn x = true∨X.env.scope.names.lookup x = some .local:=by first | exact .inl rfl | exact .inr rfl | assumption):wpAny M A (storeName X.env x u) Q E s:=
  store_ok2 I hN hi hx r (fun s' I' _=>h s' I') hf
theorem Inv.call' {s':Shared} {ch:List Addr} (I:Inv X pins σ H s) (ho:s'.os = s.os) (u:Un (frs X.stack) ch H H' s.heap s'.heap) (hok:HOk X.prog X.w H' s'.heap) (hg:AllBare s'.gens)
    (hch:∀ b∈ch,(b∈X.ex∨X.s₀.heap.objs.size≤b)∧b≠X.env.locals∧(∀ x c,X.env.cells.lookup x = some c→c≠b)∧∀ p∈X.pn ++ pins,p.1≠b):Inv X pins σ H' s':=by
  obtain ⟨h',g',d',t',o'⟩:=s'
  have e:o' = s.os:=ho
  subst e
  exact I.call (g':=g') (t':=t') (d':=d') u hok hg hch
end
abbrev XK:=Value→Option Addr→Hp→Prop
abbrev St:=List (Option V)
abbrev VK:=V→Hp→Prop
abbrev TE:=St→Hp→VK→Prop
abbrev TT:=St→Hp→(Bool→Hp→Prop)→Prop
abbrev TA:=St→Hp→(List V→Hp→Prop)→Prop
structure Ends where
  nx:St→Hp→Prop
  rt:VK
  bk:St→Hp→Prop:=fun _ _=>False
  ct:St→Hp→Prop:=fun _ _=>False
abbrev TS:=Ends→St→Hp→Prop
def EP (X:Cx) (pins:List (Addr×Obj)) (σ:St) (Q:VK) (u:Value) (s':Shared):Prop:=∃ v H',Inv X pins σ H' s'∧RelV v u∧Q v H'
def TP (X:Cx) (pins:List (Addr×Obj)) (σ:St) (Q:Bool→Hp→Prop) (b:Bool) (s':Shared):Prop:=∃ H',Inv X pins σ H' s'∧Q b H'
def AP (X:Cx) (pins:List (Addr×Obj)) (σ:St) (Q:List V→Hp→Prop) (us:List Value) (s':Shared):Prop:=∃ vs H',Inv X pins σ H' s'∧Vals vs us∧Q vs H'
def SP (X:Cx) (pins:List (Addr×Obj)) (D:Ends) (f:Flow) (s':Shared):Prop:=
  match f with
  | .next=>∃ σ' H',Inv X pins σ' H' s'∧D.nx σ' H'
  | .brk=>∃ σ' H',Inv X pins σ' H' s'∧D.bk σ' H'
  | .cont=>∃ σ' H',Inv X pins σ' H' s'∧D.ct σ' H'
  | .ret u=>∃ v σ' H',Inv X pins σ' H' s'∧RelV v u∧D.rt v H'
def PE (X:Cx) (e:Expr) (t:TE):Prop:=
  ∀ (pins:List (Addr×Obj)) (s:Shared) (σ:St) (H:Hp) (Q:VK),Inv X pins σ H s→t σ H Q→wpAny (model X.prog X.w) X.A (eval e X.env) (EP X pins σ Q) X.xe s
def PT (X:Cx) (e:Expr) (t:TT):Prop:=
  ∀ (pins:List (Addr×Obj)) (s:Shared) (σ:St) (H:Hp) (Q:Bool→Hp→Prop),Inv X pins σ H s→t σ H Q→wpAny (model X.prog X.w) X.A (isTrue e X.env (eval e X.env)) (TP X pins σ Q) X.xe s
def PW (X:Cx) (e:Expr) (t:TT):Prop:=
  ∀ (whole:Sem Value) (pins:List (Addr×Obj)) (s:Shared) (σ:St) (H:Hp) (Q:Bool→Hp→Prop),Inv X pins σ H s→t σ H Q→wpAny (model X.prog X.w) X.A (isTrue e X.env whole) (TP X pins σ Q) X.xe s
theorem PW.pt {X:Cx} {e:Expr} {t:TT} (h:PW X e t):PT X e t:=h _
def PA (X:Cx) (es:List Expr) (t:TA):Prop:=
  ∀ (pos:Pos) (pins:List (Addr×Obj)) (s:Shared) (σ:St) (H:Hp) (Q:List V→Hp→Prop),Inv X pins σ H s→t σ H Q→wpAny (model X.prog X.w) X.A (spliced (backTo pos (starEach es X.env))) (AP X pins σ Q) X.xe s
def PS (X:Cx) (st:Stmt) (t:TS):Prop:=
  ∀ (pins:List (Addr×Obj)) (s:Shared) (σ:St) (H:Hp) (D:Ends),Inv X pins σ H s→t D σ H→wpAny (model X.prog X.w) X.A (exec st X.env) (SP X pins D) X.xe s
def PSs (X:Cx) (st:List Stmt) (t:TS):Prop:=
  ∀ (pins:List (Addr×Obj)) (s:Shared) (σ:St) (H:Hp) (D:Ends),Inv X pins σ H s→t D σ H→wpAny (model X.prog X.w) X.A (execs st X.env) (SP X pins D) X.xe s
theorem thn {α:Type} {t:Sem α} {Q Q':α→Shared→Prop} {M:Model} {A:Around} {E:Value→Shared→Prop} {s:Shared} (h:wpAny M A t Q E s) (hQ:∀ a s,Q a s→Q' a s):wpAny M A t Q' E s:=wpAny_mono h hQ fun _ _ x=>x
end L2
namespace L2
open PySem PySem.Spec PyProof.Rows
section
variable {X:Cx}
def tVar (i:Nat):TE:=fun σ H Q=>∃ v,σ[i]? = some (some v)∧Q v H
def tC (v:V):TE:=fun _ H Q=>Q v H
theorem pe_var {i:Nat} {x:Str} {pos:Pos} (hN:X.N[i]? = some x) (hv:Vis X.env.scope x) (hd:(x == ("__debug__":Str)) = false:=by decide) (hcd:(x == ("__classdict__":Str)) = false:=by decide):PE X (.Name x pos) (tVar i):=by
  intro pins s σ H Q I h
  obtain ⟨v,e,h⟩:=h
  obtain ⟨m,hn,hl⟩:=I.loc
  obtain ⟨u,r,l⟩:=hl i x v hN e hv
  have fin:EP X pins σ Q u s:=⟨v,H,I,r,h⟩
  rcases l with ⟨hk,hm⟩ | ⟨hk,c,hc,hcell⟩
  · exact wpAny_Name (wpAny_loadName_local I.ok.kind hk hn hm fin) hd
  · rcases hk with hk | hk
    · exact wpAny_Name (wpAny_loadName_cell I.ok.kind hk hc hcell fin) hd
    · exact wpAny_Name (wpAny_loadName_free I.ok.kind hk hc hcell fin hcd) hd
theorem pe_int {i j pos}:PE X (.Constant (.int i) j pos) (tC (.int i)):=fun _ _ _ H _ I h=>wpAny_Constant_int ⟨.int i,H,I.tok _,⟨_,rfl⟩,h⟩
theorem pe_bl {b j pos}:PE X (.Constant (.bool b) j pos) (tC (.bl b)):=fun _ _ _ H _ I h=>Constant_bool ⟨.bl b,H,I,rfl,h⟩
theorem pe_non {j pos}:PE X (.Constant .none j pos) (tC .non):=fun _ _ _ H _ I h=>Constant_none ⟨.non,H,I,rfl,h⟩
theorem pe_str {x j pos}:PE X (.Constant (.str x) j pos) (tC (.str x)):=fun _ _ _ H _ I h=>Calls.Constant_str ⟨.str x,H,I.tok _,⟨_,rfl⟩,h⟩
def Gl (X:Cx) (x:Str):Prop:=X.env.kindOf x = some .globalImplicit
theorem ld_glob {E:Value→Shared→Prop} {pins:List (Addr×Obj)} {s:Shared} {σ:St} {H:Hp} {x:Str} {u:Value} {pos:Pos} {Q:Value→Shared→Prop} (I:Inv X pins σ H s) (hg:Gl X x) (hm:X.mg x = some u) (h:Q u s)
    (hd:(x == ("__debug__":Str)) = false:=by decide):wpAny (model X.prog X.w) X.A (eval (.Name x pos) X.env) Q E s:=
  Calls.Name_function_global I.ok.kind hg (Calls.loadGlobal_global (by rw [I.ok.glob]; exact I.mod.glob.keeps I.bk) hm h) hd
theorem ld_blt {E:Value→Shared→Prop} {pins:List (Addr×Obj)} {s:Shared} {σ:St} {H:Hp} {x:Str} {u:Value} {pos:Pos} {Q:Value→Shared→Prop} (I:Inv X pins σ H s) (hg:Gl X x) (hm:X.mg x = none) (hv:bootBuiltins x = some u) (h:Q u s)
    (hn:x≠"__name__":=by decide) (hd:(x == ("__debug__":Str)) = false:=by decide):wpAny (model X.prog X.w) X.A (eval (.Name x pos) X.env) Q E s:=by
  obtain ⟨mb,h1,h2⟩:=I.mod.blt
  exact Calls.Name_function_global I.ok.kind hg (Calls.loadGlobal_builtin (by rw [I.ok.glob]; exact I.mod.glob.keeps I.bk) hm (by rw [I.ok.blt]; exact h1.keeps I.bk) ((h2 x hn).trans hv) h) hd
theorem pe_glob {x:Str} {v:V} {u:Value} {pos:Pos} (hg:Gl X x) (hm:X.mg x = some u) (r:RelV v u) (hd:(x == ("__debug__":Str)) = false:=by decide):PE X (.Name x pos) (tC v):=
  fun _ _ _ H _ I h=>ld_glob I hg hm ⟨v,H,I,r,h⟩ hd
theorem pe_bltn {x:Str} {v:V} {u:Value} {pos:Pos} (hg:Gl X x) (hm:X.mg x = none) (hv:bootBuiltins x = some u) (r:RelV v u) (hn:x≠"__name__":=by decide) (hd:(x == ("__debug__":Str)) = false:=by decide):PE X (.Name x pos) (tC v):=
  fun _ _ _ H _ I h=>ld_blt I hg hm hv ⟨v,H,I,r,h⟩ hn hd
variable {a b:Expr} {ta tb:TE} {pos:Pos}
def PC (X:Cx) (op:CmpOp) (a b:Expr) (t:TE):Prop:=
  ∀ (pins:List (Addr×Obj)) (s:Shared) (σ:St) (H:Hp) (Q:VK),Inv X pins σ H s→t σ H Q→
    wpAny (model X.prog X.w) X.A (eval a X.env) (fun v s₁=>wpAny (model X.prog X.w) X.A (eval b X.env) (fun u s₂=>wpAny (model X.prog X.w) X.A (compareOp op v u) (EP X pins σ Q) X.xe s₂) X.xe s₁) X.xe s
theorem nobehind (b:Expr) {op:CmpOp} (h:op≠.In) (h2:op≠.NotIn):behindInMarks op b = false:=by
  have e1:(op == CmpOp.In) = false:=by cases op <;> first | rfl | exact absurd rfl h
  have e2:(op == CmpOp.NotIn) = false:=by cases op <;> first | rfl | exact absurd rfl h2
  cases b <;> simp [behindInMarks,e1,e2]
def tNotN (ta:TE):TE:=fun σ H Q=>ta σ H fun x H1=>Q (.bl (!decide (x = .non))) H1
theorem RelV.none_iff {x:V} {v:Value} (r:RelV x v):(v == Value.none) = decide (x = .non):=by
  cases x with
  | non=>cases r; rfl
  | bl _=>cases r; rfl
  | int _=>obtain ⟨t,rfl⟩:=r; rfl
  | str _=>obtain ⟨t,rfl⟩:=r; rfl
  | byt _=>obtain ⟨t,rfl⟩:=r; rfl
  | flt _=>obtain ⟨t,rfl⟩:=r; rfl
  | ref _=>cases r; rfl
  | ty _=>cases r; rfl
theorem pc_notN {j pos'} (ha:PE X a ta):PC X .IsNot a (.Constant .none j pos') (tNotN ta):=by
  intro pins s σ H Q I h
  refine thn (ha pins s σ H _ I h) fun v s1 ⟨x,H1,I1,r1,q1⟩=>?_
  exact Constant_none (isnot_none_gen ⟨.bl _,H1,I1,by rw [r1.none_iff]; rfl,q1⟩)
def tB (t:TE):TT:=fun σ H Q=>t σ H fun x H1=>∃ c,x = .bl c∧Q c H1
theorem pt_cmp {op:CmpOp} {t:TE} (h:PC X op a b t) (h1:behindInMarks op b = false:=by first | exact nobehind _ (by decide) (by decide) | rfl):PT X (.Compare a [op] [b] pos) (tB t):=by
  intro pins s σ H Q I hw
  refine wpAny_isTrue_Compare1 (thn (h pins s σ H _ I hw) fun v s1 h1=>thn h1 fun u s2 h2=>thn h2 fun c s3 ⟨x,H1,I1,r1,q1⟩=>?_) h1
  obtain ⟨d,rfl,q⟩:=q1
  cases r1
  exact wpAny_truthy_bool ⟨H1,I1,q⟩
theorem pt_val {e:Expr} {t:TE} (h:PE X e t) (he:∀ whole,isTrue e X.env whole = (do let v ← whole; standAt e.pos; holding [v] (truthy v)):=by intro _; rfl):PT X e (tB t):=by
  intro pins s σ H Q I hw
  refine isTrue_plain (thn (h pins s σ H _ I hw) fun v s1 ⟨x,H1,I1,r1,q1⟩=>?_) (he _)
  obtain ⟨d,rfl,q⟩:=q1
  cases r1
  exact wpAny_truthy_bool ⟨H1,I1,q⟩
variable {tA tB':TT} {rest:List Expr}
def tAnd (t u:TT):TT:=fun σ H Q=>t σ H fun c H1=>if c = true then u σ H1 Q else Q false H1
def tOr (t u:TT):TT:=fun σ H Q=>t σ H fun c H1=>if c = true then Q true H1 else u σ H1 Q
def tNot (t:TT):TT:=fun σ H Q=>t σ H fun c H1=>Q (!c) H1
theorem pw_and1 (ha:PT X a tA):PW X (.BoolOp .And [a] pos) tA:=by
  intro wh pins s σ H Q I h
  refine isTrue_and (thn (ha pins s σ H Q I h) fun c s1 e=>?_)
  cases c with
  | true=>exact isTrue_and_nil e
  | false=>exact e
theorem pw_or1 (ha:PT X a tA):PW X (.BoolOp .Or [a] pos) tA:=by
  intro wh pins s σ H Q I h
  refine isTrue_or (thn (ha pins s σ H Q I h) fun c s1 e=>?_)
  cases c with
  | false=>exact isTrue_or_nil e
  | true=>exact e
theorem pw_and (ha:PT X a tA) (hb:PW X (.BoolOp .And (b :: rest) pos) tB'):PW X (.BoolOp .And (a :: b :: rest) pos) (tAnd tA tB'):=by
  intro wh pins s σ H Q I h
  refine isTrue_and (thn (ha pins s σ H _ I h) fun c s1 ⟨H1,I1,q1⟩=>?_)
  cases c with
  | true=>exact hb wh pins s1 σ H1 Q I1 q1
  | false=>exact ⟨H1,I1,q1⟩
theorem pw_or (ha:PT X a tA) (hb:PW X (.BoolOp .Or (b :: rest) pos) tB'):PW X (.BoolOp .Or (a :: b :: rest) pos) (tOr tA tB'):=by
  intro wh pins s σ H Q I h
  refine isTrue_or (thn (ha pins s σ H _ I h) fun c s1 ⟨H1,I1,q1⟩=>?_)
  cases c with
  | true=>exact ⟨H1,I1,q1⟩
  | false=>exact hb wh pins s1 σ H1 Q I1 q1
theorem pt_not (ha:PT X a tA):PT X (.UnaryOp .Not a pos) (tNot tA):=by
  intro pins s σ H Q I h
  exact isTrue_not (ha pins s σ H (fun c H1=>Q (!c) H1) I h)
def tAndV (ta tb:TE):TE:=fun σ H Q=>ta σ H fun x H1=>∃ c,x = .bl c∧if c = true then tb σ H1 Q else Q (.bl false) H1
def tNotV (ta:TE):TE:=fun σ H Q=>ta σ H fun x H1=>∃ c,x = .bl c∧Q (.bl (!c)) H1
theorem pe_one {op} {t:TE} (h:PE X a t):PE X (.BoolOp op [a] pos) t:=fun pins s σ H Q I hw=>BoolOp_one (h pins s σ H Q I hw)
theorem pe_and (ha:PE X a ta) (hb:PE X (.BoolOp .And (b :: rest) pos) tb):PE X (.BoolOp .And (a :: b :: rest) pos) (tAndV ta tb):=by
  intro pins s σ H Q I h
  refine BoolOp_and (thn (ha pins s σ H _ I h) fun v s1 ⟨x,H1,I1,r1,q1⟩=>?_)
  obtain ⟨c,rfl,q1⟩:=q1
  cases r1
  refine wpAny_truthy_bool ?_
  cases c with
  | true=>exact hb pins s1 σ H1 Q I1 q1
  | false=>exact ⟨.bl false,H1,I1,rfl,q1⟩
theorem pe_not (ha:PE X a ta):PE X (.UnaryOp .Not a pos) (tNotV ta):=by
  intro pins s σ H Q I h
  refine UnaryOp_ (thn (ha pins s σ H _ I h) fun v s1 ⟨x,H1,I1,r1,q1⟩=>?_)
  obtain ⟨c,rfl,q1⟩:=q1
  cases r1
  exact not_of (wpAny_truthy_bool ⟨.bl (!c),H1,I1,rfl,q1⟩)
def tIf (t:TT) (ta tb:TE):TE:=fun σ H Q=>t σ H fun c H1=>if c = true then ta σ H1 Q else tb σ H1 Q
theorem pe_ifExp {c:Expr} (hc:PT X c tA) (ha:PE X a ta) (hb:PE X b tb):PE X (.IfExp c a b pos) (tIf tA ta tb):=by
  intro pins s σ H Q I h
  refine wpAny_IfExp (thn (hc pins s σ H _ I h) fun d s1 ⟨H1,I1,q1⟩=>?_)
  cases d with
  | true=>exact ha pins s1 σ H1 Q I1 q1
  | false=>exact hb pins s1 σ H1 Q I1 q1
end
end L2
namespace L2
open PySem PySem.Spec PyProof.Rows
def SqL (K:PySem.W.Frag) (H:Hp) (a:Addr) (xs:List V):Prop:=
  Rd H a (.lst xs)∨
    ∃ (o:Obj) (its:Array Value) (n:Nat),K.lookup a = some o∧o.cls = .type "list"∧o.dict = none∧o.data = .seq its n∧its.size≤sizeLine∧Vals xs its.toList
def SqT (K:PySem.W.Frag) (H:Hp) (a:Addr) (xs:List V):Prop:=
  Rd H a (.tup xs)∨
    ∃ (o:Obj) (its:Array Value) (n:Nat),K.lookup a = some o∧o.cls = .type "tuple"∧o.data = .seq its n∧its.size≤sizeLine∧Vals xs its.toList
def absV:Value→Option V
  | .none=>some .non
  | .bool b=>some (.bl b)
  | .int i _=>some (.int i)
  | .str x _=>some (.str x)
  | .bytes b _=>some (.byt b)
  | .float b _=>some (.flt b)
  | .ref a=>some (.ref a)
  | .type n=>some (.ty n)
  | _=>none
theorem RelV.abs {x:V} {u:Value} (r:RelV x u):absV u = some x:=by
  cases x with
  | non=>cases r; rfl
  | bl _=>cases r; rfl
  | int _=>obtain ⟨t,rfl⟩:=r; rfl
  | str _=>obtain ⟨t,rfl⟩:=r; rfl
  | byt _=>obtain ⟨t,rfl⟩:=r; rfl
  | flt _=>obtain ⟨t,rfl⟩:=r; rfl
  | ref _=>cases r; rfl
  | ty _=>cases r; rfl
theorem RelV.inj {x y:V} {u:Value} (r:RelV x u) (q:RelV y u):x = y:=Option.some.inj (r.abs.symm.trans q.abs)
theorem Vals.inj:∀ {xs ys:List V} {us:List Value},Vals xs us→Vals ys us→xs = ys
  | _,_,_,.nil,.nil=>rfl
  | _,_,_,.cons r t,.cons r' t'=>by rw [r.inj r',Vals.inj t t']
section
variable {X:Cx} {pins:List (Addr×Obj)} {σ:St} {H:Hp} {s:Shared} {a:Addr} {xs ys:List V}
theorem SqL.of {K:PySem.W.Frag} (h:H a = some (.lst xs)):SqL K H a xs:=.inl (.inl h)
theorem SqT.of {K:PySem.W.Frag} (h:H a = some (.tup xs)):SqT K H a xs:=.inl (.inl h)
theorem Inv.list (I:Inv X pins σ H s) (h:SqL X.K H a xs):∃ its:List Value,Vals xs its∧PlainL s.heap a its.toArray∧xs.length≤sizeLine:=by
  rcases h with h | ⟨o,its,n,hk,hc,hd,hs,hz,r⟩
  · obtain ⟨z,its,n,r,e⟩:=h.ok I.hok
    exact ⟨its,r,⟨_,n,e,rfl,rfl,rfl⟩,z⟩
  · refine ⟨its.toList,r,⟨o,n,I.kIn a o hk,hc,hd,by simpa using hs⟩,?_⟩
    have e:=r.length
    simp only [Array.length_toList] at e
    omega
theorem Inv.tuple (I:Inv X pins σ H s) (h:SqT X.K H a xs):∃ its:List Value,Vals xs its∧IsTup s.heap a its.toArray∧xs.length≤sizeLine:=by
  rcases h with h | ⟨o,its,n,hk,hc,hs,hz,r⟩
  · obtain ⟨z,its,r,p⟩:=h.ok I.hok
    exact ⟨its,r,p,z⟩
  · refine ⟨its.toList,r,⟨o,I.kIn a o hk,hc,n,by simpa using hs⟩,?_⟩
    have e:=r.length
    simp only [Array.length_toList] at e
    omega
theorem Inv.list_inj (I:Inv X pins σ H s) (h:SqL X.K H a xs) (h':SqL X.K H a ys):xs = ys:=by
  obtain ⟨its,r,⟨o,n,e,_,_,d⟩,_⟩:=I.list h
  obtain ⟨its',r',⟨o',n',e',_,_,d'⟩,_⟩:=I.list h'
  rw [e] at e'; cases e'
  rw [d] at d'
  injection d' with d1 _
  have:its = its':=by simpa using congrArg Array.toList d1
  subst this
  exact r.inj r'
theorem Inv.tuple_inj (I:Inv X pins σ H s) (h:SqT X.K H a xs) (h':SqT X.K H a ys):xs = ys:=by
  obtain ⟨its,r,⟨o,e,_,n,d⟩,_⟩:=I.tuple h
  obtain ⟨its',r',⟨o',e',_,n',d'⟩,_⟩:=I.tuple h'
  rw [e] at e'; cases e'
  rw [d] at d'
  injection d' with d1 _
  have:its = its':=by simpa using congrArg Array.toList d1
  subst this
  exact r.inj r'
end
abbrev Cx.wish (X:Cx) (E:Value→Shared→Prop):Cx:={ X with xe:=E }
abbrev Cx.nox (X:Cx):Cx:=X.wish fun _ _=>False
theorem Cx.Ok.wish {X:Cx} (ok:X.Ok) (E:Value→Shared→Prop):(X.wish E).Ok:=
  ⟨ok.mod,ok.kind,ok.glob,ok.blt,ok.above,ok.inj,ok.has,ok.cab,ok.hd,ok.frames,ok.stk,ok.exf,ok.bs,ok.bsz,ok.noex,ok.exfs,ok.funs,ok.frf⟩
theorem Cx.Ok.unwish {X:Cx} {E:Value→Shared→Prop} (ok:(X.wish E).Ok):X.Ok:=
  ⟨ok.mod,ok.kind,ok.glob,ok.blt,ok.above,ok.inj,ok.has,ok.cab,ok.hd,ok.frames,ok.stk,ok.exf,ok.bs,ok.bsz,ok.noex,ok.exfs,ok.funs,ok.frf⟩
section
variable {X:Cx} {pins:List (Addr×Obj)} {σ:St} {H:Hp} {s:Shared} {E:Value→Shared→Prop}
theorem Inv.wish (I:Inv X pins σ H s) (E:Value→Shared→Prop):Inv (X.wish E) pins σ H s:=⟨I.ok.wish E,I.os,I.bare,I.base,I.loc,I.cell,I.free,I.freeC,I.pin,I.hok,I.len⟩
theorem Inv.unwish (I:Inv (X.wish E) pins σ H s):Inv X pins σ H s:=⟨I.ok.unwish,I.os,I.bare,I.base,I.loc,I.cell,I.free,I.freeC,I.pin,I.hok,I.len⟩
theorem SP.unwish {D:Ends} {f:Flow} {s':Shared} (h:SP (X.wish E) pins D f s'):SP X pins D f s':=by
  cases f with
  | next=>obtain ⟨σ',H',I,q⟩:=h; exact ⟨σ',H',I.unwish,q⟩
  | brk=>obtain ⟨σ',H',I,q⟩:=h; exact ⟨σ',H',I.unwish,q⟩
  | cont=>obtain ⟨σ',H',I,q⟩:=h; exact ⟨σ',H',I.unwish,q⟩
  | ret u=>obtain ⟨v,σ',H',I,r,q⟩:=h; exact ⟨v,σ',H',I.unwish,r,q⟩
theorem PE.nox {e:Expr} {t:TE} (h:PE X.nox e t):PE X e t:=fun pins s σ H Q I hw=>
  wpAny_mono (h pins s σ H Q (I.wish _) hw) (fun _ _ ⟨v,H',I',r,q⟩=>⟨v,H',I'.unwish,r,q⟩) fun _ _ z=>False.elim z
theorem PT.nox {e:Expr} {t:TT} (h:PT X.nox e t):PT X e t:=fun pins s σ H Q I hw=>
  wpAny_mono (h pins s σ H Q (I.wish _) hw) (fun _ _ ⟨H',I',q⟩=>⟨H',I'.unwish,q⟩) fun _ _ z=>False.elim z
theorem PSs.nox {st:List Stmt} {t:TS} (h:PSs X.nox st t):PSs X st t:=fun pins s σ H D I hw=>
  wpAny_mono (h pins s σ H D (I.wish _) hw) (fun _ _ q=>q.unwish) fun _ _ z=>False.elim z
end
section
variable {X:Cx} {st:Stmt} {rest:List Stmt} {t u:TS} {e:Expr} {te:TE} {pos:Pos}
def tNext:TS:=fun D σ H=>D.nx σ H
def tSeq (t u:TS):TS:=fun D σ H=>t { D with nx:=u D } σ H
theorem pss_nil:PSs X [] tNext:=fun _ _ σ H _ I h=>wpAny_execs_nil ⟨σ,H,I,h⟩
theorem pss_cons (h1:PS X st t) (h2:PSs X rest u):PSs X (st :: rest) (tSeq t u):=by
  intro pins s σ H D I h
  refine wpAny_execs_cons (thn (h1 pins s σ H { D with nx:=u D } I h) fun f s1 q=>?_)
  cases f with
  | next=>
    obtain ⟨σ',H',I',q⟩:=q
    exact h2 pins s1 σ' H' D I' q
  | ret v=>exact q
  | brk=>exact q
  | cont=>exact q
theorem pss_one (h1:PS X st t):PSs X [st] t:=by
  intro pins s σ H D I h
  refine wpAny_execs_cons (thn (h1 pins s σ H D I h) fun f s1 q=>?_)
  cases f with
  | next=>exact wpAny_execs_nil q
  | ret v=>exact q
  | brk=>exact q
  | cont=>exact q
theorem Inv.quiet {pins:List (Addr×Obj)} {σ:St} {H:Hp} {s:Shared} (I:Inv X pins σ H s):interactive X.env = false:=by simp [interactive,I.ok.kind]
def tDrop (te:TE):TS:=fun D σ H=>te σ H fun _ H1=>D.nx σ H1
theorem ps_expr (he:PE X e te) (hs:swapsWith e none pos.line X.env = pure false:=by rfl):PS X (.Expr e pos) (tDrop te):=by
  intro pins s σ H D I h
  exact wpAny_Expr_any (thn (he pins s σ H _ I h) fun v s1 ⟨x,H1,I1,r1,q1⟩=>⟨σ,H1,I1,q1⟩) I.quiet hs
def tRet (te:TE):TS:=fun D σ H=>te σ H D.rt
theorem ps_ret (he:PE X e te):PS X (.Return (some e) pos) (tRet te):=by
  intro pins s σ H D I h
  exact wpAny_Return_some (thn (he pins s σ H _ I h) fun v s1 ⟨x,H1,I1,r1,q1⟩=>⟨x,σ,H1,I1,r1,q1⟩)
def tIfS (c:TT) (t u:TS):TS:=fun D σ H=>c σ H fun b H1=>if b = true then t D σ H1 else u D σ H1
theorem ps_if {c:Expr} {a b:List Stmt} {tc:TT} (hc:PT X c tc) (ha:PSs X a t) (hb:PSs X b u):PS X (.If c a b pos) (tIfS tc t u):=by
  intro pins s σ H D I h
  refine wpAny_If (thn (hc pins s σ H _ I h) fun d s1 ⟨H1,I1,q1⟩=>?_)
  cases d with
  | true=>exact ha pins s1 σ H1 D I1 q1
  | false=>exact hb pins s1 σ H1 D I1 q1
def tNever:TS:=fun _ _ _=>False
theorem ps_never:PS X st tNever:=fun _ _ _ _ _ _ h=>h.elim
end
abbrev TG:=V→St→Hp→(St→Hp→Prop)→Prop
abbrev TGs:=List V→St→Hp→(St→Hp→Prop)→Prop
def PG (X:Cx) (target:Expr) (t:TG):Prop:=
  ∀ (pins:List (Addr×Obj)) (s:Shared) (σ:St) (H:Hp) (v:V) (u:Value) (Q:St→Hp→Prop),Inv X pins σ H s→RelV v u→t v σ H Q→
    wpAny (model X.prog X.w) X.A (assign target X.env u) (fun _ s'=>∃ σ' H',Inv X pins σ' H' s'∧Q σ' H') X.xe s
def PGs (X:Cx) (ts:List Expr) (t:TGs):Prop:=
  ∀ (pins:List (Addr×Obj)) (s:Shared) (σ:St) (H:Hp) (vs:List V) (us:List Value) (Q:St→Hp→Prop),Inv X pins σ H s→Vals vs us→t vs σ H Q→
    wpAny (model X.prog X.w) X.A (assignInOrder ((assignEach ts X.env).map (·.2)) us) (fun _ s'=>∃ σ' H',Inv X pins σ' H' s'∧Q σ' H') X.xe s
section
variable {X:Cx} {pos:Pos}
def gName (i:Nat):TG:=fun v σ H Q=>Q (σ.set i (some v)) H
theorem pg_name {i:Nat} {x:Str} (hN:X.N.Nodup) (hi:X.N[i]? = some x) (hx:Loc X.env.scope x) (hf:X.fn x = true∨X.env.scope.names.lookup x = some .local:=by first | exact .inl rfl | exact .inr rfl | assumption):PG X (.Name x pos) (gName i):=by
  intro pins s σ H v u Q I r h
  exact wpAny_assign_Name (store_ok I hN hi hx r (fun s' I'=>⟨_,H,I',h⟩) hf)
def gNil:TGs:=fun vs σ H Q=>vs = []∧Q σ H
def gCons (t:TG) (u:TGs):TGs:=fun vs σ H Q=>∃ v r,vs = v :: r∧t v σ H fun σ' H'=>u r σ' H' Q
theorem pgs_nil:PGs X [] gNil:=by
  intro pins s σ H vs us Q I r h
  obtain ⟨e,h⟩:=h
  subst e
  cases r
  exact assignInOrder_nil ⟨σ,H,I,h⟩
theorem pgs_cons {e:Expr} {es:List Expr} {t:TG} {u:TGs} (h1:PG X e t) (h2:PGs X es u)
    (hs:(assignEach (e :: es) X.env).map (·.2) = assign e X.env :: (assignEach es X.env).map (·.2):=by rfl):PGs X (e :: es) (gCons t u):=by
  intro pins s σ H vs us Q I r h
  obtain ⟨v,vr,e1,h⟩:=h
  subst e1
  cases r with
  | cons r rr=>
    rw [hs]
    refine assignInOrder_cons (thn (h1 pins s σ H _ _ _ I r h) fun _ s1 ⟨σ1,H1,I1,q1⟩=>?_)
    exact h2 pins s1 σ1 H1 _ _ Q I1 rr q1
def gTup (K:PySem.W.Frag) (n:Nat) (t:TGs):TG:=fun v σ H Q=>∃ a xs,v = .ref a∧SqT K H a xs∧xs.length = n∧t xs σ H Q
theorem pg_tup {es:List Expr} {k:Nat} {t:TGs} {n:Nat} (hc:X.calm = true) (h:PGs X es t)
    (hn:(assignEach es X.env).length = n:=by rfl) (hst:(assignEach es X.env).findIdx? (·.1) = none:=by rfl):PG X (.Tuple es k pos) (gTup X.K n t):=by
  intro pins s σ H v u Q I r hw
  obtain ⟨a,xs,e1,hq,hl,hw⟩:=hw
  subst e1
  cases r
  obtain ⟨its,rv,ht,hz⟩:=I.tuple hq
  refine assign_Tuple_tuple (I.ok.hd hc) ht (by simp [hn,← hl,rv.length]) hst fun h' hx=>?_
  have I1:Inv X pins σ H { s with heap:=h' }:=I.kept (t':=s.toks) fun b o e=>hx b o (Nat.ne_of_lt (Heap.lt_size e)) e
  exact h pins _ σ H xs _ Q I1 (by simpa using rv) hw
def tAsg (te:TE) (g:TG):TS:=fun D σ H=>te σ H fun x H1=>g x σ H1 D.nx
theorem ps_set {i:Nat} {x:Str} {e:Expr} {te:TE} {pos':Pos} (hN:X.N.Nodup) (hi:X.N[i]? = some x) (hx:Loc X.env.scope x) (he:PE X e te) (hs:swapsWith e (some (.Name x pos')) pos.line X.env = pure false:=by rfl) (hf:X.fn x = true∨X.env.scope.names.lookup x = some .local:=by first | exact .inl rfl | exact .inr rfl | assumption) :
    PS X (.Assign [.Name x pos'] e pos) (tAsg te (gName i)):=by
  intro pins s σ H D I h
  refine wpAny_Assign_Name (thn (he pins s σ H _ I h) fun v s1 ⟨y,H1,I1,r1,q1⟩=>?_) hs
  exact store_ok I1 hN hi hx r1 (fun s2 I2=>⟨_,H1,I2,q1⟩) hf
end
section
variable {X:Cx} {pos:Pos}
def tWhile (c:TT) (tb:TS):TS:=fun D σ H=>∃ W:Nat→St→Hp→Prop,(∃ m,W m σ H)∧∀ m σ H,W m σ H→
  c σ H fun b H1=>if b = true then ∃ N:St→Hp→Prop,(∀ σ' H',N σ' H'→∃ m',m' < m∧W m' σ' H')∧tb { D with nx:=N,ct:=N,bk:=D.nx } σ H1 else D.nx σ H1
theorem ps_while {c:Expr} {body:List Stmt} {tc:TT} {tb:TS} (hp:PassesOwn (model X.prog X.w) X.A X.env X.xe) (hc:PT X c tc) (hb:PSs X body tb):PS X (.While c body [] pos) (tWhile tc tb):=by
  intro pins s σ H D I h
  obtain ⟨W,⟨m0,w0⟩,turn⟩:=h
  refine wpAny_While (codeAny_whileLoop (fun n s'=>∃ σ' H',Inv X pins σ' H' s'∧W n σ' H') ?_ m0 ⟨σ,H,I,w0⟩)
  rintro n s1 ⟨σ1,H1,I1,w1⟩
  refine wpAny_passesOwn hp (thn (hc pins s1 σ1 H1 _ I1 (turn n σ1 H1 w1)) fun b s2 ⟨H2,I2,q2⟩=>?_)
  cases b with
  | true=>
    obtain ⟨N,hN,q2⟩:=q2
    rw [if_pos rfl]
    refine wpAny_passesOwn hp (thn (hb pins s2 σ1 H2 _ I2 q2) fun f s3 q3=>?_)
    cases f with
    | next=>
      obtain ⟨σ3,H3,I3,n3⟩:=q3
      obtain ⟨m',hm,w3⟩:=hN σ3 H3 n3
      exact ⟨m',hm,σ3,H3,I3,w3⟩
    | cont=>
      obtain ⟨σ3,H3,I3,n3⟩:=q3
      obtain ⟨m',hm,w3⟩:=hN σ3 H3 n3
      exact ⟨m',hm,σ3,H3,I3,w3⟩
    | brk=>exact q3
    | ret v=>exact q3
  | false=>
    rw [if_neg Bool.false_ne_true]
    exact wpAny_execs_nil ⟨σ1,H2,I2,q2⟩
end
structure It where
  go:Nat→Hp→Prop
  yld:Nat→Hp→V→Hp→Prop
  stop:Nat→Hp→Prop
def FpOk (X:Cx) (pins:List (Addr×Obj)) (H:Hp) (b:Addr):Prop:=
  H b = none∧b≠X.env.locals∧b ∉ X.fs∧(b∈X.ex∨X.s₀.heap.objs.size≤b)∧(∀ x c,X.env.cells.lookup x = some c→c≠b)∧∀ p∈X.pn ++ pins,p.1≠b
theorem Inv.fpOk {X:Cx} {pins:List (Addr×Obj)} {σ:St} {H H':Hp} {s:Shared} {b:Addr} (I:Inv X pins σ H s) (hb:s.heap.objs.size≤b) (hn:H' b = none):FpOk X pins H' b:=by
  refine ⟨hn,Nat.ne_of_gt (Nat.lt_of_lt_of_le I.lt hb),I.nofs hb,.inr (Nat.le_trans I.sz hb),fun x c e z=>?_,fun p hp z=>?_⟩
  · obtain ⟨v,q⟩:=I.cell x c e
    exact absurd (Nat.lt_of_lt_of_le q.lt (by rw [z]; exact hb)) (Nat.lt_irrefl _)
  · exact absurd (Nat.lt_of_lt_of_le (Heap.lt_size (I.pin p hp).1) (by rw [z]; exact hb)) (Nat.lt_irrefl _)
structure Turn (P:Program) (w:World) (K:PySem.W.Frag) (tg:Expr) (J:It) (fp:List Addr) (it:Addr) (tn:Nat→Heap→Prop):Prop where
  mem:it∈fp
  obj:∀ i h,tn i h→∀ b∈fp,∃ o,h.get? b = some o∧∀ v,o.data≠.cell v
  keep:∀ i h h',tn i h→(∀ b∈fp,∀ o,h.get? b = some o→h'.get? b = some o)→tn i h'
  item:∀ (X:Cx),X.prog = P→X.w = w→X.K = K→X.calm = true→∀ (i:Nat) (pins:List (Addr×Obj)) (s:Shared) (σ:St) (H:Hp) (E:Value→Shared→Prop),Inv X pins σ H s→(∀ b∈fp,FpOk X pins H b)→tn i s.heap→J.go i H→
    wpAny (model P w) X.A (pyNext (.ref it)) (fun r s1=>∃ u,r = some u∧
      wpAny (model P w) X.A (letOwnedTupleGo tg (.ref it) u) (fun _ s2=>∃ x H',Inv X pins σ H' s2∧RelV x u∧J.yld i H x H'∧tn (i + 1) s2.heap∧∀ b∈fp,H' b = none) E s1) E s
  done:∀ (X:Cx),X.prog = P→X.w = w→X.K = K→X.calm = true→∀ (i:Nat) (pins:List (Addr×Obj)) (s:Shared) (σ:St) (H:Hp) (E:Value→Shared→Prop),Inv X pins σ H s→(∀ b∈fp,FpOk X pins H b)→tn i s.heap→J.stop i H→
    wpAny (model P w) X.A (pyNext (.ref it)) (fun r s1=>r = none∧Inv X pins σ H s1) E s
  self:∀ (A:Around) (i:Nat) (s:Shared) (Q:Value→Shared→Prop) (E:Value→Shared→Prop),tn i s.heap→Q (.ref it) s→wpAny (model P w) A (pyIter (.ref it)) Q E s
abbrev TI:=St→Hp→(It→Hp→Prop)→Prop
def PIE (X:Cx) (pins:List (Addr×Obj)) (σ:St) (tg:Expr) (R:It→Hp→Prop) (itv:Value) (s2:Shared):Prop:=
  ∃ (it:Addr) (fp:List Addr) (tn:Nat→Heap→Prop) (J:It) (H':Hp),itv = .ref it∧Inv X pins σ H' s2∧Turn X.prog X.w X.K tg J fp it tn∧tn 0 s2.heap∧(∀ b∈fp,FpOk X pins H' b)∧R J H'
def PI (X:Cx) (tg iter:Expr) (wi:TI):Prop:=
  ∀ (pins:List (Addr×Obj)) (s:Shared) (σ:St) (H:Hp) (R:It→Hp→Prop),Inv X pins σ H s→wi σ H R→
    wpAny (model X.prog X.w) X.A (eval iter X.env) (fun v s1=>wpAny (model X.prog X.w) X.A (pyIter v) (PIE X pins σ tg R) X.xe s1) X.xe s
theorem go_of {M:Model} {A:Around} {E:Value→Shared→Prop} {s:Shared} {tg:Expr} {it:Addr} {u:Value} {o:Obj} {n:String} {vs:Array Value} {Q:Unit→Shared→Prop} (ho:s.heap.get? it = some o) (hc:o.cls = .type n) (hd:o.data = .fields vs)
    (hn:["enumerate","zip","dict_itemiterator","dict_reverseitemiterator","odict_iterator","itertools.zip_longest","itertools.pairwise"].contains n = false) (hQ:Q () s):wpAny M A (letOwnedTupleGo tg (.ref it) u) Q E s:=by
  unfold letOwnedTupleGo
  cases tg <;> first
    | exact wpAny_pure hQ
    | (cases u <;> first
        | exact wpAny_pure hQ
        | (refine wpAny_bind (wpAny_load ho ?_)
           rw [hc,hd]
           show wpAny M A (if (["enumerate","zip","dict_itemiterator","dict_reverseitemiterator","odict_iterator","itertools.zip_longest","itertools.pairwise"].contains n && vs[0]? == some (rawInt _)) = true then _ else _) Q E s
           rw [if_neg (by intro h; rw [hn,Bool.false_and] at h; cases h)]
           exact wpAny_pure hQ))
def Itl (K:PySem.W.Frag) (a:Addr):It:=
  ⟨fun i H=>∃ xs x,SqL K H a xs∧xs[i]? = some x,fun i H x H'=>H' = H∧∀ xs,SqL K H a xs→xs[i]? = some x,fun i H=>∃ xs,SqL K H a xs∧xs.length≤i⟩
def Itt (K:PySem.W.Frag) (a:Addr):It:=
  ⟨fun i H=>∃ xs x,SqT K H a xs∧xs[i]? = some x,fun i H x H'=>H' = H∧∀ xs,SqT K H a xs→xs[i]? = some x,fun i H=>∃ xs,SqT K H a xs∧xs.length≤i⟩
def Itr (lo:Int) (n:Nat):It:=⟨fun i _=>i < n,fun i H x H'=>H' = H∧x = .int (lo + i),fun i _=>n≤i⟩
theorem turn_list {P:Program} {w:World} {K:PySem.W.Frag} {tg:Expr} (a it:Addr):Turn P w K tg (Itl K a) [it] it (fun i h=>h.IsListIter it a i) where
  mem:=by simp
  obj:=fun i h st b hb=>by
    have e:b = it:=by simpa using hb
    subst e
    obtain ⟨o,e,c,d⟩:=st
    exact ⟨o,e,fun v z=>by rw [d] at z; cases z⟩
  keep:=fun i h h' st k=>st.at fun o e=>k it (by simp) o e
  item:=by
    intro X hP hw hK hc i pins s σ H E I hf st hg
    subst hP hw hK
    obtain ⟨xs,x,hq,hx⟩:=hg
    obtain ⟨its,rv,p,hz⟩:=I.list hq
    obtain ⟨u,hu,ru⟩:=rv.get hx
    obtain ⟨f0,f1,f2,f3,f4,f5⟩:=hf it (by simp)
    refine wpAny_pyNext_list_item st p.isList (x:=u) (by simpa using hu) fun h' st' sb=>?_
    have I1:Inv X pins σ H { s with heap:=h' }:=I.turned (t':=s.toks) (fun b o hb e=>(sb.2 b hb).trans e) f0 f1 f3 f4 f5
    obtain ⟨o,e,c,d⟩:=id st'
    exact ⟨u,rfl,go_of (s:={ s with heap:=h' }) e c d (by decide) ⟨x,H,I1,ru,⟨rfl,fun ys hy=>by rw [I.list_inj hy hq]; exact hx⟩,st',fun b hb=>(hf b hb).1⟩⟩
  done:=by
    intro X hP hw hK hc i pins s σ H E I hf st hg
    subst hP hw hK
    obtain ⟨xs,hq,hx⟩:=hg
    obtain ⟨its,rv,p,hz⟩:=I.list hq
    obtain ⟨f0,f1,f2,f3,f4,f5⟩:=hf it (by simp)
    have hl:=rv.length
    exact wpAny_pyNext_list_end (I.ok.hd hc) st p.isList (by simp; omega) fun h' eb=>⟨rfl,I.turned (t':=s.toks) (fun b o hb e=>eb b o hb e) f0 f1 f3 f4 f5⟩
  self:=fun _ _ _ _ _ st h=>wpAny_pyIter_listiter st h
theorem turn_tuple {P:Program} {w:World} {K:PySem.W.Frag} {tg:Expr} (a it:Addr):Turn P w K tg (Itt K a) [it] it (fun i h=>h.IsTupleIter it a i) where
  mem:=by simp
  obj:=fun i h st b hb=>by
    have e:b = it:=by simpa using hb
    subst e
    obtain ⟨o,e,c,d⟩:=st
    exact ⟨o,e,fun v z=>by rw [d] at z; cases z⟩
  keep:=fun i h h' st k=>st.at fun o e=>k it (by simp) o e
  item:=by
    intro X hP hw hK hc i pins s σ H E I hf st hg
    subst hP hw hK
    obtain ⟨xs,x,hq,hx⟩:=hg
    obtain ⟨its,rv,p,hz⟩:=I.tuple hq
    obtain ⟨u,hu,ru⟩:=rv.get hx
    obtain ⟨f0,f1,f2,f3,f4,f5⟩:=hf it (by simp)
    refine wpAny_pyNext_tuple_item st (show s.heap.IsTuple a its.toArray from p) (x:=u) (by simpa using hu) fun h' st' sb=>?_
    have I1:Inv X pins σ H { s with heap:=h' }:=I.turned (t':=s.toks) (fun b o hb e=>(sb.2 b hb).trans e) f0 f1 f3 f4 f5
    obtain ⟨o,e,c,d⟩:=id st'
    exact ⟨u,rfl,go_of (s:={ s with heap:=h' }) e c d (by decide) ⟨x,H,I1,ru,⟨rfl,fun ys hy=>by rw [I.tuple_inj hy hq]; exact hx⟩,st',fun b hb=>(hf b hb).1⟩⟩
  done:=by
    intro X hP hw hK hc i pins s σ H E I hf st hg
    subst hP hw hK
    obtain ⟨xs,hq,hx⟩:=hg
    obtain ⟨its,rv,p,hz⟩:=I.tuple hq
    obtain ⟨f0,f1,f2,f3,f4,f5⟩:=hf it (by simp)
    have hl:=rv.length
    exact wpAny_pyNext_tuple_end (I.ok.hd hc) st (show s.heap.IsTuple a its.toArray from p) (by simp; omega) fun h' eb=>⟨rfl,I.turned (t':=s.toks) (fun b o hb e=>eb b o hb e) f0 f1 f3 f4 f5⟩
  self:=fun _ _ _ _ _ st h=>wpAny_pyIter_tupleiter st h
theorem turn_range {P:Program} {w:World} {K:PySem.W.Frag} {tg:Expr} (it:Addr) (lo:Int) (n:Nat):Turn P w K tg (Itr lo n) [it] it (fun i h=>IsRangeIter h it (lo + (i:Nat) * 1) ((n:Int) - (i:Nat)) 1) where
  mem:=by simp
  obj:=fun i h st b hb=>by
    have e:b = it:=by simpa using hb
    subst e
    exact ⟨_,st,fun v z=>by
      have z':Data.fields _ = Data.cell v:=z
      cases z'⟩
  keep:=fun i h h' st k=>k it (by simp) _ st
  item:=by
    intro X hP hw hK hc i pins s σ H E I hf st hg
    subst hP hw hK
    obtain ⟨f0,f1,f2,f3,f4,f5⟩:=hf it (by simp)
    have W:=Walks.range (prog:=X.prog) (w:=X.w) (I.ok.hd hc) it lo 1 n
    refine W.item i s _ _ hg st fun v h' tk hv st' kk=>?_
    obtain ⟨t,rfl⟩:=hv
    have I1:Inv X pins σ H { s with heap:=h',toks:=tk }:=I.turned (fun b o hb e=>kk b o (by simpa using hb) e) f0 f1 f3 f4 f5
    refine ⟨_,rfl,go_of (s:={ s with heap:=h',toks:=tk }) (n:="range_iterator") st' rfl rfl (by decide) ⟨.int (lo + i),H,I1,⟨t,?_⟩,⟨rfl,rfl⟩,st',fun b hb=>(hf b hb).1⟩⟩
    rw [Int.mul_one]
  done:=by
    intro X hP hw hK hc i pins s σ H E I hf st hg
    subst hP hw hK
    obtain ⟨f0,f1,f2,f3,f4,f5⟩:=hf it (by simp)
    exact wpAny_pyNext_range_end (I.ok.hd hc) st (by have:n≤i:=hg; omega) fun h' eb=>⟨rfl,I.turned (t':=s.toks) (fun b o hb e=>eb b o hb e) f0 f1 f3 f4 f5⟩
  self:=fun _ _ _ _ _ st h=>wpAny_pyIter_rangeiter st h
end L2
namespace L2
open PySem PySem.Spec PyProof.Rows
section
variable {X:Cx} {tg:Expr}
def iList (K:PySem.W.Frag) (tl:TE):TI:=fun σ H R=>tl σ H fun x H1=>∃ a,x = .ref a∧(∃ xs,SqL K H1 a xs)∧R (Itl K a) H1
def iTup (K:PySem.W.Frag) (tl:TE):TI:=fun σ H R=>tl σ H fun x H1=>∃ a,x = .ref a∧(∃ xs,SqT K H1 a xs)∧R (Itt K a) H1
theorem pi_list {l:Expr} {tl:TE} (hl:PE X l tl):PI X tg l (iList X.K tl):=by
  intro pins s σ H R I h
  refine thn (hl pins s σ H _ I h) fun v s1 ⟨x,H1,I1,r1,q1⟩=>?_
  obtain ⟨a,e,⟨xs,hq⟩,q⟩:=q1
  subst e
  cases r1
  obtain ⟨its,rv,p,hz⟩:=I1.list hq
  refine wpAny_pyIter_list p.isList ?_
  refine ⟨s1.heap.objs.size,[s1.heap.objs.size],_,_,H1,rfl,I1.kept (t':=s1.toks) fun b o e=>Heap.get?_push_of_some _ e,turn_list a _,⟨_,Heap.get?_push_size _ rfl,rfl,rfl⟩,fun b hb=>?_,q⟩
  have e:b = s1.heap.objs.size:=by simpa using hb
  subst e
  exact I1.fpOk (Nat.le_refl _) (I1.hok.fresh (Nat.le_refl _))
theorem pi_tup {l:Expr} {tl:TE} (hl:PE X l tl):PI X tg l (iTup X.K tl):=by
  intro pins s σ H R I h
  refine thn (hl pins s σ H _ I h) fun v s1 ⟨x,H1,I1,r1,q1⟩=>?_
  obtain ⟨a,e,⟨xs,hq⟩,q⟩:=q1
  subst e
  cases r1
  obtain ⟨its,rv,p,hz⟩:=I1.tuple hq
  refine wpAny_pyIter_tuple (show s1.heap.IsTuple a its.toArray from p) ?_
  refine ⟨s1.heap.objs.size,[s1.heap.objs.size],_,_,H1,rfl,I1.kept (t':=s1.toks) fun b o e=>Heap.get?_push_of_some _ e,turn_tuple a _,⟨_,Heap.get?_push_size _ rfl,rfl,rfl⟩,fun b hb=>?_,q⟩
  have e:b = s1.heap.objs.size:=by simpa using hb
  subst e
  exact I1.fpOk (Nat.le_refl _) (I1.hok.fresh (Nat.le_refl _))
theorem range_it {pins:List (Addr×Obj)} {σ:St} {H:Hp} {s:Shared} {R:It→Hp→Prop} {E:Value→Shared→Prop} {lo hi:Int} {t u v:Tok} {tk:Nat} (I:Inv X pins σ H s) (h1:-(2 ^ 62)≤lo) (h2:lo < 2 ^ 62) (h3:-(2 ^ 62)≤hi) (h4:hi < 2 ^ 62)
    (q:R (Itr lo (hi - lo).toNat) H):wpAny (model X.prog X.w) X.A (pyIter (.ref s.heap.objs.size)) (PIE X pins σ tg R) E { s with heap:=s.heap.push { cls:=.type "range",data:=.fields #[.int lo t,.int hi u,.int 1 v] },toks:=tk }:=by
  refine wpAny_pyIter_range (IsRange.new ..) (small_one h1 h2 h3 h4) ?_
  have I1:Inv X pins σ H { s with heap:=s.heap.push { cls:=.type "range",data:=.fields #[.int lo t,.int hi u,.int 1 v] },toks:=tk }:=I.kept fun b o e=>Heap.get?_push_of_some _ e
  refine ⟨(s.heap.push { cls:=.type "range",data:=.fields #[.int lo t,.int hi u,.int 1 v] }).objs.size,[(s.heap.push { cls:=.type "range",data:=.fields #[.int lo t,.int hi u,.int 1 v] }).objs.size],_,_,H,rfl,
    I1.kept (t':=tk) fun b o e=>Heap.get?_push_of_some _ e,turn_range _ lo (hi - lo).toNat,?_,fun b hb=>?_,q⟩
  · have e1:lo + ((0:Nat):Int) * 1 = lo:=by simp
    have e2:(((hi - lo).toNat:Nat):Int) - ((0:Nat):Int) = Builtin.Range.rangeSize lo hi 1:=by rw [rangeSize_one]; split <;> omega
    show IsRangeIter _ _ (lo + ((0:Nat):Int) * 1) ((((hi - lo).toNat:Nat):Int) - ((0:Nat):Int)) 1
    rw [e1,e2]
    exact Heap.get?_push_size _ rfl
  · have e:b = (s.heap.push { cls:=.type "range",data:=.fields #[.int lo t,.int hi u,.int 1 v] }).objs.size:=by simpa using hb
    subst e
    exact I1.fpOk (Nat.le_refl _) (I1.hok.fresh (Nat.le_refl _))
def iRng1 (ta:TA):TI:=fun σ H R=>ta σ H fun vs H1=>∃ j:Int,vs = [.int j]∧-(2 ^ 62)≤j∧j < 2 ^ 62∧R (Itr 0 j.toNat) H1
theorem pi_range1 {a:Expr} {ta:TA} {p pos:Pos} (hg:Gl X "range") (hm:X.mg "range" = none) (ha:PA X [a] ta) (hs:starEach [a] X.env = [(false,eval a X.env)]:=by rfl):PI X tg (.Call (.Name "range" p) [a] [] pos) (iRng1 ta):=by
  intro pins s σ H R I h
  refine Call_ (ld_blt I hg hm boot_range (PyProof.Rows.callWith_type1 (thn (ha pos pins s σ H _ I h) fun us s1 ⟨vs,H1,I1,r1,q1⟩=>?_) hs rfl))
  obtain ⟨j,e,q1,q2,q⟩:=q1
  subst e
  cases r1 with
  | cons r rr=>
    cases rr
    obtain ⟨t,rfl⟩:=r
    exact call_range_1 (range_it I1 (by omega) (by omega) q1 q2 (by simpa using q))
def tFor (wi:TI) (g:TG) (tb:TS):TS:=fun D σ H=>wi σ H fun J H1=>∃ W:Nat→Nat→St→Hp→Prop,(∃ m,W 0 m σ H1)∧∀ i m σ H,W i m σ H→
  (J.stop i H∧D.nx σ H)∨(J.go i H∧∃ N:St→Hp→Prop,(∀ σ' H',N σ' H'→∃ m',m' < m∧W (i + 1) m' σ' H')∧∀ x H',J.yld i H x H'→g x σ H' fun σ2 H2=>tb { D with nx:=N,ct:=N,bk:=D.nx } σ2 H2)
def pinsAt (fp:List Addr) (h:Heap):List (Addr×Obj):=fp.filterMap fun b=>(h.get? b).map fun o=>(b,o)
theorem mem_pinsAt {fp:List Addr} {h:Heap} {b:Addr} {o:Obj} (hb:b∈fp) (e:h.get? b = some o):(b,o)∈pinsAt fp h:=List.mem_filterMap.mpr ⟨b,hb,by rw [e]; rfl⟩
theorem of_pinsAt {fp:List Addr} {h:Heap} {p:Addr×Obj} (hp:p∈pinsAt fp h):p.1∈fp∧h.get? p.1 = some p.2:=by
  obtain ⟨b,hb,e⟩:=List.mem_filterMap.mp hp
  cases q:h.get? b with
  | none=>rw [q] at e; cases e
  | some o=>
    rw [q] at e
    have e':(b,o) = p:=Option.some.inj e
    subst e'
    exact ⟨hb,q⟩
theorem Inv.pinned {pins:List (Addr×Obj)} {σ:St} {H:Hp} {s:Shared} {fp:List Addr} (I:Inv X pins σ H s) (hf:∀ b∈fp,FpOk X pins H b) (ho:∀ b∈fp,∃ o,s.heap.get? b = some o∧∀ v,o.data≠.cell v):Inv X (pins ++ pinsAt fp s.heap) σ H s:=
  I.pins_of fun p hp=>(List.mem_append.mp hp).elim (fun z=>I.pin p (List.mem_append_right _ z)) fun z=>by
    obtain ⟨hb,e⟩:=of_pinsAt z
    obtain ⟨f0,f1,f2,_⟩:=hf p.1 hb
    obtain ⟨o,e',d⟩:=ho p.1 hb
    rw [e] at e'; cases e'
    exact ⟨e,f0,f1,f2,d⟩
theorem Inv.unpinned {pins pl:List (Addr×Obj)} {σ:St} {H:Hp} {s:Shared} (I:Inv X (pins ++ pl) σ H s):Inv X pins σ H s:=I.pins_of fun p hp=>I.pin p (List.mem_append_right _ (List.mem_append_left _ hp))
theorem ps_for {iter:Expr} {body:List Stmt} {wi:TI} {g:TG} {tb:TS} {pos:Pos} (hp:PassesOwn (model X.prog X.w) X.A X.env X.xe) (hc:X.calm = true) (hi:PI X tg iter wi) (hg:PG X tg g) (hb:PSs X body tb)
    (hs:∀ x,foldedSetIterable iter X.env x = pure x:=by intro _; rfl):PS X (.For tg iter body [] pos) (tFor wi g tb):=by
  intro pins s σ H D I h
  refine wpAny_For (thn (hi pins s σ H _ I h) fun v s1 h1=>thn h1 fun itv s2 h2=>?_) hs
  obtain ⟨it,fp,tn,J,H2,e,I2,T,st2,f2,W,⟨m0,w0⟩,turn⟩:=h2
  subst e
  have stat:∀ {H':Hp},(∀ b∈fp,H' b = none)→∀ b∈fp,FpOk X pins H' b:=fun hn b hb=>⟨hn b hb,(f2 b hb).2⟩
  refine codeAny_forLoop_any (fun n s'=>∃ i σ' H',Inv X pins σ' H' s'∧tn i s'.heap∧(∀ b∈fp,H' b = none)∧W i n σ' H') ?_ m0 ⟨0,σ,H2,I2,st2,fun b hb=>(f2 b hb).1,w0⟩
  rintro n s3 ⟨i,σ3,H3,I3,st3,fr3,w3⟩
  rcases turn i n σ3 H3 w3 with ⟨stop,qn⟩ | ⟨go,N,hN,step⟩
  · refine wpAny_passesOwn hp (thn (T.done X rfl rfl rfl hc i pins s3 σ3 H3 X.xe I3 (stat fr3) st3 stop) fun r s4 ⟨hr,I4⟩=>?_)
    subst hr
    exact wpAny_execs_nil ⟨σ3,H3,I4,qn⟩
  · refine wpAny_passesOwn hp (thn (T.item X rfl rfl rfl hc i pins s3 σ3 H3 X.xe I3 (stat fr3) st3 go) fun r s4 ⟨u,hr,h4⟩=>?_)
    subst hr
    refine wpAny_passesOwn hp (thn h4 fun _ s5 ⟨x,H5,I5,r5,y5,st5,fr5⟩=>?_)
    have I5':=I5.pinned (stat fr5) (T.obj _ _ st5)
    refine wpAny_passesOwn hp (thn (hg _ s5 σ3 H5 x u _ I5' r5 (step x H5 y5)) fun _ s6 ⟨σ6,H6,I6,q6⟩=>?_)
    refine wpAny_passesOwn hp (thn (hb _ s6 σ6 H6 _ I6 q6) fun f s7 q7=>?_)
    have again:∀ {σ7:St} {H7:Hp},Inv X (pins ++ pinsAt fp s5.heap) σ7 H7 s7→N σ7 H7→∃ m,m < n∧∃ i σ' H',Inv X pins σ' H' s7∧tn i s7.heap∧(∀ b∈fp,H' b = none)∧W i m σ' H':=fun {σ7 H7} I7 n7=>by
      obtain ⟨m',hm,w7⟩:=hN σ7 H7 n7
      refine ⟨m',hm,i + 1,σ7,H7,I7.unpinned,T.keep _ _ _ st5 fun b hb o e=>(I7.pin (b,o) (List.mem_append_right _ (List.mem_append_right _ (mem_pinsAt hb e)))).1,fun b hb=>?_,w7⟩
      obtain ⟨o,e,d⟩:=T.obj _ _ st5 b hb
      exact (I7.pin (b,o) (List.mem_append_right _ (List.mem_append_right _ (mem_pinsAt hb e)))).2.1
    cases f with
    | next=>obtain ⟨σ7,H7,I7,n7⟩:=q7; exact again I7 n7
    | cont=>obtain ⟨σ7,H7,I7,n7⟩:=q7; exact again I7 n7
    | brk=>obtain ⟨σ7,H7,I7,q7⟩:=q7; exact ⟨σ7,H7,I7.unpinned,q7⟩
    | ret v=>obtain ⟨x7,σ7,H7,I7,r7,q7⟩:=q7; exact ⟨x7,σ7,H7,I7.unpinned,r7,q7⟩
end
theorem for_list {K:PySem.W.Frag} {a:Addr} {xs:List V} {g:TG} {tb:TS} {D:Ends} {σ:St} {H:Hp} (Pv:Nat→St→Hp→Prop) (h0:Pv 0 σ H) (hl:∀ i σ H,i≤xs.length→Pv i σ H→SqL K H a xs)
    (hs:∀ i x σ H,xs[i]? = some x→Pv i σ H→g x σ H fun σ2 H2=>tb { D with nx:=Pv (i + 1),ct:=Pv (i + 1),bk:=D.nx } σ2 H2) (hd:∀ σ H,Pv xs.length σ H→D.nx σ H) :
    ∃ W:Nat→Nat→St→Hp→Prop,(∃ m,W 0 m σ H)∧∀ i m σ H,W i m σ H→
      ((Itl K a).stop i H∧D.nx σ H)∨((Itl K a).go i H∧∃ N:St→Hp→Prop,(∀ σ' H',N σ' H'→∃ m',m' < m∧W (i + 1) m' σ' H')∧∀ x H',(Itl K a).yld i H x H'→g x σ H' fun σ2 H2=>tb { D with nx:=N,ct:=N,bk:=D.nx } σ2 H2):=by
  refine ⟨fun i m σ H=>m = xs.length - i∧i≤xs.length∧Pv i σ H,⟨xs.length,by simp,Nat.zero_le _,h0⟩,?_⟩
  rintro i m σ H ⟨rfl,hi,p⟩
  have q:=hl i σ H hi p
  by_cases hlt:i < xs.length
  · refine .inr ⟨⟨xs,xs[i],q,by simp [hlt]⟩,Pv (i + 1),fun σ' H' p'=>⟨xs.length - (i + 1),by omega,rfl,hlt,p'⟩,fun x H' y=>?_⟩
    obtain ⟨e,y⟩:=y
    subst e
    exact hs i x σ _ (y xs q) p
  · have e:i = xs.length:=by omega
    subst e
    exact .inl ⟨⟨xs,q,Nat.le_refl _⟩,hd σ H p⟩
theorem for_tup {K:PySem.W.Frag} {a:Addr} {xs:List V} {g:TG} {tb:TS} {D:Ends} {σ:St} {H:Hp} (Pv:Nat→St→Hp→Prop) (h0:Pv 0 σ H) (hl:∀ i σ H,i≤xs.length→Pv i σ H→SqT K H a xs)
    (hs:∀ i x σ H,xs[i]? = some x→Pv i σ H→g x σ H fun σ2 H2=>tb { D with nx:=Pv (i + 1),ct:=Pv (i + 1),bk:=D.nx } σ2 H2) (hd:∀ σ H,Pv xs.length σ H→D.nx σ H) :
    ∃ W:Nat→Nat→St→Hp→Prop,(∃ m,W 0 m σ H)∧∀ i m σ H,W i m σ H→
      ((Itt K a).stop i H∧D.nx σ H)∨((Itt K a).go i H∧∃ N:St→Hp→Prop,(∀ σ' H',N σ' H'→∃ m',m' < m∧W (i + 1) m' σ' H')∧∀ x H',(Itt K a).yld i H x H'→g x σ H' fun σ2 H2=>tb { D with nx:=N,ct:=N,bk:=D.nx } σ2 H2):=by
  refine ⟨fun i m σ H=>m = xs.length - i∧i≤xs.length∧Pv i σ H,⟨xs.length,by simp,Nat.zero_le _,h0⟩,?_⟩
  rintro i m σ H ⟨rfl,hi,p⟩
  have q:=hl i σ H hi p
  by_cases hlt:i < xs.length
  · refine .inr ⟨⟨xs,xs[i],q,by simp [hlt]⟩,Pv (i + 1),fun σ' H' p'=>⟨xs.length - (i + 1),by omega,rfl,hlt,p'⟩,fun x H' y=>?_⟩
    obtain ⟨e,y⟩:=y
    subst e
    exact hs i x σ _ (y xs q) p
  · have e:i = xs.length:=by omega
    subst e
    exact .inl ⟨⟨xs,q,Nat.le_refl _⟩,hd σ H p⟩
theorem for_range {lo:Int} {n:Nat} {g:TG} {tb:TS} {D:Ends} {σ:St} {H:Hp} (Pv:Nat→St→Hp→Prop) (h0:Pv 0 σ H)
    (hs:∀ i σ H,i < n→Pv i σ H→g (.int (lo + i)) σ H fun σ2 H2=>tb { D with nx:=Pv (i + 1),ct:=Pv (i + 1),bk:=D.nx } σ2 H2) (hd:∀ σ H,Pv n σ H→D.nx σ H) :
    ∃ W:Nat→Nat→St→Hp→Prop,(∃ m,W 0 m σ H)∧∀ i m σ H,W i m σ H→
      ((Itr lo n).stop i H∧D.nx σ H)∨((Itr lo n).go i H∧∃ N:St→Hp→Prop,(∀ σ' H',N σ' H'→∃ m',m' < m∧W (i + 1) m' σ' H')∧∀ x H',(Itr lo n).yld i H x H'→g x σ H' fun σ2 H2=>tb { D with nx:=N,ct:=N,bk:=D.nx } σ2 H2):=by
  refine ⟨fun i m σ H=>m = n - i∧i≤n∧Pv i σ H,⟨n,by simp,Nat.zero_le _,h0⟩,?_⟩
  rintro i m σ H ⟨rfl,hi,p⟩
  by_cases hlt:i < n
  · refine .inr ⟨hlt,Pv (i + 1),fun σ' H' p'=>⟨n - (i + 1),by omega,rfl,hlt,p'⟩,fun x H' y=>?_⟩
    obtain ⟨e,y⟩:=y
    subst e y
    exact hs i σ _ hlt p
  · have e:i = n:=by omega
    subst e
    exact .inl ⟨Nat.le_refl _,hd σ H p⟩
end L2
namespace L2
open PySem PySem.Spec PyProof.Rows
abbrev R2:=V→V→Hp→VK→Prop
def OpR (X:Cx) (f:Value→Value→Sem Value) (r:R2):Prop:=
  ∀ (pins:List (Addr×Obj)) (s:Shared) (σ:St) (H:Hp) (x y:V) (v u:Value) (Q:VK),Inv X pins σ H s→RelV x v→RelV y u→r x y H Q→
    wpAny (model X.prog X.w) X.A (f v u) (EP X pins σ Q) X.xe s
def CallR (X:Cx) (f:Value) (r:List V→Hp→VK→Prop):Prop:=
  ∀ (pins:List (Addr×Obj)) (s:Shared) (σ:St) (H:Hp) (xs:List V) (us:List Value) (Q:VK),Inv X pins σ H s→Vals xs us→r xs H Q→
    wpAny (model X.prog X.w) X.A (call f us) (EP X pins σ Q) X.xe s
def tOp (r:R2) (ta tb:TE):TE:=fun σ H Q=>ta σ H fun x H1=>tb σ H1 fun y H2=>r x y H2 Q
def rI (C:Int→Int→Prop) (g:Int→Int→V):R2:=fun x y H Q=>∃ i j,x = .int i∧y = .int j∧C i j∧Q (g i j) H
def rI0 (g:Int→Int→V):R2:=fun x y H Q=>∃ i j,x = .int i∧y = .int j∧Q (g i j) H
section
variable {X:Cx} {a b c:Expr} {ta tb tc:TE} {pos:Pos}
theorem binT (ha:PE X a ta) (hb:PE X b tb) {pins:List (Addr×Obj)} {s:Shared} {σ:St} {H:Hp} {R:V→V→Hp→Prop} (I:Inv X pins σ H s)
    (h:ta σ H fun x H1=>tb σ H1 fun y H2=>R x y H2) {Q:Value→Shared→Prop} {f:Value→Value→Sem Value}
    (hf:∀ v u s2 x y H2,Inv X pins σ H2 s2→RelV x v→RelV y u→R x y H2→wpAny (model X.prog X.w) X.A (f v u) Q X.xe s2) :
    wpAny (model X.prog X.w) X.A (eval a X.env) (fun v s₁=>wpAny (model X.prog X.w) X.A (eval b X.env) (fun u s₂=>wpAny (model X.prog X.w) X.A (f v u) Q X.xe s₂) X.xe s₁) X.xe s:=by
  refine thn (ha pins s σ H _ I h) fun v s1 ⟨x,H1,I1,r1,q1⟩=>?_
  refine thn (hb pins s1 σ H1 _ I1 q1) fun u s2 ⟨y,H2,I2,r2,q2⟩=>?_
  exact hf v u s2 x y H2 I2 r1 r2 q2
theorem pe_op {op:Operator} {r:R2} (ho:OpR X (binaryOp op) r) (ha:PE X a ta) (hb:PE X b tb):PE X (.BinOp a op b pos) (tOp r ta tb):=by
  intro pins s σ H Q I h
  exact wpAny_BinOp (binT ha hb I h fun v u s2 x y H2 I2 rx ry q=>ho pins s2 σ H2 x y v u Q I2 rx ry q)
theorem opI {f:Value→Value→Sem Value} {C:Int→Int→Prop} {g:Int→Int→Int}
    (rule:∀ (i j:Int) (t u:Tok) (s:Shared) (Q:Value→Shared→Prop) (E:Value→Shared→Prop),C i j→Q (.int (g i j) s.toks) { s with toks:=s.toks + 1 }→wpAny (model X.prog X.w) X.A (f (.int i t) (.int j u)) Q E s) :
    OpR X f (rI C fun i j=>.int (g i j)):=by
  intro pins s σ H x y v u Q I rx ry h
  obtain ⟨i,j,rfl,rfl,hc,q⟩:=h
  obtain ⟨t,rfl⟩:=rx
  obtain ⟨t',rfl⟩:=ry
  exact rule i j t t' s _ _ hc ⟨.int (g i j),H,I.tok _,⟨_,rfl⟩,q⟩
theorem opI0 {f:Value→Value→Sem Value} {g:Int→Int→Int}
    (rule:∀ (i j:Int) (t u:Tok) (s:Shared) (Q:Value→Shared→Prop) (E:Value→Shared→Prop),Q (.int (g i j) s.toks) { s with toks:=s.toks + 1 }→wpAny (model X.prog X.w) X.A (f (.int i t) (.int j u)) Q E s) :
    OpR X f (rI0 fun i j=>.int (g i j)):=by
  intro pins s σ H x y v u Q I rx ry h
  obtain ⟨i,j,rfl,rfl,q⟩:=h
  obtain ⟨t,rfl⟩:=rx
  obtain ⟨t',rfl⟩:=ry
  exact rule i j t t' s _ _ ⟨.int (g i j),H,I.tok _,⟨_,rfl⟩,q⟩
theorem opB0 {f:Value→Value→Sem Value} {g:Int→Int→Bool}
    (rule:∀ (i j:Int) (t u:Tok) (s:Shared) (Q:Value→Shared→Prop) (E:Value→Shared→Prop),Q (.bool (g i j)) s→wpAny (model X.prog X.w) X.A (f (.int i t) (.int j u)) Q E s) :
    OpR X f (rI0 fun i j=>.bl (g i j)):=by
  intro pins s σ H x y v u Q I rx ry h
  obtain ⟨i,j,rfl,rfl,q⟩:=h
  obtain ⟨t,rfl⟩:=rx
  obtain ⟨t',rfl⟩:=ry
  exact rule i j t t' s _ _ ⟨.bl (g i j),H,I,rfl,q⟩
def CDiv (i j:Int):Prop:=0 < j∧j < 1073741824
def CPow (i j:Int):Prop:=0≤j∧j≤1000000∧i.natAbs < 2 ^ 64
def CMul (i j:Int):Prop:=(-(2 ^ 64) < i∧i < 2 ^ 64)∨(-(2 ^ 64) < j∧j < 2 ^ 64)
theorem CMul.ok {i j:Int} (h:CMul i j):IntMulOk i j:=by
  rcases h with ⟨h1,h2⟩ | ⟨h1,h2⟩
  · exact .of_left (intBits_le_64 h1 h2)
  · exact .of_right (intBits_le_64 h1 h2)
theorem op_add:OpR X (binaryOp .Add) (rI0 fun i j=>.int (i + j)):=opI0 fun _ _ _ _ _ _ _ q=>add_int q
theorem op_sub:OpR X (binaryOp .Sub) (rI0 fun i j=>.int (i - j)):=opI0 fun _ _ _ _ _ _ _ q=>sub_int q
theorem op_mul:OpR X (binaryOp .Mult) (rI CMul fun i j=>.int (i * j)):=opI fun _ _ _ _ _ _ _ hc q=>mul_int q hc.ok
theorem op_fdiv:OpR X (binaryOp .FloorDiv) (rI CDiv fun i j=>.int (i / j)):=opI fun i j _ _ _ _ _ hc q=>by
  have h1:(0:Int) < j:=hc.1
  have h2:j < 1073741824:=hc.2
  exact floordiv_int (by omega) (by rw [Int.fdiv_eq_ediv_of_nonneg i (by omega)]; exact q) (.inl (PyProof.noPylong_small (by omega)))
theorem op_mod:OpR X (binaryOp .Mod) (rI (fun _ j=>0 < j) fun i j=>.int (i % j)):=opI fun i j _ _ _ _ _ hc q=>by
  have h1:(0:Int) < j:=hc
  exact mod_int' (by omega) (by rw [Int.fmod_eq_emod_of_nonneg i (by omega)]; exact q)
theorem op_pow:OpR X (binaryOp .Pow) (rI CPow fun i j=>.int (i ^ j.toNat)):=opI fun _ _ _ _ _ _ _ hc q=>pow_int_small hc.1 hc.2.1 hc.2.2 q
theorem iop_add:OpR X (inplaceOp .Add) (rI0 fun i j=>.int (i + j)):=opI0 fun _ _ _ _ _ _ _ q=>iadd_int q
end
def scal:V→V→Bool
  | .non,.non=>true | .non,.int _=>true | .int _,.non=>true | .non,.bl _=>true | .bl _,.non=>true | .non,.str _=>true | .str _,.non=>true
  | .int _,.int _=>true | .bl _,.bl _=>true | .str _,.str _=>true | .byt _,.byt _=>true
  | .int _,.str _=>true | .str _,.int _=>true | .bl _,.str _=>true | .str _,.bl _=>true
  | _,_=>false
def rEq:R2:=fun x y H Q=>scal x y = true∧Q (.bl (decide (x = y))) H
def rNe:R2:=fun x y H Q=>scal x y = true∧Q (.bl (!decide (x = y))) H
theorem dec_int {i j:Int}:decide (V.int i = V.int j) = (i == j):=by
  rw [Bool.eq_iff_iff]
  simp
theorem dec_bl {i j:Bool}:decide (V.bl i = V.bl j) = (i == j):=by
  rw [Bool.eq_iff_iff]
  simp
theorem dec_str {i j:Str}:decide (V.str i = V.str j) = (i == j):=by
  rw [Bool.eq_iff_iff]
  simp
theorem dec_byt {i j:Array UInt8}:decide (V.byt i = V.byt j) = (i.toList == j.toList):=by
  rw [Bool.eq_iff_iff]
  cases i
  cases j
  simp
section
variable {X:Cx} {a b c:Expr} {ta tb tc:TE} {pos:Pos}
theorem fin_bl {pins:List (Addr×Obj)} {σ:St} {H:Hp} {s:Shared} {Q:VK} {k k':Bool} (I:Inv X pins σ H s) (q:Q (.bl k) H) (e:k = k'):EP X pins σ Q (.bool k') s:=by
  subst e
  exact ⟨.bl k,H,I,rfl,q⟩
theorem op_eq:OpR X (compareOp .Eq) rEq:=by
  intro pins s σ H x y v u Q I rx ry h
  obtain ⟨hs,q⟩:=h
  cases x with
  | non=>
    cases rx
    cases y with
    | non=>cases ry; exact PySem.EqNone.eq_none_none (fin_bl I q (by simp))
    | bl j=>cases ry; exact PySem.EqNone.eq_none_bool (fin_bl I q (by simp))
    | int j=>obtain ⟨t',rfl⟩:=ry; exact PySem.EqNone.eq_none_int (fin_bl I q (by simp))
    | str j=>obtain ⟨t',rfl⟩:=ry; exact PySem.EqNone.eq_none_str (fin_bl I q (by simp))
    | _=>exact absurd (show false = true from hs) Bool.false_ne_true
  | bl i=>
    cases rx
    cases y with
    | non=>cases ry; exact PySem.EqNone.eq_bool_none (fin_bl I q (by simp))
    | bl j=>cases ry; exact eq_bool (fin_bl I q dec_bl)
    | str j=>obtain ⟨t',rfl⟩:=ry; exact PySem.EqMixed.eq_bool_str (fin_bl I q (by simp))
    | _=>exact absurd (show false = true from hs) Bool.false_ne_true
  | int i=>
    obtain ⟨t,rfl⟩:=rx
    cases y with
    | non=>cases ry; exact PySem.EqNone.eq_int_none (fin_bl I q (by simp))
    | int j=>obtain ⟨t',rfl⟩:=ry; exact eq_int (fin_bl I q dec_int)
    | str j=>obtain ⟨t',rfl⟩:=ry; exact PySem.EqMixed.eq_int_str (fin_bl I q (by simp))
    | _=>exact absurd (show false = true from hs) Bool.false_ne_true
  | str i=>
    obtain ⟨t,rfl⟩:=rx
    cases y with
    | non=>cases ry; exact PySem.EqNone.eq_str_none (fin_bl I q (by simp))
    | bl j=>cases ry; exact PySem.EqMixed.eq_str_bool (fin_bl I q (by simp))
    | int j=>obtain ⟨t',rfl⟩:=ry; exact PySem.EqMixed.eq_str_int (fin_bl I q (by simp))
    | str j=>obtain ⟨t',rfl⟩:=ry; exact eq_str (fin_bl I q dec_str)
    | _=>exact absurd (show false = true from hs) Bool.false_ne_true
  | byt i=>
    obtain ⟨t,rfl⟩:=rx
    cases y with
    | byt j=>obtain ⟨t',rfl⟩:=ry; exact PySem.W.eq_bytes (fin_bl I q dec_byt)
    | _=>exact absurd (show false = true from hs) Bool.false_ne_true
  | _=>cases y <;> exact absurd (show false = true from hs) Bool.false_ne_true
theorem op_ne:OpR X (compareOp .NotEq) rNe:=by
  intro pins s σ H x y v u Q I rx ry h
  obtain ⟨hs,q⟩:=h
  cases x with
  | non=>
    cases rx
    cases y with
    | non=>cases ry; exact PySem.EqNone.ne_none_none (fin_bl I q (by simp))
    | bl j=>cases ry; exact PySem.EqNone.ne_none_bool (fin_bl I q (by simp))
    | int j=>obtain ⟨t',rfl⟩:=ry; exact PySem.EqNone.ne_none_int (fin_bl I q (by simp))
    | str j=>obtain ⟨t',rfl⟩:=ry; exact PySem.EqNone.ne_none_str (fin_bl I q (by simp))
    | _=>exact absurd (show false = true from hs) Bool.false_ne_true
  | bl i=>
    cases rx
    cases y with
    | non=>cases ry; exact PySem.EqNone.ne_bool_none (fin_bl I q (by simp))
    | bl j=>cases ry; exact ne_bool (fin_bl I q (congrArg not dec_bl))
    | str j=>obtain ⟨t',rfl⟩:=ry; exact PySem.EqMixed.ne_bool_str (fin_bl I q (by simp))
    | _=>exact absurd (show false = true from hs) Bool.false_ne_true
  | int i=>
    obtain ⟨t,rfl⟩:=rx
    cases y with
    | non=>cases ry; exact PySem.EqNone.ne_int_none (fin_bl I q (by simp))
    | int j=>obtain ⟨t',rfl⟩:=ry; exact ne_int (fin_bl I q (congrArg not dec_int))
    | str j=>obtain ⟨t',rfl⟩:=ry; exact PySem.EqMixed.ne_int_str (fin_bl I q (by simp))
    | _=>exact absurd (show false = true from hs) Bool.false_ne_true
  | str i=>
    obtain ⟨t,rfl⟩:=rx
    cases y with
    | non=>cases ry; exact PySem.EqNone.ne_str_none (fin_bl I q (by simp))
    | bl j=>cases ry; exact PySem.EqMixed.ne_str_bool (fin_bl I q (by simp))
    | int j=>obtain ⟨t',rfl⟩:=ry; exact PySem.EqMixed.ne_str_int (fin_bl I q (by simp))
    | str j=>obtain ⟨t',rfl⟩:=ry; exact ne_str (fin_bl I q (congrArg not dec_str))
    | _=>exact absurd (show false = true from hs) Bool.false_ne_true
  | byt i=>
    obtain ⟨t,rfl⟩:=rx
    cases y with
    | byt j=>obtain ⟨t',rfl⟩:=ry; exact PySem.W.ne_bytes (fin_bl I q (congrArg not dec_byt))
    | _=>exact absurd (show false = true from hs) Bool.false_ne_true
  | _=>cases y <;> exact absurd (show false = true from hs) Bool.false_ne_true
theorem op_lt:OpR X (compareOp .Lt) (rI0 fun i j=>.bl (decide (i < j))):=opB0 fun _ _ _ _ _ _ _ q=>lt_int q
theorem op_le:OpR X (compareOp .LtE) (rI0 fun i j=>.bl (decide (i≤j))):=opB0 fun _ _ _ _ _ _ _ q=>le_int q
theorem op_gt:OpR X (compareOp .Gt) (rI0 fun i j=>.bl (decide (j < i))):=opB0 fun _ _ _ _ _ _ _ q=>gt_int q
theorem op_in_str:OpR X (compareOp .In) (fun x y H Q=>∃ i j,x = .str i∧y = .str j∧Q (.bl (!(Builtin.Str.occurrences j i 0 j.length 1).isEmpty)) H):=by
  intro pins s σ H x y v u Q I rx ry h
  obtain ⟨i,j,rfl,rfl,q⟩:=h
  obtain ⟨t,rfl⟩:=rx
  obtain ⟨t',rfl⟩:=ry
  exact in_str (fin_bl I q rfl)
theorem nomark (b:Expr) {op:CmpOp} (h:op≠.In:=by decide) (h2:op≠.NotIn:=by decide):behindInMarks op b = false:=by
  have e1:(op == CmpOp.In) = false:=by cases op <;> first | rfl | exact absurd rfl h
  have e2:(op == CmpOp.NotIn) = false:=by cases op <;> first | rfl | exact absurd rfl h2
  cases b <;> simp [behindInMarks,e1,e2]
theorem pe_cmpR {op:CmpOp} {r:R2} (ho:OpR X (compareOp op) r) (ha:PE X a ta) (hb:PE X b tb) (hm:behindInMarks op b = false):PE X (.Compare a [op] [b] pos) (tOp r ta tb):=by
  intro pins s σ H Q I h
  exact wpAny_Compare1 (binT ha hb I h fun v u s2 x y H2 I2 rx ry q=>ho pins s2 σ H2 x y v u Q I2 rx ry q) hm
def tTest (t:TE):TT:=fun σ H Q=>t σ H fun x H'=>∃ k,x = .bl k∧Q k H'
theorem pt_cmpR {op:CmpOp} {r:R2} (ho:OpR X (compareOp op) r) (ha:PE X a ta) (hb:PE X b tb) (hm:behindInMarks op b = false):PT X (.Compare a [op] [b] pos) (tTest (tOp r ta tb)):=by
  intro pins s σ H Q I h
  refine wpAny_isTrue_Compare1 (thn (ha pins s σ H _ I h) fun v s1 ⟨x,H1,I1,r1,q1⟩=>thn (hb pins s1 σ H1 _ I1 q1) fun u s2 ⟨y,H2,I2,r2,q2⟩=>
    thn (ho pins s2 σ H2 x y v u _ I2 r1 r2 q2) fun c s3 ⟨z,H3,I3,r3,k,e,q3⟩=>?_) hm
  subst e
  cases r3
  exact wpAny_truthy_bool ⟨H3,I3,q3⟩
def tChain (r r':R2) (ta tb tc:TE):TE:=fun σ H Q=>ta σ H fun x H1=>tb σ H1 fun y H2=>r x y H2 fun z H3=>∃ k,z = .bl k∧
  (if k = true then tc σ H3 fun w' H4=>r' y w' H4 Q else Q (.bl false) H3)
theorem pe_chain {op op':CmpOp} {r r':R2} (ho:OpR X (compareOp op) r) (ho':OpR X (compareOp op') r') (ha:PE X a ta) (hb:PE X b tb) (hc:PE X c tc)
    (hm:lastMarks [op,op'] [b,c] = false:=by with_unfolding_all rfl):PE X (.Compare a [op,op'] [b,c] pos) (tChain r r' ta tb tc):=by
  intro pins s σ H Q I h
  refine Compare_chain (thn (ha pins s σ H _ I h) fun v s1 ⟨x,H1,I1,r1,q1⟩=>chain_link (thn (hb pins s1 σ H1 _ I1 q1) fun u s2 ⟨y,H2,I2,r2,q2⟩=>
    thn (ho pins s2 σ H2 x y v u _ I2 r1 r2 q2) fun d s3 ⟨z,H3,I3,r3,k,e,q3⟩=>?_)) hm
  subst e
  cases r3
  refine wpAny_truthy_bool ?_
  cases k with
  | false=>exact ite_ff ⟨.bl false,H3,I3,rfl,q3⟩
  | true=>exact ite_tt (chain_last (thn (hc pins s3 σ H3 _ I3 q3) fun w' s4 ⟨z',H4,I4,r4,q4⟩=>ho' pins s4 σ H4 y z' u w' Q I4 r2 r4 q4))
theorem pt_chain {op op':CmpOp} {r r':R2} (ho:OpR X (compareOp op) r) (ho':OpR X (compareOp op') r') (ha:PE X a ta) (hb:PE X b tb) (hc:PE X c tc)
    (hm:lastMarks [op,op'] [b,c] = false:=by with_unfolding_all rfl):PT X (.Compare a [op,op'] [b,c] pos) (tTest (tChain r r' ta tb tc)):=by
  intro pins s σ H Q I h
  refine isTrue_chain (thn (ha pins s σ H _ I h) fun v s1 ⟨x,H1,I1,r1,q1⟩=>test_link (thn (hb pins s1 σ H1 _ I1 q1) fun u s2 ⟨y,H2,I2,r2,q2⟩=>
    thn (ho pins s2 σ H2 x y v u _ I2 r1 r2 q2) fun d s3 ⟨z,H3,I3,r3,k,e,q3⟩=>?_)) hm
  subst e
  cases r3
  refine wpAny_truthy_bool ?_
  cases k with
  | false=>
    obtain ⟨k',e',q'⟩:=q3
    cases e'
    exact ite_ff ⟨H3,I3,q'⟩
  | true=>
    refine ite_tt (test_last (thn (hc pins s3 σ H3 _ I3 q3) fun w' s4 ⟨z',H4,I4,r4,q4⟩=>thn (ho' pins s4 σ H4 y z' u w' _ I4 r2 r4 q4) fun d' s5 ⟨z2,H5,I5,r5,k2,e2,q5⟩=>?_))
    subst e2
    cases r5
    exact wpAny_truthy_bool ⟨H5,I5,q5⟩
theorem line63:(sizeLine:Nat) < 2 ^ 63:=by rw [sizeLine_eq]; decide
theorem op_add_str:OpR X (binaryOp .Add) (fun x y H Q=>∃ i j,x = .str i∧y = .str j∧i.length + j.length≤sizeLine∧Q (.str (i ++ j)) H):=by
  intro pins s σ H x y v u Q I rx ry h
  obtain ⟨i,j,rfl,rfl,hz,q⟩:=h
  obtain ⟨t,rfl⟩:=rx
  obtain ⟨t',rfl⟩:=ry
  exact add_str (fun t' tk=>⟨.str (i ++ j),H,I.tok _,⟨_,rfl⟩,q⟩) hz
theorem vals1 {x:V} {us:List Value} (r:Vals [x] us):∃ u,us = [u]∧RelV x u:=by
  cases r with
  | cons r1 r2=>cases r2; exact ⟨_,rfl,r1⟩
theorem vals2 {x y:V} {us:List Value} (r:Vals [x,y] us):∃ u w',us = [u,w']∧RelV x u∧RelV y w':=by
  cases r with
  | cons r1 r2=>
    cases r2 with
    | cons r3 r4=>cases r4; exact ⟨_,_,rfl,r1,r3⟩
theorem call_abs:CallR X (.builtin "abs") (fun xs H Q=>∃ i,xs = [.int i]∧Q (.int (if i < 0 then -i else i)) H):=by
  intro pins s σ H xs us Q I r h
  obtain ⟨i,rfl,q⟩:=h
  obtain ⟨u,rfl,t,rfl⟩:=vals1 r
  exact call_abs_int fun u tk=>⟨.int (if i < 0 then -i else i),H,I.tok _,⟨_,rfl⟩,q⟩
theorem call_int1:CallR X (.type "int") (fun xs H Q=>(∃ i,xs = [.int i]∧Q (.int i) H)∨∃ k,xs = [.bl k]∧Q (.int (if k then 1 else 0)) H):=by
  intro pins s σ H xs us Q I r h
  rcases h with ⟨i,rfl,q⟩ | ⟨k,rfl,q⟩
  · obtain ⟨u,rfl,t,rfl⟩:=vals1 r
    exact call_int_int ⟨.int i,H,I,⟨_,rfl⟩,q⟩
  · obtain ⟨u,rfl,r1⟩:=vals1 r
    cases r1
    exact call_int_bool ⟨.int (if k then 1 else 0),H,I.tok _,⟨_,rfl⟩,q⟩
end
end L2
namespace L2
open PySem PySem.Spec PyProof.Rows
structure ObjM (h:Heap) (x dx C:Addr) (mA:Str→Option Value):Prop where
  obj:h.get? x = some (PySem.W.instObj C dx)
  ns:h.Ns1 dx mA
  ne:dx≠x
theorem lookIn_ns {h:Heap} {dx:Addr} {mA:Str→Option Value} (n:h.Ns1 dx mA):∃ od,h.get? dx = some od∧∀ name,PySem.W.lookIn name od = some (mA name):=by
  obtain ⟨o,es,ep,ho,hd,hk,_,hm⟩:=n
  refine ⟨o,ho,fun name=>?_⟩
  have e:=hm name
  unfold nsFind findBy at e
  rw [← Array.find?_toList] at e
  unfold PySem.W.lookIn
  rw [hd]
  dsimp only
  split
  · rename_i y q
    rw [q] at e
    exact congrArg some e
  · rename_i q
    rw [q] at e
    have a:es.toList.any (·.refKey) = false:=by
      rw [List.any_eq_false]
      intro y hy
      obtain ⟨z,t,hkey⟩:=hk y (Array.mem_toList_iff.mp hy)
      simp [DictEntry.refKey,hkey]
    have a':¬ es.toList.any (·.refKey) = true:=by rw [a]; exact Bool.false_ne_true
    rw [if_neg a']
    exact congrArg some e
theorem ObjM.look {h:Heap} {x dx C:Addr} {mA:Str→Option Value} (I:ObjM h x dx C mA):∃ od,PySem.W.InstAt h x (PySem.W.instObj C dx) C (some od)∧∀ name,PySem.W.lookIn name od = some (mA name):=
  let ⟨od,ho,hl⟩:=lookIn_ns I.ns
  ⟨od,⟨I.obj,rfl,rfl,ho⟩,hl⟩
section
variable {prog:Program} {w:World} {A:Around} {E:Value→Shared→Prop} {s:Shared} {K:PySem.W.Frag} {x dx C f:Addr} {mA:Str→Option Value} {name:Str} {v:Value}
theorem get_map {expr:Bool} {Q:Value→Shared→Prop} (X:K.In s.heap) (I:ObjM s.heap x dx C mA) (hg:PySem.W.plainGet K C name = true) (hh:PySem.W.hasDictIn K C = true)
    (ha:PySem.W.findIn K (.ref C) name = some none) (hv:mA name = some v) (hv':PySem.W.handedIn v = true) (h:Q v { s with toks:=s.toks + 1 }) :
    wpAny (model prog w) A (getAttr (.ref x) name expr) Q E s:=by
  obtain ⟨od,J,hl⟩:=I.look
  exact PySem.W.get_value X J (PySem.W.plainGet_of hg).1 (PySem.W.findObj_own hh ha rfl (by rw [hl,hv])) hv' h
theorem get_meth {pl:Sem Bool} {Q:Value×List Value→Shared→Prop} (X:K.In s.heap) (I:ObjM s.heap x dx C mA) (hg:PySem.W.plainGet K C name = true)
    (hf:PySem.W.findIn K (.ref C) name = some (some (.ref f))) (ht:PySem.W.isFn K (.ref f) = true) (hv:mA name = none) (h:Q (.ref f,[.ref x]) s) :
    wpAny (model prog w) A (getMethod (.ref x) name pl) Q E s:=by
  obtain ⟨od,J,hl⟩:=I.look
  exact PySem.W.method_fn X J (PySem.W.plainGet_of hg).1 (PySem.W.plainGet_of hg).2 hf (beq_iff_eq.mp ht) (by show (PySem.W.lookIn name od).map (·.isSome) = some false; rw [hl,hv]; rfl) h
theorem set_map {ns:List Str} {Q:Unit→Shared→Prop} (X:K.In s.heap) (I:ObjM s.heap x dx C mA)
    (hs:PySem.W.findIn K (.ref C) "__setattr__" = some (some (.builtin "object.__setattr__"))) (hp:PySem.W.plainOver K C = true) (ht:PySem.W.takerIn K C name = some none) (hh:PySem.W.hasDictIn K C = true)
    (hw:PySem.Within mA ns) (hsz:ns.length≤sizeLine)
    (h:∀ h',ObjM h' x dx C (fun y=>if y = name then some v else mA y)→Heap.SameBut dx s.heap h'→Q () { s with heap:=h',toks:=s.toks + 2 }) :
    wpAny (model prog w) A (setAttr (.ref x) name v) Q E s:=by
  obtain ⟨od,J,hl⟩:=I.look
  refine PySem.W.set_plain X J hs (PySem.W.osa_open (s:={ s with toks:=s.toks + 1 }) (r:=none) X J hp ht fun b=>?_)
  obtain ⟨cd,hc,hd'⟩:=PySem.W.any_some hh
  have hx:s.heap.get? x = some ⟨.ref C,some dx,.plain,#[]⟩:=I.obj
  refine wpAny_bind (wpAny_pure (wpAny_bind (wpAny_bind (wpAny_loadPart hx (wpAny_bind (PySem.W.Looks.here (s:={ s with toks:=s.toks + 1 }) (PySem.W.looks_clsIn X hc) ?_))))))
  rw [hd']
  refine wpAny_pure (a:=some dx) (wpAny_bind (wpAny_pure (wpAny_bind ?_)))
  refine wpAny_nsSet1 (s:={ s with toks:=s.toks + 1 }) I.ns fun h' hn2 hs2=>?_
  obtain ⟨oD,esD,epD,hoD,hdD,hcD⟩:=hn2.count (PySem.Within.cons name v hw)
  refine wpAny_bind (wpAny_lookBehind hoD (by rw [hdD]; exact pastItsLine_dict (Nat.le_trans hcD (by rw [List.length_cons]; omega))) ?_)
  exact wpAny_pure (h _ ⟨(hs2.2 _ (Ne.symm I.ne)).trans I.obj,hn2,I.ne⟩ hs2)
theorem make_map {R:Result→Shared→Prop} {vs:List Value} {kw:List (Str×Value)} (X:K.In s.heap) (hm:PySem.W.makesIn K C = true)
    (hi:PySem.W.findIn K (.ref C) "__init__" = some (some (.ref f))) (hf:PySem.W.typeIn K (.ref f) = some (.type "function"))
    (h:codeAny (model prog w) (A.under (.builtin "type.__call__" ⟨.ref C :: vs,kw⟩)) (.call (.ref f) ⟨.ref (s.heap.objs.size + 1) :: vs,kw⟩) (PySem.W.InitBack (s.heap.objs.size + 1) R)
      { s with heap:=(s.heap.push PySem.W.emptyDict).push (PySem.W.instObj C s.heap.objs.size) }) :
    codeAny (model prog w) A (.call (.ref C) ⟨vs,kw⟩) R s:=by
  obtain ⟨hh,g,d,t,os⟩:=s
  exact PySem.W.make_core (PySem.W.makes_of X hm) (PySem.W.looks_findIn X hi) (fun self=>PySem.W.bind_fn X self hf) (.inl rfl) h
end
def putF (f:Str) (v:V):List (Str×V)→List (Str×V)
  | []=>[(f,v)]
  | (g,x) :: r=>if g = f then (g,v) :: r else (g,x) :: putF f v r
theorem lookup_putF (f g:Str) (v:V):∀ fs:List (Str×V),(putF f v fs).lookup g = if g = f then some v else fs.lookup g
  | []=>by
    show List.lookup g [(f,v)] = _
    by_cases h:g = f
    · have hb:(g == f) = true:=beq_iff_eq.mpr h
      simp only [List.lookup,hb,if_pos h]
    · have hb:(g == f) = false:=beq_eq_false_iff_ne.mpr h
      simp only [List.lookup,hb,if_neg h]
  | (k,x) :: r=>by
    have ih:=lookup_putF f g v r
    rw [show putF f v ((k,x) :: r) = (if k = f then (k,v) :: r else (k,x) :: putF f v r) from rfl]
    by_cases hk:k = f
    · rw [if_pos hk]
      by_cases h:g = k
      · have hb:(g == k) = true:=beq_iff_eq.mpr h
        simp only [List.lookup,hb,if_pos (h.trans hk)]
      · have hb:(g == k) = false:=beq_eq_false_iff_ne.mpr h
        simp only [List.lookup,hb,if_neg (fun e:g = f=>h (e.trans hk.symm))]
    · rw [if_neg hk]
      by_cases h:g = k
      · have hb:(g == k) = true:=beq_iff_eq.mpr h
        simp only [List.lookup,hb,if_neg (fun e:g = f=>hk (h.symm.trans e))]
      · have hb:(g == k) = false:=beq_eq_false_iff_ne.mpr h
        simp only [List.lookup,hb]
        exact ih
theorem keys_putF (f:Str) (v:V):∀ fs:List (Str×V),f∈(putF f v fs).map (·.1)∧∀ g,g∈fs.map (·.1)→g∈(putF f v fs).map (·.1)
  | []=>⟨by simp [putF],fun g h=>by simp at h⟩
  | (k,x) :: r=>by
    obtain ⟨i1,i2⟩:=keys_putF f v r
    rw [show putF f v ((k,x) :: r) = (if k = f then (k,v) :: r else (k,x) :: putF f v r) from rfl]
    by_cases hk:k = f
    · rw [if_pos hk]
      subst hk
      exact ⟨by simp,fun g h=>by simpa using h⟩
    · rw [if_neg hk]
      refine ⟨?_,fun g h=>?_⟩
      · rw [List.map_cons]
        exact List.mem_cons_of_mem _ i1
      · rw [List.map_cons] at h ⊢
        rcases List.mem_cons.mp h with e | e
        · exact List.mem_cons.mpr (.inl e)
        · exact List.mem_cons_of_mem _ (i2 g e)
theorem length_putF (f:Str) (v:V):∀ fs:List (Str×V),(putF f v fs).length≤fs.length + 1
  | []=>by simp [putF]
  | (k,x) :: r=>by
    have ih:=length_putF f v r
    rw [show putF f v ((k,x) :: r) = (if k = f then (k,v) :: r else (k,x) :: putF f v r) from rfl]
    by_cases hk:k = f
    · rw [if_pos hk,List.length_cons,List.length_cons]; omega
    · rw [if_neg hk,List.length_cons,List.length_cons]; omega
theorem RelO.some_of {v:V} {o:Option Value} (r:RelO (some v) o):∃ u,o = some u∧RelV v u:=by
  cases o with
  | none=>exact (show False from r).elim
  | some u=>exact ⟨u,rfl,r⟩
theorem RelO.none_of {o:Option Value} (r:RelO none o):o = none:=by
  cases o with
  | none=>rfl
  | some u=>exact (show False from r).elim
theorem handed_of {v:V} {u:Value} (r:RelV v u):PySem.W.handedIn u = true:=by
  cases v with
  | non=>cases (show u = Value.none from r); rfl
  | bl b=>cases (show u = Value.bool b from r); rfl
  | int i=>obtain ⟨t,e⟩:=(show ∃ t,u = Value.int i t from r); cases e; rfl
  | str x=>obtain ⟨t,e⟩:=(show ∃ t,u = Value.str x t from r); cases e; rfl
  | byt b=>obtain ⟨t,e⟩:=(show ∃ t,u = Value.bytes b t from r); cases e; rfl
  | flt b=>obtain ⟨t,e⟩:=(show ∃ t,u = Value.float b t from r); cases e; rfl
  | ref a=>cases (show u = Value.ref a from r); rfl
  | ty n=>cases (show u = Value.type n from r); rfl
section
variable {P:Program} {w:World} {H H':Hp} {h h':Heap} {a C dx:Addr} {fs fs':List (Str×V)}
theorem ins_get (hok:HOk P w H h) (e:H a = some (.ins C dx fs)):∃ mA,ObjM h a dx C mA∧(∀ f,RelO (fs.lookup f) (mA f))∧PySem.Within mA (fs.map (·.1))∧fs.length≤1000∧H dx = some (.own a):=by
  obtain ⟨d,z,ne,ob,mA,n,r,q⟩:=(show ObjOk P w H h a (.ins C dx fs) from hok a _ e)
  exact ⟨mA,⟨ob,n,ne⟩,r,q,z,d⟩
end
structure Cls (K:PySem.W.Frag) (C:Addr):Prop where
  pg:PySem.W.plainGet K C Str.empty = true
  hd:PySem.W.hasDictIn K C = true
  po:PySem.W.plainOver K C = true
  sa:PySem.W.findIn K (.ref C) "__setattr__" = some (some (.builtin "object.__setattr__"))
theorem Cls.get {K:PySem.W.Frag} {C:Addr} (c:Cls K C) (f:Str):PySem.W.plainGet K C f = true:=c.pg
def NoAttr (K:PySem.W.Frag) (C:Addr) (f:Str):Prop:=PySem.W.findIn K (.ref C) f = some none
theorem NoAttr.taker {K:PySem.W.Frag} {C:Addr} {f:Str} (n:NoAttr K C f):PySem.W.takerIn K C f = some none:=by
  unfold PySem.W.takerIn
  rw [show PySem.W.findIn K (.ref C) f = some none from n]
  rfl
structure Con (K:PySem.W.Frag) (C:Addr) (f:Str) (v:V) (u:Value):Prop where
  at_:PySem.W.findIn K (.ref C) f = some (some u)
  rel:RelV v u
  get:PySem.W.specialIn K u "__get__" = some none
  cp:PySem.W.copiedNames.contains f = false
structure Meth (K:PySem.W.Frag) (C:Addr) (m:Str) (f:Addr):Prop where
  at_:PySem.W.findIn K (.ref C) m = some (some (.ref f))
  fn:PySem.W.isFn K (.ref f) = true
  kp:PySem.W.keepIn K (.ref f) = true
section
variable {X:Cx} {pins:List (Addr×Obj)} {σ:St} {H:Hp} {s:Shared} {a C dx:Addr} {fs:List (Str×V)} {f:Str} {v:V} {A:Around} {E:Value→Shared→Prop}
theorem getattr_ok {b:Bool} {Q:Value→Shared→Prop} (I:Inv X pins σ H s) (e:H a = some (.ins C dx fs)) (c:Cls X.K C) (n:NoAttr X.K C f) (l:fs.lookup f = some v)
    (h:∀ u s',Inv X pins σ H s'→RelV v u→Q u s'):wpAny (model X.prog X.w) A (getAttr (.ref a) f b) Q E s:=by
  obtain ⟨mA,O,r,_,_,_⟩:=ins_get I.hok e
  obtain ⟨u,hu,ru⟩:=RelO.some_of (v:=v) (o:=mA f) (by rw [← l]; exact r f)
  exact get_map I.kIn O (c.get f) c.hd n hu (handed_of ru) (h u _ (I.tok _) ru)
theorem getmeth_ok {m:Str} {g:Addr} {pl:Sem Bool} {Q:Value×List Value→Shared→Prop} (I:Inv X pins σ H s) (e:H a = some (.ins C dx fs)) (c:Cls X.K C) (k:Meth X.K C m g) (l:fs.lookup m = none)
    (h:Q (.ref g,[.ref a]) s):wpAny (model X.prog X.w) A (getMethod (.ref a) m pl) Q E s:=by
  obtain ⟨mA,O,r,_,_,_⟩:=ins_get I.hok e
  have hn:mA m = none:=RelO.none_of (by rw [← l]; exact r m)
  exact get_meth I.kIn O (c.get m) k.at_ k.fn hn h
theorem setattr_ok {y:V} {u:Value} {Q:Unit→Shared→Prop} (I:Inv X pins σ H s) (e:H a = some (.ins C dx fs)) (c:Cls X.K C) (n:NoAttr X.K C f) (hl:fs.length < 1000) (ry:RelV y u)
    (h:∀ s',Inv X pins σ (upd H a (.ins C dx (putF f y fs))) s'→Q () s'):wpAny (model X.prog X.w) A (setAttr (.ref a) f u) Q E s:=by
  obtain ⟨mA,O,r,wi,_,ho⟩:=ins_get I.hok e
  have hz:(fs.map (·.1)).length≤sizeLine:=by rw [List.length_map,sizeLine_eq]; omega
  refine set_map I.kIn O c.sa c.po n.taker c.hd wi hz fun h' O' sb=>h _ ?_
  have hd:∃ o,h'.get? dx = some o:=let ⟨o,_,_,e',_⟩:=O'.ns; ⟨o,e'⟩
  refine I.write (x:=a) (e:=dx) (by rw [e]; exact True.intro) (.inr ho) (fun b q hb z=>(sb.2 b hb).trans z) hd ?_
  refine ⟨by rw [upd_ne O.ne]; exact ho,?_,O.ne,O'.obj,_,O'.ns,fun g=>?_,fun g hg=>?_⟩
  · have:=length_putF f y fs; omega
  · show RelO ((putF f y fs).lookup g) (if g = f then some u else mA g)
    rw [lookup_putF]
    by_cases q:g = f
    · rw [if_pos q,if_pos q]; exact ry
    · rw [if_neg q,if_neg q]; exact r g
  · by_cases q:g = f
    · rw [q]; exact (keys_putF f y fs).1
    · refine (keys_putF f y fs).2 g (wi g fun z=>hg ?_)
      show (if g = f then some u else mA g) = none
      rw [if_neg q]; exact z
theorem Inv.made (I:Inv X pins σ H s):Inv X pins σ (upd (upd H s.heap.objs.size (.own (s.heap.objs.size + 1))) (s.heap.objs.size + 1) (.ins C s.heap.objs.size []))
    { s with heap:=(s.heap.push PySem.W.emptyDict).push (PySem.W.instObj C s.heap.objs.size) }:=by
  have e1:(s.heap.push PySem.W.emptyDict).get? s.heap.objs.size = some PySem.W.emptyDict:=Heap.get?_push_size s.heap rfl
  have e2:((s.heap.push PySem.W.emptyDict).push (PySem.W.instObj C s.heap.objs.size)).get? (s.heap.objs.size + 1) = some (PySem.W.instObj C s.heap.objs.size):=by
    have:=Heap.get?_push_size (s.heap.push PySem.W.emptyDict) (o:=PySem.W.instObj C s.heap.objs.size) rfl
    rwa [Heap.size_push] at this
  have e3:(s.heap.push PySem.W.emptyDict).Ns s.heap.objs.size (fun _=>none):=⟨PySem.W.emptyDict,#[],_,e1,rfl,(fun e he=>absurd he (by simp)),fun _=>rfl⟩
  have I1:=I.laid (a:=s.heap.objs.size) (o:=.own (s.heap.objs.size + 1)) (h':=s.heap.push PySem.W.emptyDict) (t':=s.toks) (fun b u q=>Heap.get?_push_of_some _ q) (Nat.le_refl _) ⟨_,e1⟩
  refine I1.laid (a:=s.heap.objs.size + 1) (o:=.ins C s.heap.objs.size []) (t':=s.toks) (fun b u q=>Heap.get?_push_of_some _ q) (Nat.le_of_eq (Heap.size_push _ _)) ?_
  have ne:s.heap.objs.size≠s.heap.objs.size + 1:=Nat.ne_of_lt (Nat.lt_succ_self _)
  refine ⟨by rw [upd_ne ne,upd_same],Nat.zero_le _,ne,e2,fun _=>none,(Heap.Ns1.of_empty e3).at fun o q=>Heap.get?_push_of_some _ q,fun _=>True.intro,fun y hy=>absurd rfl hy⟩
theorem attr_of {prog:Program} {w:World} {env:Env} {e:Expr} {f:Str} {pos:Pos} {s:Shared} {Q:Value→Shared→Prop} (hb:attributeBase e f env (eval e env) = eval e env)
    (h:wpAny (model prog w) A (eval e env) (fun o s₁=>wpAny (model prog w) A (getAttr o f true) Q E s₁) E s):wpAny (model prog w) A (eval (.Attribute e f pos) env) Q E s:=
  Attribute_any_ h (by rw [arm_eval_Attribute,hb])
end
def tFld (K:PySem.W.Frag) (ta:TE) (f:Str):TE:=fun σ H Q=>ta σ H fun x H1=>∃ a C dx fs v,x = .ref a∧H1 a = some (.ins C dx fs)∧Cls K C∧NoAttr K C f∧fs.lookup f = some v∧Q v H1
def sFld (K:PySem.W.Frag) (ta tv:TE) (f:Str):TS:=fun D σ H=>tv σ H fun y H1=>ta σ H1 fun x H2=>∃ a C dx fs,x = .ref a∧H2 a = some (.ins C dx fs)∧Cls K C∧NoAttr K C f∧fs.length < 1000∧
  D.nx σ (upd H2 a (.ins C dx (putF f y fs)))
def InOp (X:Cx) (op:Operator) (rd:V→V→Hp→VK→Prop):Prop:=
  ∀ (pins:List (Addr×Obj)) (s:Shared) (σ:St) (H:Hp) (x y:V) (u v:Value) (Q:VK),Inv X pins σ H s→RelV x u→RelV y v→rd x y H Q→wpAny (model X.prog X.w) X.A (inplaceOp op u v) (EP X pins σ Q) X.xe s
def sFldAug (K:PySem.W.Frag) (ta tv:TE) (rd:V→V→Hp→VK→Prop) (f:Str):TS:=fun D σ H=>ta σ H fun x H1=>∃ a C dx fs v,x = .ref a∧H1 a = some (.ins C dx fs)∧Cls K C∧NoAttr K C f∧fs.lookup f = some v∧
  tv σ H1 fun y H2=>rd v y H2 fun z H3=>∃ dx' fs',H3 a = some (.ins C dx' fs')∧fs'.length < 1000∧D.nx σ (upd H3 a (.ins C dx' (putF f z fs')))
section
variable {X:Cx} {o e value:Expr} {f:Str} {pos pos' tpos:Pos} {ta tv:TE}
theorem pe_fld (he:PE X e ta) (hb:attributeBase e f X.env (eval e X.env) = eval e X.env):PE X (.Attribute e f pos) (tFld X.K ta f):=by
  intro pins s σ H Q I h
  refine attr_of hb (thn (he pins s σ H _ I h) fun u s1 ⟨x,H1,I1,rx,a,C,dx,fs,v,ex,ea,c,n,l,q⟩=>?_)
  subst ex
  obtain rfl:u = Value.ref a:=rx
  exact getattr_ok I1 ea c n l fun u' s2 I2 ru=>⟨v,H1,I2,ru,q⟩
theorem ps_fld (ha:PE X o ta) (hv:PE X value tv) (hs:swapsWith value (some (.Attribute o f pos')) pos.line X.env = pure false):PS X (.Assign [.Attribute o f pos'] value pos) (sFld X.K ta tv f):=by
  intro pins s σ H D I h
  refine plainObj_wpAny_Assign_Attribute (thn (hv pins s σ H _ I h) fun u s1 ⟨y,H1,I1,ry,q⟩=>thn (ha pins s1 σ H1 _ I1 q) fun ov s2 ⟨x,H2,I2,rx,a,C,dx,fs,ex,ea,c,n,l,q2⟩=>?_) hs
  subst ex
  obtain rfl:ov = Value.ref a:=rx
  exact setattr_ok I2 ea c n l ry fun s3 I3=>⟨σ,_,I3,q2⟩
theorem ps_fldaug {op:Operator} {rd:V→V→Hp→VK→Prop} (ha:PE X o ta) (hv:PE X value tv) (hop:InOp X op rd):PS X (.AugAssign (.Attribute o f tpos) op value pos) (sFldAug X.K ta tv rd f):=by
  intro pins s σ H D I h
  refine wpAny_AugAssign_AttributeAny (thn (ha pins s σ H _ I h) fun ov s1 ⟨x,H1,I1,rx,a,C,dx,fs,v,ex,ea,c,n,l,q⟩=>?_)
  subst ex
  obtain rfl:ov = Value.ref a:=rx
  refine getattr_ok I1 ea c n l fun u s2 I2 ru=>thn (hv pins s2 σ H1 _ I2 q) fun w3 s3 ⟨y,H2,I3,ry,q3⟩=>thn (hop pins s3 σ H2 v y u w3 _ I3 ru ry q3) fun w4 s4 ⟨z,H3,I4,rz,dx',fs',ea',l',q4⟩=>?_
  exact setattr_ok I4 ea' c n l' rz fun s5 I5=>⟨σ,_,I5,q4⟩
end
section
variable {X:Cx} {pins:List (Addr×Obj)} {σ:St} {H:Hp} {s:Shared} {A:Around} {E:Value→Shared→Prop} {Q:Value→Shared→Prop} {c:Value} {b:Bool}
inductive TyOf (K:PySem.W.Frag) (H:Hp):V→Value→Prop where
  | non:TyOf K H .non (.type "NoneType")
  | bl (x:Bool):TyOf K H (.bl x) (.type "bool")
  | int (i:Int):TyOf K H (.int i) (.type "int")
  | str (x:Str):TyOf K H (.str x) (.type "str")
  | flt (x:UInt64):TyOf K H (.flt x) (.type "float")
  | lst {a:Addr} {xs:List V} (e:H a = some (.lst xs)):TyOf K H (.ref a) (.type "list")
  | frz {a:Addr} {o:Obj} {xs:List V} (e:H a = some (.frz o (.lst xs))):TyOf K H (.ref a) (.type "list")
  | tup {a:Addr} {xs:List V} (e:H a = some (.tup xs)):TyOf K H (.ref a) (.type "tuple")
  | dK {a:Addr} {kvs:List (Key×V)} (e:H a = some (.dK kvs)):TyOf K H (.ref a) (.type "dict")
  | dT {a:Addr} {kvs:List (List Key×V)} (e:H a = some (.dT kvs)):TyOf K H (.ref a) (.type "dict")
  | ins {a C dx:Addr} {fs:List (Str×V)} (e:H a = some (.ins C dx fs)) (cl:Cls K C) (ha:PySem.W.findIn K (.ref C) "__class__" = some (some (.builtin "object.__class__")))
      (hn:PySem.W.specialIn K (.builtin "object.__class__") "__get__" = some (some (.builtin "getset_descriptor.__get__"))) (htk:PySem.W.takesIn K (.builtin "object.__class__") = some true)
      (hm:PySem.W.mroIn K C (.type "object") = some true):TyOf K H (.ref a) (.ref C)
theorem isinst_ok {x:V} {u t:Value} (I:Inv X pins σ H s) (rx:RelV x u) (ty:TyOf X.K H x t) (e:PySem.W.kitOne X.K t c = some b) (h:∀ tk,Q (.bool b) { s with toks:=tk }) :
    wpAny (model X.prog X.w) A (call (.builtin "isinstance") [u,c]) Q E s:=by
  cases ty with
  | non=>cases (show u = Value.none from rx); exact PySem.W.kia_one PySem.W.kitx_none I.kIn True.intro e (fun z=>nomatch z) h
  | bl y=>cases (show u = Value.bool y from rx); exact PySem.W.kia_one PySem.W.kitx_bool I.kIn True.intro e (fun z=>nomatch z) h
  | int i=>obtain ⟨t,q⟩:=(show ∃ t,u = Value.int i t from rx); cases q; exact PySem.W.kia_one PySem.W.kitx_int I.kIn True.intro e (fun z=>nomatch z) h
  | str y=>obtain ⟨t,q⟩:=(show ∃ t,u = Value.str y t from rx); cases q; exact PySem.W.kia_one PySem.W.kitx_str I.kIn True.intro e (fun z=>nomatch z) h
  | flt y=>obtain ⟨t,q⟩:=(show ∃ t,u = Value.float y t from rx); cases q; exact PySem.W.kia_one PySem.W.kitx_float I.kIn True.intro e (fun z=>nomatch z) h
  | @lst a xs ea=>
    cases (show u = Value.ref a from rx)
    obtain ⟨_,_,n,_,h1⟩:=(show ObjOk X.prog X.w H s.heap a (.lst xs) from I.hok a _ ea)
    exact PySem.W.kia_one PySem.W.kitx_list I.kIn ⟨_,h1,rfl⟩ e (fun z=>nomatch z) h
  | @frz a ob xs ea=>
    cases (show u = Value.ref a from rx)
    obtain ⟨_,_,_,n,_,h1⟩:=(show ObjOk X.prog X.w H s.heap a (.frz ob (.lst xs)) from I.hok a _ ea)
    exact PySem.W.kia_one PySem.W.kitx_list I.kIn ⟨_,h1,rfl⟩ e (fun z=>nomatch z) h
  | @tup a xs ea=>
    cases (show u = Value.ref a from rx)
    obtain ⟨_,_,_,p⟩:=(show ObjOk X.prog X.w H s.heap a (.tup xs) from I.hok a _ ea)
    obtain ⟨o,h1,h2,_⟩:=p
    exact PySem.W.kia_one PySem.W.kitx_tuple I.kIn ⟨o,h1,h2⟩ e (fun z=>nomatch z) h
  | @dK a kvs ea=>
    cases (show u = Value.ref a from rx)
    obtain ⟨_,_,vs,_,p⟩:=(show ObjOk X.prog X.w H s.heap a (.dK kvs) from I.hok a _ ea)
    obtain ⟨o,es,ep,h1,h2,_⟩:=p
    exact PySem.W.kia_one PySem.W.kitx_dict I.kIn ⟨o,h1,h2.1⟩ e (fun z=>nomatch z) h
  | @dT a kvs ea=>
    cases (show u = Value.ref a from rx)
    obtain ⟨_,_,xs,_,o,es,ep,h1,h2,_⟩:=(show ObjOk X.prog X.w H s.heap a (.dT kvs) from I.hok a _ ea)
    exact PySem.W.kia_one PySem.W.kitx_dict I.kIn ⟨o,h1,h2.1⟩ e (fun z=>nomatch z) h
  | @ins a C dx fs ea cl ha hn htk hm=>
    cases (show u = Value.ref a from rx)
    obtain ⟨mA,O,_⟩:=ins_get I.hok ea
    obtain ⟨od,J,_⟩:=O.look
    exact PySem.W.kia_one (PySem.W.kitx_own (cl.get _) cl.hd ha hn htk hm) I.kIn J e (fun z=>nomatch z) h
end
end L2
namespace L2
open PySem PySem.Spec PyProof.Rows
structure Room (k:Nat) (A:Around):Prop where
  hd:A.handled = none
  dp:A.depth + 3 * k + 5 < recursionLimit
  un:A.units + 16 * k + 200 < cLine
theorem Room.mono {j k:Nat} {A:Around} (r:Room k A) (h:j≤k):Room j A:=⟨r.hd,by have:=r.dp; omega,by have:=r.un; omega⟩
theorem Room.deeper {k:Nat} {A:Around} (r:Room (k + 1) A) (env:Env):Room k (A.deeper env):=
  ⟨r.hd,by have:=r.dp; show A.depth + 1 + 3 * k + 5 < _; omega,by have:=r.un; show A.units + 3 + 16 * k + 200 < _; omega⟩
theorem Room.in1 {k:Nat} {A:Around} (r:Room (k + 1) A):Room k A.in1:=
  ⟨r.hd,by have:=r.dp; show A.depth + 3 * k + 5 < _; omega,by have:=r.un; show A.units + 1 + 16 * k + 200 < _; omega⟩
theorem make_depth {A:Around} {C:Addr} {us:List Value} {kw:List (Str×Value)}:(A.under (.builtin "type.__call__" ⟨.ref C :: us,kw⟩)).depth = A.depth + 1:=by
  first | rfl | simp [Around.under,Code.weight,Code.isCreation,Code.isGuard,Code.isCaller,Code.frames,Code.isFrame,guardIds]
theorem make_units {A:Around} {C:Addr} {us:List Value} {kw:List (Str×Value)}:(A.under (.builtin "type.__call__" ⟨.ref C :: us,kw⟩)).units = A.units + 1:=by
  first | rfl | simp [Around.under,Code.cUnits,Code.frames,Code.isFrame]
theorem Room.make {k:Nat} {A:Around} (r:Room (k + 1) A) (C:Addr) (us:List Value) (kw:List (Str×Value)):Room k (A.under (.builtin "type.__call__" ⟨.ref C :: us,kw⟩)):=
  ⟨r.hd,by have:=r.dp; rw [make_depth]; omega,by have:=r.un; rw [make_units]; omega⟩
theorem Room.depth {k:Nat} {A:Around} (r:Room k A):A.depth < recursionLimit:=by have:=r.dp; omega
theorem Room.units {k:Nat} {A:Around} (r:Room k A):A.units + 64 < cLine:=by have:=r.un; omega
def tNil:TA:=fun _ H Q=>Q [] H
def tCons (ta:TE) (tr:TA):TA:=fun σ H Q=>ta σ H fun x H1=>tr σ H1 fun xs H2=>Q (x :: xs) H2
section
variable {X:Cx} {e:Expr} {es:List Expr} {te:TE} {t:TA} {pos:Pos}
theorem pa_nil:PA X [] tNil:=fun _ _ _ _ H Q I h=>Calls.spliced_nil ⟨[],H,I,.nil,h⟩
theorem pa_cons (ha:PE X e te) (hr:PA X es t) (hs:starEach (e :: es) X.env = (false,eval e X.env) :: starEach es X.env:=by rfl):PA X (e :: es) (tCons te t):=by
  intro pos pins s σ H Q I h
  rw [hs]
  show wpAny _ _ (spliced ((false,eval e X.env) :: backTo pos (starEach es X.env))) _ _ s
  refine Calls.spliced_cons (thn (ha pins s σ H _ I h) fun u s1 ⟨x,H1,I1,r1,q1⟩=>?_)
  exact thn (hr pos pins s1 σ H1 _ I1 q1) fun us s2 ⟨xs,H2,I2,r2,q2⟩=>⟨x :: xs,H2,I2,.cons r1 r2,q2⟩
def tTup (t:TA):TE:=fun σ H Q=>t σ H fun xs H1=>xs.length≤sizeLine∧∀ p,H1 p = none→Q (.ref p) (upd H1 p (.tup xs))
def tLst (t:TA):TE:=fun σ H Q=>t σ H fun xs H1=>xs.length≤sizeLine∧∀ p,H1 p = none→Q (.ref p) (upd H1 p (.lst xs))
theorem pe_tup {x1} (h:PA X es t):PE X (.Tuple es x1 pos) (tTup t):=by
  intro pins s σ H Q I hq
  refine wpAny_Tuple_spliced (thn (h pos pins s σ H _ I hq) fun us s1 ⟨xs,H1,I1,r,z,q⟩=>⟨by rw [← r.length]; exact z,?_⟩)
  have hf:H1 s1.heap.objs.size = none:=I1.hok.fresh (Nat.le_refl _)
  refine ⟨.ref s1.heap.objs.size,upd H1 s1.heap.objs.size (.tup xs),I1.laid (t':=s1.toks) (fun b u e=>Heap.get?_push_of_some _ e) (Nat.le_refl _) ?_,rfl,q _ hf⟩
  exact ⟨z,us,r,⟨_,Heap.get?_push_size _ rfl,rfl,_,rfl⟩⟩
theorem pe_lst (h:PA X es t):PE X (.List es pos) (tLst t):=by
  intro pins s σ H Q I hq
  refine wpAny_List_spliced (thn (h pos pins s σ H _ I hq) fun us s1 ⟨xs,H1,I1,r,z,q⟩=>⟨by rw [← r.length]; exact z,?_⟩)
  have hf:H1 s1.heap.objs.size = none:=I1.hok.fresh (Nat.le_refl _)
  refine ⟨.ref s1.heap.objs.size,upd H1 s1.heap.objs.size (.lst xs),I1.laid (t':=s1.toks) (fun b u e=>Heap.get?_push_of_some _ e) (Nat.le_refl _) ?_,rfl,q _ hf⟩
  exact ⟨z,us,0,r,Heap.get?_push_size _ rfl⟩
end
abbrev Sp:=List V→Hp→VK→XK→Prop
abbrev CXT:=List Env→Hp→Shared→XK→Value→Shared→Prop
structure Env0 (P:Program) (w:World) (K:PySem.W.Frag) (mg:Str→Option Value) (base:Heap) (A:Around) (outer:List Env) (s:Shared) (H:Hp):Prop where
  frames:A.frames = some outer
  mod:Mod K mg base
  bs:∀ b o,base.get? b = some o→s.heap.get? b = some o∧H b = none
  bsz:base.objs.size≤s.heap.objs.size
  funs:s.heap.FunFrames base outer
  frf:∀ b∈frs outer,H b = none
  hok:HOk P w H s.heap
  bare:AllBare s.gens
def CE (outer:List Env) (P:Program) (w:World) (H:Hp) (s:Shared) (Q:VK) (u:Value) (s':Shared):Prop:=
  ∃ v H',s'.os = s.os∧AllBare s'.gens∧Un (frs outer) [] H H' s.heap s'.heap∧HOk P w H' s'.heap∧RelV v u∧Q v H'
def CR (CX:CXT) (outer:List Env) (P:Program) (w:World) (H:Hp) (s:Shared) (Q:VK) (E:XK) (r:Result) (s':Shared):Prop:=
  match r with
  | .ok (.ret u)=>CE outer P w H s Q u s'
  | .ok _=>False
  | .error e=>CX outer H s E e s'
structure FnOk (P:Program) (w:World) (K:PySem.W.Frag) (mg:Str→Option Value) (base:Heap) (CX:CXT) (k:Nat) (f:Addr) (fd:FuncData) (ps:List Str) (sp:Sp):Prop where
  len:∀ vs H Q E,sp vs H Q E→vs.length = ps.length
  run:∀ (A:Around) (outer:List Env) (s:Shared) (H:Hp) (args:Args) (us:List Value) (vs:List V) (Q:VK) (E:XK),Room k A→Env0 P w K mg base A outer s H→BindsTo s fd args (ps.zip us)→Vals vs us→sp vs H Q E→
    codeAny (model P w) A (.call (.ref f) args) (CR CX outer P w H s Q E) s
theorem FnOk.mono {P:Program} {w:World} {K:PySem.W.Frag} {mg:Str→Option Value} {base:Heap} {CX:CXT} {j k:Nat} {f:Addr} {fd:FuncData} {ps:List Str} {sp:Sp} (F:FnOk P w K mg base CX j f fd ps sp) (h:j≤k) :
    FnOk P w K mg base CX k f fd ps sp:=⟨F.len,fun A outer s H args us vs Q E hr=>F.run A outer s H args us vs Q E (hr.mono h)⟩
theorem FnOk.imp {P:Program} {w:World} {K:PySem.W.Frag} {mg:Str→Option Value} {base:Heap} {CX:CXT} {k:Nat} {f:Addr} {fd:FuncData} {ps:List Str} {sp sp':Sp} (F:FnOk P w K mg base CX k f fd ps sp)
    (h:∀ vs H Q E,sp' vs H Q E→sp vs H Q E):FnOk P w K mg base CX k f fd ps sp':=
  ⟨fun vs H Q E q=>F.len vs H Q E (h _ _ _ _ q),fun A outer s H args us vs Q E hr he hb hv hs=>F.run A outer s H args us vs Q E hr he hb hv (h _ _ _ _ hs)⟩
theorem Env0.make {P:Program} {w:World} {K:PySem.W.Frag} {mg:Str→Option Value} {base:Heap} {A:Around} {outer:List Env} {s:Shared} {H:Hp} (e:Env0 P w K mg base A outer s H) (C:Addr) (us:List Value) (kw:List (Str×Value)) :
    Env0 P w K mg base (A.under (.builtin "type.__call__" ⟨.ref C :: us,kw⟩)) outer s H:=⟨by first | exact e.frames | (simpa [Around.under,Code.envs,Code.isFrame,pushEnvs] using e.frames),e.mod,e.bs,e.bsz,e.funs,e.frf,e.hok,e.bare⟩
theorem Env0.in1 {P:Program} {w:World} {K:PySem.W.Frag} {mg:Str→Option Value} {base:Heap} {A:Around} {outer:List Env} {s:Shared} {H:Hp} (e:Env0 P w K mg base A outer s H) :
    Env0 P w K mg base A.in1 outer s H:=⟨e.frames,e.mod,e.bs,e.bsz,e.funs,e.frf,e.hok,e.bare⟩
section
variable {X:Cx} {pins:List (Addr×Obj)} {σ:St} {H:Hp} {s s':Shared}
theorem Inv.env0 (I:Inv X pins σ H s):Env0 X.prog X.w X.K X.mg X.base X.A X.stack s H:=
  ⟨I.ok.frames,I.ok.mod,I.bs,Nat.le_trans I.ok.bsz I.sz,I.stack,I.stkFree,I.hok,I.bare⟩
theorem Inv.after {Q:VK} {u:Value} (I:Inv X pins σ H s) (h:CE X.stack X.prog X.w H s Q u s'):EP X pins σ Q u s':=by
  obtain ⟨v,H',os,bare,un,hok,r,q⟩:=h
  obtain ⟨hh,g,d,t,os'⟩:=s'
  obtain rfl:os' = s.os:=os
  exact ⟨v,H',I.call (h':=hh) (g':=g) (d':=d) (t':=t) (ch:=[]) un hok bare (fun b z=>absurd z (by simp)),r,q⟩
end
def tCall (sp:Sp) (dvs:List V) (E:XK) (t:TA):TE:=fun σ H Q=>t σ H fun vs H1=>sp (vs ++ dvs) H1 Q E
def tMeth (C:Addr) (m:Str) (sp:Sp) (dvs:List V) (E:XK) (ta:TE) (t:TA):TE:=fun σ H Q=>ta σ H fun x H1=>∃ a dx fs,x = .ref a∧H1 a = some (.ins C dx fs)∧fs.lookup m = none∧
  t σ H1 fun vs H2=>sp (x :: (vs ++ dvs)) H2 Q E
def tMake (C:Addr) (sp:Sp) (dvs:List V) (E:XK) (t:TA):TE:=fun σ H Q=>t σ H fun vs H1=>∀ x dx,H1 x = none→H1 dx = none→dx≠x→
  sp (.ref x :: (vs ++ dvs)) (upd (upd H1 dx (.own x)) x (.ins C dx [])) (fun v H2=>v = .non∧Q (.ref x) H2) E
def Binds (K:PySem.W.Frag) (fd:FuncData) (ps:List Str) (ds:List Value):Prop:=
  ∀ (s:Shared) (us:List Value),K.In s.heap→(us ++ ds).length = ps.length→BindsTo s fd ⟨us,[]⟩ (ps.zip (us ++ ds))
theorem Binds.all {K:PySem.W.Frag} {fd:FuncData} {ps:List Str} (h:∀ us:List Value,us.length = ps.length→bindArgs fd ⟨us,[]⟩ = pure (ps.zip us)):Binds K fd ps []:=fun s us _ hl=>by
  rw [List.append_nil] at hl ⊢
  exact .of_eq (h us hl)
def Passes (CX:CXT) (X:Cx) (E:XK):Prop:=∀ (pins:List (Addr×Obj)) (σ:St) (H:Hp) (s:Shared) (e:Value) (s':Shared),Inv X pins σ H s→CX X.stack H s E e s'→X.xe e s'
section
variable {X:Cx} {CX:CXT} {k:Nat} {f C:Addr} {fd:FuncData} {ps:List Str} {sp:Sp} {dvs:List V} {ds:List Value} {E:XK} {x m:Str} {p pos apos:Pos} {e o:Expr} {es:List Expr} {ta:TE} {t:TA}
theorem run_fn {pins:List (Addr×Obj)} {σ:St} {H:Hp} {s:Shared} {Q:VK} {us:List Value} {vs:List V} (F:FnOk X.prog X.w X.K X.mg X.base CX k f fd ps sp) (hr:Room k X.A) (hb:Binds X.K fd ps ds) (hd:Vals dvs ds) (hx:Passes CX X E)
    (I:Inv X pins σ H s) (r:Vals vs us) (h:sp (vs ++ dvs) H Q E):wpAny (model X.prog X.w) X.A (call (.ref f) us) (EP X pins σ Q) X.xe s:=by
  have r2:Vals (vs ++ dvs) (us ++ ds):=r.append hd
  have hl:(us ++ ds).length = ps.length:=by rw [← r2.length]; exact F.len _ _ _ _ h
  refine wpAny_call (codeAny_mono (F.run X.A X.stack s H ⟨us,[]⟩ (us ++ ds) (vs ++ dvs) Q E hr I.env0 (hb s us I.kIn hl) r2 h) fun r s' hq=>?_)
  cases r with
  | error e=>exact hx pins σ H s e s' I hq
  | ok fl=>
    cases fl with
    | ret u=>exact I.after hq
    | next=>exact False.elim hq
    | brk=>exact False.elim hq
    | cont=>exact False.elim hq
theorem pe_call (F:FnOk X.prog X.w X.K X.mg X.base CX k f fd ps sp) (hr:Room k X.A) (hg:Gl X x) (hm:X.mg x = some (.ref f)) (hk:PySem.W.keepIn X.K (.ref f) = true) (hb:Binds X.K fd ps ds) (hd:Vals dvs ds) (hx:Passes CX X E)
    (ha:PA X (e :: es) t) (hdb:(x == ("__debug__":Str)) = false:=by decide) (he:starEach (e :: es) X.env = (false,eval e X.env) :: starEach es X.env:=by rfl) (hpl:(backTo pos (starEach es X.env)).any (·.1) = false:=by rfl) :
    PE X (.Call (.Name x p) (e :: es) [] pos) (tCall sp dvs E t):=by
  intro pins s σ H Q I h
  refine wpAny_Call_Name_kw (ld_glob I hg hm ?_ hdb)
  refine PySem.W.callWith_K (h₀:=X.base) I.ok.mod.kin hk (thn (ha pos pins s σ H _ I h) fun us s1 ⟨vs,H1,I1,r,q⟩=>⟨I1.kIn,?_⟩) he hpl
  exact run_fn F hr hb hd hx I1 r q
theorem pe_call0 (F:FnOk X.prog X.w X.K X.mg X.base CX k f fd ps sp) (hr:Room k X.A) (hg:Gl X x) (hm:X.mg x = some (.ref f)) (hk:PySem.W.keepIn X.K (.ref f) = true) (hb:Binds X.K fd ps ds) (hd:Vals dvs ds) (hx:Passes CX X E)
    (hdb:(x == ("__debug__":Str)) = false:=by decide):PE X (.Call (.Name x p) [] [] pos) (tCall sp dvs E tNil):=by
  intro pins s σ H Q I h
  refine wpAny_Call_Name_kw (ld_glob I hg hm ?_ hdb)
  exact PySem.W.callWith_K0 I.kIn hk (run_fn (us:=[]) F hr hb hd hx I .nil h)
theorem pe_meth {pl:Sem Bool} (he:PE X o ta) (c:Cls X.K C) (hm:Meth X.K C m f) (F:FnOk X.prog X.w X.K X.mg X.base CX k f fd ps sp) (hr:Room k X.A) (hb:Binds X.K fd ps ds) (hd:Vals dvs ds) (hx:Passes CX X E) (ha:PA X (e :: es) t)
    (hst:starEach (e :: es) X.env = (false,eval e X.env) :: starEach es X.env:=by rfl) (hpl:(backTo pos (starEach es X.env)).any (·.1) = false:=by rfl)
    (ht:eval (.Call (.Attribute o m apos) (e :: es) [] pos) X.env = (do
      let ov ← eval o X.env
      standAt apos.atName
      let (f,first) ← holding [ov] (getMethod ov m pl)
      callWith pos f first (backTo pos (starEach (e :: es) X.env)) (backToKw pos (keywordEach [] X.env))):=by rfl) :
    PE X (.Call (.Attribute o m apos) (e :: es) [] pos) (tMeth C m sp dvs E ta t):=by
  intro pins s σ H Q I h
  refine PySem.W.methodCall_KW (pl:=pl) (thn (he pins s σ H _ I h) fun u s1 ⟨x,H1,I1,rx,a,dx,fs,ex,ea,l,q⟩=>?_) ht
  subst ex
  obtain rfl:u = Value.ref a:=rx
  refine getmeth_ok I1 ea c hm l ?_
  refine PySem.W.callWith_K (first:=[.ref a]) (h₀:=X.base) I.ok.mod.kin hm.kp (thn (ha pos pins s1 σ H1 _ I1 q) fun us s2 ⟨vs,H2,I2,r,q2⟩=>⟨I2.kIn,?_⟩) hst hpl
  exact run_fn (us:=.ref a :: us) (vs:=.ref a :: vs) F hr hb hd hx I2 (.cons rfl r) q2
theorem pe_meth0 {pl:Sem Bool} (he:PE X o ta) (c:Cls X.K C) (hm:Meth X.K C m f) (F:FnOk X.prog X.w X.K X.mg X.base CX k f fd ps sp) (hr:Room k X.A) (hb:Binds X.K fd ps ds) (hd:Vals dvs ds) (hx:Passes CX X E)
    (ht:eval (.Call (.Attribute o m apos) [] [] pos) X.env = (do
      let ov ← eval o X.env
      standAt apos.atName
      let (f,first) ← holding [ov] (getMethod ov m pl)
      callWith pos f first (backTo pos (starEach [] X.env)) (backToKw pos (keywordEach [] X.env))):=by rfl) :
    PE X (.Call (.Attribute o m apos) [] [] pos) (tMeth C m sp dvs E ta tNil):=by
  intro pins s σ H Q I h
  refine PySem.W.methodCall_KW (pl:=pl) (thn (he pins s σ H _ I h) fun u s1 ⟨x,H1,I1,rx,a,dx,fs,ex,ea,l,q⟩=>?_) ht
  subst ex
  obtain rfl:u = Value.ref a:=rx
  refine getmeth_ok I1 ea c hm l ?_
  exact PySem.W.callWith_K0 (first:=[.ref a]) I1.kIn hm.kp (run_fn (us:=[.ref a]) (vs:=[.ref a]) F hr hb hd hx I1 (.cons rfl .nil) q)
structure Mk (K:PySem.W.Frag) (C f:Addr):Prop where
  makes:PySem.W.makesIn K C = true
  init:PySem.W.findIn K (.ref C) "__init__" = some (some (.ref f))
  fn:PySem.W.isFn K (.ref f) = true
  kp:PySem.W.keepIn K (.ref C) = true
theorem run_make {pins:List (Addr×Obj)} {σ:St} {H:Hp} {s:Shared} {Q:VK} {us:List Value} {vs:List V} (M:Mk X.K C f) (F:FnOk X.prog X.w X.K X.mg X.base CX k f fd ps sp) (hr:Room (k + 1) X.A) (hb:Binds X.K fd ps ds) (hd:Vals dvs ds)
    (hx:Passes CX X E) (I:Inv X pins σ H s) (r:Vals vs us)
    (h:∀ x dx,H x = none→H dx = none→dx≠x→sp (.ref x :: (vs ++ dvs)) (upd (upd H dx (.own x)) x (.ins C dx [])) (fun v H2=>v = .non∧Q (.ref x) H2) E) :
    wpAny (model X.prog X.w) X.A (call (.ref C) us) (EP X pins σ Q) X.xe s:=by
  have hq:=h (s.heap.objs.size + 1) s.heap.objs.size (I.hok.fresh (Nat.le_succ _)) (I.hok.fresh (Nat.le_refl _)) (Nat.ne_of_lt (Nat.lt_succ_self _))
  have I2:=Inv.made (C:=C) I
  have r2:Vals (V.ref (s.heap.objs.size + 1) :: (vs ++ dvs)) (Value.ref (s.heap.objs.size + 1) :: (us ++ ds)):=.cons rfl (r.append hd)
  have hl:(Value.ref (s.heap.objs.size + 1) :: us ++ ds).length = ps.length:=by
    have e:=r2.length
    rw [F.len _ _ _ _ hq] at e
    exact e.symm
  refine wpAny_call (make_map (f:=f) I.kIn M.makes M.init (beq_iff_eq.mp M.fn) (codeAny_mono (F.run _ X.stack _ _ ⟨Value.ref (s.heap.objs.size + 1) :: us,[]⟩ (Value.ref (s.heap.objs.size + 1) :: (us ++ ds)) _ _ E (hr.make C us [])
    (I2.env0.make C us []) (hb _ (Value.ref (s.heap.objs.size + 1) :: us) I2.kIn hl) r2 hq) fun r s' hq'=>?_))
  cases r with
  | error e=>exact hx pins σ _ _ e s' I2 hq'
  | ok fl=>
    cases fl with
    | ret u=>
      obtain ⟨v,H',I3,rv,ev,q3⟩:=I2.after hq'
      subst ev
      exact ⟨rv,⟨V.ref (s.heap.objs.size + 1),H',I3,rfl,q3⟩⟩
    | next=>exact False.elim hq'
    | brk=>exact False.elim hq'
    | cont=>exact False.elim hq'
theorem pe_make (M:Mk X.K C f) (F:FnOk X.prog X.w X.K X.mg X.base CX k f fd ps sp) (hr:Room (k + 1) X.A) (hg:Gl X x) (hm:X.mg x = some (.ref C)) (hb:Binds X.K fd ps ds) (hd:Vals dvs ds) (hx:Passes CX X E)
    (ha:PA X (e :: es) t) (hdb:(x == ("__debug__":Str)) = false:=by decide) (he:starEach (e :: es) X.env = (false,eval e X.env) :: starEach es X.env:=by rfl) (hpl:(backTo pos (starEach es X.env)).any (·.1) = false:=by rfl) :
    PE X (.Call (.Name x p) (e :: es) [] pos) (tMake C sp dvs E t):=by
  intro pins s σ H Q I h
  refine wpAny_Call_Name_kw (ld_glob I hg hm ?_ hdb)
  refine PySem.W.callWith_K (h₀:=X.base) I.ok.mod.kin M.kp (thn (ha pos pins s σ H _ I h) fun us s1 ⟨vs,H1,I1,r,q⟩=>⟨I1.kIn,?_⟩) he hpl
  exact run_make M F hr hb hd hx I1 r q
end
section
variable {X:Cx} {CX:CXT} {k:Nat} {f C:Addr} {fd:FuncData} {ps ks:List Str} {sp:Sp} {E:XK} {x m:Str} {p pos apos kpos:Pos} {e o:Expr} {es:List Expr} {kws:List Keyword} {te ta:TE} {t tk:TA} {nm:Option Str}
structure KBinds (K:PySem.W.Frag) (fd:FuncData) (ps ks:List Str) (g:List Value→List Value→List Value) (gV:List V→List V→List V):Prop where
  to:∀ (s:Shared) (us ws:List Value),K.In s.heap→(g us ws).length = ps.length→BindsTo s fd ⟨us,ks.zip ws⟩ (ps.zip (g us ws))
  rel:∀ {vs:List V} {us:List Value} {zs:List V} {ws:List Value},Vals vs us→Vals zs ws→Vals (gV vs zs) (g us ws)
variable {g:List Value→List Value→List Value} {gV:List V→List V→List V}
end
structure FnScope (N P:List Str) (sc:Scope):Prop where
  kind:sc.kind = .function
  co:sc.isCoroutine = false
  gen:sc.isGenerator = false
  nd:N.Nodup
  pre:N.take P.length = P
  par:∀ x∈P,sc.names.lookup x = some .local∨sc.names.lookup x = some .cell
  nofree:∀ y∈sc.names,y.2≠.free
theorem bindL_out {kindOf:Str→Option NameKind} {x:Str}:∀ {binds:List (Str×Value)} {m:Str→Option Value},(∀ v,(x,v) ∉ binds)→bindL kindOf binds m x = m x
  | [],_,_=>rfl
  | (n,v) :: r,m,h=>by
    unfold bindL
    rw [bindL_out fun w hw=>h w (List.mem_cons_of_mem _ hw)]
    split
    · have:x≠n:=by rintro rfl; exact h v List.mem_cons_self
      simp [this]
    · rfl
theorem bindC_out {kindOf:Str→Option NameKind} {x:Str}:∀ {binds:List (Str×Value)} {m:Str→Option Value},(∀ v,(x,v) ∉ binds)→bindC kindOf binds m x = m x
  | [],_,_=>rfl
  | (n,v) :: r,m,h=>by
    unfold bindC
    rw [bindC_out fun w hw=>h w (List.mem_cons_of_mem _ hw)]
    split
    · rfl
    · have:x≠n:=by rintro rfl; exact h v List.mem_cons_self
      simp [this]
theorem bindL_get {kindOf:Str→Option NameKind} {x:Str} {v:Value}:∀ {P:List Str} {vs:List Value} {i:Nat} {m:Str→Option Value},P.Nodup→P[i]? = some x→vs[i]? = some v→kindOf x = some .local→
    bindL kindOf (P.zip vs) m x = some v
  | [],_,_,_,_,h,_,_=>by simp at h
  | _ :: _,[],_,_,_,_,h,_=>by simp at h
  | p :: P,w :: vs,0,m,nd,h1,h2,hk=>by
    simp at h1 h2; subst h1; subst h2
    show bindL kindOf ((p,w) :: P.zip vs) m p = _
    unfold bindL
    rw [bindL_out fun v hv=>(List.nodup_cons.mp nd).1 (List.of_mem_zip hv).1,if_pos hk]
    simp
  | p :: P,w :: vs,i + 1,m,nd,h1,h2,hk=>by
    show bindL kindOf ((p,w) :: P.zip vs) m x = _
    unfold bindL
    exact bindL_get (i:=i) (List.nodup_cons.mp nd).2 (by simpa using h1) (by simpa using h2) hk
theorem bindC_get {kindOf:Str→Option NameKind} {x:Str} {v:Value}:∀ {P:List Str} {vs:List Value} {i:Nat} {m:Str→Option Value},P.Nodup→P[i]? = some x→vs[i]? = some v→kindOf x≠some .local→
    bindC kindOf (P.zip vs) m x = some v
  | [],_,_,_,_,h,_,_=>by simp at h
  | _ :: _,[],_,_,_,_,h,_=>by simp at h
  | p :: P,w :: vs,0,m,nd,h1,h2,hk=>by
    simp at h1 h2; subst h1; subst h2
    show bindC kindOf ((p,w) :: P.zip vs) m p = _
    unfold bindC
    rw [bindC_out fun v hv=>(List.nodup_cons.mp nd).1 (List.of_mem_zip hv).1,if_neg hk]
    simp
  | p :: P,w :: vs,i + 1,m,nd,h1,h2,hk=>by
    show bindC kindOf ((p,w) :: P.zip vs) m x = _
    unfold bindC
    exact bindC_get (i:=i) (List.nodup_cons.mp nd).2 (by simpa using h1) (by simpa using h2) hk
def start (N:List Str) (vs:List V):St:=vs.map some ++ List.replicate (N.length - vs.length) none
def cxOf (CX:CXT) (P:Program) (w:World) (K:PySem.W.Frag) (mg:Str→Option Value) (base:Heap) (N:List Str) (qual:Str) (scope:Scope) (f:Addr) (cd:Value) (A:Around) (outer:List Env) (s:Shared) (H:Hp) (E:XK):Cx where
  prog:=P
  w:=w
  K:=K
  mg:=mg
  base:=base
  A:=A.deeper (envOfC qual scope s.heap.objs.size f cd)
  N:=N
  s₀:=s
  H₀:=H
  env:=envOfC qual scope s.heap.objs.size f cd
  outer:=outer
  stack:=envOfC qual scope s.heap.objs.size f cd :: outer
  ex:=[]
  calm:=true
  fn:=fun _=>true
  pn:=[]
  xe:=fun e s'=>wpAny (model P w) (A.deeper (envOfC qual scope s.heap.objs.size f cd)) (leaving (envOfC qual scope s.heap.objs.size f cd) e) (fun _ s''=>CX outer H s E e s'') (fun e' s''=>CX outer H s E e' s'') s'
theorem cell_has {sc:Scope} {n:Nat} {x:Str} (h:sc.names.lookup x = some .cell):∃ c,(cellsFrom n sc.names []).lookup x = some c:=by
  have q:=PySem.W.cellsFrom_some sc.names n [] (.inl h)
  exact Option.isSome_iff_exists.mp q
theorem inv_start {CX:CXT} {P:Program} {w:World} {K:PySem.W.Frag} {mg:Str→Option Value} {base:Heap} {N ps:List Str} {qual:Str} {scope:Scope} {f:Addr} {cd:Value} {A:Around} {outer:List Env} {s s1:Shared} {H:Hp} {E:XK} {us:List Value} {vs:List V}
    (S:FnScope N ps scope) (hd:A.handled = none) (e0:Env0 P w K mg base A outer s H) (hl:vs.length = ps.length) (r:Vals vs us)
    (x:InCallC s s.heap.objs.size (bindL (envOfC qual scope s.heap.objs.size f cd).kindOf (ps.zip us) fun _=>none) (cellsFrom (s.heap.objs.size + 1) scope.names []) (bindC (envOfC qual scope s.heap.objs.size f cd).kindOf (ps.zip us) fun _=>none) s1) :
    Inv (cxOf CX P w K mg base N qual scope f cd A outer s H E) [] (start N vs) H s1:=by
  have hpl:ps.length≤N.length:=by have:=congrArg List.length S.pre; rw [List.length_take] at this; omega
  obtain ⟨h1,tk,rfl,hk⟩:=x.done
  have noA:∀ b:Addr,b ∉ (cxOf CX P w K mg base N qual scope f cd A outer s H E).ex:=fun b z=>absurd (show b∈([]:List Addr) from z) (by simp)
  refine ⟨⟨e0.mod,S.kind,rfl,rfl,Nat.le_refl _,fun y z c h1 h2=>?_,fun y hy=>?_,fun y c _ h=>?_,fun _=>hd,Around.frames_deeper e0.frames,.inr ⟨rfl,rfl⟩,fun b z=>absurd z (noA b),e0.bs,e0.bsz,fun b _ _=>noA b,fun b z=>absurd z (noA b),e0.funs,e0.frf⟩,
    rfl,e0.bare,Un.kept hk,⟨_,x.toInCall.ns,fun i y v h1 h2 h3=>?_⟩,fun y c h=>⟨_,x.cell y c h⟩,e0.hok.fresh (Nat.le_refl _),fun y c h=>?_,fun p hp=>absurd (show p∈([]:List (Addr×Obj)) from hp) (by simp),e0.hok.kept hk,?_⟩
  · exact name_of_addr x.apart (PySem.mem_of_lookup h1) (PySem.mem_of_lookup h2)
  · have hy:scope.names.lookup y = some .cell∨scope.names.lookup y = some .free:=hy
    rcases hy with hy | hy
    · exact cell_has hy
    · exact absurd rfl (S.nofree _ (PySem.mem_of_lookup hy))
  · exact Nat.le_of_lt (x.above y c (PySem.mem_of_lookup h))
  · have hi:i < vs.length:=by
      unfold start at h2
      by_cases hi:i < vs.length
      · exact hi
      · rw [List.getElem?_append_right (by simpa using hi)] at h2
        rw [List.getElem?_replicate] at h2
        split at h2 <;> cases h2
    have ha:vs[i]? = some v:=by
      unfold start at h2
      rw [List.getElem?_append_left (by simpa using hi),List.getElem?_map] at h2
      cases e:vs[i]? with
      | none=>rw [e] at h2; cases h2
      | some a=>rw [e] at h2; cases h2; rfl
    obtain ⟨u,hu,rv⟩:=r.get ha
    have hp:ps[i]? = some y:=by
      rw [← S.pre,List.getElem?_take_of_lt (by omega)]; exact h1
    have ndP:ps.Nodup:=by rw [← S.pre]; exact S.nd.sublist (List.take_sublist _ _)
    refine ⟨u,rv,?_⟩
    rcases S.par y (List.mem_of_getElem? hp) with k | k
    · exact .inl ⟨k,bindL_get ndP hp hu k⟩
    · obtain ⟨c,e⟩:=cell_has (n:=s.heap.objs.size + 1) k
      refine .inr ⟨.inl k,c,e,?_⟩
      have q:=x.cell y c e
      rw [bindC_get ndP hp hu (by show scope.names.lookup y≠_; rw [k]; decide)] at q
      exact q
  · exact e0.hok.fresh (Nat.le_of_lt (x.above y c (PySem.mem_of_lookup h)))
  · unfold start
    show _ = N.length
    rw [List.length_append,List.length_map,List.length_replicate]
    omega
theorem fn_of {CX:CXT} {P:Program} {w:World} {K:PySem.W.Frag} {mg:Str→Option Value} {base:Heap} {k:Nat} {f:Addr} {name qual:Str} {params:Arguments} {body:List Stmt} {scope:Scope} {dV kV doc pm cdv ct oc:Value} {an od:Option Addr}
    {osl:Array (Option Value)} {N ps:List Str} {sp:Sp} (lk:K.lookup f = some ⟨oc,od,.func (PySem.W.fnOf name qual params body scope dV kV doc pm an cdv ct),osl⟩) (hcd:PySem.W.codeIn K cdv qual = true) (S:FnScope N ps scope)
    (len:∀ vs H Q E,sp vs H Q E→vs.length = ps.length)
    (hbody:∀ (A:Around) (outer:List Env) (s:Shared) (H:Hp) (vs:List V) (Q:VK) (E:XK),Room k (A.deeper (envOfC qual scope s.heap.objs.size f cdv))→sp vs H Q E→
      ∃ t,PSs (cxOf CX P w K mg base N qual scope f cdv A outer s H E) body t∧t { nx:=fun _ H'=>Q .non H',rt:=Q } (start N vs) H) :
    FnOk P w K mg base CX (k + 1) f (PySem.W.fnOf name qual params body scope dV kV doc pm an cdv ct) ps sp:=by
  refine ⟨len,fun A outer s H args us vs Q E hr e0 hb r hsp=>?_⟩
  have hl:=len _ _ _ _ hsp
  have KX:K.In s.heap:=e0.mod.kin.keeps fun b o e=>(e0.bs b o e).1
  have lim:s.heap.NoLimit:=e0.mod.nolimit.keeps fun b o e=>(e0.bs b o e).1
  have hkind:∀ y∈ps.zip us,scope.names.lookup y.1 = some .local∨(scope.names.lookup y.1 = some .cell∧((cellsFrom (s.heap.objs.size + 1) scope.names []).lookup y.1).isSome = true):=fun ⟨n,v⟩ hy=>by
    rcases S.par n (List.of_mem_zip hy).1 with q | q
    · exact .inl q
    · exact .inr ⟨q,PySem.W.cellsFrom_some _ _ _ (.inl q)⟩
  refine codeAny_call_function hr.depth (KX _ _ lk) rfl S.co S.gen rfl (PySem.W.codeRec_of KX hcd) (hb _ _ _ _ ?_)
  refine wpAny_newFunctionEnv_cells S.kind hkind fun env he s1 x=>?_
  subst he
  refine ⟨lim.keeps x.toInCall.keep,codeAny_func ?_⟩
  obtain ⟨t,ht,hq⟩:=hbody A outer s H vs Q E (hr.deeper _) hsp
  have I:Inv (cxOf CX P w K mg base N qual scope f cdv A outer s H E) [] (start N vs) H s1:=inv_start S hr.hd e0 hl r x
  refine wpAny_mono (ht [] s1 (start N vs) H _ I hq) (fun fl s' hs=>?_) fun e s' hs=>hs
  have fin:∀ {σ':St} {H':Hp} {v:V} {u:Value},Inv (cxOf CX P w K mg base N qual scope f cdv A outer s H E) [] σ' H' s'→RelV v u→Q v H'→CE outer P w H s Q u s':=
    fun {σ' H' v u} J rv q=>⟨v,H',J.os,J.bare,J.base,J.hok,rv,q⟩
  cases fl with
  | ret u=>
    obtain ⟨v,σ',H',J,rv,q⟩:=hs
    exact fin J rv q
  | next=>
    obtain ⟨σ',H',J,q⟩:=hs
    exact fin (v:=V.non) (u:=Value.none) J rfl q
  | brk=>
    obtain ⟨_,_,_,q⟩:=hs
    exact False.elim q
  | cont=>
    obtain ⟨_,_,_,q⟩:=hs
    exact False.elim q
end L2
namespace L2
open PySem PySem.Spec PyProof.Rows
section
variable {X:Cx} {x:Str} {p pos:Pos} {e:Expr} {es:List Expr} {t:TA} {id T:String} {r:List V→Hp→VK→Prop}
def tCB (r:List V→Hp→VK→Prop) (t:TA):TE:=fun σ H Q=>t σ H fun vs H1=>r vs H1 Q
theorem pe_callB (hc:CallR X (.builtin id) r) (hg:Gl X x) (hm:X.mg x = none) (hv:bootBuiltins x = some (.builtin id)) (ha:PA X (e :: es) t) (hn:x≠"__name__":=by decide) (hdb:(x == ("__debug__":Str)) = false:=by decide)
    (he:starEach (e :: es) X.env = (false,eval e X.env) :: starEach es X.env:=by rfl) (hpl:(backTo pos (starEach es X.env)).any (·.1) = false:=by rfl):PE X (.Call (.Name x p) (e :: es) [] pos) (tCB r t):=by
  intro pins s σ H Q I h
  refine wpAny_Call_Name_kw (ld_blt I hg hm hv ?_ hn hdb)
  exact PyProof.Rows.callWith_builtin1 (thn (ha pos pins s σ H _ I h) fun us s1 ⟨vs,H1,I1,r1,q1⟩=>hc pins s1 σ H1 vs us Q I1 r1 q1) he hpl
theorem pe_callTy (hc:CallR X (.type T) r) (hg:Gl X x) (hm:X.mg x = none) (hv:bootBuiltins x = some (.type T)) (ha:PA X (e :: es) t) (hn:x≠"__name__":=by decide) (hdb:(x == ("__debug__":Str)) = false:=by decide)
    (he:starEach (e :: es) X.env = (false,eval e X.env) :: starEach es X.env:=by rfl) (hpl:(backTo pos (starEach es X.env)).any (·.1) = false:=by rfl):PE X (.Call (.Name x p) (e :: es) [] pos) (tCB r t):=by
  intro pins s σ H Q I h
  refine wpAny_Call_Name_kw (ld_blt I hg hm hv ?_ hn hdb)
  exact PyProof.Rows.callWith_type1 (thn (ha pos pins s σ H _ I h) fun us s1 ⟨vs,H1,I1,r1,q1⟩=>hc pins s1 σ H1 vs us Q I1 r1 q1) he hpl
end
end L2
namespace HT
open PySem PyProof.Rows
section
open PySem.SeqAt
open PySem.AutoSeq1 (wpAny_loadPart')
open PySem.MeetsSeq PySem.MeetsSeq2 PySem.MeetsSeq3
end
section
variable {prog:Program} {w:World} {A:Around} {E:Value→Shared→Prop} {s:Shared}
def sIx (n d:Nat):Option Int→Nat
  | none=>d
  | some v=>if v < 0 then (v + (n:Int)).toNat else min v.toNat n
theorem sIx_none (n d:Nat):sIx n d none = d:=rfl
theorem sIx_nat (n d k:Nat):sIx n d (some (k:Int)) = min k n:=by
  show (if (k:Int) < 0 then ((k:Int) + (n:Int)).toNat else min (k:Int).toNat n) = min k n
  rw [if_neg (by omega),Int.toNat_natCast]
end
end HT
namespace L2
open PySem PySem.Spec PyProof.Rows
abbrev TO:=St→Hp→(Option Int→Hp→Prop)→Prop
def PO (X:Cx) (e:Option Expr) (t:TO):Prop:=
  ∀ (pins:List (Addr×Obj)) (s:Shared) (σ:St) (H:Hp) (Q:Option Int→Hp→Prop),Inv X pins σ H s→t σ H Q→
    wpAny (model X.prog X.w) X.A (evalPart e X.env) (fun u s'=>∃ o H',Inv X pins σ H' s'∧IsPart u o∧Q o H') X.xe s
def tNoPart:TO:=fun _ H Q=>Q none H
def tPart (t:TE):TO:=fun σ H Q=>t σ H fun x H1=>∃ i,x = .int i∧Q (some i) H1
theorem intsAre_of {ns:List Int}:∀ {us:List Value},Vals (ns.map V.int) us→IntsAre us ns:=by
  induction ns with
  | nil=>intro us r; rw [List.map_nil] at r; cases r; exact .nil
  | cons n ns ih=>
    intro us r
    rw [List.map_cons] at r
    cases r with
    | cons r1 r2=>
      obtain ⟨t,e⟩:=r1
      subst e
      exact .cons n t (ih r2)
section
variable {X:Cx} {e:Expr} {te:TE} {lo hi:Option Expr} {tl th:TO} {pos p2:Pos}
theorem po_none:PO X none tNoPart:=by
  intro pins s σ H Q I h
  rw [evalPart_none]
  exact wpAny_pure ⟨none,H,I,.none,h⟩
theorem po_some (h:PE X e te):PO X (some e) (tPart te):=by
  intro pins s σ H Q I hw
  rw [evalPart_some]
  refine thn (h pins s σ H _ I hw) fun u s1 ⟨x,H1,I1,r1,q1⟩=>?_
  obtain ⟨i,rfl,q⟩:=q1
  obtain ⟨t,rfl⟩:=r1
  exact ⟨some i,H1,I1,.int i t,q⟩
def SlR (X:Cx) (r:V→Option Int→Option Int→Hp→VK→Prop):Prop:=
  ∀ (pins:List (Addr×Obj)) (s:Shared) (σ:St) (H:Hp) (x:V) (v vl vu:Value) (lo hi:Option Int) (sl:Addr) (Q:VK),Inv X pins σ H s→RelV x v→s.heap.IsSliceOf sl vl vu .none→IsPart vl lo→IsPart vu hi→r x lo hi H Q→
    ∃ T id,typeLookup (.type T) "__getitem__" = pure (some (.builtin id))∧s.TypeIs v T∧wpAny (model X.prog X.w) X.A (getItem v (.ref sl)) (EP X pins σ Q) X.xe s
def tSl (r:V→Option Int→Option Int→Hp→VK→Prop) (te:TE) (tl th:TO):TE:=fun σ H Q=>te σ H fun x H1=>tl σ H1 fun l H2=>th σ H2 fun u H3=>r x l u H3 Q
theorem pe_slice {r:V→Option Int→Option Int→Hp→VK→Prop} (hr:SlR X r) (he:PE X e te) (hl:PO X lo tl) (hu:PO X hi th):PE X (.Subscript e (.Slice lo hi none p2) pos) (tSl r te tl th):=by
  intro pins s σ H Q I h
  refine Subscript_ (thn (he pins s σ H _ I h) fun v s1 ⟨x,H1,I1,r1,q1⟩=>?_)
  refine wpAny_Slice (thn (hl pins s1 σ H1 _ I1 q1) fun vl s2 ⟨l,H2,I2,pl,q2⟩=>thn (hu pins s2 σ H2 _ I2 q2) fun vu s3 ⟨u,H3,I3,pu,q3⟩=>?_)
  rw [evalPart_none]
  refine wpAny_pure ?_
  have I4:Inv X pins σ H3 { s3 with heap:=s3.heap.push { cls:=.type "slice",data:=.fields #[vl,vu,.none] } }:=I3.kept (t':=s3.toks) fun b ob q=>Heap.get?_push_of_some _ q
  obtain ⟨T,id,hT,ht,hg⟩:=hr pins { s3 with heap:=s3.heap.push { cls:=.type "slice",data:=.fields #[vl,vu,.none] } } σ H3 x v vl vu l u s3.heap.objs.size Q I4 r1 (Heap.IsSliceOf.new ..) pl pu q3
  show wpAny (model X.prog X.w) X.A (subscriptTail e (.Slice lo hi none p2) v (.ref s3.heap.objs.size)) (EP X pins σ Q) X.xe { s3 with heap:=s3.heap.push { cls:=.type "slice",data:=.fields #[vl,vu,.none] } }
  exact tail_any (ops:=[.ref s3.heap.objs.size,v]) ht hT hg (by with_unfolding_all rfl)
def cutV (xs:List V) (lo hi:Option Int):List V:=(xs.drop (HT.sIx xs.length 0 lo)).take (HT.sIx xs.length xs.length hi - HT.sIx xs.length 0 lo)
theorem cutV_length (xs:List V) (lo hi:Option Int):(cutV xs lo hi).length≤xs.length:=by
  unfold cutV
  rw [List.length_take,List.length_drop]
  omega
theorem Vals.nil_iff {xs:List V} {us:List Value} (r:Vals xs us):us = []↔xs = []:=by
  cases r with
  | nil=>simp
  | cons _ _=>simp
end
end L2
namespace L2
open PySem PySem.Spec PyProof.Rows
def ixN (n:Nat) (i:Int):Option Nat:=if 0≤i then (if i < n then some i.toNat else none) else if -(n:Int)≤i then some (i + n).toNat else none
def atI {α:Type} (xs:List α) (i:Int):Option α:=(ixN xs.length i).bind fun j=>xs[j]?
theorem ixN_seq {n:Nat} {i:Int} {j:Nat} (h:ixN n i = some j):seqIndex? i n = some j∧j < n∧-(n:Int)≤i∧i < n:=by
  unfold ixN at h
  by_cases h0:0≤i
  · rw [if_pos h0] at h
    by_cases h1:i < n
    · rw [if_pos h1] at h
      have e:i.toNat = j:=Option.some.inj h
      exact ⟨by rw [seqIndex_of h0 h1,e],by omega,by omega,h1⟩
    · rw [if_neg h1] at h; cases h
  · rw [if_neg h0] at h
    by_cases h1:-(n:Int)≤i
    · rw [if_pos h1] at h
      have e:(i + n).toNat = j:=Option.some.inj h
      exact ⟨by rw [seqIndex_neg (by omega) h1,e],by omega,h1,by omega⟩
    · rw [if_neg h1] at h; cases h
theorem atI_get {α:Type} {xs:List α} {i:Int} {v:α} (h:atI xs i = some v):∃ j,seqIndex? i xs.length = some j∧xs[j]? = some v∧j < xs.length∧-(xs.length:Int)≤i∧i < xs.length:=by
  unfold atI at h
  cases e:ixN xs.length i with
  | none=>rw [e] at h; cases h
  | some j=>
    rw [e] at h
    obtain ⟨h1,h2,h3,h4⟩:=ixN_seq e
    exact ⟨j,h1,h,h2,h3,h4⟩
theorem atI_nat {α:Type} {xs:List α} {j:Nat} {v:α} (h:xs[j]? = some v):atI xs (j:Int) = some v:=by
  have hj:j < xs.length:=(List.getElem?_eq_some_iff.mp h).1
  have e:ixN xs.length (j:Int) = some j:=by
    unfold ixN
    rw [if_pos (by omega),if_pos (by omega)]; simp
  unfold atI; rw [e]; exact h
def PlainIx (b:Expr):Prop:=∀ o i,subscripted b false o i = operate [o,i] (getItem o i)
def IxR (X:Cx) (r:R2):Prop:=
  ∀ (value slice:Expr) (pins:List (Addr×Obj)) (s:Shared) (σ:St) (H:Hp) (x y:V) (v u:Value) (Q:VK),Inv X pins σ H s→RelV x v→RelV y u→r x y H Q→
    subscripted slice false v u = operate [v,u] (getItem v u)→wpAny (model X.prog X.w) X.A (subscriptTail value slice v u) (EP X pins σ Q) X.xe s
def MtR (X:Cx) (id:String) (r:V→List V→Hp→VK→Prop):Prop:=
  ∀ (pins:List (Addr×Obj)) (s:Shared) (σ:St) (H:Hp) (x:V) (xs:List V) (v:Value) (us:List Value) (Q:VK),Inv X pins σ H s→RelV x v→Vals xs us→r x xs H Q→
    wpAny (model X.prog X.w) X.A (call (.builtin id) (v :: us)) (EP X pins σ Q) X.xe s
section
variable {X:Cx} {a b:Expr} {ta tb:TE} {pos:Pos}
theorem pe_ix {r:R2} (hr:IxR X r) (ha:PE X a ta) (hb:PE X b tb) (hs:PlainIx b):PE X (.Subscript a b pos) (tOp r ta tb):=by
  intro pins s σ H Q I h
  exact Subscript_ (binT ha hb I h fun v u s2 x y H2 I2 rx ry q=>hr a b pins s2 σ H2 x y v u Q I2 rx ry q (hs _ _))
def rIxL (K:PySem.W.Frag):R2:=fun x y H Q=>∃ p xs i v,x = .ref p∧y = .int i∧SqL K H p xs∧atI xs i = some v∧Q v H
def rIxT (K:PySem.W.Frag):R2:=fun x y H Q=>∃ p xs i v,x = .ref p∧y = .int i∧SqT K H p xs∧atI xs i = some v∧Q v H
def rIxS:R2:=fun x y H Q=>∃ z i c,x = .str z∧y = .int i∧z.length≤sizeLine∧atI z.cps.toList i = some c∧Q (.str ⟨#[c]⟩) H
theorem ix_list:IxR X (rIxL X.K):=by
  intro value slice pins s σ H x y v u Q I rx ry h hs
  obtain ⟨p,xs,i,z,rfl,rfl,hq,he,q⟩:=h
  cases rx
  obtain ⟨t,rfl⟩:=ry
  obtain ⟨its,r,pl,hz⟩:=I.list hq
  obtain ⟨j,h1,h2,h3,h4,h5⟩:=atI_get he
  obtain ⟨w,ew,rw'⟩:=r.get h2
  have hl:=r.length
  have hn:=line63
  have fin:EP X pins σ Q w s:=⟨z,H,I,rw',q⟩
  by_cases h0:0≤i
  · have hj:i.toNat = j:=by
      rw [seqIndex_of h0 h5] at h1
      exact Option.some.inj h1
    exact item_listR pl.isList h0 (by omega) (by rw [hj]; simpa using ew) fin hs
  · have hj:(i + (its.toArray.size:Int)).toNat = j:=by
      rw [seqIndex_neg (by omega) h4] at h1
      rw [List.size_toArray,← hl]
      exact Option.some.inj h1
    exact subscriptTail_builtinR (x:=w) pl.isList.typeIs slot_list_getitem.lookup
      (wpAny_getItem_list_neg (Q:=fun r s'=>r = w∧EP X pins σ Q r s') pl.isList (by omega) (by rw [List.size_toArray] <;> omega) (by omega) (by rw [hj]; simpa using ew) ⟨rfl,fin⟩) hs
theorem ix_tup:IxR X (rIxT X.K):=by
  intro value slice pins s σ H x y v u Q I rx ry h hs
  obtain ⟨p,xs,i,z,rfl,rfl,hq,he,q⟩:=h
  cases rx
  obtain ⟨t,rfl⟩:=ry
  obtain ⟨its,r,pl,hz⟩:=I.tuple hq
  obtain ⟨j,h1,h2,h3,h4,h5⟩:=atI_get he
  obtain ⟨w,ew,rw'⟩:=r.get h2
  have hl:=r.length
  have hn:=line63
  have fin:EP X pins σ Q w s:=⟨z,H,I,rw',q⟩
  exact subscriptTail_builtinR (x:=w) pl.typeIs slot_tuple_getitem.lookup
    (getItem_tuple (j:=j) (Q:=fun r s'=>r = w∧EP X pins σ Q r s') pl (by omega) (by omega) (by rw [List.size_toArray,← hl]; exact h1) (by simpa using ew) ⟨rfl,fin⟩) hs
theorem ix_str:IxR X rIxS:=by
  intro value slice pins s σ H x y v u Q I rx ry h hs
  obtain ⟨z,i,c,rfl,rfl,hz,he,q⟩:=h
  obtain ⟨t,rfl⟩:=rx
  obtain ⟨t',rfl⟩:=ry
  obtain ⟨j,h1,h2,h3,h4,h5⟩:=atI_get he
  have hl:z.cps.toList.length = z.length:=by simp [Str.length]
  rw [hl] at h1 h4 h5
  have hn:=line63
  exact tail_any (typeIs_str s z t) slot_str_getitem.lookup (getItem_str (c:=c) (by
    have e1:decide (i < -(2 ^ 63:Int)) = false:=decide_eq_false (by omega)
    have e2:decide (i ≥ 2 ^ 63) = false:=decide_eq_false (by omega)
    rw [e1,e2,Bool.or_false]) (by rw [h1]; simpa using h2) ⟨.str ⟨#[c]⟩,H,I.tok _,⟨_,rfl⟩,q⟩) hs
theorem Inv.lst {pins:List (Addr×Obj)} {σ:St} {H:Hp} {s:Shared} {p:Addr} {xs:List V} (I:Inv X pins σ H s) (h:H p = some (.lst xs)) :
    ∃ (its:List Value) (n:Nat),Vals xs its∧s.heap.get? p = some { cls:=.type "list",data:=.seq its.toArray n }∧xs.length≤sizeLine:=by
  obtain ⟨z,its,n,r,e⟩:=I.hok p _ h
  exact ⟨its,n,r,e,z⟩
theorem slice_bounds (lo hi:Option Int) (n:Nat):(sliceBounds lo hi none n).1 = ((HT.sIx n 0 lo:Nat):Int)∧(sliceBounds lo hi none n).2.1 = ((HT.sIx n n hi:Nat):Int)∧(sliceBounds lo hi none n).2.2 = 1:=by
  refine ⟨?_,?_,rfl⟩
  · cases lo with
    | none=>simp [sliceBounds,HT.sIx]
    | some i=>
      simp only [sliceBounds,HT.sIx,Option.getD_none,show (1:Int) > 0 by decide,if_true]
      by_cases h:i < 0
      · simp only [h,if_true] <;> omega
      · simp only [h,if_false] <;> omega
  · cases hi with
    | none=>simp [sliceBounds,HT.sIx]
    | some i=>
      simp only [sliceBounds,HT.sIx,Option.getD_none,show (1:Int) > 0 by decide,if_true]
      by_cases h:i < 0
      · simp only [h,if_true] <;> omega
      · simp only [h,if_false] <;> omega
theorem slicePick_cut (its:List Value) (lo hi:Option Int):slicePick its.toArray lo hi none = ((its.drop (HT.sIx its.length 0 lo)).take (HT.sIx its.length its.length hi - HT.sIx its.length 0 lo)).toArray:=by
  obtain ⟨h1,h2,h3⟩:=slice_bounds lo hi its.toArray.size
  unfold slicePick
  rw [h1,h2,h3]
  simp only [sliceRange_one,pick_run,List.size_toArray] <;> rfl
def rSlL (K:PySem.W.Frag):V→Option Int→Option Int→Hp→VK→Prop:=fun x lo hi H Q=>∃ a xs,x = .ref a∧SqL K H a xs∧∀ p,H p = none→Q (.ref p) (upd H p (.lst (cutV xs lo hi)))
theorem sl_list:SlR X (rSlL X.K):=by
  intro pins s σ H x v vl vu lo hi sl Q I rx hs pl pu h
  obtain ⟨a,xs,rfl,hx,q⟩:=h
  cases rx
  obtain ⟨its,r,ht,hz⟩:=I.list hx
  have hlen:=r.length
  refine ⟨"list",_,slot_list_getitem.lookup,ht.isList.typeIs,?_⟩
  refine wpAny_getItem_list_slice ht.isList hs pl pu .none (by simp) ?_ (by rw [List.size_toArray] <;> omega)
  rw [slicePick_cut,← hlen]
  refine ⟨.ref s.heap.objs.size,_,I.laid (t':=s.toks) (o:=.lst (cutV xs lo hi)) (fun b ob q=>Heap.get?_push_of_some _ q) (Nat.le_refl _) ?_,rfl,q _ (I.hok.fresh (Nat.le_refl _))⟩
  exact ⟨Nat.le_trans (cutV_length xs lo hi) hz,_,0,(r.drop (HT.sIx xs.length 0 lo)).take (HT.sIx xs.length xs.length hi - HT.sIx xs.length 0 lo),Heap.get?_push_size _ rfl⟩
def flatV:V→Bool
  | .non=>true
  | .bl _=>true
  | .int _=>true
  | .str _=>true
  | _=>false
def eqV:V→V→Bool
  | .non,.non=>true
  | .bl a,.bl b=>a == b
  | .bl a,.int b=>(if a then 1 else 0) == b
  | .int a,.bl b=>a == (if b then 1 else 0)
  | .int a,.int b=>a == b
  | .str a,.str b=>a == b
  | _,_=>false
theorem eqAt_V {A:Around} {s:Shared} {y x:V} {u v:Value} (ry:RelV y u) (rx:RelV x v) (fy:flatV y = true) (fx:flatV x = true):SeqAt.EqAt A s u v (eqV y x):=by
  cases y with
  | non=>
    cases ry
    cases x with
    | non=>cases rx; exact SeqAt.EqAt.same _
    | bl b=>cases rx; exact SeqAt.EqAt.none_bool b
    | int b=>obtain ⟨t,rfl⟩:=rx; exact SeqAt.EqAt.none_int b t
    | str b=>obtain ⟨t,rfl⟩:=rx; exact SeqAt.EqAt.none_str b t
    | _=>exact absurd (show false = true from fx) Bool.false_ne_true
  | bl a=>
    cases ry
    cases x with
    | non=>cases rx; exact SeqAt.EqAt.bool_none a
    | bl b=>cases rx; exact SeqAt.EqAt.bool_bool a b
    | int b=>obtain ⟨t,rfl⟩:=rx; exact SeqAt.EqAt.bool_int a b t
    | str b=>obtain ⟨t,rfl⟩:=rx; exact SeqAt.EqAt.bool_str a b t
    | _=>exact absurd (show false = true from fx) Bool.false_ne_true
  | int a=>
    obtain ⟨t',rfl⟩:=ry
    cases x with
    | non=>cases rx; exact SeqAt.EqAt.int_none a t'
    | bl b=>cases rx; exact SeqAt.EqAt.int_bool a t' b
    | int b=>obtain ⟨t,rfl⟩:=rx; exact SeqAt.EqAt.int_int a t' b t
    | str b=>obtain ⟨t,rfl⟩:=rx; exact SeqAt.EqAt.int_str a t' b t
    | _=>exact absurd (show false = true from fx) Bool.false_ne_true
  | str a=>
    obtain ⟨t',rfl⟩:=ry
    cases x with
    | non=>cases rx; exact SeqAt.EqAt.str_none a t'
    | bl b=>cases rx; exact SeqAt.EqAt.str_bool a t' b
    | int b=>obtain ⟨t,rfl⟩:=rx; exact SeqAt.EqAt.str_int a t' b t
    | str b=>obtain ⟨t,rfl⟩:=rx; exact SeqAt.EqAt.str_str a t' b t
    | _=>exact absurd (show false = true from fx) Bool.false_ne_true
  | _=>exact absurd (show false = true from fy) Bool.false_ne_true
theorem call_len_seq:CallR X (.builtin "len") (fun xs H Q=>∃ p ys,xs = [.ref p]∧(SqL X.K H p ys∨SqT X.K H p ys)∧Q (.int ys.length) H):=by
  intro pins s σ H xs us Q I r h
  obtain ⟨p,ys,rfl,hq,q⟩:=h
  obtain ⟨u,rfl,rx⟩:=vals1 r
  cases rx
  have hn:=line63
  rcases hq with hq | hq
  · obtain ⟨its,r',pl,hz⟩:=I.list hq
    have hlen:=r'.length
    exact Calls.call_len_list pl.isList (by simp only [List.size_toArray] <;> omega) ⟨.int ys.length,H,I.tok _,⟨s.toks + 1,by rw [List.size_toArray,hlen]⟩,q⟩
  · obtain ⟨its,r',pl,hz⟩:=I.tuple hq
    have hlen:=r'.length
    exact len_tuple pl (by simp only [List.size_toArray] <;> omega) ⟨.int ys.length,H,I.tok _,⟨s.toks + 1,by rw [List.size_toArray,hlen]⟩,q⟩
theorem call_len_str:CallR X (.builtin "len") (fun xs H Q=>∃ z,xs = [.str z]∧z.length≤sizeLine∧Q (.int z.length) H):=by
  intro pins s σ H xs us Q I r h
  obtain ⟨z,rfl,hz,q⟩:=h
  obtain ⟨u,rfl,t,rfl⟩:=vals1 r
  have hn:=line63
  exact len_str (by omega) ⟨.int z.length,H,I.tok _,⟨_,rfl⟩,q⟩
theorem call_list_of:CallR X (.type "list") (fun xs H Q=>∃ p ys,xs = [.ref p]∧(SqL X.K H p ys∨SqT X.K H p ys)∧∀ l,H l = none→Q (.ref l) (upd H l (.lst ys))):=by
  intro pins s σ H xs us Q I r h
  obtain ⟨p,ys,rfl,hq,q⟩:=h
  obtain ⟨u,rfl,rx⟩:=vals1 r
  cases rx
  have fin:∀ (its:List Value),Vals ys its→ys.length≤sizeLine→∀ (h':Heap) (c':Nat),(∀ b o',s.heap.get? b = some o'→h'.get? b = some o')→
      h'.get? s.heap.objs.size = some { cls:=.type "list",dict:=none,data:=.seq its.toArray c',slots:=#[] }→EP X pins σ Q (.ref s.heap.objs.size) { s with heap:=h' }:=fun its r' hz h' c' kp e=>
    ⟨.ref s.heap.objs.size,_,I.laid (t':=s.toks) kp (Nat.le_refl _) (show ObjOk X.prog X.w _ h' _ (.lst ys) from ⟨hz,its,c',r',e⟩),rfl,q _ (I.hok.fresh (Nat.le_refl _))⟩
  rcases hq with hq | hq
  · obtain ⟨its,r',pl,hz⟩:=I.list hq
    have hlen:=r'.length
    obtain ⟨o,ho,hc,n,hd⟩:=pl.isList
    exact call_list_seq p (.inl rfl) ho hc hd (fun h' c' kp e=>fin its r' hz h' c' kp e) (by simp only [List.size_toArray] <;> omega)
  · obtain ⟨its,r',pl,hz⟩:=I.tuple hq
    have hlen:=r'.length
    obtain ⟨o,ho,hc,n,hd⟩:=pl
    exact call_list_seq p (.inr rfl) ho hc hd (fun h' c' kp e=>fin its r' hz h' c' kp e) (by simp only [List.size_toArray] <;> omega)
def tyV (K:PySem.W.Frag) (T:String) (x:V) (H:Hp):Prop:=match x with
  | .str _=>T = "str"
  | .int _=>T = "int"
  | .ref p=>(T = "list"∧∃ xs,SqL K H p xs)∨(T = "tuple"∧∃ o,K.lookup p = some o∧o.cls = .type "tuple"∧o.dict = none)∨
      (T = "dict"∧((∃ kvs,H p = some (.dK kvs))∨∃ kvs,H p = some (.dT kvs)))∨(T = "set"∧∃ S n,H p = some (.set S n))
  | _=>False
theorem tyV_is {pins:List (Addr×Obj)} {σ:St} {H:Hp} {s:Shared} {T:String} {x:V} {v:Value} (I:Inv X pins σ H s) (r:RelV x v) (ty:tyV X.K T x H) :
    s.TypeIs v T∧∀ a,v = .ref a→∃ ob,s.heap.get? a = some ob∧ob.dict = none:=by
  cases x with
  | str z=>
    obtain ⟨t,rfl⟩:=r
    cases (show T = "str" from ty)
    exact ⟨typeIs_str s z t,fun _ e=>nomatch e⟩
  | int i=>
    obtain ⟨t,rfl⟩:=r
    cases (show T = "int" from ty)
    exact ⟨typeIs_int s i t,fun _ e=>nomatch e⟩
  | ref p=>
    cases r
    rcases ty with ⟨rfl,xs,hq⟩ | ⟨rfl,o,hk,hc,hd⟩ | ⟨rfl,hk⟩ | ⟨rfl,S,n,hk⟩
    · obtain ⟨its,_,pl,_⟩:=I.list hq
      refine ⟨pl.isList.typeIs,fun a e=>?_⟩
      cases e
      obtain ⟨o,n,e,c,hd,_⟩:=pl
      exact ⟨o,e,hd⟩
    · refine ⟨⟨o,I.kIn p o hk,hc⟩,fun a e=>?_⟩
      cases e
      exact ⟨o,I.kIn _ o hk,hd⟩
    · have z:∃ o,s.heap.get? p = some o∧o.ExactDict:=by
        rcases hk with ⟨kvs,hk⟩ | ⟨kvs,hk⟩
        · obtain ⟨_,_,_,_,o,_,_,e,ex,_⟩:=I.hok p _ hk
          exact ⟨o,e,ex⟩
        · obtain ⟨_,_,_,_,o,_,_,e,ex,_⟩:=I.hok p _ hk
          exact ⟨o,e,ex⟩
      obtain ⟨o,e,ex⟩:=z
      refine ⟨⟨o,e,ex.1⟩,fun a e2=>?_⟩
      cases e2
      exact ⟨o,e,ex.2.1⟩
    · obtain ⟨o,_,_,_,e,ex,_⟩:=I.hok p _ hk
      refine ⟨⟨o,e,ex.1⟩,fun a e2=>?_⟩
      cases e2
      exact ⟨o,e,ex.2.1⟩
  | _=>exact False.elim ty
def tBM (K:PySem.W.Frag) (T:String) (r:V→List V→Hp→VK→Prop) (to:TE) (t:TA):TE:=fun σ H Q=>to σ H fun x H1=>tyV K T x H1∧t σ H1 fun xs H2=>r x xs H2 Q
variable {o e:Expr} {es:List Expr} {to:TE} {t:TA} {name:Str} {apos cpos:Pos} {T id:String} {r:V→List V→Hp→VK→Prop}
theorem pe_bm (pa:PlainAttrs T) (slot:Slot T name id) (hty:typeOf (.builtin id) = pure (.type "method_descriptor")) (hm:MtR X id r) (ho:PE X o to) (ha:PA X (e :: es) t)
    (hbase:attributeBase o name X.env (eval o X.env) = eval o X.env:=by rfl)
    (hfew:((backTo cpos (starEach (e :: es) X.env)).all (fun x=>!x.1) && (backToKw cpos (keywordEach [] X.env)).all (fun x=>x.1.isSome)
      && decide ((e :: es).length + ([]:List Keyword).length + (if ([]:List Keyword).isEmpty then 0 else 1) < 30)) = true:=by rfl)
    (hline:(apos.endLine == cpos.line) = true:=by rfl) (hs:starEach (e :: es) X.env = (false,eval e X.env) :: starEach es X.env:=by rfl) (hplain:(backTo cpos (starEach es X.env)).any (·.1) = false:=by rfl) :
    PE X (.Call (.Attribute o name apos) (e :: es) [] cpos) (tBM X.K T r to t):=by
  intro pins s σ H Q I h
  refine wpAny_Call_method_late hbase hfew hline rfl (thn (ho pins s σ H _ I h) fun v s1 ⟨x,H1,I1,r1,ty,q1⟩=>?_)
  obtain ⟨h1,h2⟩:=tyV_is I1 r1 ty
  refine ⟨T,id,pa,slot,hty,h1,h2,?_⟩
  have hA:=ha cpos pins s1 σ H1 _ I1 q1
  rw [hs] at hA ⊢
  refine Calls.callWith_builtin (by show (false || (backTo cpos (starEach es X.env)).any (·.1)) = false; rw [hplain] <;> rfl) (Calls.evalArgs_plain ?_)
  exact thn hA fun us s2 ⟨vs,H2,I2,r2,q2⟩=>hm pins s2 σ H2 x vs v us Q I2 r1 r2 q2
end
end L2
namespace L2
open PySem PySem.Spec PyProof.Rows
def MtM (X:Cx) (id:String) (r:V→List V→Hp→VK→Prop):Prop:=
  ∀ (pins:List (Addr×Obj)) (s:Shared) (σ:St) (H:Hp) (x:V) (xs:List V) (v:Value) (us:List Value) (Q:VK),Inv X pins σ H s→RelV x v→Vals xs us→r x xs H Q→
    wpAny (model X.prog X.w) X.A (call (.builtin id) (v :: us)) (EP X pins σ Q) X.xe s
theorem Vals.one:∀ {x:V} {us:List Value},Vals [x] us→∃ u,us = [u]∧RelV x u
  | _,_,.cons r .nil=>⟨_,rfl,r⟩
theorem Vals.zero:∀ {us:List Value},Vals [] us→us = []
  | _,.nil=>rfl
theorem Vals.reverse {xs:List V} {us:List Value} (h:Vals xs us):Vals xs.reverse us.reverse:=by
  induction h with
  | nil=>exact .nil
  | cons r t ih=>rw [List.reverse_cons,List.reverse_cons]; exact Vals.append ih (.cons r .nil)
theorem Vals.rep {xs:List V} {us:List Value} (h:Vals xs us):∀ k:Nat,Vals (List.replicate k xs).flatten (List.replicate k us).flatten
  | 0=>.nil
  | k + 1=>by
    rw [List.replicate_succ,List.replicate_succ,List.flatten_cons,List.flatten_cons]
    exact Vals.append h (Vals.rep h k)
theorem foldl_rep (its:List Value):∀ (k:Nat) (acc:List Value),
    List.foldl (fun x1 x2=>x1 ++ x2) acc.toArray (List.replicate k its.toArray) = (acc ++ (List.replicate k its).flatten).toArray
  | 0,acc=>by simp
  | k + 1,acc=>by
    have e:acc.toArray ++ its.toArray = (acc ++ its).toArray:=by simp
    have e2:(acc ++ its) ++ (List.replicate k its).flatten = acc ++ (List.replicate (k + 1) its).flatten:=by
      rw [List.replicate_succ,List.flatten_cons,List.append_assoc]
    rw [← e2,← foldl_rep its k (acc ++ its),← e,List.replicate_succ,List.foldl_cons]
section
variable {X:Cx} {pins:List (Addr×Obj)} {σ:St} {H:Hp} {s:Shared} {l b:Addr} {xs ys zs:List V}
theorem Inv.lset {its its':List Value} {n:Nat} {f:Array Value→Array Value} {t':Nat} (I:Inv X pins σ H s) (hH:H l = some (.lst xs))
    (e:s.heap.get? l = some { cls:=.type "list",data:=.seq its.toArray n }) (hf:f its.toArray = its'.toArray) (hv:Vals ys its') (hz:ys.length≤sizeLine) :
    Inv X pins σ (upd H l (.lst ys)) { s with heap:=s.heap.update l (Obj.mapSeq f),toks:=t' }:=by
  have q:=PySem.IsL.update e f
  rw [hf] at q
  refine I.write (x:=l) (e:=l) (by rw [hH]; exact trivial) (.inl rfl) (fun b' u hb hu=>(Heap.get?_update_other s.heap (Obj.mapSeq f) (Ne.symm hb)).trans hu) ⟨_,q⟩ ?_
  exact ⟨hz,its',_,hv,q⟩
theorem Inv.lnew {its:List Value} {t':Nat} (I:Inv X pins σ H s) (hv:Vals ys its) (hz:ys.length≤sizeLine) :
    Inv X pins σ (upd H s.heap.objs.size (.lst ys)) { s with heap:=s.heap.push { cls:=.type "list",data:=.seq its.toArray },toks:=t' }:=
  I.laid (fun _ _ q=>Heap.get?_push_of_some _ q) (Nat.le_refl _) ⟨hz,its,0,hv,Heap.get?_push_size _ rfl⟩
theorem Inv.fresh (I:Inv X pins σ H s):H s.heap.objs.size = none:=I.hok.fresh (Nat.le_refl _)
theorem Inv.lstM (I:Inv X pins σ H s) (hH:H l = some (.lst xs)):xs.length≤sizeLine∧∃ (its:List Value) (n:Nat),Vals xs its∧xs.length = its.length∧s.heap.get? l = some { cls:=.type "list",data:=.seq its.toArray n }:=by
  obtain ⟨z,its,n,r,e⟩:=I.hok l _ hH
  exact ⟨z,its,n,r,r.length,e⟩
theorem notLongL {n:Nat} (h:n≤sizeLine):Builtin.List.listTooLong n = false:=by
  unfold Builtin.List.listTooLong
  exact decide_eq_false (by omega)
end
section
variable {X:Cx}
def rAppend:V→List V→Hp→VK→Prop:=fun x vs H Q=>∃ l xs y,x = .ref l∧vs = [y]∧H l = some (.lst xs)∧xs.length < sizeLine∧Q .non (upd H l (.lst (xs ++ [y])))
theorem mt_append:MtM X "list.append" rAppend:=by
  intro pins s σ H x vs v us Q I rx rv h
  obtain ⟨l,xs,y,rfl,rfl,hH,hz,q⟩:=h
  cases rx
  obtain ⟨u,rfl,ru⟩:=rv.one
  obtain ⟨z,its,n,r,hl,e⟩:=I.lstM hH
  refine call_meets F.slot_list_append ⟨_,e,rfl⟩ F.entry_list_append (F.args_list_append_2 _ _) (PySem.list_append l its.toArray n u (by rw [List.size_toArray]; omega)) ⟨e,?_⟩
  refine ⟨.non,_,I.lset (its':=its ++ [u]) hH e (by simp) (r.append (.cons ru .nil)) ?_,rfl,q⟩
  rw [List.length_append,List.length_singleton]
  omega
def rExtend:V→List V→Hp→VK→Prop:=fun x vs H Q=>∃ l b xs zs,x = .ref l∧vs = [.ref b]∧H l = some (.lst xs)∧H b = some (.lst zs)∧xs.length + zs.length≤sizeLine∧Q .non (upd H l (.lst (xs ++ zs)))
theorem mt_extend:MtM X "list.extend" rExtend:=by
  intro pins s σ H x vs v us Q I rx rv h
  obtain ⟨l,b,xs,zs,rfl,rfl,hH,hB,hz,q⟩:=h
  cases rx
  obtain ⟨u,rfl,ru⟩:=rv.one
  cases ru
  obtain ⟨z,its,n,r,hl,e⟩:=I.lstM hH
  obtain ⟨z2,its2,n2,r2,hl2,e2⟩:=I.lstM hB
  have hsz:its.toArray.size + its2.toArray.size≤sizeLine:=by rw [List.size_toArray,List.size_toArray]; omega
  have hlong:¬ (!its.toArray.isEmpty && Builtin.List.listTooLong (its.toArray.size + its2.toArray.size)) = true:=by
    rw [notLongL hsz,Bool.and_false]
    exact Bool.false_ne_true
  refine call_meets F.slot_list_extend ⟨_,e,rfl⟩ F.entry_list_extend (F.args_list_extend_2 _ _)
    (AutoSeq1.list_extend_list_list_0 l its.toArray n b its2.toArray n2 hlong (by rw [List.size_toArray]; omega) (by omega)) ⟨e,e2,?_⟩
  refine ⟨.non,_,I.lset (its':=its ++ its2) hH e (by simp) (r.append r2) ?_,rfl,q⟩
  rw [List.length_append]
  omega
theorem len_rep {α:Type} (xs:List α) (k:Nat):(List.replicate k xs).flatten.length = k * xs.length:=by
  induction k with
  | zero=>simp
  | succ k ih=>rw [List.replicate_succ,List.flatten_cons,List.length_append,ih,Nat.succ_mul,Nat.add_comm]
end
section
variable {prog:Program} {w:World} {A:Around} {E:Value→Shared→Prop} {s:Shared}
end
section
variable {X:Cx}
end
end L2
namespace Att
open PySem PySem.W PySem.Calls PyProof.Rows
theorem ints_of_wellAll {P:Params} {h:Heap}:∀ (ns:List Int) (vs:List Value),WellAll P h vs (ns.map WData.int)→IntsAre vs ns:=by
  intro ns
  induction ns with
  | nil=>
    intro vs w
    rw [List.map_nil] at w
    cases w
    exact .nil
  | cons n ns ih=>
    intro vs w
    rw [List.map_cons] at w
    cases w with
    | cons a b=>
      cases a
      exact .cons _ _ (ih _ b)
theorem script_of {l:OpenLaw} {n:Nat} (hn:l.most = some n) {P:Params} {h:Heap} {args:List WData} {vals:List Value}
    (hpre:l.row.toRowW.claim.pre args = true) (hwl:WellAll P h vals args) :
    ∃ a vs ns,vals = [Value.ref a]∧args = [WData.list (ns.map WData.int)]∧h.get? a = some { cls:=.type "list",data:=.seq vs.toArray }∧IntsAre vs ns∧ns.length≤n:=by
  have hsh:WShape.hasAll [] args [.list .int] = true:=(pre_splitW hpre).1
  have hc:l.pre.holds [] { args:=args } = true:=(pre_splitW hpre).2
  obtain ⟨d,r,rfl,h1,h2⟩:=hasAllW_cons hsh
  obtain rfl:=hasAllW_nil h2
  obtain ⟨xs,rfl,h3⟩:=hasW_list h1
  obtain ⟨ns,rfl⟩:=items_int h3
  have hlen:ns.length≤n:=by
    unfold OpenLaw.pre at hc
    have h4:(WTm.not (.lt (.lit (.int (n:Int))) (.len (.arg 0)))).holds [] { args:=[.list (ns.map .int)] } = true:=by
      have h4:=(holds_andW hc).1
      rw [hn] at h4
      exact h4
    have h5:=condW_of h4 (w_not (w_lt w_lit (w_len_list (w_arg rfl))))
    rw [List.length_map] at h5
    refine Nat.le_of_not_lt fun q=>?_
    have q':(n:Int) < ((ns.length:Nat):Int):=by omega
    first
      | (rw [decide_eq_true q'] at h5; exact absurd h5 (by decide))
      | (simp at h5; omega)
  cases hwl with
  | cons w1 w2=>
    cases w2
    cases w1 with
    | list ho hall=>exact ⟨_,_,ns,rfl,rfl,ho,ints_of_wellAll ns _ hall,hlen⟩
theorem post_true (l:OpenLaw) (args:List WData):l.row.toRowW.claim.post args (.bool true) args = true:=
  postW_of (r:=l.row.toRowW) (X:=(true == true))
    (show WShape.has [] (.bool true) .bool = true by first | rfl | decide | simp [WShape.has,WShape.arms,WShape.armsAll])
    (show (WTm.eq .res (.lit (.bool true))).value [] { args:=args,res:=some (.bool true),after:=args } = some (.bool (true == true)) from w_eq_bool (w_res rfl) w_lit) rfl
theorem attach_call {l:OpenLaw} {n:Nat} {q:Program} {loose:List Str} {XP:(Str→Option Value)→Heap→Prop} {YP:World→Heap→Prop} {d:DefRec}
    (hn:l.most = some n) (hdf:d.params.defaults = [])
    (call:∀ (w:World) (s₀ s₁:Shared) (mg mb:Str→Option Value) (fa:Addr) (o:Obj) (pm cd doc:Value) (a:Addr) (vs:List Value) (ns:List Int),
      Ground q loose [] XP w s₀ mg mb s₁.heap→YP w s₁.heap→
      s₁.heap.get? fa = some o→o.data = .func (docDef d.name d.params d.body d.scope pm cd doc)→s₁.heap.CodeRec cd d.name→mg d.name = some (.ref fa)→
      s₁.heap.get? a = some { cls:=.type "list",data:=.seq vs.toArray }→IntsAre vs ns→ns.length≤n→s₁.gens = #[]→
      codeAny (model l.prog w) callerA (.call (.ref fa) ⟨[.ref a],[]⟩) (fun r s'=>r = .ok (.ret (.bool true))∧OldK s₁.heap s'.heap∧s'.os = s₁.os∧AllBare s'.gens) s₁) :
    WalkO q loose XP YP l.row.toRowW d [] (fun f vs=>PySem.call f vs):=by
  intro w s₀ s₁ mg mb G Y fa o pm cd doc dV kV ho hd hcd hD hmg hg args vals as hpre hlay hrd hwl hlo
  obtain rfl:dV = .none:=Dflts.none hD hdf
  obtain rfl:kV = .none:=Dflts.noKw hD
  obtain ⟨a,vs,ns,rfl,rfl,hobj,hints,hlen⟩:=script_of hn hpre hwl
  refine enter_call (codeAny_mono (call w s₀ s₁ mg mb fa o pm cd doc a vs ns G Y ho (fd_plain hd) hcd hmg hobj hints hlen hg) fun r s' hq=>?_)
  obtain ⟨rfl,h2,h3,h4⟩:=hq
  exact ⟨.inl ⟨.bool true,.bool true,[],rfl,fun _=>rfl,.bool true,post_true l _,fun _=>⟨List.Pairwise.nil,fun _ hm=>(nomatch hm)⟩⟩,h2,h3,h4⟩
section
variable {prog:Program} {w:World} {A:Around} {E:Value→Shared→Prop} {s:Shared} {K:Frag}
end
end Att
namespace L2
open PySem PySem.Spec PyProof.Rows
theorem vals_ints:∀ {vs:List Value} {ns:List Int},IntsAre vs ns→Vals (ns.map V.int) vs
  | _,_,.nil=>.nil
  | _,_,.cons n t h=>.cons ⟨t,rfl⟩ (vals_ints h)
def Only (H:Hp):Prop:=∀ b,H b = none∨∃ o xs,H b = some (.frz o (.lst xs))
theorem law_call {P:Program} {w:World} {K:PySem.W.Frag} {mg mb:Str→Option Value} {CX:CXT} {k:Nat} {fa a:Addr} {fd:FuncData} {x:Str} {sp:Sp} {s₁:Shared} {vs:List Value} {ns:List Int}
    (KX:K.In s₁.heap) (hns:s₁.heap.Ns mainGlobals mg) (hb:s₁.heap.Ns builtinsNs mb) (hbb:∀ x:Str,x≠"__name__"→mb x = bootBuiltins x) (hlim:s₁.heap.NoLimit) (hg:s₁.gens = #[])
    (ha:s₁.heap.get? a = some { cls:=.type "list",data:=.seq vs.toArray }) (hi:IntsAre vs ns) (hl:ns.length≤sizeLine) (hr:Room k callerA)
    (F:∀ base:Heap,K.In base→base.Ns mainGlobals mg→FnOk P w K mg base CX k fa fd [x] sp) (hbind:∀ (s:Shared) (u:Value),BindsTo s fd ⟨[u],[]⟩ [(x,u)])
    (hsp:∀ H:Hp,Only H→SqL K H a (ns.map V.int)→sp [.ref a] H (fun v _=>v = .bl true) fun _ _ _=>False)
    (hCX:∀ H e s',CX [] H s₁ (fun _ _ _=>False) e s'→False) :
    codeAny (model P w) callerA (.call (.ref fa) ⟨[.ref a],[]⟩) (fun r s'=>r = .ok (.ret (.bool true))∧OldK s₁.heap s'.heap∧s'.os = s₁.os∧AllBare s'.gens) s₁:=by
  have rv:=vals_ints hi
  have lenV:=hi.length
  have core:∀ H:Hp,Only H→SqL K H a (ns.map V.int)→HOk P w H s₁.heap→(∀ b,H b≠none→b = a)→(H a≠none→K.lookup a = none)→
      codeAny (model P w) callerA (.call (.ref fa) ⟨[.ref a],[]⟩) (fun r s'=>r = .ok (.ret (.bool true))∧OldK s₁.heap s'.heap∧s'.os = s₁.os∧AllBare s'.gens) s₁:=by
    intro H hO hS hok hA hK
    have base_of:∀ {b:Addr} {o:Obj},s₁.heap.get? b = some o→H b = none→(hidT s₁.heap H).get? b = some o:=fun e n=>hidT_get e n
    have noA:∀ {b:Addr} {o:Obj} {es:Array DictEntry} {ep:Nat},s₁.heap.get? b = some o→o.data = .dict es ep→H b = none:=fun {b o es ep} e d=>by
      cases q:H b with
      | none=>rfl
      | some u=>
        have e':b = a:=hA b (by rw [q]; simp)
        subst e'
        rw [ha] at e; cases e
        have d':Data.seq vs.toArray _ = Data.dict es ep:=d
        cases d'
    have nsK:∀ {b:Addr} {m:Str→Option Value},s₁.heap.Ns b m→(hidT s₁.heap H).Ns b m:=fun {b m} ⟨o,es,ep,e,d,r⟩=>⟨o,es,ep,base_of e (noA e d),d,r⟩
    have hKb:K.In (hidT s₁.heap H):=fun b o e=>base_of (KX b o e) (by
      cases q:H b with
      | none=>rfl
      | some u=>
        have e':b = a:=hA b (by rw [q]; simp)
        subst e'
        rw [hK (by rw [q]; simp)] at e; cases e)
    have hM:Mod K mg (hidT s₁.heap H):=⟨hKb,nsK hns,⟨mb,nsK hb,hbb⟩,let ⟨mc,h1,h2⟩:=hlim; ⟨mc,nsK h1,h2⟩⟩
    have e0:Env0 P w K mg (hidT s₁.heap H) callerA [] s₁ H:=⟨rfl,hM,fun b o e=>of_hidT e,Nat.le_of_eq (hidT_size _ _),trivial,fun b hb=>absurd (show b∈([]:List Addr) from hb) (by simp),hok,.of_eq hg⟩
    refine codeAny_mono ((F _ hKb (nsK hns)).run callerA [] s₁ H ⟨[.ref a],[]⟩ [.ref a] [.ref a] _ _ hr e0 (hbind s₁ (.ref a)) (.cons rfl .nil) (hsp H hO hS)) fun r s' h=>?_
    cases r with
    | error e=>exact (hCX H e s' h).elim
    | ok fl=>
      cases fl with
      | next=>exact False.elim h
      | brk=>exact False.elim h
      | cont=>exact False.elim h
      | ret u=>
        obtain ⟨v,H',os,bare,un,hok',r',q⟩:=h
        have q':v = .bl true:=q
        subst q'
        obtain rfl:u = Value.bool true:=r'
        refine ⟨rfl,OldK.of_keep fun b o e=>?_,os,bare⟩
        cases q:H b with
        | none=>exact un.keep b o e q (by intro z; exact absurd (show b∈([]:List Addr) from z) (by simp)) (by simp)
        | some u=>
          rcases hO b with z | ⟨ob,xs,z⟩
          · rw [q] at z; cases z
          · have z2:=un.frzs b ob _ z
            obtain ⟨e1,_⟩:=hok b _ z
            obtain ⟨e2,_⟩:=hok' b _ z2
            rw [e] at e1; cases e1
            exact e2
  cases hk:K.lookup a with
  | some o=>
    have e:=KX a o hk
    rw [ha] at e
    cases e
    refine core (fun _=>none) (fun _=>.inl rfl) (.inr ⟨_,vs.toArray,_,hk,rfl,rfl,rfl,by rw [List.size_toArray,lenV]; exact hl,by simpa using rv⟩) (fun b u z=>by have z':(none:Option HO) = some u:=z; cases z') (fun b z=>absurd rfl z) fun z=>absurd rfl z
  | none=>
    refine core (fun b=>if b = a then some (.frz { cls:=.type "list",data:=.seq vs.toArray } (.lst (ns.map V.int))) else none) (fun b=>?_) (.inl (.inr ⟨{ cls:=.type "list",data:=.seq vs.toArray },if_pos rfl⟩)) (fun b u z=>?_) (fun b z=>?_) fun _=>hk
    · by_cases hb:b = a
      · exact .inr ⟨_,_,if_pos hb⟩
      · exact .inl (if_neg hb)
    · by_cases hb:b = a
      · have z':=(if_pos hb).symm.trans z
        cases z'
        subst hb
        exact ⟨ha,by rw [List.length_map]; exact hl,vs,_,rv,ha⟩
      · have z':=(if_neg hb).symm.trans z
        cases z'
    · by_cases hb:b = a
      · exact hb
      · exact absurd (if_neg hb) z
end L2
namespace L2
open PySem PySem.Spec PyProof.Rows
theorem walk_of {l:PySem.W.OpenLaw} {n k:Nat} {q:Program} {loose:List Str} {XP:(Str→Option Value)→Heap→Prop} {YP:World→Heap→Prop} {d:DefRec} {K:Params→PySem.W.Frag} {CX:World→CXT} {sp:World→Sp} {x:Str}
    (hn:l.most = some n) (hn2:n≤sizeLine) (hdf:d.params.defaults = []) (hr:Room k callerA)
    (hY:∀ (w:World) (h:Heap),YP w h→(K w.params).In h)
    (F:∀ (w:World) (mg:Str→Option Value) (fa:Addr) (h:Heap),(K w.params).In h→h.Ns mainGlobals mg→mg d.name = some (.ref fa)→
      ∃ fd:FuncData,(∀ (s:Shared) (u:Value),BindsTo s fd ⟨[u],[]⟩ [(x,u)])∧
        ∀ base:Heap,(K w.params).In base→base.Ns mainGlobals mg→FnOk l.prog w (K w.params) mg base (CX w) k fa fd [x] (sp w))
    (hsp:∀ (w:World) (H:Hp) (a:Addr) (ns:List Int),ns.length≤n→Only H→SqL (K w.params) H a (ns.map V.int)→sp w [.ref a] H (fun v _=>v = .bl true) fun _ _ _=>False)
    (hCX:∀ (w:World) (H:Hp) (s:Shared) (e:Value) (s':Shared),CX w [] H s (fun _ _ _=>False) e s'→False) :
    PySem.W.WalkO q loose XP YP l.row.toRowW d [] (fun f vs=>PySem.call f vs):=by
  refine Att.attach_call hn hdf fun w s₀ s₁ mg mb fa o pm cd doc a vs ns G Y ho hd hcd hmg hobj hints hlen hg=>?_
  have KX:=hY w _ Y
  obtain ⟨fd,hb,hF⟩:=F w mg fa _ KX G.T.g hmg
  exact law_call KX G.T.g G.T.b G.T.builtins G.T.nolimit hg hobj hints (Nat.le_trans hlen hn2) hr hF hb (fun H hO hS=>hsp w H a ns hlen hO hS) fun H e s'=>hCX w H s₁ e s'
end L2
namespace L2
open PySem PySem.Spec PyProof.Rows
def inClass (s:Stmt) (j:Nat):Stmt:=match s with
  | .ClassDef _ _ _ body _ _ _ _ _ _ _=>body.getD j (.Pass ⟨0,0,0,0⟩)
  | _=>.Pass ⟨0,0,0,0⟩
def defArgs (s:Stmt):Arguments:=match s with
  | .FunctionDef _ a _ _ _ _ _ _ _ _=>a
  | _=>{ posonlyargs:=[],args:=[],vararg:=none,kwonlyargs:=[],kw_defaults:=[],kwarg:=none,defaults:=[] }
def defBody (s:Stmt):List Stmt:=match s with
  | .FunctionDef _ _ b _ _ _ _ _ _ _=>b
  | _=>[]
def defScope (s:Stmt):Scope:=match s with
  | .FunctionDef _ _ _ _ _ _ sc _ _ _=>sc
  | _=>{ kind:=.function,names:=[],isGenerator:=false,isCoroutine:=false }
abbrev CX0:CXT:=fun _ _ _ _ _ _=>False
abbrev E0:XK:=fun _ _ _=>False
theorem pass0 {X:Cx}:Passes CX0 X E0:=fun _ _ _ _ _ _ _ h=>h.elim
structure Fun (K:PySem.W.Frag) (x qual:Str) (st:Stmt) (f:Addr) (fd:FuncData):Prop where
  ex:∃ (oc:Value) (od:Option Addr) (kV doc pm:Value) (an:Option Addr) (cdv ct:Value) (osl:Array (Option Value)),
    fd = PySem.W.fnOf x qual (defArgs st) (defBody st) (defScope st) .none kV doc pm an cdv ct∧K.lookup f = some ⟨oc,od,.func fd,osl⟩∧PySem.W.codeIn K cdv qual = true
  kp:PySem.W.keepIn K (.ref f) = true
section
variable {P:Program} {w:World} {K:PySem.W.Frag} {mg:Str→Option Value} {base:Heap}
theorem Fun.ok {x qual:Str} {st:Stmt} {f:Addr} {fd:FuncData} {N ps:List Str} {k:Nat} {sp:Sp} (F:Fun K x qual st f fd) (S:FnScope N ps (defScope st)) (len:∀ vs H Q E,sp vs H Q E→vs.length = ps.length)
    (hbody:∀ (cdv:Value) (A:Around) (outer:List Env) (s:Shared) (H:Hp) (vs:List V) (Q:VK) (E:XK),Room k (A.deeper (envOfC qual (defScope st) s.heap.objs.size f cdv))→sp vs H Q E→
      ∃ t,PSs (cxOf CX0 P w K mg base N qual (defScope st) f cdv A outer s H E).nox (defBody st) t∧t { nx:=fun _ H'=>Q .non H',rt:=Q } (start N vs) H):FnOk P w K mg base CX0 (k + 1) f fd ps sp:=by
  obtain ⟨oc,od,kV,doc,pm,an,cdv,ct,osl,rfl,lk,hcd⟩:=F.ex
  refine fn_of lk hcd S len fun A outer s H vs Q E hr hsp=>?_
  obtain ⟨t,h,q⟩:=hbody cdv A outer s H vs Q E hr hsp
  exact ⟨t,h.nox,q⟩
theorem Fun.binds {x qual:Str} {st:Stmt} {f:Addr} {fd:FuncData} {ps:List Str} (F:Fun K x qual st f fd)
    (h:∀ (kV doc pm:Value) (an:Option Addr) (cdv ct:Value) (us:List Value),us.length = ps.length→bindArgs (PySem.W.fnOf x qual (defArgs st) (defBody st) (defScope st) .none kV doc pm an cdv ct) ⟨us,[]⟩ = pure (ps.zip us)):Binds K fd ps []:=by
  obtain ⟨oc,od,kV,doc,pm,an,cdv,ct,osl,rfl,lk,hcd⟩:=F.ex
  exact .all (h kV doc pm an cdv ct)
theorem fun_mk {x qual:Str} {st:Stmt} {f:Addr} {oc:Value} {od an:Option Addr} {osl:Array (Option Value)} {kV doc pm cdv ct:Value} (l:K.lookup f = some ⟨oc,od,.func (PySem.W.fnOf x qual (defArgs st) (defBody st) (defScope st) .none kV doc pm an cdv ct),osl⟩)
    (c:PySem.W.codeIn K cdv qual = true) (k:PySem.W.keepIn K (.ref f) = true):Fun K x qual st f (PySem.W.fnOf x qual (defArgs st) (defBody st) (defScope st) .none kV doc pm an cdv ct):=⟨⟨oc,od,kV,doc,pm,an,cdv,ct,osl,rfl,l,c⟩,k⟩
end
theorem hu_of {A:Around} {k:Nat} (hr:Room k A):A.units + 1 < cLine:=Nat.lt_of_le_of_lt (Nat.add_le_add_left (by decide:1≤64) _) hr.units
section
variable {X:Cx}
theorem pv (i:Nat) {x:Str} {pos:Pos} (hN:X.N[i]? = some x:=by rfl) (hv:Vis X.env.scope x:=by first | exact Or.inl rfl | exact Or.inr (Or.inl rfl) | exact Or.inr (Or.inr rfl)) (hd:(x == ("__debug__":Str)) = false:=by decide)
    (hcd:(x == ("__classdict__":Str)) = false:=by decide):PE X (.Name x pos) (tVar i):=pe_var hN hv hd hcd
end
theorem ite2 {c A B:Prop} [Decidable c] (h1:c→A) (h2:¬ c→B):if c then A else B:=by
  by_cases h:c
  · rw [if_pos h]
    exact h1 h
  · rw [if_neg h]
    exact h2 h
def Same (H H':Hp):Prop:=∀ b o,H b = some o→H' b = some o
theorem Same.refl (H:Hp):Same H H:=fun _ _ h=>h
theorem Same.trans {H H1 H2:Hp} (a:Same H H1) (b:Same H1 H2):Same H H2:=fun c o h=>b c o (a c o h)
theorem Same.free {H H':Hp} (e:Same H H') {l:Addr} (h:H' l = Option.none):H l = Option.none:=by
  cases q:H l with
  | none=>rfl
  | some o=>
    rw [e l o q] at h
    cases h
theorem Same.seq {K:PySem.W.Frag} {H H':Hp} {a:Addr} {xs:List V} (e:Same H H') (h:SqL K H a xs):SqL K H' a xs:=by
  rcases h with (h | ⟨o,h⟩) | h
  · exact .inl (.inl (e _ _ h))
  · exact .inl (.inr ⟨o,e _ _ h⟩)
  · exact .inr h
end L2
set_option maxHeartbeats 1000000
namespace L2
open PySem PySem.Spec PyProof.Rows
section
variable {prog:Program} {w:World} {A:Around} {env:Env} {elt target iter:Expr} {ifs:List Expr} {scope:Scope} {pos:Pos} {it acc:Value}
abbrev testsOf (env:Env) (ifs:List Expr):Sem Bool:=forIn ifs true fun c r=>(if r = true then (do let ok ← isTrue c env (eval c env); pure (ForInStep.yield ok)) else pure (ForInStep.yield r))
abbrev OneTurn (prog:Program) (w:World) (A:Around) (env:Env) (elt target:Expr) (ifs:List Expr) (it acc:Value) (Ee:Value→Shared→Prop) (over on:Shared→Prop):Shared→Prop:=
  wpAny (model prog w) A (pyNext it) (fun | none,s1=>over s1 | some v,s1=>wpAny (model prog w) A (letOwnedTupleGo target it v) (fun _ s2=>wpAny (model prog w) A (assign target env v) (fun _ s3=>wpAny (model prog w) A (testsOf env ifs) (fun ok s4=>
    if ok = true then wpAny (model prog w) A (eval elt env) (fun x s5=>wpAny (model prog w) A (call (.builtin "list.append") [acc,x]) (fun _=>on) (fun _ _=>False) s5) Ee s4 else on s4) Ee s3) Ee s2) (fun _ _=>False) s1) (fun _ _=>False)
theorem comp_turnsX {R:Result→Shared→Prop} {Ee:Value→Shared→Prop} (I:Nat→Shared→Prop) (hE:∀ x s,Ee x s→notedBy (model prog w) A env (fun x s=>R (.error x) s) x s)
    (turn:∀ n s,I n s→OneTurn prog w A env elt target ifs it acc Ee (R (.ok .next)) (fun s'=>∃ m,m < n∧I m s') s) (n:Nat) {s:Shared} (h:I n s) :
    codeAny (model prog w) A (.compLoop (.ListComp elt [⟨target,iter,ifs,0⟩] scope pos) 0 it acc env) R s:=by
  have none':∀ {Z:Value→Shared→Prop} (x:Value) (s:Shared),False→Z x s:=fun _ _ z=>z.elim
  refine codeAny_loop rfl I (fun k s1 h1=>?_) n h
  change wpAny _ A ((compTurn (.ListComp elt [⟨target,iter,ifs,0⟩] scope pos) 0 it acc env).onRaise (fun x=>do noteFrame x env; theTreesLotGoes x)) _ _ s1
  refine wpAny_noted ?_
  rw [compTurn_list]
  refine wpAny_bind (wpAny_standAt (wpAny_bind (wpAny_mono (turn k s1 h1) (fun r s2 h2=>?_) none')))
  match r,h2 with
  | none,h2=>exact wpAny_pure h2
  | some v,h2=>
    refine wpAny_bind (wpAny_mono h2 (fun _ s3 h3=>wpAny_bind (wpAny_mono h3 (fun _ s4 h4=>wpAny_bind (wpAny_mono h4 (fun ok s5 h5=>?_) hE)) hE)) none')
    match ok,h5 with
    | false,h5=>exact wpAny_pure ⟨rfl,h5⟩
    | true,h5=>exact wpAny_bind (wpAny_bind (wpAny_mono h5 (fun x s6 h6=>wpAny_bind (wpAny_mono h6 (fun _ s7 h7=>wpAny_pure (wpAny_pure ⟨rfl,h7⟩)) none')) hE))
theorem comp_turns {R:Result→Shared→Prop} (I:Nat→Shared→Prop) (turn:∀ n s,I n s→OneTurn prog w A env elt target ifs it acc (fun _ _=>False) (R (.ok .next)) (fun s'=>∃ m,m < n∧I m s') s) (n:Nat) {s:Shared} (h:I n s) :
    codeAny (model prog w) A (.compLoop (.ListComp elt [⟨target,iter,ifs,0⟩] scope pos) 0 it acc env) R s:=comp_turnsX I (fun _ _ z=>z.elim) turn n h
end
def PIfs (X:Cx) (ifs:List Expr) (t:TT):Prop:=
  ∀ (pins:List (Addr×Obj)) (s:Shared) (σ:St) (H:Hp) (Q:Bool→Hp→Prop),Inv X pins σ H s→t σ H Q→
    wpAny (model X.prog X.w) X.A (forIn ifs true fun c r=>if r = true then do let ok ← isTrue c X.env (eval c X.env); pure (ForInStep.yield ok) else pure (ForInStep.yield r)) (TP X pins σ Q) X.xe s
def tYes:TT:=fun _ H Q=>Q true H
theorem pifs_nil {X:Cx}:PIfs X [] tYes:=fun _ _ _ H _ I h=>wpAny_tests_nil ⟨H,I,h⟩
def cxComp (X:Cx) (scope:Scope) (cl:List (Str×Addr)) (N:List Str) (C:Addr) (s:Shared) (H:Hp) (fp:List Addr):Cx:=
  { prog:=X.prog,w:=X.w,K:=X.K,mg:=X.mg,base:=X.base,A:=X.A,N:=N,s₀:=s,H₀:=H,env:=compEnvC scope cl C X.env,outer:=X.stack,stack:=X.stack,ex:=fp,fn:=fun _=>false,calm:=X.calm,pn:=[],xe:=fun _ _=>False }
def stC (fr:List (Option Nat)) (σ:St):St:=fr.map fun o=>o.bind fun i=>(σ[i]?).bind id
def tCompK (fr:List (Option Nat)) (g:TG) (tt:TT) (te:TE) (σ:St) (Q:VK) (J:It) (H1:Hp):Prop:=∀ l,H1 l = none→∃ W:Nat→Nat→St→Hp→Prop,(∃ m,W 0 m (stC fr σ) (upd H1 l (.lst [])))∧∀ i m σ H,W i m σ H→
  (J.stop i H∧Q (.ref l) H)∨(J.go i H∧∀ x H',J.yld i H x H'→g x σ H' fun σ2 H2=>tt σ2 H2 fun b H3=>if b = true then te σ2 H3 fun v H4=>∃ xs,H4 l = some (.lst xs)∧xs.length < sizeLine∧∃ m',m' < m∧W (i + 1) m' σ2 (upd H4 l (.lst (xs ++ [v])))
    else ∃ m',m' < m∧W (i + 1) m' σ2 H3)
def tComp (fr:List (Option Nat)) (wi:TI) (g:TG) (tt:TT) (te:TE):TE:=fun σ H Q=>wi σ H (tCompK fr g tt te σ Q)
def compChk (XN:List Str) (xs sc:Scope) (N:List Str) (fr:List (Option Nat)):Bool:=
  decide (sc.kind = .function) && decide (fr.length = N.length) && (sc.names.all fun y=>!decide (y.2 = .cell)) && (sc.names.all fun y=>!decide (y.2 = .local) || decide (sc.names.lookup y.1 = some .local)) &&
  (sc.names.all fun y=>!decide (y.2 = .free) || (decide (xs.names.lookup y.1 = some .cell) || decide (xs.names.lookup y.1 = some .free))) &&
  ((N.zip fr).all fun p=>match p.2 with | none=>true | some i=>decide (XN[i]? = some p.1) && decide (sc.names.lookup p.1 = some .free))
def ClOk (cells:List (Str×Addr)):List (Str×Addr)→Prop
  | []=>True
  | p :: r=>cells.lookup p.1 = some p.2∧ClOk cells r
theorem ClOk.get {cells:List (Str×Addr)}:∀ {cl:List (Str×Addr)},ClOk cells cl→∀ {x:Str} {c:Addr},cl.lookup x = some c→cells.lookup x = some c
  | [],_,_,_,h=>by cases h
  | (y,d) :: r,k,x,c,h=>by
    rw [List.lookup_cons] at h
    cases e:x == y with
    | true=>
      rw [e] at h
      cases h
      rw [eq_of_beq e]
      exact k.1
    | false=>
      rw [e] at h
      exact ClOk.get k.2 h
def ClAll (cl:List (Str×Addr)):List (Str×NameKind)→Prop
  | []=>True
  | p :: r=>(p.2 = .free→∃ c,cl.lookup p.1 = some c)∧ClAll cl r
theorem ClAll.get {cl:List (Str×Addr)}:∀ {ns:List (Str×NameKind)},ClAll cl ns→∀ y∈ns,y.2 = .free→∃ c,cl.lookup y.1 = some c
  | [],_,_,h=>by cases h
  | p :: r,k,y,h=>by
    rcases List.mem_cons.mp h with rfl | h
    · exact k.1
    · exact ClAll.get k.2 y h
theorem relabel_cell {env:Env}:∀ {names:List (Str×NameKind)} {x:Str} {k:NameKind},(names.map fun (n,k)=>if (k == NameKind.free && env.scope.kind == .function && env.kindOf n == some .cell) then (n,NameKind.cell) else (n,k)).lookup x = some k→
    names.lookup x = some k∨(k = .cell∧names.lookup x = some .free)
  | [],_,_,h=>by cases h
  | (n,k0) :: r,x,k,h=>by
    have ih:=@relabel_cell env r x k
    by_cases hc:(k0 == NameKind.free && env.scope.kind == .function && env.kindOf n == some .cell) = true
    · simp only [List.map_cons,if_pos hc,List.lookup_cons] at h
      rw [List.lookup_cons]
      cases e:x == n with
      | true=>
        rw [e] at h
        cases h
        simp only [Bool.and_eq_true] at hc
        have:k0 = .free:=by simpa using hc.1.1
        exact .inr ⟨rfl,by rw [this]⟩
      | false=>rw [e] at h; exact ih h
    · simp only [List.map_cons,if_neg hc,List.lookup_cons] at h
      rw [List.lookup_cons]
      cases e:x == n with
      | true=>rw [e] at h; exact .inl h
      | false=>rw [e] at h; exact ih h
theorem relabel_free {env:Env}:∀ {names:List (Str×NameKind)} {x:Str},names.lookup x = some .free→
    (names.map fun (n,k)=>if (k == NameKind.free && env.scope.kind == .function && env.kindOf n == some .cell) then (n,NameKind.cell) else (n,k)).lookup x = some .cell∨
    (names.map fun (n,k)=>if (k == NameKind.free && env.scope.kind == .function && env.kindOf n == some .cell) then (n,NameKind.cell) else (n,k)).lookup x = some .free
  | [],_,h=>by cases h
  | (n,k0) :: r,x,h=>by
    have ih:=@relabel_free env r x
    rw [List.lookup_cons] at h
    by_cases hc:(k0 == NameKind.free && env.scope.kind == .function && env.kindOf n == some .cell) = true
    · simp only [List.map_cons,if_pos hc,List.lookup_cons]
      cases e:x == n with
      | true=>exact .inl rfl
      | false=>rw [e] at h; exact ih h
    · simp only [List.map_cons,if_neg hc,List.lookup_cons]
      cases e:x == n with
      | true=>rw [e] at h; exact .inr h
      | false=>rw [e] at h; exact ih h
section
variable {X:Cx}
theorem comp_core (N:List Str) (fr:List (Option Nat)) {elt tg iter:Expr} {ifs:List Expr} {scope:Scope} {pos fpos:Pos} {wi:TI} {g:TG} {tt:TT} {te:TE} {cl:List (Str×Addr)}
    (hc:X.calm = true) (hi:PI X tg iter wi) (hchk:compChk X.N X.env.scope scope N fr = true) (hclos:closureFor scope X.env = pure cl) (hcl:ClOk X.env.cells cl) (hall:ClAll cl scope.names)
    (hb:∀ (C:Addr) (s:Shared) (H:Hp) (fp:List Addr),PG (cxComp X scope cl N C s H fp) tg g∧PIfs (cxComp X scope cl N C s H fp) ifs tt∧PE (cxComp X scope cl N C s H fp) elt te)
    (hs:∀ x,foldedSetIterable iter X.env x = pure x) {pins:List (Addr×Obj)} {s:Shared} {σ:St} {H:Hp} {Q:VK} {use:Option (Value→Sem Unit)} {Qc:Value→Shared→Prop} (I:Inv X pins σ H s) (h:tComp fr wi g tt te σ H Q)
    (hfin:∀ (l:Addr) (H':Hp) (s':Shared) (C:Addr),Inv X pins σ H' s'→FpOk X pins H' C→(∃ m,s'.heap.Ns C m)→Q (.ref l) H'→compPost (model X.prog X.w) X.A X.xe use Qc (.ref l) C (.ok .next) s') :
    wpAny (model X.prog X.w) X.A (comprehension (.ListComp elt [⟨tg,iter,ifs,0⟩] scope pos) scope X.env fpos (newList []) (firstAsync [⟨tg,iter,ifs,0⟩]) (firstIter [⟨tg,iter,ifs,0⟩] X.env) use) Qc X.xe s:=by
  simp only [compChk,Bool.and_eq_true,decide_eq_true_eq,List.all_eq_true,Bool.or_eq_true,Bool.not_eq_true',decide_eq_false_iff_not] at hchk
  obtain ⟨⟨⟨⟨⟨hkind,hlen⟩,hcell⟩,hnames⟩,hfree⟩,hfr⟩:=hchk
  have hnames':∀ x∈scope.names,x.2 = .local→scope.names.lookup x.1 = some .local:=fun y hy e=>(hnames y hy).resolve_left fun z=>z e
  have hcell':∀ x∈scope.names,x.2≠.cell:=fun y hy=>hcell y hy
  refine wpAny_comprehension_free (use:=use) rfl hs hclos hkind hnames' (thn (hi pins s σ H _ I h) fun v s1 h1=>thn h1 fun itv s2 h2=>?_)
  obtain ⟨it,fp,tn,J,H2,e,I2,T,st2,f2,hQ⟩:=h2
  subst e
  refine wpAny_newObj_type (hd:=by size_fits) (wpAny_newFunctionEnv hcell' (by intro y hy; simp at hy) (fun h₁ hns hsb=>?_) hkind)
  dsimp only at hns hsb ⊢
  obtain ⟨W,⟨m0,w0⟩,turn⟩:=hQ s2.heap.objs.size I2.fresh
  have I3:Inv X pins σ (upd H2 s2.heap.objs.size (.lst [])) { s2 with heap:=s2.heap.push { cls:=.type "list",data:=.seq ([]:List Value).toArray },toks:=s2.toks }:=I2.lnew (its:=[]) .nil (Nat.zero_le _)
  generalize hh3:s2.heap.push { cls:=.type "list",dict:=none,data:=.seq ([]:List Value).toArray } = h3 at hns hsb ⊢
  rw [show s2.heap.push { cls:=.type "list",data:=.seq ([]:List Value).toArray } = h3 from hh3] at I3
  generalize hH3:upd H2 s2.heap.objs.size (.lst []) = H3 at I3 w0
  generalize hl:s2.heap.objs.size = l at turn hH3 ⊢
  have hl3:l < h3.objs.size:=by rw [← hh3,← hl,Heap.size_push]; exact Nat.lt_succ_self _
  generalize hs3:({ s2 with heap:=h3,toks:=s2.toks }:Shared) = s3 at I3
  have es3:s3.heap = h3:=by rw [← hs3]
  have eos:s3.os = s2.os:=by rw [← hs3]
  have egens:s3.gens = s2.gens:=by rw [← hs3]
  generalize hC:h3.objs.size = C at hns hsb ⊢
  have old:∀ b o,h3.get? b = some o→h₁.get? b = some o:=fun b o e=>
    hsb.extBut b o (by rw [← hC]; exact Nat.ne_of_lt (Heap.lt_size e)) (Heap.get?_push_of_some _ e)
  have f3:∀ b∈fp,FpOk X pins H3 b:=fun b hb=>by
    obtain ⟨g0,g1⟩:=f2 b hb
    refine ⟨?_,g1⟩
    rw [← hH3]
    have:b≠l:=by
      obtain ⟨o,e,_⟩:=T.obj _ _ st2 b hb
      rw [← hl]; exact Nat.ne_of_lt (Heap.lt_size e)
    rw [upd_ne this]; exact g0
  have st3:tn 0 h₁:=T.keep _ _ _ st2 fun b hb o e=>old b o (by rw [← hh3]; exact Heap.get?_push_of_some _ e)
  have ok:(cxComp X scope cl N C s3 H3 fp).Ok:=by
    refine ⟨I3.ok.mod,?_,I3.ok.glob,I3.ok.blt,?_,fun x y c e1 e2=>I3.ok.inj x y c (hcl.get e1) (hcl.get e2),fun x hx=>?_,fun x c hx=>(by cases hx),I3.ok.hd,I3.ok.frames,.inl rfl,fun b hb=>?_,fun b o e=>?_,?_,fun b o e hb=>?_,fun b hb hb2=>?_,?_,fun b hb=>?_⟩
    · exact hkind
    · show s3.heap.objs.size≤C
      rw [es3,hC]; exact Nat.le_refl _
    · have hx':(relabel scope X.env).names.lookup x = some .cell∨(relabel scope X.env).names.lookup x = some .free:=hx
      have:scope.names.lookup x = some .free:=by
        rcases hx' with z | z
        · rcases relabel_cell z with q | ⟨_,q⟩
          · exact absurd rfl (hcell' _ (PySem.mem_of_lookup q))
          · exact q
        · rcases relabel_cell z with q | ⟨q,_⟩
          · exact q
          · cases q
      exact hall.get _ (PySem.mem_of_lookup this) rfl
    · obtain ⟨g0,g1,g2,g3,g4,g5⟩:=f3 b hb
      obtain ⟨o,e,_⟩:=T.obj _ _ st2 b hb
      refine ⟨?_,fun x c e=>g4 x c (hcl.get e)⟩
      show b≠C
      rw [← hC]
      exact Nat.ne_of_lt (Heap.lt_size (by rw [← hh3]; exact Heap.get?_push_of_some _ e))
    · have q:=I3.bs b o e
      exact q
    · show X.base.objs.size≤s3.heap.objs.size
      exact Nat.le_trans I3.ok.bsz I3.sz
    · obtain ⟨g0,g1,g2,g3,g4,g5⟩:=f3 b hb
      rcases g3 with z | z
      · exact I3.ok.noex b o e z
      · exact absurd (Nat.lt_of_lt_of_le (Heap.lt_size e) (Nat.le_trans I3.ok.bsz z)) (Nat.lt_irrefl _)
    · obtain ⟨g0,g1,g2,g3,g4,g5⟩:=f3 b hb
      rcases List.mem_cons.mp (I3.stkSub b hb2) with z | z
      · exact g1 z
      · exact g2 z
    · show s3.heap.FunFrames X.base X.stack
      exact I3.stack
    · exact I3.stkFree b hb
  have I4:Inv (cxComp X scope cl N C s3 H3 fp) [] (stC fr σ) H3 { s2 with heap:=h₁,toks:=s2.toks + ([]:List (Str×Value)).length }:=by
    have hk3:∀ b o,s3.heap.get? b = some o→h₁.get? b = some o:=fun b o e=>old b o (by rw [← es3]; exact e)
    refine ⟨ok,eos.symm ▸ rfl,egens ▸ I3.bare,Un.kept hk3,⟨_,hns,fun i x v e1 e2 e3=>?_⟩,fun x c e=>?_,?_,fun x c e=>I3.freeC x c (hcl.get e),fun p hp=>(by cases hp),I3.hok.kept hk3,?_⟩
    ·
      have e1':N[i]? = some x:=e1
      have e2':(fr[i]?).map (fun o=>o.bind fun i=>(σ[i]?).bind id) = some (some v):=by
        have:(stC fr σ)[i]? = some (some v):=e2
        rw [stC,List.getElem?_map] at this
        exact this
      cases q:fr[i]? with
      | none=>rw [q] at e2'; cases e2'
      | some o=>
        rw [q] at e2'
        cases o with
        | none=>cases e2'
        | some j=>
          have e2'':(σ[j]?).bind id = some v:=Option.some.inj e2'
          obtain ⟨p1,p2⟩:X.N[j]? = some x∧scope.names.lookup x = some .free:=by
            have hz:(x,some j)∈N.zip fr:=by
              have:(N.zip fr)[i]? = some (x,some j):=by
                rw [List.getElem?_zip_eq_some]; exact ⟨e1',q⟩
              exact List.mem_of_getElem? this
            have:=hfr _ hz
            simpa using this
          have hv:X.env.scope.names.lookup x = some .cell∨X.env.scope.names.lookup x = some .free:=by
            rcases hfree _ (PySem.mem_of_lookup p2) with z | z
            · exact absurd rfl z
            · simpa using z
          have e3':σ[j]? = some (some v):=by
            cases q3:σ[j]? with
            | none=>rw [q3] at e2''; cases e2''
            | some w'=>rw [q3] at e2''; have:w' = some v:=e2''; rw [this]
          obtain ⟨m,hn,hl'⟩:=I3.loc
          obtain ⟨u,ru,lk⟩:=hl' j x v p1 e3' (.inr hv)
          refine ⟨u,ru,.inr ⟨relabel_free p2,?_⟩⟩
          rcases lk with ⟨lk,_⟩ | ⟨_,c,ec,cc⟩
          · have lk':X.env.scope.names.lookup x = some .local:=lk
            rcases hv with z | z <;> (rw [z] at lk'; cases lk')
          · obtain ⟨c',ec'⟩:=hall.get _ (PySem.mem_of_lookup p2) rfl
            have:=hcl.get ec'
            rw [ec] at this; cases this
            obtain ⟨o,ho,hd⟩:=cc
            exact ⟨c,ec',o,hk3 _ _ ho,hd⟩
    · obtain ⟨v,o,ho,hd⟩:=I3.cell x c (hcl.get e)
      exact ⟨v,o,hk3 _ _ ho,hd⟩
    · show H3 C = none
      exact I3.hok.fresh (by rw [es3,hC]; exact Nat.le_refl _)
    · show (stC fr σ).length = N.length
      rw [stC,List.length_map]; exact hlen
  obtain ⟨hg,ht,he⟩:=hb C s3 H3 fp
  have fpc:∀ {H':Hp},(∀ b∈fp,H' b = none)→∀ b∈fp,FpOk (cxComp X scope cl N C s3 H3 fp) [] H' b:=fun hn b hb=>by
    obtain ⟨q1,q2⟩:=ok.exf b hb
    exact ⟨hn b hb,q1,ok.exfs b hb,.inl hb,q2,fun p hp=>by cases hp⟩
  have fin:∀ (σ':St) (H':Hp) (s':Shared),Inv (cxComp X scope cl N C s3 H3 fp) [] σ' H' s'→Q (.ref l) H'→compPost (model X.prog X.w) X.A X.xe use Qc (.ref l) C (.ok .next) s':=fun σ' H' s' I' q=>by
    obtain ⟨m,hn,_⟩:=I'.loc
    have nC:∀ b o,s3.heap.get? b = some o→b≠C:=fun b o e=>by
      rw [← hC,← es3]; exact Nat.ne_of_lt (Heap.lt_size e)
    have fC:H' C = none:=I'.free
    have u:=I'.base
    refine hfin l H' s' C ?_ (I3.fpOk (by rw [es3,hC]; exact Nat.le_refl _) fC) ⟨m,hn⟩ q
    refine I3.call' (s':=s') (ch:=fp) I'.os ⟨fun b o e n hb hx=>u.keep b o e n hb hx,fun b o e n hb hx=>u.slot b o e n hb hx,u.free,fun b o e hx=>u.there b o e hx,u.tups,u.frzs,u.tbls⟩ (fun b o e=>I'.hok b o e) I'.bare fun b hb=>?_
    obtain ⟨g0,g1,g2,g3,g4,g5⟩:=f3 b hb
    exact ⟨g3,g1,g4,g5⟩
  have loop:codeAny (model X.prog X.w) X.A (.compLoop (.ListComp elt [⟨tg,iter,ifs,0⟩] scope pos) 0 (.ref it) (.ref l) (compEnvC scope cl C X.env)) (compPost (model X.prog X.w) X.A X.xe use Qc (.ref l) C)
      { s2 with heap:=h₁,toks:=s2.toks + ([]:List (Str×Value)).length }:=by
    refine comp_turns (fun n s'=>∃ i σ' H',Inv (cxComp X scope cl N C s3 H3 fp) [] σ' H' s'∧tn i s'.heap∧(∀ b∈fp,H' b = none)∧W i n σ' H') ?_ m0 ⟨0,_,H3,I4,st3,fun b hb=>(f3 b hb).1,w0⟩
    rintro n s5 ⟨i,σ5,H5,I5,st5,fr5,w5⟩
    rcases turn i n σ5 H5 w5 with ⟨stop,qn⟩ | ⟨go,step⟩
    · refine thn (T.done (cxComp X scope cl N C s3 H3 fp) rfl rfl rfl hc i [] s5 σ5 H5 (fun _ _=>False) I5 (fpc fr5) st5 stop) fun r s6 ⟨hr,I6⟩=>?_
      subst hr
      exact fin σ5 H5 s6 I6 qn
    · refine thn (T.item (cxComp X scope cl N C s3 H3 fp) rfl rfl rfl hc i [] s5 σ5 H5 (fun _ _=>False) I5 (fpc fr5) st5 go) fun r s6 ⟨u,hr,h6⟩=>?_
      subst hr
      refine thn h6 fun _ s7 ⟨x,H7,I7,r7,y7,st7,fr7⟩=>?_
      have I7':=I7.pinned (fpc fr7) (T.obj _ _ st7)
      refine thn (hg _ s7 σ5 H7 x u _ I7' r7 (step x H7 y7)) fun _ s8 ⟨σ8,H8,I8,q8⟩=>?_
      have again:∀ {σ9:St} {H9:Hp} {s9:Shared},Inv (cxComp X scope cl N C s3 H3 fp) ([] ++ pinsAt fp s7.heap) σ9 H9 s9→(∃ m',m' < n∧W (i + 1) m' σ9 H9)→∃ m,m < n∧∃ i σ' H',Inv (cxComp X scope cl N C s3 H3 fp) [] σ' H' s9∧tn i s9.heap∧(∀ b∈fp,H' b = none)∧W i m σ' H':=fun {σ9 H9 s9} I9 n9=>by
        obtain ⟨m',hm,w9⟩:=n9
        refine ⟨m',hm,i + 1,σ9,H9,I9.unpinned,T.keep _ _ _ st7 fun b hb o e=>(I9.pin (b,o) (List.mem_append_right _ (List.mem_append_right _ (mem_pinsAt hb e)))).1,fun b hb=>?_,w9⟩
        obtain ⟨o,e,d⟩:=T.obj _ _ st7 b hb
        exact (I9.pin (b,o) (List.mem_append_right _ (List.mem_append_right _ (mem_pinsAt hb e)))).2.1
      refine thn (ht _ s8 σ8 H8 _ I8 q8) fun ok s9 ⟨H9,I9,q9⟩=>?_
      cases ok with
      | false=>
        rw [if_neg Bool.false_ne_true] at q9 ⊢
        exact again I9 q9
      | true=>
        rw [if_pos rfl] at q9 ⊢
        refine thn (he _ s9 σ8 H9 _ I9 q9) fun y sa ⟨vy,Ha,Ia,ry,qa⟩=>?_
        obtain ⟨xs,hla,hsz,n9⟩:=qa
        refine thn (mt_append _ sa σ8 Ha (.ref l) [vy] (.ref l) [y] (fun _ Hb=>∃ m',m' < n∧W (i + 1) m' σ8 Hb) Ia rfl (.cons ry .nil) ⟨l,xs,vy,rfl,rfl,hla,hsz,n9⟩) fun _ sb ⟨_,Hb,Ib,_,qb⟩=>?_
        exact again Ib qb
  show codeAny (model X.prog X.w) X.A (.compStart (.ListComp elt [⟨tg,iter,ifs,0⟩] scope pos) 0 (.ref it) (.ref l) (compEnvC scope cl C X.env)) (compPost (model X.prog X.w) X.A X.xe use Qc (.ref l) C) { s2 with heap:=h₁,toks:=s2.toks + ([]:List (Str×Value)).length }
  exact codeAny_compStart_list loop (T.self _ 0 _ _ _ st3 loop)
theorem pe_comp (N:List Str) (fr:List (Option Nat)) {elt tg iter:Expr} {ifs:List Expr} {scope:Scope} {pos:Pos} {wi:TI} {g:TG} {tt:TT} {te:TE} {cl:List (Str×Addr)}
    (hc:X.calm = true) (hi:PI X tg iter wi) (hchk:compChk X.N X.env.scope scope N fr = true) (hclos:closureFor scope X.env = pure cl) (hcl:ClOk X.env.cells cl) (hall:ClAll cl scope.names)
    (hb:∀ (C:Addr) (s:Shared) (H:Hp) (fp:List Addr),PG (cxComp X scope cl N C s H fp) tg g∧PIfs (cxComp X scope cl N C s H fp) ifs tt∧PE (cxComp X scope cl N C s H fp) elt te)
    (hs:∀ x,foldedSetIterable iter X.env x = pure x:=by intro _; rfl) :
    PE X (.ListComp elt [⟨tg,iter,ifs,0⟩] scope pos) (tComp fr wi g tt te):=by
  intro pins s σ H Q I h
  rw [eval_ListComp]
  refine comp_core N fr hc hi hchk hclos hcl hall hb hs I h fun l H' s' C I' fC ⟨m,hn⟩ q=>?_
  refine ⟨m,hn,fun h'' hs''=>⟨.ref l,H',?_,rfl,q⟩⟩
  obtain ⟨f0,f1,f2,f3,f4,f5⟩:=fC
  exact I'.turned (t':=s'.toks) (fun b o hb e=>(hs''.2 b hb).trans e) f0 f1 f3 f4 f5
theorem ps_setC (N:List Str) (fr:List (Option Nat)) {i:Nat} {x:Str} {elt tg iter:Expr} {ifs:List Expr} {scope:Scope} {cpos pos pos':Pos} {wi:TI} {g:TG} {tt:TT} {te:TE} {cl:List (Str×Addr)}
    (hN:X.N.Nodup) (hi':X.N[i]? = some x) (hx:Loc X.env.scope x)
    (hc:X.calm = true) (hi:PI X tg iter wi) (hchk:compChk X.N X.env.scope scope N fr = true) (hclos:closureFor scope X.env = pure cl) (hcl:ClOk X.env.cells cl) (hall:ClAll cl scope.names)
    (hb:∀ (C:Addr) (s:Shared) (H:Hp) (fp:List Addr),PG (cxComp X scope cl N C s H fp) tg g∧PIfs (cxComp X scope cl N C s H fp) ifs tt∧PE (cxComp X scope cl N C s H fp) elt te)
    (hs:∀ x,foldedSetIterable iter X.env x = pure x:=by intro _; rfl)
    (hsw:swapsWith (.ListComp elt [⟨tg,iter,ifs,0⟩] scope cpos) (some (.Name x pos')) pos.line X.env = pure true:=by rfl)
    (hf:X.fn x = true∨X.env.scope.names.lookup x = some .local:=by first | exact .inl rfl | exact .inr rfl | assumption) :
    PS X (.Assign [.Name x pos'] (.ListComp elt [⟨tg,iter,ifs,0⟩] scope cpos) pos) (tAsg (tComp fr wi g tt te) (gName i)):=by
  intro pins s σ H D I h
  rw [exec_Assign_arm]
  refine wpAny_bind (wpAny_standAt ?_)
  rw [show swapsWithSole [.Name x pos'] (.ListComp elt [⟨tg,iter,ifs,0⟩] scope cpos) pos.line X.env = pure true from hsw]
  refine wpAny_bind (wpAny_pure ?_)
  rw [if_pos rfl,arm_evalThenUse_ListComp]
  refine wpAny_bind (wpAny_bind ?_)
  have h1:tComp fr wi g tt te σ H fun v H1=>D.nx (σ.set i (some v)) H1:=h
  refine comp_core (use:=some _) N fr hc hi hchk hclos hcl hall hb hs I h1 fun l H' s' C I' fC ⟨m,hn⟩ q=>?_
  obtain ⟨f0,f1,f2,f3,f4,f5⟩:=fC
  obtain ⟨o,es,ep,ho,hd,hk,hm⟩:=hn
  have Ip:Inv X (pins ++ [(C,o)]) σ H' s':=I'.pins_of fun p hp=>(List.mem_append.mp hp).elim (fun z=>I'.pin p (List.mem_append_right _ z)) fun z=>by
    rw [List.mem_singleton.mp z]
    exact ⟨ho,f0,f1,f2,fun v e=>by rw [hd] at e; cases e⟩
  show wpAny _ _ (assignAll (.ref l) [assign (.Name x pos') X.env]) _ _ _
  rw [assignAll.eq_2]
  refine wpAny_assign_Name (store_ok Ip hN hi' hx (v:=.ref l) rfl (fun s2 I2=>?_) hf)
  have ho2:=(I2.pin (C,o) (List.mem_append_right _ (List.mem_append_right _ (List.mem_singleton_self _)))).1
  refine ⟨m,⟨o,es,ep,ho2,hd,hk,hm⟩,fun h' hs'=>wpAny_pure (wpAny_pure ⟨_,H',?_,q⟩)⟩
  exact I2.unpinned.turned (t':=s2.toks) (fun b o hb e=>(hs'.2 b hb).trans e) f0 f1 f3 f4 f5
def compChk0 (sc:Scope):Bool:=
  decide (sc.kind = .function) && (sc.names.all fun y=>!decide (y.2 = .cell)) && (sc.names.all fun y=>!decide (y.2 = .local) || decide (sc.names.lookup y.1 = some .local)) && (sc.names.all fun y=>!decide (y.2 = .free))
theorem pe_comp0 (N:List Str) {elt tg iter:Expr} {ifs:List Expr} {scope:Scope} {pos:Pos} {wi:TI} {g:TG} {tt:TT} {te:TE}
    (hc:X.calm = true) (hi:PI X tg iter wi) (hchk:compChk0 scope = true)
    (hb:∀ (C:Addr) (s:Shared) (H:Hp) (fp:List Addr),PG (cxComp X scope [] N C s H fp) tg g∧PIfs (cxComp X scope [] N C s H fp) ifs tt∧PE (cxComp X scope [] N C s H fp) elt te)
    (hs:∀ x,foldedSetIterable iter X.env x = pure x:=by intro _; rfl) :
    PE X (.ListComp elt [⟨tg,iter,ifs,0⟩] scope pos) (tComp (N.map fun _=>none) wi g tt te):=by
  simp only [compChk0,Bool.and_eq_true,decide_eq_true_eq,List.all_eq_true,Bool.or_eq_true,Bool.not_eq_true',decide_eq_false_iff_not] at hchk
  obtain ⟨⟨⟨hkind,hcell⟩,hnames⟩,hfree⟩:=hchk
  refine pe_comp (cl:=[]) N (N.map fun _=>none) hc hi ?_ (closureFor_none fun x hx=>hfree x hx) trivial ?_ hb hs
  · simp only [compChk,Bool.and_eq_true,decide_eq_true_eq,List.all_eq_true,Bool.or_eq_true,Bool.not_eq_true',decide_eq_false_iff_not]
    refine ⟨⟨⟨⟨⟨hkind,by simp⟩,hcell⟩,hnames⟩,fun y hy=>.inl (hfree y hy)⟩,fun p hp=>?_⟩
    have:p.2∈N.map fun _=>(none:Option Nat):=(List.of_mem_zip hp).2
    obtain ⟨_,_,e⟩:=List.mem_map.mp this
    rw [← e]
  · have:∀ ns:List (Str×NameKind),(∀ y∈ns,y.2≠.free)→ClAll [] ns:=by
      intro ns
      induction ns with
      | nil=>intro _; exact trivial
      | cons p r ih=>intro h; exact ⟨fun e=>absurd e (h p List.mem_cons_self),ih fun y hy=>h y (List.mem_cons_of_mem _ hy)⟩
    exact this _ fun y hy=>hfree y hy
theorem ps_setC0 (N:List Str) {i:Nat} {x:Str} {elt tg iter:Expr} {ifs:List Expr} {scope:Scope} {cpos pos pos':Pos} {wi:TI} {g:TG} {tt:TT} {te:TE}
    (hN:X.N.Nodup) (hi':X.N[i]? = some x) (hx:Loc X.env.scope x)
    (hc:X.calm = true) (hi:PI X tg iter wi) (hchk:compChk0 scope = true)
    (hb:∀ (C:Addr) (s:Shared) (H:Hp) (fp:List Addr),PG (cxComp X scope [] N C s H fp) tg g∧PIfs (cxComp X scope [] N C s H fp) ifs tt∧PE (cxComp X scope [] N C s H fp) elt te)
    (hs:∀ x,foldedSetIterable iter X.env x = pure x:=by intro _; rfl)
    (hsw:swapsWith (.ListComp elt [⟨tg,iter,ifs,0⟩] scope cpos) (some (.Name x pos')) pos.line X.env = pure true:=by rfl)
    (hf:X.fn x = true∨X.env.scope.names.lookup x = some .local:=by first | exact .inl rfl | exact .inr rfl | assumption) :
    PS X (.Assign [.Name x pos'] (.ListComp elt [⟨tg,iter,ifs,0⟩] scope cpos) pos) (tAsg (tComp (N.map fun _=>none) wi g tt te) (gName i)):=by
  simp only [compChk0,Bool.and_eq_true,decide_eq_true_eq,List.all_eq_true,Bool.or_eq_true,Bool.not_eq_true',decide_eq_false_iff_not] at hchk
  obtain ⟨⟨⟨hkind,hcell⟩,hnames⟩,hfree⟩:=hchk
  refine ps_setC (cl:=[]) N (N.map fun _=>none) hN hi' hx hc hi ?_ (closureFor_none fun x hx=>hfree x hx) trivial ?_ hb hs hsw hf
  · simp only [compChk,Bool.and_eq_true,decide_eq_true_eq,List.all_eq_true,Bool.or_eq_true,Bool.not_eq_true',decide_eq_false_iff_not]
    refine ⟨⟨⟨⟨⟨hkind,by simp⟩,hcell⟩,hnames⟩,fun y hy=>.inl (hfree y hy)⟩,fun p hp=>?_⟩
    have:p.2∈N.map fun _=>(none:Option Nat):=(List.of_mem_zip hp).2
    obtain ⟨_,_,e⟩:=List.mem_map.mp this
    rw [← e]
  · have:∀ ns:List (Str×NameKind),(∀ y∈ns,y.2≠.free)→ClAll [] ns:=by
      intro ns
      induction ns with
      | nil=>intro _; exact trivial
      | cons p r ih=>intro h; exact ⟨fun e=>absurd e (h p List.mem_cons_self),ih fun y hy=>h y (List.mem_cons_of_mem _ hy)⟩
    exact this _ fun y hy=>hfree y hy
end
end L2
namespace L2
open PySem PySem.Spec PyProof.Rows
def Def (P:Program) (w:World) (K:PySem.W.Frag) (mg:Str→Option Value) (base:Heap) (k:Nat) (x:Str) (ps:List Str) (sp:Sp):Prop:=
  ∃ (f:Addr) (fd:FuncData),FnOk P w K mg base CX0 k f fd ps sp∧mg x = some (.ref f)∧PySem.W.keepIn K (.ref f) = true∧Binds K fd ps []
section
variable {X:Cx} {k:Nat} {x:Str} {ps:List Str} {sp:Sp} {e:Expr} {es:List Expr} {t:TA} {p pos:Pos}
theorem pe_fn (D:Def X.prog X.w X.K X.mg X.base k x ps sp) (hr:Room k X.A) (hg:Gl X x) (ha:PA X (e :: es) t)
    (hdb:(x == ("__debug__":Str)) = false:=by decide) (he:starEach (e :: es) X.env = (false,eval e X.env) :: starEach es X.env:=by rfl) (hpl:(backTo pos (starEach es X.env)).any (·.1) = false:=by rfl) :
    PE X (.Call (.Name x p) (e :: es) [] pos) (tCall sp [] E0 t):=by
  obtain ⟨f,fd,F,hm,hk,hb⟩:=D
  exact pe_call F hr hg hm hk hb .nil pass0 ha hdb he hpl
theorem pe_fn0 (D:Def X.prog X.w X.K X.mg X.base k x ps sp) (hr:Room k X.A) (hg:Gl X x)
    (hdb:(x == ("__debug__":Str)) = false:=by decide) :
    PE X (.Call (.Name x p) [] [] pos) (tCall sp [] E0 tNil):=by
  obtain ⟨f,fd,F,hm,hk,hb⟩:=D
  exact pe_call0 F hr hg hm hk hb .nil pass0 hdb
end
section
variable {X:Cx}
theorem pe_globI {x:Str} {i:Int} {pos:Pos} (hg:Gl X x) (hm:∃ t,X.mg x = some (.int i t)) (hd:(x == ("__debug__":Str)) = false:=by decide):PE X (.Name x pos) (tC (.int i)):=by
  obtain ⟨t,hm⟩:=hm
  exact pe_glob hg hm ⟨_,rfl⟩ hd
theorem pe_ty {x:Str} {T:String} {pos:Pos} (hg:Gl X x) (hm:X.mg x = none) (hv:bootBuiltins x = some (.type T)) (hn:x≠"__name__":=by decide) (hd:(x == ("__debug__":Str)) = false:=by decide):PE X (.Name x pos) (tC (.ty T)):=pe_bltn hg hm hv rfl hn hd
theorem pe_globS {x z:Str} {pos:Pos} (hg:Gl X x) (hm:∃ t,X.mg x = some (.str z t)) (hd:(x == ("__debug__":Str)) = false:=by decide):PE X (.Name x pos) (tC (.str z)):=by
  obtain ⟨t,hm⟩:=hm
  exact pe_glob hg hm ⟨_,rfl⟩ hd
end
theorem bt_isinstance:bootBuiltins "isinstance" = some (.builtin "isinstance"):=by decide +kernel
theorem bt_all:bootBuiltins "all" = some (.builtin "all"):=by decide +kernel
theorem bt_sum:bootBuiltins "sum" = some (.builtin "sum"):=by decide +kernel
theorem bt_sorted:bootBuiltins "sorted" = some (.builtin "sorted"):=by decide +kernel
theorem bt_len:bootBuiltins "len" = some (.builtin "len"):=by decide +kernel
theorem bt_max:bootBuiltins "max" = some (.builtin "max"):=by decide +kernel
theorem bt_int:bootBuiltins "int" = some (.type "int"):=by decide +kernel
theorem bt_bool:bootBuiltins "bool" = some (.type "bool"):=by decide +kernel
theorem bt_str:bootBuiltins "str" = some (.type "str"):=by decide +kernel
theorem bt_list:bootBuiltins "list" = some (.type "list"):=by decide +kernel
theorem bt_set:bootBuiltins "set" = some (.type "set"):=by decide +kernel
theorem kit_of {t c:String} {b:Bool} (h:(if (Value.type t == Value.type c) = true then some true else if PySem.W.kitMeta c = true then (fastBuiltinMro t).map (·.contains (.type c)) else none) = some b) (K:PySem.W.Frag) :
    PySem.W.kitOne K (.type t) (.type c) = some b:=h
theorem kit_str_str (K:PySem.W.Frag):PySem.W.kitOne K (.type "str") (.type "str") = some true:=kit_of (by decide +kernel) K
section
variable {X:Cx}
def rIsi (K:PySem.W.Frag):List V→Hp→VK→Prop:=fun xs H Q=>∃ x c t b,xs = [x,.ty c]∧TyOf K H x t∧PySem.W.kitOne K t (.type c) = some b∧Q (.bl b) H
theorem call_isinst:CallR X (.builtin "isinstance") (rIsi X.K):=by
  intro pins s σ H xs us Q I r h
  obtain ⟨x,c,t,b,rfl,ty,e,q⟩:=h
  obtain ⟨u,v,rfl,ru,rv⟩:=vals2 r
  have ev:v = Value.type c:=rv
  subst ev
  exact isinst_ok I ru ty e fun tk=>⟨.bl b,H,I.tok _,rfl,q⟩
end
def pureV:V→Bool
  | .non=>true
  | .int _=>true
  | .str _=>true
  | _=>false
theorem pure_eq {x y:V} (hx:pureV x = true) (hy:pureV y = true):eqV x y = decide (x = y):=by
  cases x <;> first | exact absurd (show false = true from hx) Bool.false_ne_true | skip
  all_goals (cases y <;> first | exact absurd (show false = true from hy) Bool.false_ne_true | skip)
  · rfl
  · rfl
  · rfl
  · rfl
  · exact dec_int.symm
  · rfl
  · rfl
  · rfl
  · exact dec_str.symm
section
variable {X:Cx}
end
theorem boolsAre_of:∀ {bs:List Bool} {us:List Value},Vals (bs.map V.bl) us→LSm.BoolsAre us bs
  | [],_,.nil=>.nil
  | b :: bs,_,.cons r t=>by
    have e:_ = Value.bool b:=r
    subst e
    exact .cons b (boolsAre_of t)
section
variable {prog:Program} {w:World} {A:Around} {E:Value→Shared→Prop} {s:Shared} {l:Addr} {vs:List Value}
theorem all_kept {bs:List Bool} {Q:Value→Shared→Prop} (hh:A.handled = none) (hl:s.heap.IsList l vs.toArray) (hb:LSm.BoolsAre vs bs)
    (h:∀ h' tk,(∀ b o,s.heap.get? b = some o→h'.get? b = some o)→Q (.bool (bs.all id)) { s with heap:=h',toks:=tk }):wpAny (model prog w) A (call (.builtin "all") [.ref l]) Q E s:=by
  have below:l < s.heap.objs.size:=(fun ⟨_,e,_⟩=>Heap.lt_size e:s.heap.IsList l vs.toArray→_) hl
  have whole:((List.range vs.toArray.size).all fun i=>(bs[i]?).getD true) = bs.all id:=by rw [List.size_toArray,hb.length,LSm.range_all]
  exact call_all_walk (wpAny_pyIter_list hl ⟨s.heap.objs.size,[s.heap.objs.size,l],[s.heap.objs.size],vs.toArray.size,_,_,fun i=>(bs[i]?).getD true,rfl,Walks.list (A:=A.in1) hh _ l (Nat.ne_of_lt below) vs.toArray,⟨⟨_,Heap.get?_push_size _ rfl,rfl,rfl⟩,hl.push _⟩,
    (fun i v s' Q' E' hP hQ=>by
      obtain ⟨b,hg,hv⟩:=hb.get i v (by simpa using hP)
      have hQ':Q' b s':=by simpa [hg] using hQ
      subst hv
      exact wpAny_truthy_bool hQ'),
    fun h' tk hk=>whole ▸ h h' tk (LSm.kept_iter hk)⟩)
end
section
variable {X:Cx}
theorem call_all (hc:X.calm = true):CallR X (.builtin "all") (fun xs H Q=>∃ (a:Addr) (bs:List Bool),xs = [.ref a]∧SqL X.K H a (bs.map V.bl)∧Q (.bl (bs.all id)) H):=by
  intro pins s σ H xs us Q I r h
  obtain ⟨a,bs,rfl,h1,q⟩:=h
  obtain ⟨u,rfl,ru⟩:=vals1 r
  cases ru
  obtain ⟨its,r1,p1,_⟩:=I.list h1
  exact all_kept (I.ok.hd hc) p1.isList (boolsAre_of r1) fun h' tk hk=>⟨.bl _,H,I.kept hk,rfl,q⟩
theorem call_sum (hc:X.calm = true):CallR X (.builtin "sum") (fun xs H Q=>∃ (a:Addr) (ns:List Int),xs = [.ref a]∧SqL X.K H a (ns.map V.int)∧Q (.int ns.sum) H):=by
  intro pins s σ H xs us Q I r h
  obtain ⟨a,ns,rfl,h1,q⟩:=h
  obtain ⟨u,rfl,ru⟩:=vals1 r
  cases ru
  obtain ⟨its,r1,p1,_⟩:=I.list h1
  have hi:=intsAre_of r1
  obtain ⟨zs,hz⟩:=hi.allInts.items
  have due:preSum (numAt zs) zs.size = ns.sum:=by
    have:zs.toList.map (·.1) = ns:=by rw [← nums_intItems,← hz]; exact hi.numsOf
    rw [← this,preSum_eq,List.take_of_length_le (by simp)]
  exact sum_intListG (I.ok.hd hc) (hz ▸ p1.isList) fun h' tk t' hk=>⟨.int ns.sum,H,I.kept hk,⟨_,by rw [due]⟩,q⟩
def rCatS (K:PySem.W.Frag):R2:=fun x y H Q=>∃ l b xs zs,x = .ref l∧y = .ref b∧SqL K H l xs∧SqL K H b zs∧xs.length + zs.length≤sizeLine∧∀ p,H p = none→Q (.ref p) (upd H p (.lst (xs ++ zs)))
theorem op_catS:OpR X (binaryOp .Add) (rCatS X.K):=by
  intro pins s σ H x y v u Q I rx ry h
  obtain ⟨l,b,xs,zs,rfl,rfl,h1,h2,hz,q⟩:=h
  cases rx
  cases ry
  obtain ⟨its,r,p1,_⟩:=I.list h1
  obtain ⟨its2,r2,p2,_⟩:=I.list h2
  have l1:=r.length
  have l2:=r2.length
  obtain ⟨⟨cls,dd,data,sl⟩,ho,hc,n,hd⟩:=id p1.isList
  obtain ⟨⟨cls2,dd2,data2,sl2⟩,ho2,hc2,n2,hd2⟩:=id p2.isList
  simp only at hc hd hc2 hd2
  subst hc hd hc2 hd2
  have e:its.toArray ++ its2.toArray = (its ++ its2).toArray:=by simp
  refine concat_meets ⟨_,ho,rfl⟩ ⟨_,ho2,rfl⟩ noFill_list_add seq_list_add PySem.F.slot_list_add PySem.F.entry_list_add (PySem.F.args_list_add_2 _ _) (list_addW l b its.toArray its2.toArray n n2 dd dd2 sl sl2 (by rw [List.size_toArray,List.size_toArray]; omega)) ⟨ho,ho2,?_⟩
  rw [e]
  exact ⟨.ref _,_,I.lnew (t':=s.toks) (r.append r2) (by rw [List.length_append]; omega),rfl,q _ I.fresh⟩
end
theorem same_new {H:Hp} {p:Addr} (h:H p = none) (o:HO):Same H (upd H p o):=fun b u q=>by rw [upd_ne (ne_of_none q h)]; exact q
theorem same_upd {H H':Hp} {p:Addr} (s:Same H H') (h:H p = none) (o:HO):Same H (upd H' p o):=fun b u q=>by rw [upd_ne (ne_of_none q h)]; exact s b u q
theorem Same.get {H H':Hp} {a:Addr} {o:HO} (s:Same H H') (h:H a = some o):H' a = some o:=s a o h
theorem sizeLine_big:1000000≤sizeLine:=by decide
theorem small {n:Nat} (h:n≤1000000):n≤sizeLine:=Nat.le_trans h sizeLine_big
theorem smallLt {n:Nat} (h:n < 1000000):n < sizeLine:=Nat.lt_of_lt_of_le h sizeLine_big
theorem at_int {ns:List Int} {i:Int} (h0:0≤i) (h1:i < ns.length):atI (ns.map V.int) i = some (.int (ns.getD i.toNat 0)):=by
  have hk:i.toNat < ns.length:=by omega
  have ek:i = ((i.toNat:Nat):Int):=by omega
  have q:atI (ns.map V.int) ((i.toNat:Nat):Int) = some (.int (ns.getD i.toNat 0)):=atI_nat (by rw [List.getElem?_map,List.getElem?_eq_getElem hk]; simp [List.getD,List.getElem?_eq_getElem hk])
  rw [← ek] at q
  exact q
theorem cut_hi {xs:List V} {j:Int} (h:0≤j):cutV xs none (some j) = xs.take j.toNat:=by
  unfold cutV
  rw [show j = ((j.toNat:Nat):Int) by omega,HT.sIx_nat,HT.sIx_none,Int.toNat_natCast,List.drop_zero,Nat.sub_zero]
  by_cases hl:j.toNat≤xs.length
  · rw [Nat.min_eq_left hl]
  · rw [Nat.min_eq_right (by omega),List.take_of_length_le (Nat.le_refl _),List.take_of_length_le (by omega)]
theorem iteFc {c:Bool} {A B:Prop} (h:c = false) (b:B):if c = true then A else B:=by
  subst h
  rw [if_neg Bool.false_ne_true]
  exact b
theorem iteTc {c:Bool} {A B:Prop} (h:c = true) (b:A):if c = true then A else B:=by
  subst h
  rw [if_pos rfl]
  exact b
def ItIs (J:It) (H:Hp) (xs:List V):Prop:=∀ H',Same H H'→∀ i:Nat,(i < xs.length→J.go i H')∧(∀ x H'',J.yld i H' x H''→H'' = H'∧(i < xs.length→xs[i]? = some x))∧(xs.length≤i→J.stop i H')
theorem itIs_list {K:PySem.W.Frag} {a:Addr} {H:Hp} {xs:List V} (h:SqL K H a xs):ItIs (Itl K a) H xs:=fun H' s i=>
  ⟨fun hi=>⟨xs,xs[i],s.seq h,by simp [hi]⟩,fun x H'' y=>⟨y.1,fun _=>y.2 xs (s.seq h)⟩,fun hi=>⟨xs,s.seq h,hi⟩⟩
theorem comp_map {J:It} {xs:List V} {fr:List (Option Nat)} {k:Nat} {te:TE} {Q:VK} {σ:St} {H:Hp} (f:V→V) (hJ:ItIs J H xs) (hn:xs.length≤1000000)
    (helt:∀ (x:V) (H':Hp) (R:VK),x∈xs→Same H H'→(∀ H'',Same H' H''→R (f x) H'')→te ((stC fr σ).set k (some x)) H' R)
    (hQ:∀ l H',H l = none→Same H H'→H' l = some (.lst (xs.map f))→Q (.ref l) H') :
    tCompK fr (gName k) tYes te σ Q J H:=by
  intro l hl
  refine ⟨fun i m σ' H'=>m = xs.length - i∧i≤xs.length∧(∀ y,σ'.set k y = (stC fr σ).set k y)∧Same H H'∧H' l = some (.lst ((xs.take i).map f)),⟨xs.length,by simp,Nat.zero_le _,fun _=>rfl,same_new hl _,by rw [upd_same,List.take_zero,List.map_nil]⟩,?_⟩
  rintro i m σ' H' ⟨rfl,hi,hσ,hs,hl'⟩
  obtain ⟨h1,h2,h3⟩:=hJ H' hs i
  by_cases hlt:i < xs.length
  · refine .inr ⟨h1 hlt,fun x H'' y=>?_⟩
    obtain ⟨rfl,hx⟩:=h2 x H'' y
    have hx:=hx hlt
    show te (σ'.set k (some x)) H'' _
    rw [hσ]
    refine helt x H'' _ (List.mem_of_getElem? hx) hs fun H4 s4=>?_
    refine ⟨_,s4.get hl',smallLt (by rw [List.length_map,List.length_take]; omega),xs.length - (i + 1),by omega,rfl,hlt,fun y=>by rw [List.set_set],same_upd (hs.trans s4) hl _,?_⟩
    rw [upd_same,List.take_add_one,hx]
    simp
  · have e:i = xs.length:=by omega
    subst e
    exact .inl ⟨h3 (Nat.le_refl _),hQ l H' hl hs (by rw [hl',List.take_of_length_le (Nat.le_refl _)])⟩
section
variable {X:Cx} {K:PySem.W.Frag}
theorem ix_tupK (h:X.K = K):IxR X (rIxT K):=by subst h; exact ix_tup
end
def Ok (H:Hp):V→Prop
  | .non=>True
  | .bl _=>True
  | .int _=>True
  | .str z=>z.length≤1000
  | .ref a=>(∃ xs,H a = some (.lst xs))∨∃ xs,H a = some (.tup xs)
  | _=>False
theorem Ok.same {H H':Hp} {v:V} (h:Ok H v) (s:Same H H'):Ok H' v:=by
  cases v <;> first | exact h | skip
  rcases h with ⟨xs,e⟩ | ⟨xs,e⟩
  · exact .inl ⟨xs,s.get e⟩
  · exact .inr ⟨xs,s.get e⟩
def tyN (H:Hp):V→String
  | .non=>"NoneType"
  | .bl _=>"bool"
  | .int _=>"int"
  | .str _=>"str"
  | .ref a=>match H a with
    | some (.lst _)=>"list"
    | some (.tup _)=>"tuple"
    | _=>"?"
  | _=>"?"
theorem Ok.ty {H:Hp} {v:V} (h:Ok H v) (K:PySem.W.Frag):TyOf K H v (.type (tyN H v)):=by
  cases v with
  | non=>exact .non
  | bl b=>exact .bl b
  | int i=>exact .int i
  | str z=>exact .str z
  | ref a=>
    rcases h with ⟨xs,e⟩ | ⟨xs,e⟩
    · have q:tyN H (.ref a) = "list":=by simp only [tyN,e]
      rw [q]; exact .lst e
    · have q:tyN H (.ref a) = "tuple":=by simp only [tyN,e]
      rw [q]; exact .tup e
  | _=>exact h.elim
def isA (t c:String):Bool:=t == c || (t == "bool" && c == "int")
theorem kit_any {t c:String} (K:PySem.W.Frag) (ht:t∈["NoneType","bool","int","str","list","tuple"]) (hc:c∈["bool","int","str","list","tuple"]):PySem.W.kitOne K (.type t) (.type c) = some (isA t c):=by
  have all:∀ t∈["NoneType","bool","int","str","list","tuple"],∀ c∈["bool","int","str","list","tuple"],(if (Value.type t == Value.type c) = true then some true else if PySem.W.kitMeta c = true then (fastBuiltinMro t).map (·.contains (.type c)) else none) = some (isA t c):=by decide +kernel
  exact kit_of (all t ht c hc) K
theorem Ok.tyMem {H:Hp} {v:V} (h:Ok H v):tyN H v∈["NoneType","bool","int","str","list","tuple"]:=by
  cases v with
  | ref a=>
    rcases h with ⟨xs,e⟩ | ⟨xs,e⟩
    · simp only [tyN,e]; decide
    · simp only [tyN,e]; decide
  | byt _=>exact h.elim
  | flt _=>exact h.elim
  | ty _=>exact h.elim
  | _=>simp only [tyN]; decide
theorem Ok.kit {H:Hp} {v:V} (h:Ok H v) (K:PySem.W.Frag) {c:String} (hc:c∈["bool","int","str","list","tuple"]:=by decide):PySem.W.kitOne K (.type (tyN H v)) (.type c) = some (isA (tyN H v) c):=kit_any K h.tyMem hc
theorem tAndV_p {t u:TE} {σ:St} {H:Hp} {Q:VK} (c d:Bool) (ht:∀ R:VK,R (.bl c) H→t σ H R) (hu:c = true→∀ R:VK,R (.bl d) H→u σ H R) (q:Q (.bl (c && d)) H):tAndV t u σ H Q:=by
  refine ht _ ⟨c,rfl,?_⟩
  cases c with
  | false=>rw [if_neg Bool.false_ne_true]; exact q
  | true=>rw [if_pos rfl]; exact hu rfl _ q
theorem tyN_lst {H:Hp} {a:Addr} {xs:List V} (e:H a = some (.lst xs)):tyN H (.ref a) = "list":=by simp only [tyN,e]
theorem tyN_tup {H:Hp} {a:Addr} {xs:List V} (e:H a = some (.tup xs)):tyN H (.ref a) = "tuple":=by simp only [tyN,e]
theorem Ok.elim {H:Hp} {v:V} (ok:Ok H v) {C:Prop} (c1:v = .non→tyN H v = "NoneType"→C) (c2:∀ b,v = .bl b→tyN H v = "bool"→C) (c3:∀ i,v = .int i→tyN H v = "int"→C) (c4:∀ z,v = .str z→z.length≤1000→tyN H v = "str"→C)
    (c5:∀ a xs,v = .ref a→H a = some (.lst xs)→tyN H v = "list"→C) (c6:∀ a xs,v = .ref a→H a = some (.tup xs)→tyN H v = "tuple"→C):C:=by
  cases v with
  | non=>exact c1 rfl rfl
  | bl b=>exact c2 b rfl rfl
  | int i=>exact c3 i rfl rfl
  | str z=>exact c4 z rfl ok rfl
  | ref a=>
    rcases ok with ⟨xs,e⟩ | ⟨xs,e⟩
    · exact c5 a xs rfl e (tyN_lst e)
    · exact c6 a xs rfl e (tyN_tup e)
  | _=>exact (show False from ok).elim
def wholeB (H:Hp) (v:V):Bool:=isA (tyN H v) "int" && !isA (tyN H v) "bool"
theorem whole_int (H:Hp) (i:Int):wholeB H (.int i) = true:=by
  show (isA "int" "int" && !isA "int" "bool") = true
  decide
theorem whole_of {H:Hp} {v:V} (ok:Ok H v) (h:wholeB H v = true):∃ i,v = .int i:=by
  unfold wholeB at h
  refine ok.elim (fun _ e=>?_) (fun _ _ e=>?_) (fun i e _=>⟨i,e⟩) (fun _ _ _ e=>?_) (fun _ _ _ _ e=>?_) (fun _ _ _ _ e=>?_)
  all_goals (rw [e] at h; exact absurd h (by decide))
def betw (a b:Int):V→Bool
  | .int i=>decide (a≤i) && decide (i≤b)
  | _=>false
theorem betw_eq {H:Hp} {v:V} {a b:Int} (h:wholeB H v = false):betw a b v = false:=by
  cases v with
  | int i=>rw [whole_int] at h; cases h
  | _=>rfl
theorem str_of {H:Hp} {v:V} (ok:Ok H v) (h:isA (tyN H v) "str" = true):∃ z,v = .str z∧z.length≤1000:=by
  refine ok.elim (fun _ e=>?_) (fun _ _ e=>?_) (fun _ _ e=>?_) (fun z e1 e2 _=>⟨z,e1,e2⟩) (fun _ _ _ _ e=>?_) (fun _ _ _ _ e=>?_)
  all_goals (rw [e] at h; exact absurd h (by decide))
end L2
namespace L2
open PySem PySem.Spec PyProof.Rows
def Itx (x:Str):It:=⟨fun i _=>i < x.cps.size,fun i H v H'=>H' = H∧∃ c,x.cps[i]? = some c∧v = .str ⟨#[c]⟩,fun i _=>x.cps.size≤i⟩
theorem turn_ascii {P:Program} {w:World} {K:PySem.W.Frag} {tg:Expr} (it:Addr) (x:Str) (t:Tok):Turn P w K tg (Itx x) [it] it (fun i h=>h.IsStrIter it "str_ascii_iterator" x t i) where
  mem:=by simp
  obj:=fun i h st b hb=>by
    have e:b = it:=by simpa using hb
    subst e
    obtain ⟨o,e,c,d⟩:=st
    exact ⟨o,e,fun v z=>by rw [d] at z; cases z⟩
  keep:=fun i h h' st k=>by
    obtain ⟨o,e,c,d⟩:=st
    exact ⟨o,k it (by simp) o e,c,d⟩
  item:=by
    intro X hP hw hK hc i pins s σ H E I hf st hg
    subst hP hw hK
    have hg':i < x.cps.size:=hg
    obtain ⟨f0,f1,f2,f3,f4,f5⟩:=hf it (by simp)
    refine wpAny_pyNext_ascii_item st (c:=x.cps[i]) (by simp [hg']) fun h' st' sb=>?_
    have I1:Inv X pins σ H { s with heap:=h',toks:=s.toks + 1 }:=I.turned (fun b o hb e=>(sb.2 b hb).trans e) f0 f1 f3 f4 f5
    obtain ⟨o,e,c,d⟩:=id st'
    exact ⟨_,rfl,go_of (s:={ s with heap:=h',toks:=s.toks + 1 }) e c d (by decide) ⟨.str ⟨#[x.cps[i]]⟩,H,I1,⟨_,rfl⟩,⟨rfl,_,by simp [hg'],rfl⟩,st',fun b hb=>(hf b hb).1⟩⟩
  done:=by
    intro X hP hw hK hc i pins s σ H E I hf st hg
    subst hP hw hK
    have hg':x.cps.size≤i:=hg
    obtain ⟨f0,f1,f2,f3,f4,f5⟩:=hf it (by simp)
    exact wpAny_pyNext_ascii_end (I.ok.hd hc) st (by simp [hg']) fun h' eb=>⟨rfl,I.turned (t':=s.toks) (fun b o hb e=>eb b o hb e) f0 f1 f3 f4 f5⟩
  self:=fun _ _ _ _ _ st h=>wpAny_pyIter_striter_ascii st h
theorem turn_wide {P:Program} {w:World} {K:PySem.W.Frag} {tg:Expr} (it:Addr) (x:Str) (t:Tok):Turn P w K tg (Itx x) [it] it (fun i h=>h.IsStrIter it "str_iterator" x t i) where
  mem:=by simp
  obj:=fun i h st b hb=>by
    have e:b = it:=by simpa using hb
    subst e
    obtain ⟨o,e,c,d⟩:=st
    exact ⟨o,e,fun v z=>by rw [d] at z; cases z⟩
  keep:=fun i h h' st k=>by
    obtain ⟨o,e,c,d⟩:=st
    exact ⟨o,k it (by simp) o e,c,d⟩
  item:=by
    intro X hP hw hK hc i pins s σ H E I hf st hg
    subst hP hw hK
    have hg':i < x.cps.size:=hg
    obtain ⟨f0,f1,f2,f3,f4,f5⟩:=hf it (by simp)
    refine wpAny_pyNext_wide_item st (c:=x.cps[i]) (by simp [hg']) fun h' st' sb=>?_
    have I1:Inv X pins σ H { s with heap:=h',toks:=s.toks + 1 }:=I.turned (fun b o hb e=>(sb.2 b hb).trans e) f0 f1 f3 f4 f5
    obtain ⟨o,e,c,d⟩:=id st'
    exact ⟨_,rfl,go_of (s:={ s with heap:=h',toks:=s.toks + 1 }) e c d (by decide) ⟨.str ⟨#[x.cps[i]]⟩,H,I1,⟨_,rfl⟩,⟨rfl,_,by simp [hg'],rfl⟩,st',fun b hb=>(hf b hb).1⟩⟩
  done:=by
    intro X hP hw hK hc i pins s σ H E I hf st hg
    subst hP hw hK
    have hg':x.cps.size≤i:=hg
    obtain ⟨f0,f1,f2,f3,f4,f5⟩:=hf it (by simp)
    exact wpAny_pyNext_wide_end (I.ok.hd hc) st (by simp [hg']) fun h' eb=>⟨rfl,I.turned (t':=s.toks) (fun b o hb e=>eb b o hb e) f0 f1 f3 f4 f5⟩
  self:=fun _ _ _ _ _ st h=>wpAny_pyIter_striter_wide st h
section
variable {X:Cx} {tg:Expr}
def iStr (tl:TE):TI:=fun σ H R=>tl σ H fun x H1=>∃ z,x = .str z∧R (Itx z) H1
theorem pi_str {l:Expr} {tl:TE} (hl:PE X l tl):PI X tg l (iStr tl):=by
  intro pins s σ H R I h
  refine thn (hl pins s σ H _ I h) fun v s1 ⟨x,H1,I1,r1,q1⟩=>?_
  obtain ⟨z,e,q⟩:=q1
  subst e
  obtain ⟨t,rfl⟩:=r1
  have fp:∀ b∈[s1.heap.objs.size],FpOk X pins H1 b:=fun b hb=>by
    have e:b = s1.heap.objs.size:=by simpa using hb
    subst e
    exact I1.fpOk (Nat.le_refl _) (I1.hok.fresh (Nat.le_refl _))
  cases ha:z.cps.all (· < 128)
  · exact wpAny_pyIter_wide ha ⟨s1.heap.objs.size,[s1.heap.objs.size],_,_,H1,rfl,I1.kept (t':=s1.toks) (fun b o e=>Heap.get?_push_of_some _ e),turn_wide _ z t,⟨_,Heap.get?_push_size _ rfl,rfl,rfl⟩,fp,q⟩
  · exact wpAny_pyIter_ascii ha ⟨s1.heap.objs.size,[s1.heap.objs.size],_,_,H1,rfl,I1.kept (t':=s1.toks) (fun b o e=>Heap.get?_push_of_some _ e),turn_ascii _ z t,⟨_,Heap.get?_push_size _ rfl,rfl,rfl⟩,fp,q⟩
end
theorem itIs_str {x:Str} {H:Hp}:ItIs (Itx x) H (x.cps.toList.map fun c=>V.str ⟨#[c]⟩):=fun H' s i=>
  ⟨fun hi=>(by simpa using hi:i < x.cps.size),fun v H'' y=>⟨y.1,fun hi=>by
    obtain ⟨_,c,hc,e⟩:=y
    rw [List.getElem?_map,Array.getElem?_toList,hc,e]; rfl⟩,fun hi=>(by simpa using hi:x.cps.size≤i)⟩
section
variable {X:Cx}
def rIndex:V→List V→Hp→VK→Prop:=fun x vs H Q=>∃ t u,x = .str t∧vs = [.str u]∧0≤Txt.find t u∧Q (.int (Txt.find t u)) H
theorem mt_index (hc:X.calm = true):MtR X "str.index" rIndex:=by
  intro pins s σ H x vs v us Q I rx rv h
  obtain ⟨t,u,rfl,rfl,h0,q⟩:=h
  obtain ⟨tk,rfl⟩:=rx
  obtain ⟨y,rfl,ry⟩:=rv.one
  obtain ⟨tk2,rfl⟩:=ry
  refine index_or (I.ok.hd hc) (fun e=>absurd e (by omega)) fun _ _=>⟨.int (Txt.find t u),H,I.tok _,⟨_,rfl⟩,q⟩
end
end L2
namespace L2
open PySem PySem.Spec PyProof.Rows
section
variable {X:Cx}
end
end L2
namespace L2
open PySem PySem.Spec PyProof.Rows
section
variable {X:Cx}
def rMulS:R2:=fun x y H Q=>∃ (z:Str) (n:Int),x = .str z∧y = .int n∧n≤1000∧-1000≤n∧z.length≤1000∧Q (.str (PySem.Txt.mul z n)) H
theorem mulOk_of {z:Str} {n:Int} (h1:n≤1000) (h0:-1000≤n) (h2:z.length≤1000):MulOk z n:=by
  refine ⟨?_,fun h3 _=>?_,fun h3 _=>?_⟩
  · rw [decide_eq_false (by omega),decide_eq_false (by omega)]; rfl
  · have:(2 ^ 63 - 1:Int) / n ≥ (2 ^ 63 - 1:Int) / 1000:=by
      have hn:0 < n:=by omega
      have a:(2 ^ 63 - 1:Int) / 1000 * n≤2 ^ 63 - 1:=by
        have b:(2 ^ 63 - 1:Int) / 1000 * n≤(2 ^ 63 - 1:Int) / 1000 * 1000:=Int.mul_le_mul_of_nonneg_left h1 (by decide)
        have c:(2 ^ 63 - 1:Int) / 1000 * 1000≤2 ^ 63 - 1:=by decide
        omega
      exact (Int.le_ediv_iff_mul_le hn).mpr a
    have d:(1000:Int)≤(2 ^ 63 - 1:Int) / 1000:=by decide
    omega
  · have:z.length * n.toNat≤1000 * 1000:=Nat.mul_le_mul h2 (by omega)
    have e:Builtin.Str.tooLong (z.length * n.toNat) = decide (z.length * n.toNat > sizeLine):=rfl
    rw [e]
    exact decide_eq_false (by have:=sizeLine_big; omega)
theorem op_mul_str:OpR X (binaryOp .Mult) rMulS:=by
  intro pins s σ H x y v u Q I rx ry h
  obtain ⟨z,n,rfl,rfl,h1,h0,h2,q⟩:=h
  obtain ⟨t,rfl⟩:=rx
  obtain ⟨t',rfl⟩:=ry
  exact SB.mul (mulOk_of h1 h0 h2) fun t' k=>⟨.str _,H,I.tok k,⟨_,rfl⟩,q⟩
end
end L2
namespace L2
open PySem PySem.Spec PyProof.Rows PySem.Builtin.Str
abbrev cod (z:Str):List Nat:=z.cps.toList
theorem cod_len (z:Str):(cod z).length = z.length:=by simp [Str.length]
theorem str_ext {x y:Str} (h:cod x = cod y):x = y:=by
  obtain ⟨a⟩:=x
  obtain ⟨b⟩:=y
  have:a = b:=Array.toList_inj.mp h
  rw [this]
theorem cod_app (a y:Str):cod (a ++ y) = cod a ++ cod y:=by
  show (a.cps ++ y.cps).toList = _
  simp
end L2
namespace L2
open PySem PySem.Spec PyProof.Rows
theorem bt_abs:bootBuiltins "abs" = some (.builtin "abs"):=by decide +kernel
section
variable {X:Cx}
end
end L2
namespace L2
open PySem PySem.Spec PyProof.Rows
section
variable {prog:Program} {w:World} {A:Around} {E:Value→Shared→Prop} {s:Shared}
end
section
variable {X:Cx} {pins:List (Addr×Obj)} {σ:St} {H:Hp} {s:Shared} {h':Heap}
end
section
variable {X:Cx} {els:List Expr} {kk:Nat} {pp:Pos}
end
end L2
namespace L2
open PySem PySem.Spec PyProof.Rows
theorem pg_tupK {X:Cx} {K:PySem.W.Frag} {pos:Pos} {es:List Expr} {k:Nat} {t:TGs} {n:Nat} (hK:X.K = K) (hc:X.calm = true) (h:PGs X es t) (hn:(assignEach es X.env).length = n:=by rfl) (hs:(assignEach es X.env).findIdx? (·.1) = none:=by rfl):PG X (.Tuple es k pos) (gTup K n t):=by
  subst hK
  exact pg_tup hc h hn hs
section
variable {X:Cx}
end
end L2
namespace L2
open PySem PySem.Spec PyProof.Rows
section
variable {κ:Type} [DecidableEq κ]
def valV (kvs:List (κ×V)) (k:κ):Option V:=(kvs.find? fun kv=>decide (kv.1 = k)).map (·.2)
def putK (kvs:List (κ×V)) (k:κ) (v:V):List (κ×V):=
  if (kvs.any fun kv=>decide (kv.1 = k)) = true then kvs.map (fun kv=>if kv.1 = k then (kv.1,v) else kv) else kvs ++ [(k,v)]
def dropK (kvs:List (κ×V)) (k:κ):List (κ×V):=kvs.filter fun kv=>decide (kv.1≠k)
theorem valV_pos {p:κ×V} {r:List (κ×V)} {k:κ} (e:p.1 = k):valV (p :: r) k = some p.2:=by simp [valV,List.find?_cons,e]
theorem valV_neg {p:κ×V} {r:List (κ×V)} {k:κ} (e:¬ p.1 = k):valV (p :: r) k = valV r k:=by simp [valV,List.find?_cons,e]
theorem valV_any (k:κ):∀ kvs:List (κ×V),(kvs.any fun kv=>decide (kv.1 = k)) = (valV kvs k).isSome
  | []=>rfl
  | p :: r=>by
    rw [List.any_cons]
    by_cases e:p.1 = k
    · simp only [valV_pos e,decide_eq_true e,Bool.true_or,Option.isSome_some]
    · rw [valV_neg e,decide_eq_false e,Bool.false_or]; exact valV_any k r
theorem length_putK (kvs:List (κ×V)) (k:κ) (v:V):(putK kvs k v).length≤kvs.length + 1:=by
  unfold putK
  split
  · rw [List.length_map]; omega
  · rw [List.length_append,List.length_cons,List.length_nil]; omega
theorem putK_new {kvs:List (κ×V)} {k:κ} (v:V) (h:valV kvs k = none):putK kvs k v = kvs ++ [(k,v)]:=by
  unfold putK
  rw [valV_any,h]
  exact if_neg (by decide)
theorem RelO.isSome_eq {o:Option V} {u:Option Value} (r:RelO o u):o.isSome = u.isSome:=by
  cases o with
  | none=>cases u with
    | none=>rfl
    | some _=>exact (show False from r).elim
  | some _=>cases u with
    | none=>exact (show False from r).elim
    | some _=>rfl
theorem RelO.getD {o:Option V} {u:Option Value} {d:V} {d':Value} (r:RelO o u) (rd:RelV d d'):RelV (o.getD d) (u.getD d'):=by
  cases o with
  | none=>cases u with
    | none=>exact rd
    | some _=>exact (show False from r).elim
  | some _=>cases u with
    | none=>exact (show False from r).elim
    | some _=>exact r
theorem KV.val {kvs:List (κ×V)} {vs:List (κ×Value)} (r:KV kvs vs) (k:κ):RelO (valV kvs k) (valueAt vs k):=by
  unfold KV at r
  induction r with
  | nil=>exact True.intro
  | @cons p q ps qs h t ih=>
    obtain ⟨h1,h2⟩:=h
    by_cases e:p.1 = k
    · have e':q.1 = k:=h1.symm.trans e
      have b:valueAt (q :: qs) k = some q.2:=by simp [valueAt,List.find?_cons,e']
      rw [valV_pos e,b]; exact h2
    · have e':¬ q.1 = k:=fun z=>e (h1.trans z)
      have b:valueAt (q :: qs) k = valueAt qs k:=by simp [valueAt,List.find?_cons,e']
      rw [valV_neg e,b]; exact ih
theorem KV.any {kvs:List (κ×V)} {vs:List (κ×Value)} (r:KV kvs vs) (k:κ):(kvs.any fun kv=>decide (kv.1 = k)) = vs.any fun kv=>decide (kv.1 = k):=by
  unfold KV at r
  induction r with
  | nil=>rfl
  | cons h t ih=>rw [List.any_cons,List.any_cons,ih,h.1]
theorem KV.repl {kvs:List (κ×V)} {vs:List (κ×Value)} (r:KV kvs vs) (k:κ) {y:V} {u:Value} (ry:RelV y u) :
    KV (kvs.map fun kv=>if kv.1 = k then (kv.1,y) else kv) (vs.map fun kv=>if kv.1 = k then (kv.1,u) else kv):=by
  unfold KV at r ⊢
  induction r with
  | nil=>exact .nil
  | @cons p q ps qs h t ih=>
    rw [List.map_cons,List.map_cons]
    refine .cons ?_ ih
    obtain ⟨h1,h2⟩:=h
    by_cases e:p.1 = k
    · rw [if_pos e,if_pos (h1.symm.trans e)]; exact ⟨h1,ry⟩
    · rw [if_neg e,if_neg (fun z=>e (h1.trans z))]; exact ⟨h1,h2⟩
theorem KV.put {kvs:List (κ×V)} {vs:List (κ×Value)} (r:KV kvs vs) (k:κ) {y:V} {u:Value} (ry:RelV y u):KV (putK kvs k y) (stored vs k u):=by
  unfold putK stored
  rw [r.any k]
  by_cases e:(vs.any fun kv=>decide (kv.1 = k)) = true
  · rw [if_pos e,if_pos e]; exact r.repl k ry
  · rw [if_neg e,if_neg e]; exact Paired.snoc r ⟨rfl,ry⟩
theorem KV.drop {kvs:List (κ×V)} {vs:List (κ×Value)} (r:KV kvs vs) (k:κ):KV (dropK kvs k) (without vs k):=by
  unfold KV at r ⊢
  unfold dropK without
  induction r with
  | nil=>exact .nil
  | @cons p q ps qs h t ih=>
    obtain ⟨h1,h2⟩:=h
    rw [List.filter_cons,List.filter_cons]
    by_cases e:p.1 = k
    · have a:¬ decide (p.1≠k) = true:=by simp [e]
      have b:¬ decide (q.1≠k) = true:=by simp [h1.symm.trans e]
      rw [if_neg a,if_neg b]; exact ih
    · have e':¬ q.1 = k:=fun z=>e (h1.trans z)
      have a:decide (p.1≠k) = true:=by simp [e]
      have b:decide (q.1≠k) = true:=by simp [e']
      rw [if_pos a,if_pos b]; exact .cons ⟨h1,h2⟩ ih
theorem KV.length {kvs:List (κ×V)} {vs:List (κ×Value)} (r:KV kvs vs):kvs.length = vs.length:=Paired.length r
end
theorem kV_is {P:Program} {w:World} {k:Key} {u:Value} (r:RelV (kV k) u):(mixKind P w).is k u = true:=by
  cases k with
  | inl i=>obtain ⟨t,e⟩:=(show ∃ t,u = Value.int i t from r); subst e; exact mixKind_int P w i t
  | inr x=>obtain ⟨t,e⟩:=(show ∃ t,u = Value.str x t from r); subst e; exact mixKind_str P w x t
theorem items_are {P:Program} {w:World}:∀ {ks:List Key} {us:List Value},Vals (ks.map kV) us→ItemsAre (mixKind P w) ks us
  | [],_,r=>by rw [List.map_nil] at r; cases r; exact .nil
  | k :: ks,_,r=>by
    rw [List.map_cons] at r
    cases r with
    | cons h t=>exact .cons (kV_is h) (items_are t)
abbrev KT (H:Hp):List (List Key×V)→List (List Key×Addr×Value)→Prop:=Paired fun p q=>p.1 = q.1∧H q.2.1 = some (.tup (p.1.map kV))∧RelV p.2 q.2.2
theorem KT.val {H:Hp} {kvs:List (List Key×V)} {xs:List (List Key×Addr×Value)} (r:KT H kvs xs) (k:List Key):RelO (valV kvs k) ((atKey xs k).map (·.2)):=by
  induction r with
  | nil=>exact True.intro
  | @cons p q ps qs h t ih=>
    obtain ⟨h1,_,h2⟩:=h
    by_cases e:p.1 = k
    · have e':q.1 = k:=h1.symm.trans e
      have b:atKey (q :: qs) k = some q.2:=by simp [atKey,List.find?_cons,e']
      rw [valV_pos e,b]; exact h2
    · have e':¬ q.1 = k:=fun z=>e (h1.trans z)
      have b:atKey (q :: qs) k = atKey qs k:=by simp [atKey,List.find?_cons,e']
      rw [valV_neg e,b]; exact ih
theorem KT.repl {H:Hp} {kvs:List (List Key×V)} {xs:List (List Key×Addr×Value)} (r:KT H kvs xs) (k:List Key) {y:V} {u:Value} (ry:RelV y u) :
    KT H (kvs.map fun kv=>if kv.1 = k then (kv.1,y) else kv) (xs.map (putAt k u)):=by
  induction r with
  | nil=>exact .nil
  | @cons p q ps qs h t ih=>
    rw [List.map_cons,List.map_cons]
    refine .cons ?_ ih
    obtain ⟨h1,h2,h3⟩:=h
    unfold putAt
    by_cases e:p.1 = k
    · rw [if_pos e,if_pos (h1.symm.trans e)]; exact ⟨h1,h2,ry⟩
    · rw [if_neg e,if_neg (fun z=>e (h1.trans z))]; exact ⟨h1,h2,h3⟩
theorem KT.put {H:Hp} {kvs:List (List Key×V)} {xs:List (List Key×Addr×Value)} (r:KT H kvs xs) (k:List Key) {b:Addr} {y:V} {u:Value} (hb:H b = some (.tup (k.map kV))) (ry:RelV y u) :
    KT H (putK kvs k y) (storedH xs k b u):=by
  have e:(kvs.any fun kv=>decide (kv.1 = k)) = (atKey xs k).isSome:=by
    rw [valV_any,(r.val k).isSome_eq,Option.isSome_map]
  unfold putK storedH
  rw [e]
  by_cases q:(atKey xs k).isSome = true
  · rw [if_pos q,if_pos q]; exact r.repl k ry
  · rw [if_neg q,if_neg q]; exact Paired.snoc r ⟨rfl,hb,ry⟩
theorem KT.keeps {H H':Hp} {kvs:List (List Key×V)} {xs:List (List Key×Addr×Value)} (r:KT H kvs xs) (ht:∀ b ys,H b = some (.tup ys)→H' b = some (.tup ys)):KT H' kvs xs:=
  Paired.mapP r fun _ _ z=>⟨z.1,ht _ _ z.2.1,z.2.2⟩
section
variable {P:Program} {w:World} {H:Hp} {h:Heap} {a:Addr}
theorem rd_of {u:HO} (ok:HOk P w H h) (e:Rd H a u):ObjOk P w H h a u:=e.ok ok
theorem dk_rd {kvs:List (Key×V)} (ok:HOk P w H h) (e:Rd H a (.dK kvs)):kvs.length≤sizeLine∧(a == sysModules) = false∧∃ vs,KV kvs vs∧h.DictOf (mixKind P w) a vs:=
  show ObjOk P w H h a (.dK kvs) from rd_of ok e
theorem dk_of {kvs:List (Key×V)} (ok:HOk P w H h) (e:H a = some (.dK kvs)):kvs.length≤sizeLine∧(a == sysModules) = false∧∃ vs,KV kvs vs∧h.DictOf (mixKind P w) a vs:=dk_rd ok (.inl e)
theorem key_of {ks:List Key} (ok:HOk P w H h) (e:H a = some (.tup (ks.map kV))):(tupleKind (mixKind P w)).is h ks a:=by
  obtain ⟨_,its,r,o,h1,h2,n,h3⟩:=(show ObjOk P w H h a (.tup (ks.map kV)) from ok a _ e)
  exact ⟨o,its.toArray,n,h1,h2,h3,by simpa using items_are r⟩
theorem dt_rd {kvs:List (List Key×V)} (ok:HOk P w H h) (e:Rd H a (.dT kvs)):kvs.length≤sizeLine∧(a == sysModules) = false∧
    ∃ xs,KT H kvs xs∧h.DictOfH (tupleKind (mixKind P w)) a xs:=by
  obtain ⟨z,y,xs,r,o,es,ep,h1,h2,h3,h4,h5⟩:=(show ObjOk P w H h a (.dT kvs) from rd_of ok e)
  refine ⟨z,y,xs,r,o,es,ep,h1,h2,h3,h4,fun x hx=>?_,h5⟩
  have all:∀ {l:List (List Key×V)} {m:List (List Key×Addr×Value)},KT H l m→∀ x∈m,(tupleKind (mixKind P w)).is h x.1 x.2.1:=by
    intro l m q
    induction q with
    | nil=>intro x hx; exact nomatch hx
    | @cons p q ps qs hq t ih=>
      intro x hx
      rcases List.mem_cons.mp hx with e | hx
      · subst e
        exact key_of ok (by rw [← hq.1]; exact hq.2.1)
      · exact ih x hx
  exact all r x hx
theorem dt_of {kvs:List (List Key×V)} (ok:HOk P w H h) (e:H a = some (.dT kvs)):kvs.length≤sizeLine∧(a == sysModules) = false∧
    ∃ xs,KT H kvs xs∧h.DictOfH (tupleKind (mixKind P w)) a xs:=dt_rd ok (.inl e)
end
def DGet (H:Hp) (a:Addr) (y:V) (r:Option V):Prop:=
  (∃ kvs k,Rd H a (.dK kvs)∧y = kV k∧r = valV kvs k)∨∃ kvs k b,Rd H a (.dT kvs)∧y = .ref b∧H b = some (.tup (k.map kV))∧r = valV kvs k
def DPut (H:Hp) (a:Addr) (y v:V) (H':Hp):Prop:=
  (∃ kvs k,H a = some (.dK kvs)∧y = kV k∧kvs.length < sizeLine∧H' = upd H a (.dK (putK kvs k v)))∨
  ∃ kvs k b,H a = some (.dT kvs)∧y = .ref b∧H b = some (.tup (k.map kV))∧kvs.length < sizeLine∧H' = upd H a (.dT (putK kvs k v))
theorem DGet.k {H:Hp} {a:Addr} {kvs:List (Key×V)} {k:Key} (e:H a = some (.dK kvs)):DGet H a (kV k) (valV kvs k):=.inl ⟨kvs,k,.inl e,rfl,rfl⟩
theorem DGet.t {H:Hp} {a b:Addr} {kvs:List (List Key×V)} {k:List Key} (e:H a = some (.dT kvs)) (eb:H b = some (.tup (k.map kV))):DGet H a (.ref b) (valV kvs k):=.inr ⟨kvs,k,b,.inl e,rfl,eb,rfl⟩
theorem DPut.k {H:Hp} {a:Addr} {kvs:List (Key×V)} {k:Key} {v:V} (e:H a = some (.dK kvs)) (hl:kvs.length < sizeLine):DPut H a (kV k) v (upd H a (.dK (putK kvs k v))):=.inl ⟨kvs,k,e,rfl,hl,rfl⟩
theorem DPut.t {H:Hp} {a b:Addr} {kvs:List (List Key×V)} {k:List Key} {v:V} (e:H a = some (.dT kvs)) (eb:H b = some (.tup (k.map kV))) (hl:kvs.length < sizeLine) :
    DPut H a (.ref b) v (upd H a (.dT (putK kvs k v))):=.inr ⟨kvs,k,b,e,rfl,eb,hl,rfl⟩
section
variable {X:Cx} {pins:List (Addr×Obj)} {σ:St} {H:Hp} {s:Shared} {a:Addr} {y v:V} {u r:Value} {o:Option V} {A:Around} {E:Value→Shared→Prop}
theorem Inv.big (I:Inv X pins σ H s):sysModules < s.heap.objs.size:=by
  have h:mainGlobals < s.heap.objs.size:=(I.mod.glob.keeps I.bk).lt
  exact Nat.lt_trans (by decide) h
theorem d_getItem {Q:Value→Shared→Prop} (hu:A.units + 1 < cLine) (I:Inv X pins σ H s) (g:DGet H a y (some v)) (ry:RelV y u) (h:∀ w' s',Inv X pins σ H s'→RelV v w'→Q w' s') :
    wpAny (model X.prog X.w) A (getItem (.ref a) u) Q E s:=by
  rcases g with ⟨kvs,k,e,ey,l⟩ | ⟨kvs,k,b,e,ey,eb,l⟩
  · subst ey
    obtain ⟨z,hd,vs,rel,dd⟩:=dk_rd I.hok e
    obtain ⟨w',hw,rw'⟩:=RelO.some_of (v:=v) (o:=valueAt vs k) (by rw [l]; exact rel.val k)
    exact wpAny_getItem_of (kV_is ry) dd.mapOf hw (h w' _ (I.tok _) rw')
  · subst ey
    cases (show u = Value.ref b from ry)
    obtain ⟨z,hd,xs,rel,dd⟩:=dt_rd I.hok e
    obtain ⟨w',hw,rw'⟩:=RelO.some_of (v:=v) (o:=(atKey xs k).map (·.2)) (by rw [l]; exact rel.val k)
    obtain ⟨p,hp,hp2⟩:=Option.map_eq_some_iff.mp hw
    refine wpAny_getItem_heap (tupleKind_room_in1 hu) (key_of I.hok eb) dd hp ?_
    rw [hp2]
    exact h w' _ (I.tok _) rw'
theorem d_in {Q:Value→Shared→Prop} (hu:A.units + 1 < cLine) (I:Inv X pins σ H s) (g:DGet H a y o) (ry:RelV y u) (h:∀ s',Inv X pins σ H s'→Q (.bool o.isSome) s') :
    wpAny (model X.prog X.w) A (compareOp .In u (.ref a)) Q E s:=by
  rcases g with ⟨kvs,k,e,ey,l⟩ | ⟨kvs,k,b,e,ey,eb,l⟩
  · subst ey
    obtain ⟨z,hd,vs,rel,dd⟩:=dk_rd I.hok e
    refine wpAny_in_of (kV_is ry) hd dd.mapOf ?_
    rw [← (rel.val k).isSome_eq,← l]
    exact h _ (I.tok _)
  · subst ey
    cases (show u = Value.ref b from ry)
    obtain ⟨z,hd,xs,rel,dd⟩:=dt_rd I.hok e
    refine wpAny_in_heap (tupleKind_room_in1 hu) (key_of I.hok eb) hd dd ?_
    have q:=(rel.val k).isSome_eq
    rw [Option.isSome_map] at q
    rw [← q,← l]
    exact h _ (I.tok _)
theorem d_write {h':Heap} {t':Nat} {ob:HO} (I:Inv X pins σ H s) (mu:Mut (H a)) (hs:Heap.SameBut a s.heap h') (he:∃ q,h'.get? a = some q) (new:ObjOk X.prog X.w (upd H a ob) h' a ob) :
    Inv X pins σ (upd H a ob) { s with heap:=h',toks:=t' }:=
  I.write (x:=a) (e:=a) mu (.inl rfl) (fun b q hb z=>(hs.2 b hb).trans z) he new
theorem dk_new {P:Program} {w:World} {H':Hp} {h':Heap} {kvs:List (Key×V)} {vs:List (Key×Value)} (z:kvs.length≤sizeLine) (hd:(a == sysModules) = false) (rel:KV kvs vs) (dd:h'.DictOf (mixKind P w) a vs) :
    ObjOk P w H' h' a (.dK kvs):=⟨z,hd,vs,rel,dd⟩
theorem d_setItem {H':Hp} {Q:Unit→Shared→Prop} (hu:A.units + 1 < cLine) (I:Inv X pins σ H s) (g:DPut H a y v H') (ry:RelV y u) (rv:RelV v r) (h:∀ s',Inv X pins σ H' s'→Q () s') :
    wpAny (model X.prog X.w) A (setItem (.ref a) u r) Q E s:=by
  rcases g with ⟨kvs,k,e,ey,l,eH⟩ | ⟨kvs,k,b,e,ey,eb,l,eH⟩
  · subst ey eH
    obtain ⟨z,hd,vs,rel,dd⟩:=dk_of I.hok e
    have hz:vs.length≤sizeLine:=by rw [← rel.length]; exact z
    have hl:(putK kvs k v).length≤sizeLine:=by have:=length_putK kvs k v; omega
    refine wpAny_setItem_pairs (hsz:=hz) (kV_is ry) dd fun h' dd' hs=>h _ ?_
    have he:∃ q,h'.get? a = some q:=let ⟨q,_,_,hq,_⟩:=dd'; ⟨q,hq⟩
    exact d_write I (by rw [e]; exact True.intro) hs he (dk_new hl hd (rel.put k rv) dd')
  · subst ey eH
    cases (show u = Value.ref b from ry)
    obtain ⟨z,hd,xs,rel,dd⟩:=dt_of I.hok e
    have hz:xs.length≤sizeLine:=by rw [← Paired.length rel]; exact z
    have hl:(putK kvs k v).length≤sizeLine:=by have:=length_putK kvs k v; omega
    refine wpAny_setItem_heap (hsz:=hz) (tupleKind_room_in1 hu) (key_of I.hok eb) dd fun h' dd' hs=>h _ ?_
    obtain ⟨q,es,ep,hq,h2,h3,h4,_,h5⟩:=dd'
    refine d_write I (by rw [e]; exact True.intro) hs ⟨q,hq⟩ ⟨hl,hd,_,(rel.put k eb rv).keeps fun c ys ec=>?_,q,es,ep,hq,h2,h3,h4,h5⟩
    rw [upd_ne (ne_of ec e (fun z=>nomatch z))]
    exact ec
end
section
variable {X:Cx} {pins:List (Addr×Obj)} {σ:St} {H:Hp} {s:Shared} {a:Addr} {kvs:List (Key×V)} {k:Key} {u:Value} {A:Around} {E:Value→Shared→Prop}
end
def NoSl (i:Expr):Prop:=∀ ov iv,subscripted i false ov iv = operate [ov,iv] (getItem ov iv)
theorem subD_of {prog:Program} {w:World} {A:Around} {E:Value→Shared→Prop} {s:Shared} {env:Env} {value slice:Expr} {pos:Pos} {T id:String} {Q:Value→Shared→Prop}
    (hl:typeLookup (.type T) "__getitem__" = pure (some (.builtin id))) (hs:NoSl slice)
    (h:wpAny (model prog w) A (eval value env) (fun o s₁=>wpAny (model prog w) A (eval slice env) (fun i s₂=>s₂.TypeIs o T∧wpAny (model prog w) A (getItem o i) Q E s₂) E s₁) E s) :
    wpAny (model prog w) A (eval (.Subscript value slice pos) env) Q E s:=by
  refine Subscript_ (wpAny_mono h (fun o s₁ h₁=>wpAny_mono h₁ (fun i s₂ h₂=>?_) fun _ _ x=>x) fun _ _ x=>x)
  obtain ⟨hT,h₂⟩:=h₂
  unfold subscriptTail
  refine wpAny_bind ?_
  rw [getitemInPython_of_ne hT.not_modules]
  refine wpAny_bind (wpAny_specialOf hT hl ?_)
  have fin:wpAny (model prog w) A (subscripted slice false o i) (fun r s₃=>wpAny (model prog w) A (letTemporaryGo value o r >>= fun _=>pure r) Q E s₃) E s₂:=by
    rw [hs o i]
    exact wpAny_operating (wpAny_mono h₂ (fun r s₃ h₃=>wpAny_bind (wpAny_letTemporaryGo (wpAny_pure h₃))) fun _ _ x=>x)
  first
    | exact wpAny_pure (wpAny_bind fin)
    | exact wpAny_bind (wpAny_pure (wpAny_bind fin))
    | exact wpAny_bind fin
theorem dict_typeIs {X:Cx} {pins:List (Addr×Obj)} {σ:St} {H:Hp} {s:Shared} {a:Addr} {y:V} {o:Option V} (I:Inv X pins σ H s) (g:DGet H a y o):s.TypeIs (.ref a) "dict":=by
  rcases g with ⟨kvs,k,e,_,_⟩ | ⟨kvs,k,b,e,_,_,_⟩
  · obtain ⟨_,_,vs,_,dd⟩:=dk_rd I.hok e
    exact dd.typeIs
  · obtain ⟨_,_,xs,_,dd⟩:=dt_rd I.hok e
    exact dd.typeIs
def tDGet (td ty:TE):TE:=fun σ H Q=>td σ H fun x H1=>ty σ H1 fun y H2=>∃ a v,x = .ref a∧DGet H2 a y (some v)∧Q v H2
def tDIn (ty td:TE):TE:=fun σ H Q=>ty σ H fun y H1=>td σ H1 fun x H2=>∃ a o,x = .ref a∧DGet H2 a y o∧Q (.bl o.isSome) H2
def sDPut (td ty tv:TE):TS:=fun D σ H=>tv σ H fun v H1=>td σ H1 fun x H2=>ty σ H2 fun y H3=>∃ a H4,x = .ref a∧DPut H3 a y v H4∧D.nx σ H4
section
variable {X:Cx} {o i e value:Expr} {pos pos' tpos:Pos} {td ty tv:TE}
theorem pe_dget (hu:X.A.units + 1 < cLine) (ho:PE X o td) (hi:PE X i ty) (hs:NoSl i):PE X (.Subscript o i pos) (tDGet td ty):=by
  intro pins s σ H Q I h
  refine subD_of PySem.F.slot_dict_getitem.lookup hs (thn (ho pins s σ H _ I h) fun u s1 ⟨x,H1,I1,rx,q1⟩=>thn (hi pins s1 σ H1 _ I1 q1) fun iv s2 ⟨y,H2,I2,ry,a,v,ex,g,q2⟩=>?_)
  subst ex
  obtain rfl:u = Value.ref a:=rx
  exact ⟨dict_typeIs I2 g,d_getItem hu I2 g ry fun w' s3 I3 rw'=>⟨v,H2,I3,rw',q2⟩⟩
theorem pc_din (hu:X.A.units + 1 < cLine) (hi:PE X i ty) (ho:PE X o td):PC X .In i o (tDIn ty td):=by
  intro pins s σ H Q I h
  refine thn (hi pins s σ H _ I h) fun iv s1 ⟨y,H1,I1,ry,q1⟩=>thn (ho pins s1 σ H1 _ I1 q1) fun u s2 ⟨x,H2,I2,rx,a,ov,ex,g,q2⟩=>?_
  subst ex
  obtain rfl:u = Value.ref a:=rx
  exact d_in hu I2 g ry fun s3 I3=>⟨.bl ov.isSome,H2,I3,rfl,q2⟩
theorem ps_dput (hu:X.A.units + 1 < cLine) (ho:PE X o td) (hi:PE X i ty) (hv:PE X value tv) (hs:swapsWith value (some (.Subscript o i pos')) pos.line X.env = pure false) :
    PS X (.Assign [.Subscript o i pos'] value pos) (sDPut td ty tv):=by
  intro pins s σ H D I h
  refine wpAny_Assign_Subscript (thn (hv pins s σ H _ I h) fun r s1 ⟨v,H1,I1,rv,q1⟩=>thn (ho pins s1 σ H1 _ I1 q1) fun u s2 ⟨x,H2,I2,rx,q2⟩=>thn (hi pins s2 σ H2 _ I2 q2) fun iv s3 ⟨y,H3,I3,ry,a,H4,ex,g,q3⟩=>?_) hs
  subst ex
  obtain rfl:u = Value.ref a:=rx
  exact d_setItem hu I3 g ry rv fun s4 I4=>⟨σ,H4,I4,q3⟩
end
theorem dk_empty {P:Program} {w:World} {H:Hp} (h:Heap) (hb:sysModules < h.objs.size):ObjOk P w H (h.push { cls:=.type "dict",data:=.dict #[] }) h.objs.size (.dK []):=
  ⟨Nat.zero_le _,beq_eq_false_iff_ne.mpr (Ne.symm (Nat.ne_of_lt hb)),[],.nil,Heap.DictOf.new h⟩
def tDNewK:TE:=fun _ H Q=>∀ p,H p = none→Q (.ref p) (upd H p (.dK []))
section
variable {X:Cx} {pos:Pos}
theorem pe_dnewK:PE X (.Dict [] [] pos) tDNewK:=fun pins s σ H Q I h=>
  wpAny_Dict_empty ⟨.ref s.heap.objs.size,_,I.laid (a:=s.heap.objs.size) (o:=.dK []) (t':=s.toks) (fun _ _ q=>Heap.get?_push_of_some _ q) (Nat.le_refl _) (dk_empty s.heap I.big),rfl,h _ (I.hok.fresh (Nat.le_refl _))⟩
end
structure M1 (X:Cx) (o:Expr) (m:Str) (apos:Pos) (e:Expr) (cpos:Pos):Prop where
  base:attributeBase o m X.env (eval o X.env) = eval o X.env
  few:((backTo cpos (starEach [e] X.env)).all (fun x=>!x.1) && (backToKw cpos (keywordEach [] X.env)).all (fun x=>x.1.isSome)
    && decide (([e]:List Expr).length + ([]:List Keyword).length + (if ([]:List Keyword).isEmpty then 0 else 1) < 30)) = true
  line:(apos.endLine == cpos.line) = true
  trees:backTo cpos (starEach [e] X.env) = [(false,eval e X.env)]
structure M2 (X:Cx) (o:Expr) (m:Str) (apos:Pos) (e f:Expr) (cpos:Pos):Prop where
  base:attributeBase o m X.env (eval o X.env) = eval o X.env
  few:((backTo cpos (starEach [e,f] X.env)).all (fun x=>!x.1) && (backToKw cpos (keywordEach [] X.env)).all (fun x=>x.1.isSome)
    && decide (([e,f]:List Expr).length + ([]:List Keyword).length + (if ([]:List Keyword).isEmpty then 0 else 1) < 30)) = true
  line:(apos.endLine == cpos.line) = true
  trees:backTo cpos (starEach [e,f] X.env) = [(false,eval e X.env),(false,eval f X.env)]
def IsD (H:Hp) (a:Addr):Prop:=(∃ kvs,Rd H a (.dK kvs))∨∃ kvs,Rd H a (.dT kvs)
theorem isD_at {X:Cx} {pins:List (Addr×Obj)} {σ:St} {H:Hp} {s:Shared} {a:Addr} (I:Inv X pins σ H s) (d:IsD H a) :
    s.TypeIs (.ref a) "dict"∧(∀ b,Value.ref a = .ref b→∃ ob,s.heap.get? b = some ob∧ob.dict = none)∧(a == sysModules) = false:=by
  rcases d with ⟨kvs,e⟩ | ⟨kvs,e⟩
  · obtain ⟨_,hd,vs,_,dd⟩:=dk_rd I.hok e
    refine ⟨dd.typeIs,fun b q=>?_,hd⟩
    cases q
    obtain ⟨ob,_,_,h1,h2,_⟩:=dd
    exact ⟨ob,h1,h2.2.1⟩
  · obtain ⟨_,hd,xs,_,dd⟩:=dt_rd I.hok e
    refine ⟨dd.typeIs,fun b q=>?_,hd⟩
    cases q
    obtain ⟨ob,_,_,h1,h2,_⟩:=dd
    exact ⟨ob,h1,h2.2.1⟩
section
variable {X:Cx} {pins:List (Addr×Obj)} {σ:St} {H:Hp} {s:Shared} {a:Addr} {y d:V} {u r:Value} {o:Option V} {A:Around} {E:Value→Shared→Prop}
theorem d_get2 {Q:Value→Shared→Prop} (hu:A.units + 1 < cLine) (I:Inv X pins σ H s) (g:DGet H a y o) (ry:RelV y u) (rd:RelV d r) (h:∀ w' s',Inv X pins σ H s'→RelV (o.getD d) w'→Q w' s') :
    wpAny (model X.prog X.w) A (call (.builtin "dict.get") [.ref a,u,r]) Q E s:=by
  rcases g with ⟨kvs,k,e,ey,l⟩ | ⟨kvs,k,b,e,ey,eb,l⟩
  · subst ey
    obtain ⟨z,hd,vs,rel,dd⟩:=dk_rd I.hok e
    refine call_meetsIn PySem.F.slot_dict_get dd.typeIs PySem.F.entry_dict_get (PySem.F.args_dict_get_3 _ _ _) (meets_dict_get_default (mixKind X.prog X.w) a (kV_is ry) hd r) ⟨_,dd.mapOf,h _ _ (I.tok _) ?_⟩
    rw [l]
    exact (rel.val k).getD rd
  · subst ey
    cases (show u = Value.ref b from ry)
    obtain ⟨z,hd,xs,rel,dd⟩:=dt_rd I.hok e
    refine call_meetsIn PySem.F.slot_dict_get dd.typeIs PySem.F.entry_dict_get (PySem.F.args_dict_get_3 _ _ _) (meetsH_dict_get_default (tupleKind (mixKind X.prog X.w)) a b hd r) ⟨tupleKind_room_in1 hu,k,xs,key_of I.hok eb,dd,h _ _ (I.tok _) ?_⟩
    rw [l]
    exact (rel.val k).getD rd
end
def tDGet2 (td ty tx:TE):TE:=fun σ H Q=>td σ H fun x H1=>∃ a,x = .ref a∧IsD H1 a∧ty σ H1 fun y H2=>tx σ H2 fun z H3=>∃ o,DGet H3 a y o∧Q (o.getD z) H3
section
variable {X:Cx} {o e f:Expr} {apos cpos:Pos} {td ty tx:TE}
theorem pe_dget2 (hu:X.A.units + 1 < cLine) (ho:PE X o td) (he:PE X e ty) (hf:PE X f tx) (m:M2 X o "get" apos e f cpos):PE X (.Call (.Attribute o "get" apos) [e,f] [] cpos) (tDGet2 td ty tx):=by
  intro pins s σ H Q I h
  refine wpAny_Call_method m.base m.few m.line PySem.F.plainAttrs_dict PySem.F.slot_dict_get PySem.F.type_dict_get (thn (ho pins s σ H _ I h) fun u s1 ⟨x,H1,I1,rx,a,ex,d,q1⟩=>?_)
  subst ex
  obtain rfl:u = Value.ref a:=rx
  obtain ⟨t1,t2,_⟩:=isD_at I1 d
  refine ⟨t1,t2,?_⟩
  rw [m.trees]
  refine Calls.callWith_builtin rfl (Calls.evalArgs_plain (Calls.spliced_cons (thn (he pins s1 σ H1 _ I1 q1) fun iv s2 ⟨y,H2,I2,ry,q2⟩=>
    Calls.spliced_cons (thn (hf pins s2 σ H2 _ I2 q2) fun fv s3 ⟨z,H3,I3,rz,ov,g,q3⟩=>Calls.spliced_nil ?_))))
  exact d_get2 hu I3 g ry rz fun w' s4 I4 rw'=>⟨_,H3,I4,rw',q3⟩
end
section
variable {X:Cx} {pins:List (Addr×Obj)} {σ:St} {H:Hp} {s:Shared} {a:Addr} {kvs:List (Key×V)} {A:Around} {E:Value→Shared→Prop}
end
section
variable {X:Cx} {pins:List (Addr×Obj)} {σ:St} {H:Hp} {s:Shared} {a:Addr} {y:V} {u:Value} {A:Around} {E:Value→Shared→Prop}
end
end L2
namespace L2
open PySem PySem.Spec PyProof.Rows
theorem nf_tuple_mul:fillsNumberSlot (.type "tuple") "mul" = pure false:=PySem.fillsNumberSlot_seq (id:="tuple.__mul__") (r:=some (.builtin "tuple.__rmul__")) PySem.F.slot_tuple_mul.lookup (by decide +kernel) PySem.F.slot_tuple_rmul.lookup (by decide +kernel)
theorem rp_tuple:seqRepeat? (.type "tuple") = pure (some (.builtin "tuple.__mul__")):=by
  have h1:=PySem.seqSlot_of (T:="tuple") (name:="__mul__") (id:="tuple.__mul__") PySem.F.slot_tuple_mul.lookup (by decide +kernel)
  have h2:=PySem.seqSlot_of (T:="tuple") (name:="__rmul__") (id:="tuple.__rmul__") PySem.F.slot_tuple_rmul.lookup (by decide +kernel)
  unfold seqRepeat?
  rw [h1,h2]
  rfl
theorem rm_tuple (k:Int) (t:Tok) (l:Addr) (its:Array Value) (n:Nat) (dd:Option Addr) (sl:Array (Option Value)) :
    Meets (Builtin.«int.__rmul__» ⟨[.int k t,.ref l],[]⟩) fun _ R s=>s.heap.get? l = some { cls:=.type "tuple",dict:=dd,data:=.seq its n,slots:=sl }∧R (.ok (.ret Value.notImplemented)) s:=by
  refine .of_wp fun prog w A R s h=>?_
  obtain ⟨hl,h⟩:=h
  obtain ⟨hp,g,d,tk,os⟩:=s
  wp_walk
  exact ⟨_,rfl,h⟩
theorem ml_tuple (k:Int) (t:Tok) (l:Addr) (its:Array Value) (n:Nat) (dd:Option Addr) (sl:Array (Option Value)) (h0:its.isEmpty = false) (h1:2≤k) (h2:k < 10000) (h3:its.size * k.toNat≤100000) :
    Meets (Builtin.«tuple.__mul__» ⟨[.ref l,.int k t],[]⟩) fun _ R s=>s.heap.get? l = some { cls:=.type "tuple",dict:=dd,data:=.seq its n,slots:=sl }∧
      R (.ok (.ret (.ref s.heap.objs.size))) { s with heap:=s.heap.push { cls:=.type "tuple",data:=.seq (List.foldl (fun x1 x2=>x1 ++ x2) #[] (List.replicate k.toNat its)) } }:=by
  refine .of_wp fun prog w A R s h=>?_
  obtain ⟨hl,h⟩:=h
  obtain ⟨hp,g,d,tk,os⟩:=s
  have k3:(its.size:Int) * k≤100000:=by
    have:((its.size * k.toNat:Nat):Int)≤100000:=by omega
    rw [Int.natCast_mul,Int.toNat_of_nonneg (by omega)] at this
    exact this
  have c0:¬ (decide (k < -2 ^ 63) || decide (k ≥ 2 ^ 63)) = true:=by simp; omega
  have c1:¬ (its.isEmpty || k == 1) = true:=by rw [h0]; simp; omega
  have c2:¬ (decide (k≤0) || its.isEmpty) = true:=by rw [h0]; simp; omega
  have c3:¬ ((its.size:Int) * k > (2 ^ 63 - 1) / 8):=by omega
  have c4:¬ Builtin.Tuple.tupleTooMany ((its.size:Int) * k) = true:=by
    unfold Builtin.Tuple.tupleTooMany
    have:(100000:Int) < sizeLine:=by decide
    simp
    omega
  have hsz:(List.foldl (fun x1 x2=>x1 ++ x2) #[] (List.replicate k.toNat its)).size≤sizeLine:=by
    have key:∀ (m:Nat) (z:Array Value),(List.foldl (fun x1 x2=>x1 ++ x2) z (List.replicate m its)).size = z.size + m * its.size:=by
      intro m
      induction m with
      | zero=>intro z; simp
      | succ m ih=>intro z; rw [List.replicate_succ,List.foldl_cons,ih,Array.size_append,Nat.succ_mul]; omega
    rw [key]
    have:(100000:Nat)≤sizeLine:=by decide
    rw [Nat.mul_comm] at h3
    simp
    omega
  wp_walk
  rw [if_neg c0]
  wp_walk using PySem.AutoSeq1.wpAny_loadPart' hl
  rw [if_neg c1]
  dsimp only
  rw [if_neg c2]
  try dsimp only
  rw [if_neg c3]
  try dsimp only
  rw [if_neg c4]
  refine wpAny_bind (wpAny_newObj_type ?_ hsz)
  exact wpAny_pure ⟨_,rfl,h⟩
section
variable {X:Cx}
def rRepT:R2:=fun x y H Q=>∃ l k xs,x = .ref l∧y = .int k∧H l = some (.tup xs)∧xs≠[]∧2≤k∧k < 10000∧xs.length * k.toNat≤100000∧∀ p,H p = none→Q (.ref p) (upd H p (.tup (List.replicate k.toNat xs).flatten))
theorem op_repT:OpR X (binaryOp .Mult) rRepT:=by
  intro pins s σ H x y v u Q I rx ry h
  obtain ⟨l,k,xs,rfl,rfl,hH,hne,h1,h2,hz,q⟩:=h
  cases rx
  obtain ⟨t,rfl⟩:=ry
  obtain ⟨its,r,p1,_⟩:=I.tuple (SqT.of (K:=X.K) hH)
  have hl:=r.length
  obtain ⟨⟨cls,dd,data,sl⟩,ho,hc,n,hd⟩:=id p1
  simp only at hc hd
  subst hc hd
  have he:its.toArray.isEmpty = false:=by
    cases its with
    | nil=>exact absurd (r.nil_iff.mp rfl) hne
    | cons _ _=>rfl
  have hlen:its.toArray.size * k.toNat≤100000:=by rw [List.size_toArray,← hl]; exact hz
  have hnew:List.foldl (fun x1 x2=>x1 ++ x2) #[] (List.replicate k.toNat its.toArray) = (List.replicate k.toNat its).flatten.toArray:=by
    have:=foldl_rep its k.toNat []
    rw [List.nil_append] at this
    exact this
  refine wpAny_binaryOp_repeat_ref (T:="tuple") (U:="int") (by decide) ⟨_,ho,rfl⟩ (fun s'=>typeIs_int s' k t) nf_tuple_mul PySem.F.fills_int_mul PySem.F.slot_int_rmul rp_tuple PySem.F.slot_int_index.lookup
    (call_meets PySem.F.slot_int_rmul (typeIs_int s k t) PySem.F.entry_int_rmul (PySem.F.args_int_rmul_2 _ _) (rm_tuple k t l its.toArray n dd sl)
      ⟨ho,rfl,⟨_,ho,rfl⟩,call_meets PySem.F.slot_tuple_mul ⟨_,ho,rfl⟩ PySem.F.entry_tuple_mul (PySem.F.args_tuple_mul_2 _ _) (ml_tuple k t l its.toArray n dd sl he h1 h2 hlen) ⟨ho,?_⟩⟩)
  rw [hnew]
  refine ⟨.ref _,upd H s.heap.objs.size (.tup (List.replicate k.toNat xs).flatten),I.laid (t':=s.toks) (fun b ob q=>Heap.get?_push_of_some _ q) (Nat.le_refl _) ?_,rfl,q _ (I.hok.fresh (Nat.le_refl _))⟩
  refine ⟨?_,_,r.rep k.toNat,IsTup.new _ _⟩
  have:(100000:Nat)≤sizeLine:=by decide
  rw [len_rep,Nat.mul_comm]
  omega
end
inductive Tr where
  | non
  | bl (b:Bool)
  | int (i:Int)
  | str (z:Str)
  | tup (ts:List Tr)
  | lst (ts:List Tr)
mutual
def Rep (F:Addr→Prop) (H:Hp):Tr→V→Prop
  | .non,v=>v = .non
  | .bl b,v=>v = .bl b
  | .int i,v=>v = .int i
  | .str z,v=>v = .str z
  | .tup ts,v=>∃ a vs,v = .ref a∧H a = some (.tup vs)∧Reps F H ts vs
  | .lst ts,v=>∃ a vs,v = .ref a∧F a∧H a = some (.lst vs)∧Reps F H ts vs
def Reps (F:Addr→Prop) (H:Hp):List Tr→List V→Prop
  | [],vs=>vs = []
  | t :: ts,vs=>∃ v us,vs = v :: us∧Rep F H t v∧Reps F H ts us
end
mutual
def Tr.dep:Tr→Nat
  | .tup ts=>1 + Tr.deps ts
  | .lst ts=>1 + Tr.deps ts
  | _=>1
def Tr.deps:List Tr→Nat
  | []=>0
  | t :: ts=>max (Tr.dep t) (Tr.deps ts)
end
mutual
def Tr.ok:Tr→Prop
  | .str z=>z.length≤1000
  | .tup ts=>ts.length≤1000∧Tr.oks ts
  | .lst ts=>ts.length≤1000∧Tr.oks ts
  | _=>True
def Tr.oks:List Tr→Prop
  | []=>True
  | t :: ts=>Tr.ok t∧Tr.oks ts
end
mutual
theorem Rep.same {F:Addr→Prop} {H H':Hp} (s:Same H H'):∀ (t:Tr) (v:V),Rep F H t v→Rep F H' t v
  | .non,_,h=>h
  | .bl _,_,h=>h
  | .int _,_,h=>h
  | .str _,_,h=>h
  | .tup ts,_,⟨a,vs,e,ha,hr⟩=>⟨a,vs,e,s.get ha,Reps.same s ts vs hr⟩
  | .lst ts,_,⟨a,vs,e,fa,ha,hr⟩=>⟨a,vs,e,fa,s.get ha,Reps.same s ts vs hr⟩
theorem Reps.same {F:Addr→Prop} {H H':Hp} (s:Same H H'):∀ (ts:List Tr) (vs:List V),Reps F H ts vs→Reps F H' ts vs
  | [],_,h=>h
  | t :: ts,_,⟨v,us,e,h1,h2⟩=>⟨v,us,e,Rep.same s t v h1,Reps.same s ts us h2⟩
end
theorem Reps.len {F:Addr→Prop} {H:Hp}:∀ (ts:List Tr) (vs:List V),Reps F H ts vs→vs.length = ts.length
  | [],_,h=>by rw [show _ = [] from h]; rfl
  | t :: ts,_,⟨v,us,e,_,h2⟩=>by rw [e,List.length_cons,List.length_cons,Reps.len ts us h2]
theorem Reps.get {F:Addr→Prop} {H:Hp}:∀ {ts:List Tr} {vs:List V},Reps F H ts vs→∀ {i:Nat} {v:V},vs[i]? = some v→∃ t,ts[i]? = some t∧Rep F H t v
  | [],_,h,i,v,hv=>by rw [show _ = [] from h] at hv; simp at hv
  | t :: ts,_,⟨w,us,e,h1,h2⟩,0,v,hv=>by
    rw [e] at hv
    cases (Option.some.inj hv)
    exact ⟨t,rfl,h1⟩
  | t :: ts,_,⟨w,us,e,h1,h2⟩,i + 1,v,hv=>by
    rw [e] at hv
    obtain ⟨t',e1,e2⟩:=Reps.get h2 (i:=i) (v:=v) (by simpa using hv)
    exact ⟨t',by simpa using e1,e2⟩
theorem Reps.append {F:Addr→Prop} {H:Hp}:∀ {ts us:List Tr} {vs ws:List V},Reps F H ts vs→Reps F H us ws→Reps F H (ts ++ us) (vs ++ ws)
  | [],us,_,ws,h,h2=>by rw [show _ = [] from h]; exact h2
  | t :: ts,us,_,ws,⟨w,vs,e,h1,hr⟩,h2=>by
    rw [e]
    exact ⟨w,vs ++ ws,rfl,h1,Reps.append hr h2⟩
theorem Reps.one {F:Addr→Prop} {H:Hp} {t:Tr} {v:V} (h:Rep F H t v):Reps F H [t] [v]:=⟨v,[],rfl,h,rfl⟩
theorem Rep.ok {F:Addr→Prop} {H:Hp}:∀ {t:Tr} {v:V},Rep F H t v→t.ok→Ok H v
  | .non,_,h,_=>by rw [show _ = V.non from h]; trivial
  | .bl _,_,h,_=>by rw [show _ = V.bl _ from h]; trivial
  | .int _,_,h,_=>by rw [show _ = V.int _ from h]; trivial
  | .str z,_,h,o=>by rw [show _ = V.str z from h]; exact o
  | .tup ts,_,⟨a,vs,e,ha,_⟩,_=>by rw [e]; exact .inr ⟨vs,ha⟩
  | .lst ts,_,⟨a,vs,e,_,ha,_⟩,_=>by rw [e]; exact .inl ⟨vs,ha⟩
section
variable {X:Cx} {pins:List (Addr×Obj)} {σ:St} {H:Hp} {s:Shared} {F G:Addr→Prop}
mutual
theorem rep_eq (I:Inv X pins σ H s):∀ (t:Tr) (A:Around) (v u:V) (vv uu:Value),A.units + t.dep < cLine→Rep F H t v→Rep G H t u→RelV v vv→RelV u uu→SeqAt.EqAt A s vv uu true
  | .non,A,v,u,vv,uu,_,h1,h2,r1,r2=>by
    rw [show v = V.non from h1] at r1; rw [show u = V.non from h2] at r2
    cases r1; cases r2
    exact SeqAt.EqAt.same _
  | .bl b,A,v,u,vv,uu,_,h1,h2,r1,r2=>by
    rw [show v = V.bl b from h1] at r1; rw [show u = V.bl b from h2] at r2
    cases r1; cases r2
    exact SeqAt.EqAt.same _
  | .int i,A,v,u,vv,uu,_,h1,h2,r1,r2=>by
    have:=eqAt_V (A:=A) (s:=s) r1 r2 (by rw [show v = V.int i from h1]; rfl) (by rw [show u = V.int i from h2]; rfl)
    rw [show v = V.int i from h1,show u = V.int i from h2] at this
    have e:eqV (V.int i) (V.int i) = true:=by rw [pure_eq rfl rfl]; simp
    rw [e] at this
    exact this
  | .str z,A,v,u,vv,uu,_,h1,h2,r1,r2=>by
    have:=eqAt_V (A:=A) (s:=s) r1 r2 (by rw [show v = V.str z from h1]; rfl) (by rw [show u = V.str z from h2]; rfl)
    rw [show v = V.str z from h1,show u = V.str z from h2] at this
    have e:eqV (V.str z) (V.str z) = true:=by rw [pure_eq rfl rfl]; simp
    rw [e] at this
    exact this
  | .tup ts,A,v,u,vv,uu,hA,⟨a,vs,e1,ha,hr1⟩,⟨b,us,e2,hb,hr2⟩,r1,r2=>by
    subst e1 e2
    cases r1; cases r2
    by_cases hab:a = b
    · subst hab; exact SeqAt.EqAt.same _
    have hA':A.units + (1 + Tr.deps ts) < cLine:=hA
    obtain ⟨its,rv1,p1,_⟩:=I.tuple (SqT.of (K:=X.K) ha)
    obtain ⟨its2,rv2,p2,_⟩:=I.tuple (SqT.of (K:=X.K) hb)
    have l1:=rv1.length.symm.trans (Reps.len ts vs hr1)
    have l2:=rv2.length.symm.trans (Reps.len ts us hr2)
    have q:=SeqAt.RcAt.tuples (A:=A) (s:=s) (e:=fun _=>true) p1 p2 (by omega) (fun j g1 g2=>reps_eq I ts A.in1 vs us its its2 (by show A.units + 1 + Tr.deps ts < cLine; omega) hr1 hr2 rv1 rv2 j (by simpa using g1) (by simpa using g2))
    have e:((List.range (min its.toArray.size its2.toArray.size)).all (fun _=>true) && its.toArray.size == its2.toArray.size) = true:=by
      simp [l1,l2]
    rw [e] at q
    exact SeqAt.EqAt.of_refs hab q
  | .lst ts,A,v,u,vv,uu,hA,⟨a,vs,e1,_,ha,hr1⟩,⟨b,us,e2,_,hb,hr2⟩,r1,r2=>by
    subst e1 e2
    cases r1; cases r2
    by_cases hab:a = b
    · subst hab; exact SeqAt.EqAt.same _
    have hA':A.units + (1 + Tr.deps ts) < cLine:=hA
    obtain ⟨its,rv1,p1,_⟩:=I.list (SqL.of (K:=X.K) ha)
    obtain ⟨its2,rv2,p2,_⟩:=I.list (SqL.of (K:=X.K) hb)
    have l1:=rv1.length.symm.trans (Reps.len ts vs hr1)
    have l2:=rv2.length.symm.trans (Reps.len ts us hr2)
    have q:=SeqAt.RcAt.lists (A:=A) (s:=s) (e:=fun _=>true) p1.isList p2.isList (by simp [l1,l2]) (by omega) (fun j g1 g2=>reps_eq I ts A.in1 vs us its its2 (by show A.units + 1 + Tr.deps ts < cLine; omega) hr1 hr2 rv1 rv2 j (by simpa using g1) (by simpa using g2))
    have e:((List.range its.toArray.size).all (fun _=>true)) = true:=by simp
    rw [e] at q
    exact SeqAt.EqAt.of_refs hab q
theorem reps_eq (I:Inv X pins σ H s):∀ (ts:List Tr) (A:Around) (vs us:List V) (its its2:List Value),A.units + Tr.deps ts < cLine→Reps F H ts vs→Reps G H ts us→Vals vs its→Vals us its2→∀ (j:Nat) (g1:j < its.length) (g2:j < its2.length),SeqAt.EqAt A s its[j] its2[j] true
  | [],A,vs,us,its,its2,_,h1,h2,r1,r2=>fun j g1 g2=>by
    rw [show vs = [] from h1] at r1
    cases r1
    simp at g1
  | t :: ts,A,vs,us,its,its2,hA,⟨v,vr,e1,a1,b1⟩,⟨u,ur,e2,a2,b2⟩,r1,r2=>by
    subst e1 e2
    have hA':A.units + max (Tr.dep t) (Tr.deps ts) < cLine:=hA
    cases r1 with
    | cons p1 q1=>
      cases r2 with
      | cons p2 q2=>
        intro j g1 g2
        cases j with
        | zero=>exact rep_eq I t A v u _ _ (by omega) a1 a2 p1 p2
        | succ j=>exact reps_eq I ts A vr ur _ _ (by omega) b1 b2 q1 q2 j (by simpa using g1) (by simpa using g2)
end
end
section
variable {X:Cx}
def rNeR:R2:=fun x y H Q=>∃ t F G,t.dep≤100∧Rep F H t x∧Rep G H t y∧Q (.bl false) H
theorem op_neR (hu:X.A.units + 150 < cLine):OpR X (compareOp .NotEq) rNeR:=by
  intro pins s σ H x y v u Q I rx ry h
  obtain ⟨t,F,G,hd,h1,h2,q⟩:=h
  have scal:∀ z:V,pureV z = true∨(∃ b,z = .bl b)→x = z→y = z→wpAny (model X.prog X.w) X.A (compareOp .NotEq v u) (EP X pins σ Q) X.xe s:=fun z hz e1 e2=>by
    refine op_ne pins s σ H x y v u Q I rx ry ⟨?_,?_⟩
    · subst e1 e2
      rcases hz with hz | ⟨b,rfl⟩
      · cases y <;> first | rfl | exact absurd (show false = true from hz) Bool.false_ne_true
      · rfl
    · rw [e1,e2]; simpa using q
  cases t with
  | non=>exact scal _ (.inl rfl) h1 h2
  | bl b=>exact scal _ (.inr ⟨b,rfl⟩) h1 h2
  | int i=>exact scal (.int i) (.inl rfl) h1 h2
  | str z=>exact scal (.str z) (.inl rfl) h1 h2
  | tup ts=>
    obtain ⟨a,vs,rfl,ha,hr1⟩:=h1
    obtain ⟨b,us,rfl,hb,hr2⟩:=h2
    cases rx; cases ry
    have hd':1 + Tr.deps ts≤100:=hd
    obtain ⟨its,rv1,p1,_⟩:=I.tuple (SqT.of (K:=X.K) ha)
    obtain ⟨its2,rv2,p2,_⟩:=I.tuple (SqT.of (K:=X.K) hb)
    have l1:=rv1.length.symm.trans (Reps.len ts vs hr1)
    have l2:=rv2.length.symm.trans (Reps.len ts us hr2)
    have q2:=SeqAt.RcNeAt.tuples (A:=X.A) (s:=s) (e:=fun _=>true) p1 p2 (by omega) (fun j g1 g2=>reps_eq I ts X.A.in1 vs us its its2 (by show X.A.units + 1 + Tr.deps ts < cLine; omega) hr1 hr2 rv1 rv2 j (by simpa using g1) (by simpa using g2))
    have e:(!((List.range (min its.toArray.size its2.toArray.size)).all (fun _=>true) && its.toArray.size == its2.toArray.size)) = false:=by
      simp [l1,l2]
    rw [e] at q2
    exact q2 _ _ _ _ ⟨.bl _,H,I,rfl,q⟩
  | lst ts=>
    obtain ⟨a,vs,rfl,_,ha,hr1⟩:=h1
    obtain ⟨b,us,rfl,_,hb,hr2⟩:=h2
    cases rx; cases ry
    have hd':1 + Tr.deps ts≤100:=hd
    obtain ⟨its,rv1,p1,_⟩:=I.list (SqL.of (K:=X.K) ha)
    obtain ⟨its2,rv2,p2,_⟩:=I.list (SqL.of (K:=X.K) hb)
    have l1:=rv1.length.symm.trans (Reps.len ts vs hr1)
    have l2:=rv2.length.symm.trans (Reps.len ts us hr2)
    have q2:=SeqAt.RcNeAt.lists (A:=X.A) (s:=s) (e:=fun _=>true) p1.isList p2.isList (by simp [l1,l2]) (by omega) (fun j g1 g2=>reps_eq I ts X.A.in1 vs us its its2 (by show X.A.units + 1 + Tr.deps ts < cLine; omega) hr1 hr2 rv1 rv2 j (by simpa using g1) (by simpa using g2))
    have e:(!(List.range its.toArray.size).all (fun _=>true)) = false:=by simp
    rw [e] at q2
    exact q2 _ _ _ _ ⟨.bl _,H,I,rfl,q⟩
end
mutual
theorem Rep.mono {F G:Addr→Prop} {H:Hp} (h:∀ a,F a→G a):∀ (t:Tr) (v:V),Rep F H t v→Rep G H t v
  | .non,_,q=>q
  | .bl _,_,q=>q
  | .int _,_,q=>q
  | .str _,_,q=>q
  | .tup ts,_,⟨a,vs,e,ha,hr⟩=>⟨a,vs,e,ha,Reps.mono h ts vs hr⟩
  | .lst ts,_,⟨a,vs,e,fa,ha,hr⟩=>⟨a,vs,e,h a fa,ha,Reps.mono h ts vs hr⟩
theorem Reps.mono {F G:Addr→Prop} {H:Hp} (h:∀ a,F a→G a):∀ (ts:List Tr) (vs:List V),Reps F H ts vs→Reps G H ts vs
  | [],_,q=>q
  | t :: ts,_,⟨v,us,e,h1,h2⟩=>⟨v,us,e,Rep.mono h t v h1,Reps.mono h ts us h2⟩
end
mutual
theorem Rep.upd {F:Addr→Prop} {H:Hp} {l:Addr} {us us':List V} (hl:H l = some (.lst us)) (nl:¬ F l):∀ (t:Tr) (v:V),Rep F H t v→Rep F (upd H l (.lst us')) t v
  | .non,_,q=>q
  | .bl _,_,q=>q
  | .int _,_,q=>q
  | .str _,_,q=>q
  | .tup ts,_,⟨a,vs,e,ha,hr⟩=>⟨a,vs,e,by rw [upd_ne (ne_of ha hl (by intro z; cases z))]; exact ha,Reps.upd hl nl ts vs hr⟩
  | .lst ts,_,⟨a,vs,e,fa,ha,hr⟩=>⟨a,vs,e,fa,by rw [upd_ne (show a≠l from fun z=>nl (by rw [← z]; exact fa))]; exact ha,Reps.upd hl nl ts vs hr⟩
theorem Reps.upd {F:Addr→Prop} {H:Hp} {l:Addr} {us us':List V} (hl:H l = some (.lst us)) (nl:¬ F l):∀ (ts:List Tr) (vs:List V),Reps F H ts vs→Reps F (L2.upd H l (.lst us')) ts vs
  | [],_,q=>q
  | t :: ts,_,⟨v,ur,e,h1,h2⟩=>⟨v,ur,e,Rep.upd hl nl t v h1,Reps.upd hl nl ts ur h2⟩
end
theorem itIs_tup {K:PySem.W.Frag} {a:Addr} {H:Hp} {xs:List V} (h:H a = some (.tup xs)):ItIs (Itt K a) H xs:=fun H' s i=>
  ⟨fun hi=>⟨xs,xs[i],SqT.of (s.get h),by simp [hi]⟩,fun x H'' y=>⟨y.1,fun _=>y.2 xs (SqT.of (s.get h))⟩,fun hi=>⟨xs,SqT.of (s.get h),hi⟩⟩
def Tr.ty:Tr→String
  | .non=>"NoneType"
  | .bl _=>"bool"
  | .int _=>"int"
  | .str _=>"str"
  | .tup _=>"tuple"
  | .lst _=>"list"
theorem Rep.tyN {F:Addr→Prop} {H:Hp}:∀ {t:Tr} {v:V},Rep F H t v→L2.tyN H v = t.ty
  | .non,_,h=>by rw [show _ = V.non from h]; rfl
  | .bl _,_,h=>by rw [show _ = V.bl _ from h]; rfl
  | .int _,_,h=>by rw [show _ = V.int _ from h]; rfl
  | .str z,_,h=>by rw [show _ = V.str z from h]; rfl
  | .tup ts,_,⟨a,vs,e,ha,_⟩=>by rw [e]; simp only [L2.tyN,ha]; rfl
  | .lst ts,_,⟨a,vs,e,_,ha,_⟩=>by rw [e]; simp only [L2.tyN,ha]; rfl
theorem hu9_of {A:Around} {k:Nat} (hr:Room k A):A.units + 150 < cLine:=by have:=hr.un; omega
section
variable {σ:St} {H:Hp} {m k:Nat} {te:TE} {ta:TA}
theorem Reps.rep {F:Addr→Prop} {ts:List Tr} {vs:List V} (h:Reps F H ts vs):∀ n:Nat,Reps F H (List.replicate n ts).flatten (List.replicate n vs).flatten
  | 0=>rfl
  | n + 1=>by
    rw [List.replicate_succ,List.replicate_succ,List.flatten_cons,List.flatten_cons]
    exact Reps.append h (Reps.rep h n)
end
end L2
namespace L2
open PySem PySem.Spec PyProof.Rows
def MDef (P:Program) (w:World) (K:PySem.W.Frag) (mg:Str→Option Value) (base:Heap) (k:Nat) (C:Addr) (m:Str) (ps:List Str) (sp:Sp):Prop:=
  ∃ (f:Addr) (fd:FuncData),FnOk P w K mg base CX0 k f fd ps sp∧Meth K C m f∧Binds K fd ps []
def CDef (P:Program) (w:World) (K:PySem.W.Frag) (mg:Str→Option Value) (base:Heap) (k:Nat) (C:Addr) (x:Str) (ps:List Str) (sp:Sp):Prop:=
  ∃ (f:Addr) (fd:FuncData),FnOk P w K mg base CX0 k f fd ps sp∧Mk K C f∧mg x = some (.ref C)∧Binds K fd ps []
section
variable {X:Cx} {k:Nat} {x m:Str} {C:Addr} {ps:List Str} {sp:Sp} {e o:Expr} {es:List Expr} {t:TA} {ta:TE} {p apos pos:Pos}
theorem pe_cls (D:CDef X.prog X.w X.K X.mg X.base k C x ps sp) (hr:Room (k + 1) X.A) (hg:Gl X x) (ha:PA X (e :: es) t)
    (hdb:(x == ("__debug__":Str)) = false:=by decide) (he:starEach (e :: es) X.env = (false,eval e X.env) :: starEach es X.env:=by rfl) (hpl:(backTo pos (starEach es X.env)).any (·.1) = false:=by rfl) :
    PE X (.Call (.Name x p) (e :: es) [] pos) (tMake C sp [] E0 t):=by
  obtain ⟨f,fd,F,M,hm,hb⟩:=D
  exact pe_make M F hr hg hm hb .nil pass0 ha hdb he hpl
theorem pe_mth {pl:Sem Bool} (ho:PE X o ta) (c:Cls X.K C) (D:MDef X.prog X.w X.K X.mg X.base k C m ps sp) (hr:Room k X.A) (ha:PA X (e :: es) t)
    (hst:starEach (e :: es) X.env = (false,eval e X.env) :: starEach es X.env:=by rfl) (hpl:(backTo pos (starEach es X.env)).any (·.1) = false:=by rfl)
    (ht:eval (.Call (.Attribute o m apos) (e :: es) [] pos) X.env = (do
      let ov ← eval o X.env
      standAt apos.atName
      let (f,first) ← holding [ov] (getMethod ov m pl)
      callWith pos f first (backTo pos (starEach (e :: es) X.env)) (backToKw pos (keywordEach [] X.env))):=by rfl) :
    PE X (.Call (.Attribute o m apos) (e :: es) [] pos) (tMeth C m sp [] E0 ta t):=by
  obtain ⟨f,fd,F,M,hb⟩:=D
  exact pe_meth ho c M F hr hb .nil pass0 ha hst hpl ht
theorem pe_mth0 {pl:Sem Bool} (ho:PE X o ta) (c:Cls X.K C) (D:MDef X.prog X.w X.K X.mg X.base k C m ps sp) (hr:Room k X.A)
    (ht:eval (.Call (.Attribute o m apos) [] [] pos) X.env = (do
      let ov ← eval o X.env
      standAt apos.atName
      let (f,first) ← holding [ov] (getMethod ov m pl)
      callWith pos f first (backTo pos (starEach [] X.env)) (backToKw pos (keywordEach [] X.env))):=by rfl) :
    PE X (.Call (.Attribute o m apos) [] [] pos) (tMeth C m sp [] E0 ta tNil):=by
  obtain ⟨f,fd,F,M,hb⟩:=D
  exact pe_meth0 ho c M F hr hb .nil pass0 ht
end
end L2
namespace L2
open PySem PySem.Spec PyProof.Rows
section
variable {X:Cx} {els:List Expr} {kk:Nat} {pp:Pos}
end
end L2
namespace L2
open PySem PySem.Spec PyProof.Rows
theorem relV_key {P:Program} {w:World} {k:Key} {u:Value} (h:(mixKind P w).is k u = true):RelV (kV k) u:=by
  rcases keyIs_shape h with ⟨i,t,rfl,rfl⟩ | ⟨x,t,rfl,rfl⟩
  · exact ⟨t,rfl⟩
  · exact ⟨t,rfl⟩
section
variable {X:Cx} {tg:Expr}
end
end L2
namespace L2
open PySem PySem.Spec PyProof.Rows
section
variable {X:Cx}
structure M0 (X:Cx) (o:Expr) (m:Str) (apos cpos:Pos):Prop where
  base:attributeBase o m X.env (eval o X.env) = eval o X.env
  few:((backTo cpos (starEach [] X.env)).all (fun x=>!x.1) && (backToKw cpos (keywordEach [] X.env)).all (fun x=>x.1.isSome)
    && decide (([]:List Expr).length + ([]:List Keyword).length + (if ([]:List Keyword).isEmpty then 0 else 1) < 30)) = true
  line:(apos.endLine == cpos.line) = true
  trees:backTo cpos (starEach [] X.env) = []
end
theorem seq_mid {t u:TS} {D:Ends} {σ:St} {H:Hp} (M:St→Hp→Prop) (h1:∀ N:St→Hp→Prop,(∀ σ' H',M σ' H'→N σ' H')→t { D with nx:=N } σ H) (h2:∀ σ' H',M σ' H'→u D σ' H'):tSeq t u D σ H:=h1 (u D) h2
theorem comp_st {J:It} {xs:List V} {fr:List (Option Nat)} {k:Nat} {te:TE} {Q:VK} {σ:St} {H:Hp} (I:Nat→List V→Addr→Hp→Prop) (hn:xs.length≤1000000)
    (hJ:∀ i ys l H',I i ys l H'→(i < xs.length→J.go i H')∧(∀ x H'',J.yld i H' x H''→H'' = H'∧(i < xs.length→xs[i]? = some x))∧(xs.length≤i→J.stop i H'))
    (h0:∀ l,H l = none→I 0 [] l (upd H l (.lst [])))
    (step:∀ (i:Nat) (x:V) (ys:List V) (l:Addr) (H':Hp) (R:VK),xs[i]? = some x→H l = none→H' l = some (.lst ys)→ys.length = i→I i ys l H'→(∀ y H'',H'' l = some (.lst ys)→I (i + 1) (ys ++ [y]) l (upd H'' l (.lst (ys ++ [y])))→R y H'')→te ((stC fr σ).set k (some x)) H' R)
    (hQ:∀ l H' (ys:List V),H l = none→H' l = some (.lst ys)→ys.length = xs.length→I xs.length ys l H'→Q (.ref l) H'):tCompK fr (gName k) tYes te σ Q J H:=by
  intro l hl
  refine ⟨fun i m σ' H'=>m = xs.length - i∧i≤xs.length∧(∀ y,σ'.set k y = (stC fr σ).set k y)∧∃ ys:List V,H' l = some (.lst ys)∧ys.length = i∧I i ys l H',⟨xs.length,by simp,Nat.zero_le _,fun _=>rfl,[],upd_same,rfl,h0 l hl⟩,?_⟩
  rintro i m σ' H' ⟨rfl,hi,hσ,ys,hl',hlen,hI⟩
  obtain ⟨h1,h2,h3⟩:=hJ i ys l H' hI
  by_cases hlt:i < xs.length
  · refine .inr ⟨h1 hlt,fun x H'' y=>?_⟩
    obtain ⟨rfl,hx⟩:=h2 x H'' y
    have hx:=hx hlt
    show te (σ'.set k (some x)) H'' _
    rw [hσ]
    refine step i x ys l H'' _ hx hl hl' hlen hI fun y H4 hl4 hI4=>?_
    exact ⟨ys,hl4,smallLt (by omega),xs.length - (i + 1),by omega,rfl,hlt,fun y=>by rw [List.set_set],ys ++ [y],upd_same,by rw [List.length_append,hlen]; rfl,hI4⟩
  · have e:i = xs.length:=by omega
    subst e
    exact .inl ⟨h3 (Nat.le_refl _),hQ l H' ys hl hl' hlen hI⟩
theorem itr_go {lo:Int} {n i:Nat} {H:Hp}:(i < ((List.range n).map fun (i:Nat)=>V.int (lo + (i:Int))).length→(Itr lo n).go i H)∧(∀ x H'',(Itr lo n).yld i H x H''→H'' = H∧(i < ((List.range n).map fun (i:Nat)=>V.int (lo + (i:Int))).length→((List.range n).map fun (i:Nat)=>V.int (lo + (i:Int)))[i]? = some x))∧(((List.range n).map fun (i:Nat)=>V.int (lo + (i:Int))).length≤i→(Itr lo n).stop i H):=by
  rw [List.length_map,List.length_range]
  refine ⟨fun h=>h,fun x H'' y=>⟨y.1,fun h=>?_⟩,fun h=>h⟩
  rw [List.getElem?_map,List.getElem?_range h,y.2]; rfl
end L2
namespace L2
open PySem PySem.Spec PyProof.Rows
theorem ObjOk.get {P:Program} {w:World} {H:Hp} {h:Heap} {a:Addr} {o:HO} (x:ObjOk P w H h a o):∃ ob,h.get? a = some ob:=by
  cases o with
  | lst xs=>obtain ⟨_,_,_,_,e⟩:=x; exact ⟨_,e⟩
  | tup xs=>obtain ⟨_,_,_,ob,e,_⟩:=x; exact ⟨_,e⟩
  | dK kvs=>obtain ⟨_,_,_,_,o,_,_,e,_⟩:=x; exact ⟨_,e⟩
  | dT kvs=>obtain ⟨_,_,_,_,o,_,_,e,_⟩:=x; exact ⟨_,e⟩
  | set S n=>obtain ⟨o,_,_,_,e,_⟩:=x; exact ⟨_,e⟩
  | ins C dx fs=>obtain ⟨_,_,_,e,_⟩:=x; exact ⟨_,e⟩
  | own y=>obtain ⟨_,e⟩:=x; exact ⟨_,e⟩
  | xd fs=>obtain ⟨_,⟨_,_,_,e,_⟩,_⟩:=x; exact ⟨_,e⟩
  | rng lo hi=>obtain ⟨_,_,_,e⟩:=x; exact ⟨_,e⟩
  | frz ob u=>obtain ⟨e,_⟩:=x; exact ⟨_,e⟩
  | tbl ps=>exact ⟨_,x⟩
  | met f y=>exact ⟨_,x⟩
  | ext φ=>obtain ⟨_,e,_⟩:=x; exact e
structure Fly (P:Program) (w:World) (outer:List Env) (H:Hp) (s:Shared) (ea:Addr) (cls:Value) (H':Hp) (B:Heap) (a0:Value) (s':Shared):Prop where
  os:s'.os = s.os
  bare:AllBare s'.gens
  un:Un (frs outer) [] H H' s.heap s'.heap
  hok:HOk P w H' B
  fl:Heap.FlyingW B outer ea cls a0 s'.heap
  kp:∀ b o,s.heap.get? b = some o→H b = none→b ∉ frs outer→B.get? b = some o
  th:∀ b o,s.heap.get? b = some o→b ∉ frs outer→∃ o',B.get? b = some o'
section
variable {P:Program} {w:World} {outer:List Env} {H H':Hp} {s s':Shared} {ea:Addr} {cls a0:Value} {B h' base:Heap}
theorem Fly.stay (F:Fly P w outer H s ea cls H' B a0 s') (hl:s.heap.FunFrames base outer) (hn:∀ b∈frs outer,H b = none) (sB:B.StaysIn h') (up:s'.heap.UpToSlots h'):Un (frs outer) [] H H' s.heap h':=by
  have sl:∀ b o,s.heap.get? b = some o→b∈frs outer→∃ sl,h'.get? b = some { o with slots:=sl }:=fun b o q hb=>by
    obtain ⟨z,e⟩:=F.un.slot b o q (hn b hb) hb (by simp)
    obtain ⟨_,o',ho',hd⟩:=hl.mem hb
    rw [q] at ho'
    cases ho'
    exact up b { o with slots:=z } e hd
  refine ⟨fun b o q n hb _=>sB b o (F.kp b o q n hb),fun b o q _ hb _=>sl b o q hb,F.un.free,fun b o q _=>?_,F.un.tups,F.un.frzs,F.un.tbls⟩
  by_cases hb:b∈frs outer
  · obtain ⟨z,e⟩:=sl b o q hb
    exact ⟨_,e⟩
  · obtain ⟨o',e⟩:=F.th b o q hb
    exact ⟨o',sB b o' e⟩
theorem Fly.free (F:Fly P w outer H s ea cls H' B a0 s'):H' ea = none:=by
  cases e:H' ea with
  | none=>rfl
  | some u=>
    obtain ⟨ob,q⟩:=(F.hok ea u e).get
    rw [F.fl.2.1] at q
    cases q
end
section
variable {X:Cx} {pins:List (Addr×Obj)} {σ:St} {H H':Hp} {s s':Shared} {ea:Addr} {cls a0:Value} {B h':Heap}
theorem Inv.landed (I:Inv X pins σ H s) (F:Fly X.prog X.w X.stack H s ea cls H' B a0 s') (sB:B.StaysIn h') (up:s'.heap.UpToSlots h'):Inv X pins σ H' { s' with heap:=h' }:=
  I.call' (s':={ s' with heap:=h' }) (ch:=[]) F.os (F.stay I.stack I.stkFree sB up) (F.hok.kept sB) F.bare (fun b z=>nomatch z)
end
section
variable {P:Program} {w:World} {K:PySem.W.Frag} {mg:Str→Option Value} {base:Heap} {N:List Str} {qual:Str} {scope:Scope} {f:Addr} {cd:Value} {A:Around} {outer:List Env} {s:Shared} {H:Hp} {E:XK}
end
abbrev bmVE:List Value:=[.type "ValueError",.type "Exception",.type "BaseException",.type "object"]
section
variable {X:Cx} {E:XK} {x:Str} {C:Addr} {np cpos pos:Pos}
end
abbrev XS:=Value→St→Hp→Prop
abbrev TX:=Ends→XS→St→Hp→Prop
def XP (X:Cx) (pins:List (Addr×Obj)) (Ex:XS) (e:Value) (s':Shared):Prop:=
  ∃ (ea:Addr) (cls:Value) (σ':St) (H1 H':Hp) (s1:Shared) (B:Heap) (a0:Value),e = .ref ea∧Inv X pins σ' H1 s1∧Fly X.prog X.w X.stack H1 s1 ea cls H' B a0 s'∧Ex cls σ' H'
def PX (X:Cx) (st:Stmt) (t:TX):Prop:=
  ∀ (pins:List (Addr×Obj)) (s:Shared) (σ:St) (H:Hp) (D:Ends) (Ex:XS),Inv X pins σ H s→t D Ex σ H→wpAny (model X.prog X.w) X.A (exec st X.env) (SP X pins D) (XP X pins Ex) s
def PXs (X:Cx) (st:List Stmt) (t:TX):Prop:=
  ∀ (pins:List (Addr×Obj)) (s:Shared) (σ:St) (H:Hp) (D:Ends) (Ex:XS),Inv X pins σ H s→t D Ex σ H→wpAny (model X.prog X.w) X.A (execs st X.env) (SP X pins D) (XP X pins Ex) s
section
variable {X:Cx} {st:Stmt} {rest:List Stmt} {e:Expr} {pos:Pos}
theorem px_lift {t:TS} (h:PS X.nox st t):PX X st (fun D _=>t D):=fun pins s σ H D Ex I q=>
  wpAny_mono (h pins s σ H D (I.wish _) q) (fun _ _ z=>z.unwish) fun _ _ z=>False.elim z
theorem pxs_one {t:TX} (h1:PX X st t):PXs X [st] t:=by
  intro pins s σ H D Ex I h
  refine wpAny_execs_cons (thn (h1 pins s σ H D Ex I h) fun f s1 q=>?_)
  cases f with
  | next=>exact wpAny_execs_nil q
  | ret v=>exact q
  | brk=>exact q
  | cont=>exact q
end
section
variable {X:Cx} {k:Nat} {x m:Str} {C:Addr} {ps:List Str} {sp:Sp} {E:XK} {e o:Expr} {es:List Expr} {t:TA} {ta:TE} {p pos apos:Pos}
end
def Cx.held (X:Cx) (e:Value):Cx:={ X with A:=X.A.mark (some e),calm:=false,xe:=fun _ _=>False }
section
variable {X:Cx} {pins:List (Addr×Obj)} {σ:St} {H:Hp} {s:Shared} {e:Value}
theorem Inv.held (I:Inv X pins σ H s) (e:Value):Inv (X.held e) pins σ H s:=
  ⟨⟨I.ok.mod,I.ok.kind,I.ok.glob,I.ok.blt,I.ok.above,I.ok.inj,I.ok.has,I.ok.cab,(fun z=>nomatch z),I.ok.frames,I.ok.stk,I.ok.exf,I.ok.bs,I.ok.bsz,I.ok.noex,I.ok.exfs,I.ok.funs,I.ok.frf⟩,I.os,I.bare,I.base,I.loc,I.cell,I.free,I.freeC,I.pin,I.hok,I.len⟩
theorem Inv.unheld (J:Inv X pins σ H s) {σ':St} {H':Hp} {s':Shared} (I:Inv (X.held e) pins σ' H' s'):Inv X pins σ' H' s':=
  ⟨J.ok,I.os,I.bare,I.base,I.loc,I.cell,I.free,I.freeC,I.pin,I.hok,I.len⟩
theorem SP.unheld (J:Inv X pins σ H s) {D:Ends} {f:Flow} {s':Shared} (h:SP (X.held e) pins D f s'):SP X pins D f s':=by
  cases f with
  | next=>obtain ⟨σ',H',I,q⟩:=h; exact ⟨σ',H',J.unheld I,q⟩
  | brk=>obtain ⟨σ',H',I,q⟩:=h; exact ⟨σ',H',J.unheld I,q⟩
  | cont=>obtain ⟨σ',H',I,q⟩:=h; exact ⟨σ',H',J.unheld I,q⟩
  | ret u=>obtain ⟨v,σ',H',I,r,q⟩:=h; exact ⟨v,σ',H',J.unheld I,r,q⟩
end
section
variable {X:Cx} {x:Str} {c:Value} {body orelse suite:List Stmt} {b₀:Stmt} {np hpos pos:Pos}
def tTry (K:PySem.W.Frag) (c:Value) (tb:TX) (te ts:TS):TS:=fun D σ H=>tb { D with nx:=te D } (fun cls σ' H'=>PySem.W.exmOne K cls c = some true∧ts D σ' H') σ H
theorem ps_try {tb:TX} {te ts:TS} (hst:X.stack = X.env :: X.outer∧X.env.frame = some X.env.locals) (hm:X.mg x = some c) (hg:Gl X x) (hb:PXs X body tb) (he:PSs X orelse te) (hs:∀ e,PSs (X.held e) (b₀ :: suite) ts)
    (hd:(x == ("__debug__":Str)) = false:=by decide):PS X (.Try body [.ExceptHandler (some (.Name x np)) none (b₀ :: suite) hpos] orelse [] pos) (tTry X.K c tb te ts):=by
  intro pins s σ H D I h
  refine wpAny_Try_except (wpAny_mono (hb pins s σ H _ _ I h) (fun f s1 q=>?_) fun e s1 q=>?_)
  · cases f with
    | next=>
      obtain ⟨σ',H',I',q⟩:=q
      exact he pins s1 σ' H' D I' q
    | ret v=>exact q
    | brk=>exact q
    | cont=>exact q
  · obtain ⟨ea,cls,σ',H1,H',s2,B,a0,rfl,I2,F,hx,q⟩:=q
    have hfr:=I.ok.frames
    have fl:=F.fl
    rw [hst.1] at hfr fl
    refine wpAny_looks_onW hfr hst.2 fl fun h4 held4 up4=>?_
    refine wpAny_landsW held4 fun h5 fl5 up5=>?_
    have J5:=I2.landed F fl5.1 (up4.trans up5)
    refine wpAny_handleBy_cons (codeAny_handlers_test (ld_glob (J5.held (.ref ea)) hg hm ?_ hd)) (by intro z; cases z)
    obtain ⟨ob,hob,hcls⟩:=fl5.there
    have LT:PySem.W.Looks (model X.prog X.w) h5 (typeOf (.ref ea)) cls:=by
      subst hcls
      exact (PySem.W.Looks.ld hob).andThen .now
    refine (PySem.W.exm_one J5.kIn LT hx).here ?_
    refine codeAny_handlers_suite (lands_againW fl5 fun h6 fl6 up6=>?_)
    have J6:=I2.landed F fl6.1 ((up4.trans up5).trans up6)
    exact wpAny_mono (hs (.ref ea) pins _ σ' H' D (J6.held (.ref ea)) q) (fun f s7 z=>z.unheld J6) fun _ _ z=>False.elim z
end
end L2
namespace L2
open PySem PySem.Spec PyProof.Rows
section
variable {X:Cx}
end
end L2
namespace L2
open PySem PySem.Spec PyProof.Rows
section
variable {X:Cx}
end
end L2
namespace L2
open PySem PySem.Spec PyProof.Rows
section
variable {prog:Program} {w:World} {A:Around} {E:Value→Shared→Prop} {s:Shared} {it t:Addr} {i:Nat} {its:Array Value} {Q:Value→Shared→Prop}
end
structure ZA (z TI TO i1 i2:Addr) (f1 f2:List Addr):Prop where
  TIz:TI≠z
  TOz:TO≠z
  i1z:i1≠z
  i2z:i2≠z
  TITO:TI≠TO
  TIi1:TI≠i1
  TIi2:TI≠i2
  TOi1:TO≠i1
  TOi2:TO≠i2
  i12:i1≠i2
  z1:z ∉ f1
  o1:TO ∉ f1
  j1:i2 ∉ f1
  z2:z ∉ f2
  o2:TO ∉ f2
  j2:i1 ∉ f2
section
variable {prog:Program} {w:World} {A:Around} {E:Value→Shared→Prop} {s:Shared} {z TI TO i1 i2:Addr} {f1 f2:List Addr} {n i:Nat} {P1 P2:Nat→Value→Prop} {St1 St2:Nat→Heap→Prop} {a b:Value}
end
section
variable {prog:Program} {w:World} {A:Around} {E:Value→Shared→Prop} {s:Shared} {z TI TO i1 i2:Addr} {f1 f2:List Addr} {n i:Nat} {P1 P2:Nat→Value→Prop} {St1 St2:Nat→Heap→Prop} {a b:Value}
end
section
variable {X:Cx} {pins:List (Addr×Obj)} {σ:St} {H:Hp} {s:Shared} {h':Heap}
end
section
variable {X:Cx} {els:List Expr} {kk:Nat} {pp:Pos}
end
theorem pe_bmK {X:Cx} {K:PySem.W.Frag} {T:String} {name:Str} {id:String} {r:V→List V→Hp→VK→Prop} {o e:Expr} {es:List Expr} {to:TE} {t:TA} {apos cpos:Pos} (hK:X.K = K) (pa:PlainAttrs T) (slot:Slot T name id) (hty:typeOf (.builtin id) = pure (.type "method_descriptor")) (hm:MtR X id r) (ho:PE X o to) (ha:PA X (e :: es) t)
    (hbase:attributeBase o name X.env (eval o X.env) = eval o X.env:=by rfl)
    (hfew:((backTo cpos (starEach (e :: es) X.env)).all (fun x=>!x.1) && (backToKw cpos (keywordEach [] X.env)).all (fun x=>x.1.isSome)
      && decide ((e :: es).length + ([]:List Keyword).length + (if ([]:List Keyword).isEmpty then 0 else 1) < 30)) = true:=by rfl)
    (hline:(apos.endLine == cpos.line) = true:=by rfl) (hs:starEach (e :: es) X.env = (false,eval e X.env) :: starEach es X.env:=by rfl) (hplain:(backTo cpos (starEach es X.env)).any (·.1) = false:=by rfl) :
    PE X (.Call (.Attribute o name apos) (e :: es) [] cpos) (tBM K T r to t):=by
  subst hK
  exact pe_bm pa slot hty hm ho ha hbase hfew hline hs hplain
end L2
namespace L2
open PySem PySem.Spec PyProof.Rows
section
variable {M:Model} {A:Around} {E:Value→Shared→Prop} {s:Shared} {base:Heap} {env:Env} {outer l:List Env} {L e:Addr} {cls a0 fl:Value}
structure Retraced (base h h':Heap) (T:Addr) (ts:Array Value) (v:Value):Prop where
  here:∃ o',h'.get? T = some o'∧o'.data = .fields (ts.setIfInBounds 3 v)
  rest:∀ b o,b≠T→h.get? b = some o→h'.get? b = some o
  low:base.StaysIn h→base.StaysIn h'
  plain:∀ b o,h.get? b = some o→(∀ vs,o.data≠.fields vs)→h'.get? b = some o
end
section
variable {P:Program} {w:World} {K:PySem.W.Frag} {mg:Str→Option Value} {base:Heap} {N:List Str} {qual:Str} {scope:Scope} {f:Addr} {cd:Value} {A:Around} {outer:List Env} {s:Shared} {H:Hp} {E:XK}
end
section
variable {X:Cx}
end
end L2
namespace L2
section
open PySem PySem.Calls PyProof.Rows PySem.W Builtin Builtin.ObjectAttr Builtin.Getset_descriptor
section
variable {prog:Program} {w:World} {A:Around} {E:Value→Shared→Prop} {K:Frag} {e D:Addr}
structure IsExc (h:Heap) (e D:Addr):Prop where
  ob:∃ o,h.get? e = some o∧o.cls = .ref D∧∃ vs,o.data = .fields vs
theorem IsExc.ty {h:Heap} (z:IsExc h e D) {M:Model}:Looks M h (typeOf (.ref e)) (.ref D):=by
  obtain ⟨o,q,c,_⟩:=z.ob
  rw [← c]
  exact (Looks.ld q).andThen .now
theorem exc_descr {tp:Value} {s:Shared} {R:Result→Shared→Prop} (k:K.In s.heap) (z:IsExc s.heap e D) (hm:mroIn K D (.type "object") = some true) (q:R (.ok (.ret (.ref D))) s) :
    codeAny (model prog w) A (.call (.builtin "getset_descriptor.__get__") ⟨[.builtin "object.__class__",.ref e,tp],[]⟩) R s:=by
  obtain ⟨h1,g1,d1,t1,o1⟩:=s
  have T0:=z.ty (M:=model prog w)
  have T1:=looks_mroIn (M:=model prog w) k hm
  have slot:=KF.slot_gs
  refine codeAny_call_builtin slot.plain KF.entry_gs (slot.check _ _ _ _ _ _ _ _ KF.type_class (KF.args_gs _ _ _) ?_)
  simp only [Builtin.«getset_descriptor.__get__»,descrGet,dga_obj]
  refine wpAny_bind (wpAny_pure ?_)
  dsimp only [descrGetter,descrCheckInstance,descrNameAndClass,isInstance]
  rw [show descrOwnerAndName "object.__class__" = ("object","__class__") from KF.owner_class]
  repeat lk
  refine ⟨Code.quiet_builtin (id:="object.__class__") _ (by decide +kernel),codeAny_builtin KF.entry_class ?_⟩
  simp only [Builtin.«object.__class__»,shownTypeOf]
  repeat lk
  exact q
theorem exc_find {h:Heap} {M:Model} (k:K.In h) (ha:findIn K (.ref D) "__class__" = some (some (.builtin "object.__class__")))
    (hn:specialIn K (.builtin "object.__class__") "__get__" = some (some (.builtin "getset_descriptor.__get__"))) (ht:takesIn K (.builtin "object.__class__") = some true) :
    Looks M h (find (.ref e) (.ref D) "__class__") (.bind (.builtin "getset_descriptor.__get__") (.builtin "object.__class__")):=
  (looks_findIn k ha).andThen ((show Looks M h (getOf (some (.builtin "object.__class__"))) (some (.builtin "getset_descriptor.__get__")) from looks_specialIn k hn).andThen
    ((show Looks M h (dataDescriptor? (some (.builtin "object.__class__")) (some (.builtin "getset_descriptor.__get__"))) (some (.builtin "getset_descriptor.__get__",.builtin "object.__class__")) from (looks_takesIn k ht).andThen .now).andThen (Looks.tag .now)))
theorem exc_check {nv:Value} {s:Shared} {Q:Unit→Shared→Prop} {M:Model} (k:K.In s.heap) (z:IsExc s.heap e D) (hb:mroIn K D (.type "BaseException") = some true) (q:Q () s) :
    wpAny M A (checkBuiltinCall "BaseException.__getattribute__" ⟨[.ref e,nv],[]⟩) Q E s:=by
  obtain ⟨h1,g1,d1,t1,o1⟩:=s
  have b1:builtinKind "BaseException.__getattribute__" = some .slot:=by decide +kernel
  have b2:splitId "BaseException.__getattribute__" = some ("BaseException","__getattribute__"):=by decide +kernel
  have b3:=F.args_bexc_ga (.ref e) nv
  have T:Looks M h1 (isInstance (.ref e) (.type "BaseException")) true:=z.ty.andThen (looks_mroIn k hb)
  simp only [checkBuiltinCall,b1,b2]
  refine wpAny_bind (T.at ?_)
  rw [if_neg (by decide)]
  repeat wp_step
  exact q
theorem exc_entry {tk:Tok} {s:Shared} {Q:Fin→Shared→Prop} (k:K.In s.heap) (z:IsExc s.heap e D) (ha:findIn K (.ref D) "__class__" = some (some (.builtin "object.__class__")))
    (hn:specialIn K (.builtin "object.__class__") "__get__" = some (some (.builtin "getset_descriptor.__get__"))) (ht:takesIn K (.builtin "object.__class__") = some true) (hm:mroIn K D (.type "object") = some true) (q:Q (.done (.ret (.ref D))) s) :
    wpAny (model prog w) A (Builtin.«object.__getattribute__» ⟨[.ref e,.str "__class__" tk],[]⟩) Q E s:=by
  obtain ⟨h1,g1,d1,t1,o1⟩:=s
  have T0:=z.ty (M:=model prog w)
  have T1:=exc_find (e:=e) (M:=model prog w) k ha hn ht
  have s0:slotArgs "__getattribute__" 1 ⟨[.ref e,.str "__class__" tk],[]⟩ = pure (Value.ref e,[Value.str "__class__" tk]):=by kernel_rfl
  have s1:attrName (.str "__class__" tk) = pure "__class__":=by kernel_rfl
  simp only [Builtin.«object.__getattribute__»,s0]
  refine wpAny_bind (wpAny_pure ?_)
  dsimp only
  rw [s1]
  refine wpAny_bind (wpAny_pure (wpAny_bind (T0.at (wpAny_bind (T1.at ?_)))))
  dsimp only
  unfold bindTo
  dsimp only
  refine wpAny_bind (wpAny_call (exc_descr (s:=⟨h1,g1,d1,t1,o1⟩) k z hm ?_))
  exact wpAny_pure q
theorem exc_class {s:Shared} {Q:Option Value→Shared→Prop} (k:K.In s.heap) (z:IsExc s.heap e D) (hga:findIn K (.ref D) "__getattribute__" = some (some (.builtin "BaseException.__getattribute__"))) (hgg:findIn K (.ref D) "__getattr__" = some none)
    (ha:findIn K (.ref D) "__class__" = some (some (.builtin "object.__class__"))) (hn:specialIn K (.builtin "object.__class__") "__get__" = some (some (.builtin "getset_descriptor.__get__"))) (ht:takesIn K (.builtin "object.__class__") = some true)
    (hm:mroIn K D (.type "object") = some true) (hb:mroIn K D (.type "BaseException") = some true) (q:Q (some (.ref D)) { s with toks:=s.toks + 1 }) :
    wpAny (model prog w) A (getAttr? (.ref e) "__class__") Q E s:=by
  obtain ⟨h1,g1,d1,t1,o1⟩:=s
  have T0:=z.ty (M:=model prog w)
  have T1:=looks_findIn (M:=model prog w) k hga
  have T2:=looks_findIn (M:=model prog w) k hgg
  have B:=F.excAttr_ValueError.ga.bind (.ref e)
  simp only [getAttr?,getAttrBy?,getAttrBy]
  refine wpAny_bind (wpAny_mkText (wpAny_bind (wpAny_attempt (wpAny_holding (wpAny_bind (T0.at (wpAny_bind (T1.at ?_))))))))
  have n0:(onTheHeap (Value.ref D) && Value.builtin "BaseException.__getattribute__" == Value.builtin "object.__getattribute__") = false:=by
    have:(Value.builtin "BaseException.__getattribute__" == Value.builtin "object.__getattribute__") = false:=by decide +kernel
    rw [this]; rfl
  dsimp only
  rw [if_neg (by rw [n0]; decide)]
  unfold getAttrByItsOwn hookBefore
  rw [if_pos (by rfl)]
  refine wpAny_bind (T2.at (wpAny_bind (wpAny_attempt (wpAny_holding ?_))))
  unfold callGetattribute boundAndCalled
  rw [if_neg (by decide),B]
  refine wpAny_bind (wpAny_pure ?_)
  dsimp only
  refine wpAny_call (codeAny_call_builtin F.excAttr_ValueError.ga.plain F.entry_bexc_ga ?_)
  refine exc_check (s:=⟨h1,g1,d1,t1 + 1,o1⟩) k ⟨z.ob⟩ hb (exc_entry (s:=⟨h1,g1,d1,t1 + 1,o1⟩) k ⟨z.ob⟩ ha hn ht hm ?_)
  dsimp only
  exact handed_on rfl (wpAny_pure q)
structure ExcCls (K:Frag) (D:Addr):Prop where
  ga:findIn K (.ref D) "__getattribute__" = some (some (.builtin "BaseException.__getattribute__"))
  gg:findIn K (.ref D) "__getattr__" = some none
  cl:findIn K (.ref D) "__class__" = some (some (.builtin "object.__class__"))
  sp:specialIn K (.builtin "object.__class__") "__get__" = some (some (.builtin "getset_descriptor.__get__"))
  tk:takesIn K (.builtin "object.__class__") = some true
  mo:mroIn K D (.type "object") = some true
  mb:mroIn K D (.type "BaseException") = some true
theorem ExcCls.there (c:ExcCls K D):∃ o,K.lookup D = some o∧∃ cd,o.data = .cls cd:=by
  obtain ⟨cd,h,_⟩:=Option.bind_eq_some_iff.mp c.mo
  unfold clsIn at h
  split at h
  · rename_i o d' cd' sl' ho
    exact ⟨_,ho,_,rfl⟩
  · cases h
theorem ExcCls.kit (c:ExcCls K D):KitX K (.ref e) (.ref D) (fun h=>IsExc h e D) where
  ty:=fun _ _ _ z=>z.ty
  it:=fun M h k _=>by
    obtain ⟨⟨oc,od,oda,os⟩,h1,cd,h2⟩:=c.there
    dsimp only at h2
    subst h2
    intro A1 Q1 E1 s1 st q
    unfold isType loadHead
    exact wpAny_bind (wpAny_loadPart (st _ _ (k _ _ h1)) (wpAny_pure q))
  ne:=fun h tp dd its n sl k ht=>by
    obtain ⟨o,h1,cd,h2⟩:=c.there
    cases q:(Value.ref D == Value.ref tp) with
    | false=>rfl
    | true=>
      cases Value.ref.inj (beq_iff_eq.mp q)
      rw [k _ _ h1] at ht
      cases ht
      cases h2
  ca:=fun k z q=>exc_class k z c.ga c.gg c.cl c.sp c.tk c.mo c.mb q
end
end
open PySem PySem.Spec PyProof.Rows
section
variable {X:Cx} {pins:List (Addr×Obj)} {σ:St} {H:Hp} {s:Shared}
end
section
variable {X:Cx} {x n:Str} {c:Value} {body orelse suite:List Stmt} {b₀:Stmt} {np hpos pos:Pos} {i:Nat}
end
section
variable {X:Cx} {e:Expr} {es:List Expr} {pos:Pos}
end
end L2
namespace L2
open PySem PySem.Spec PyProof.Rows
section
variable {X:Cx} {k:Nat} {x:Str} {f C:Addr} {fd:FuncData} {ps:List Str} {sp:Sp} {E:XK} {e:Expr} {es:List Expr} {t:TA} {p pos:Pos}
end
section
variable {X:Cx}
end
section
variable {X:Cx}
end
end L2
namespace L2
section
open PySem
open Sem (wp wp_bind' wp_mono)
def Fld2 (o:Obj):Prop:=∃ vs,o.data = .fields vs∧vs[2]? = some .none
def DictAt (h:Heap) (e:Addr) (d:Option Addr):Prop:=∃ o,h.objs[e]? = some o∧o.dict = d∧Fld2 o
variable {α β:Type}
end
section
open PySem PySem.Calls PyProof.Rows PySem.W Builtin Builtin.ObjectAttr
def veOnly:List Value→Bool
  | .ref _ :: r=>veOnly r
  | l=>l == bmVE
def veIn (K:Frag) (C:Addr):Bool:=(clsIn K C).any fun cd=>veOnly cd.mro
section
variable {prog:Program} {w:World} {A:Around} {E:Value→Shared→Prop} {s:Shared} {K:Frag} {x C:Addr} {vs:Array Value} {name:Str} {v:Value}
structure ExiCls (K:Frag) (C:Addr):Prop extends ExcCls K C where
  sa:findIn K (.ref C) "__setattr__" = some (some (.builtin "object.__setattr__"))
  ve:veIn K C = true
  hd:hasDictIn K C = true
end
def exiIn (K:Frag) (C:Addr):Bool:=(K.lookup C).any fun o=>match o with
  | ⟨.type t,_,.cls cd,sl⟩=>t == "type" && !cd.hasDel && (match cd.mro with | .ref D :: tl=>D == C && tailIn K bmVE tl | _=>false) && (match sl.toList with | [_,_,_,_,some (.builtin n),_]=>n == "ValueError.__new__" | _=>false)
  | _=>false
section
variable {prog:Program} {w:World} {A:Around} {E:Value→Shared→Prop} {s:Shared} {K:Frag} {C f:Addr} {us:List Value}
end
end
section
open PySem PySem.Spec PyProof.Rows
variable {X:Cx} {pins:List (Addr×Obj)} {σ:St} {H:Hp} {s:Shared}
structure MkX (K:PySem.W.Frag) (C f:Addr):Prop where
  ex:exiIn K C = true
  init:PySem.W.findIn K (.ref C) "__init__" = some (some (.ref f))
  fn:PySem.W.isFn K (.ref f) = true
  kp:PySem.W.keepIn K (.ref C) = true
end
section
open PySem PySem.Spec PyProof.Rows
theorem DictAt.get {h:Heap} {e:Addr} {d:Option Addr} {o:Obj} (j:DictAt h e d) (q:h.get? e = some o):o.dict = d∧Fld2 o:=by
  obtain ⟨o1,e1,h1⟩:=j
  unfold Heap.get? at q
  rw [e1] at q
  split at q
  · cases q
  · cases q; exact h1
section
variable {P:Program} {w:World} {K:PySem.W.Frag} {mg:Str→Option Value} {base:Heap} {N:List Str} {qual:Str} {scope:Scope} {f:Addr} {cd:Value} {A:Around} {outer:List Env} {s:Shared} {H:Hp} {E:XK}
end
end
section
open PySem PySem.Spec PyProof.Rows
variable {X:Cx} {E:XK} {x:Str} {C:Addr} {f:Str} {ps:List Str} {k:Nat} {e:Expr} {t:TA} {np cpos pos:Pos}
end
section
open PySem PySem.Spec PyProof.Rows
variable {X:Cx} {k:Nat} {x:Str} {ps:List Str} {sp:Sp} {E:XK} {e:Expr} {es:List Expr} {t:TA} {p pos:Pos}
end
section
open PySem PySem.Calls PyProof.Rows PySem.W
structure IsExcD (h:Heap) (e D:Addr) (d:Option Addr):Prop where
  is:IsExc h e D
  dj:∃ o,h.get? e = some o∧o.dict = d∧Fld2 o
end
section
open PySem PySem.Spec PyProof.Rows
variable {X:Cx} {pins:List (Addr×Obj)} {σ:St} {H:Hp} {s:Shared}
variable {x n:Str} {c:Value} {body orelse suite:List Stmt} {b₀:Stmt} {np hpos pos:Pos} {i:Nat}
end
section
open PySem PySem.Calls PyProof.Rows PySem.W Builtin Builtin.ObjectAttr Builtin.Getset_descriptor
variable {prog:Program} {w:World} {A:Around} {E:Value→Shared→Prop} {K:Frag} {e D:Addr} {oe od:Obj} {name:Str} {v:Value} {s:Shared}
end
section
open PySem PySem.Spec PyProof.Rows
variable {X:Cx} {pins:List (Addr×Obj)} {σ:St} {H:Hp} {s:Shared}
end
end L2
namespace L2
section
open PySem PySem.Calls PyProof.Rows
variable {prog:Program} {w:World} {A:Around} {E:Value→Shared→Prop} {s:Shared}
def Took (S:Addr) (Q:List Value→Shared→Prop) (r:Result) (s':Shared):Prop:=∃ acc c,r = .ok (.ret (.ref S))∧s'.heap.get? S = some { cls:=.type "list",dict:=none,data:=.seq acc c,slots:=#[] }∧Q acc.toList s'
theorem collect_ext {x:Value} {Q:List Value→Shared→Prop} (h:wpAny (model prog w) A.in1 (Builtin.List.listExtendWith (.ref s.heap.objs.size) x (.ref s.heap.objs.size))
      (fun fin s'=>match fin with | .done f=>Took s.heap.objs.size Q (.ok f) s' | .again c'=>c'.quiet = true∧codeAny (model prog w) A c' (Took s.heap.objs.size Q) s') (fun e s'=>Took s.heap.objs.size Q (.error e) s')
      { s with heap:=s.heap.push { cls:=.type "list",data:=.seq #[] } }):wpAny (model prog w) A (collect x) Q E s:=by
  unfold collect
  refine wpAny_bind (wpAny_runValue (codeAny_builtin PySem.F.entry_proto_collect ?_))
  rw [Around.under_plainId PySem.F.plain_proto_collect _]
  refine wpAny_bind (wpAny_newObj_type (wpAny_pure ⟨plainId_quiet PySem.F.plain_list_iadd _,codeAny_builtin PySem.F.entry_list_iadd ?_⟩))
  rw [Around.under_plainId PySem.F.plain_list_iadd _]
  refine wpAny_mono h (fun fin s' z=>?_) (fun e s' z=>?_)
  · cases fin with
    | done f=>
      obtain ⟨acc,c,e,hS,q⟩:=z
      cases e
      exact wpAny_bind (wpAny_load hS (wpAny_pure q))
    | again c'=>
      refine ⟨z.1,codeAny_mono z.2 fun r s2 z2=>?_⟩
      obtain ⟨acc,c,rfl,hS,q⟩:=z2
      exact wpAny_bind (wpAny_load hS (wpAny_pure q))
  · obtain ⟨acc,c,e,_⟩:=z
    cases e
theorem collect_src {T:String} {r d:Addr} {n:Nat} {P:Nat→Value→Prop} {OK:Heap→Prop} {Q:List Value→Shared→Prop} (S:PySem.W.KdlSrc prog w T r d n P OK) (hh:A.handled = none) (ok:OK s.heap) (hn:n≤sizeLine)
    (q:∀ h' tk (vs:List Value),(∀ b o,s.heap.get? b = some o→h'.get? b = some o)→vs.length = n→(∀ j v,vs[j]? = some v→P j v)→Q vs { s with heap:=h',toks:=tk }):wpAny (model prog w) A (collect (.ref r)) Q E s:=by
  obtain ⟨lr,ld⟩:=S.there _ ok
  refine collect_ext (PySem.W.kdl_extend S hh (S.keep _ _ ok fun b _ o e=>Heap.get?_push_of_some _ e) s.heap.objs.size (Nat.ne_of_gt lr) (Nat.ne_of_gt ld) (.ref s.heap.objs.size) 0 (Heap.get?_push_size _ rfl) (fun h' tk acc c k hS it=>?_) hn)
  refine ⟨acc,c,rfl,hS,q h' tk acc.toList (fun b o e=>k b o (Nat.ne_of_lt (Heap.lt_size e)) (Heap.get?_push_of_some _ e)) (by rw [Array.length_toList]; exact it.1) fun j v e=>it.2 j v (by rw [← Array.getElem?_toList]; exact e)⟩
theorem sit_owner:Manifest.owners.lookup (String.ofList "rotareti_tes".toList.reverse) = some Manifest.sig_set_iterator:=by kernel_rfl
theorem sit_slot:Slot "set_iterator" "__next__" "set_iterator.__next__":=
  .of (owner:="set_iterator") (n:="__next__") (by rw [typeLookup_type,builtinLookup_eq_fast]; kernel_rfl) (by decide +kernel) (by decide +kernel) (by decide +kernel) (by first | exact .inl (by decide +kernel) | exact .inr (by decide +kernel)) (by rw [isSubtype_type]; kernel_rfl)
theorem next_gives {it:Addr} {T id:String} {B:Builtin} {Q:Option Value→Shared→Prop} (slot:Slot T "__next__" id) (hT:s.TypeIs (.ref it) T) (entry:entryFor table id = some B) (args:argsOk id ⟨[.ref it],[]⟩)
    (h:wpAny (model prog w) A.in1 (B ⟨[.ref it],[]⟩) (fun fin s'=>∃ v,fin = .done (.ret v)∧Q (some v) s') (fun _ _=>False) s):wpAny (model prog w) A (pyNext (.ref it)) Q E s:=by
  unfold pyNext
  refine wpAny_bind (wpAny_attempt (wpAny_callSpecial?_slot (name:=Str.ofString "__next__") hT slot (wpAny_call_entry slot hT entry (wpAny_mono h (fun fin s' z=>?_) fun _ _ z=>z.elim) args)))
  obtain ⟨v,rfl,q⟩:=z
  exact ⟨v,rfl,wpAny_pure q⟩
theorem next_stops {it:Addr} {T id:String} {B:Builtin} {Q:Option Value→Shared→Prop} (slot:Slot T "__next__" id) (hT:s.TypeIs (.ref it) T) (entry:entryFor table id = some B) (args:argsOk id ⟨[.ref it],[]⟩)
    (h:wpAny (model prog w) A.in1 (B ⟨[.ref it],[]⟩) (fun _ _=>False) (fun x s'=>∃ a o,x = .ref a∧s'.heap.get? a = some o∧o.cls = .type "StopIteration"∧Q none s') s):wpAny (model prog w) A (pyNext (.ref it)) Q E s:=by
  unfold pyNext
  refine wpAny_bind (wpAny_attempt (wpAny_callSpecial?_slot (name:=Str.ofString "__next__") hT slot (wpAny_call_entry slot hT entry (wpAny_mono h (fun _ _ z=>z.elim) fun x s' z=>?_) args)))
  obtain ⟨a,o,rfl,e,c,q⟩:=z
  exact wpAny_bind (wpAny_isInstance (T:="StopIteration") (b:=true) ⟨o,e,c⟩ isSubtype_stop (wpAny_pure q))
theorem stop_calm {α:Type} {Q:α→Shared→Prop} (hh:A.handled = none)
    (q:∀ h' x,(∀ b o,s.heap.get? b = some o→h'.get? b = some o)→(∃ o,h'.get? x = some o∧o.cls = .type "StopIteration")→E (.ref x) { s with heap:=h' }) :
    wpAny (model prog w) A (newExc (.type "StopIteration") [] >>= raiseNew:Sem α) Q E s:=by
  refine wpAny_bind ?_
  simp only [newExc,newTuple]
  refine wpAny_bind (wpAny_newObj_type ?_ (by size_fits))
  refine wpAny_bind (m:=firstArgMember _ _) (wpAny_of_eq (a:=Value.none) (by simp only [firstArgMember]; rfl) (wpAny_newObj_type ?_ (by size_fits)))
  unfold raiseNew
  refine wpAny_bind (wpAny_handled ?_)
  rw [hh]
  exact wpAny_throw (q _ _ (fun b o z=>Heap.get?_push_of_some _ (Heap.get?_push_of_some _ z)) ⟨_,Heap.get?_push_size _ rfl,rfl⟩)
theorem sit_slot_iter:Slot "set_iterator" "__iter__" "set_iterator.__iter__":=
  .of (owner:="set_iterator") (n:="__iter__") (by rw [typeLookup_type,builtinLookup_eq_fast]; kernel_rfl) (by decide +kernel) (by decide +kernel) (by decide +kernel) (by first | exact .inl (by decide +kernel) | exact .inr (by decide +kernel)) (by rw [isSubtype_type]; kernel_rfl)
theorem sit_entry_iter:entryFor table "set_iterator.__iter__" = some Builtin.«dict_keyiterator.__iter__»:=entryFor_alias (id':="dict_keyiterator.__iter__") (by kernel_rfl) rfl (by decide +kernel) (by kernel_rfl)
theorem sit_args_iter (a:Value):argsOk "set_iterator.__iter__" ⟨[a],[]⟩:=by
  unfold argsOk
  rw [signature?_of (id:="set_iterator.__iter__") (n:="__reti__".toList) (o:="rotareti_tes".toList) (by kernel_rfl) sit_owner]
  kernel_rfl
def SetAt (h:Heap) (a:Addr) (es:Array (Int×Value)) (ep:Nat) (t:SetTable):Prop:=∃ o,h.get? a = some o∧o.cls = .type "set"∧o.data = .set es ep t
def SetIt (h:Heap) (it a:Addr) (first:Value) (i n ep:Nat):Prop:=∃ o,h.get? it = some o∧o.cls = .type "set_iterator"∧o.data = .fields #[first,rawInt i,.ref a,rawInt n,rawInt ep]
theorem SetAt.keep {h h':Heap} {a:Addr} {es:Array (Int×Value)} {ep:Nat} {t:SetTable} (x:SetAt h a es ep t) (k:∀ o,h.get? a = some o→h'.get? a = some o):SetAt h' a es ep t:=let ⟨o,e,r⟩:=x; ⟨o,k o e,r⟩
theorem SetIt.keep {h h':Heap} {it a:Addr} {f:Value} {i n ep:Nat} (x:SetIt h it a f i n ep) (k:∀ o,h.get? it = some o→h'.get? it = some o):SetIt h' it a f i n ep:=let ⟨o,e,r⟩:=x; ⟨o,k o e,r⟩
theorem SetIt.typeIs {it a:Addr} {f:Value} {i n ep:Nat} (x:SetIt s.heap it a f i n ep):s.TypeIs (.ref it) "set_iterator":=let ⟨o,e,c,_⟩:=x; ⟨o,e,c⟩
theorem SetIt.self {it a:Addr} {f:Value} {i n ep:Nat} {Q:Value→Shared→Prop} (x:SetIt s.heap it a f i n ep) (q:Q (.ref it) s):wpAny (model prog w) A (pyIter (.ref it)) Q E s:=by
  refine wpAny_pyIter_slot x.typeIs sit_slot_iter (wpAny_call_entry sit_slot_iter x.typeIs sit_entry_iter ?_ (sit_args_iter _))
  exact wpAny_pure ⟨_,rfl,"set_iterator",_,x.typeIs,sit_slot.lookup,q⟩
end
end L2
namespace L2
section
open PySem PySem.Calls PyProof.Rows
variable {prog:Program} {w:World} {A:Around} {E:Value→Shared→Prop} {s:Shared}
def TupAt (h:Heap) (tp:Addr) (vs:List Value):Prop:=∃ o n,h.get? tp = some o∧o.data = .seq vs.toArray n
theorem TupAt.keep {h h':Heap} {tp:Addr} {vs:List Value} (x:TupAt h tp vs) (k:∀ o,h.get? tp = some o→h'.get? tp = some o):TupAt h' tp vs:=let ⟨o,n,e,r⟩:=x; ⟨o,n,k o e,r⟩
def ByText (w:World):Bool:=w.params.followText "set-order"
end
end L2
namespace L2
section
open PySem PySem.Calls PyProof.Rows
variable {prog:Program} {w:World} {A:Around} {E:Value→Shared→Prop} {s:Shared}
def TxtSet (prog:Program) (w:World) (h:Heap) (a:Addr) (ks:List Str):Prop:=∃ o es ep t ss,h.get? a = some o∧o.ExactSet∧o.data = .set es ep t∧ElemsOf (PySem.strKind prog w) es.toList∧t.fits es.size = true∧t.led = (!ByText w)∧(es.size≠0→t.plain = false)∧
  StrsAre (es.toList.map (·.2)) ss∧ss.Perm ks
theorem TxtSet.keep {h h':Heap} {a:Addr} {ks:List Str} (S:TxtSet prog w h a ks) (k:∀ o,h.get? a = some o→h'.get? a = some o):TxtSet prog w h' a ks:=let ⟨o,es,ep,t,ss,e,r⟩:=S; ⟨o,es,ep,t,ss,k o e,r⟩
theorem set_made (x:Value) {Q₁:Value→Shared→Prop} (q:Q₁ (.ref s.heap.objs.size) { s with heap:=s.heap.push { cls:=.type "set",dict:=none,data:=.set #[] 0 (.fresh 0 0 (!ByText w)) } }) :
    codeAny (model prog w) A (.call (.builtin "set.__new__") ⟨[.type "set",x],[]⟩) (wants Q₁ E) s:=by
  refine codeAny_of_tree ?_
  refine wpAny_bind (m:=checkBuiltinCall "set.__new__" ⟨[.type "set",x],[]⟩) (wpAny_of_eq (PySem.F.newCall_set_1 x) (wpAny_pure ⟨plainId_quiet PySem.F.plain_set_new _,codeAny_builtin PySem.F.entry_set_new ?_⟩))
  rw [Around.under_plainId PySem.F.plain_set_new _]
  unfold Builtin.«set.__new__»
  unfold Builtin.Frozenset.newClass
  have hsub:=sub_set_self
  obtain ⟨hp,g,d,tk,os⟩:=s
  dsimp only
  wp_walk
  refine wpAny_askSetting (wpAny_pure ?_)
  dsimp only
  simp only [newObj]
  exact wpAny_bind (wpAny_alloc (wpAny_pure (wpAny_pure q)))
end
end L2
namespace L2
section
open PySem PySem.Calls PyProof.Rows
variable {prog:Program} {w:World} {A:Around} {E:Value→Shared→Prop} {s:Shared}
end
end L2
namespace L2
section
open PySem PySem.Calls PyProof.Rows
variable {X:Cx} {pins:List (Addr×Obj)} {σ:St} {H:Hp} {s:Shared}
theorem kv_keys:∀ {kvs:List (Key×V)} {vs:List (Key×Value)},KV kvs vs→vs.map (·.1) = kvs.map (·.1)
  | _,_,.nil=>rfl
  | _,_,.cons h t=>by rw [List.map_cons,List.map_cons,kv_keys t,h.1]
end
end L2
namespace L2
open PySem
end L2
namespace L2
open PySem PySem.Spec PyProof.Rows
section
variable {X:Cx} {els:List Expr} {kk:Nat} {pp:Pos}
end
end L2
namespace L2
open PySem PySem.Spec PyProof.Rows
section
variable {X:Cx}
end
end L2
namespace L2
open PySem PySem.Spec PyProof.Rows
section
variable {X:Cx}
end
end L2
namespace L2
open PySem PySem.Spec PyProof.Rows
theorem vals_of_ints:∀ {ns:List Int} {its:List Value},IntsAre its ns→Vals (ns.map V.int) its
  | [],_,.nil=>.nil
  | _ :: _,_,.cons n t h=>.cons ⟨_,rfl⟩ (vals_of_ints h)
end L2
namespace L2
open PySem PySem.Spec PyProof.Rows
section
variable {X:Cx} {e:Expr} {es:List Expr} {pos:Pos}
end
end L2
namespace L2
section
open PySem PySem.Calls PyProof.Rows
variable {prog:Program} {w:World} {A:Around} {E:Value→Shared→Prop} {s:Shared} {it d:Addr} {i ep:Nat} {es:Array DictEntry}
def Ents (h:Heap) (d:Addr) (es:Array DictEntry) (ep:Nat):Prop:=∃ o,h.get? d = some o∧o.ExactDict∧o.data = .dict es ep
theorem Ents.ty (x:Ents s.heap d es ep):s.TypeIs (.ref d) "dict":=let ⟨o,ho,hc,_⟩:=x; ⟨o,ho,hc.1⟩
theorem Ents.at {h h':Heap} (x:Ents h d es ep) (k:∀ o,h.get? d = some o→h'.get? d = some o):Ents h' d es ep:=let ⟨o,ho,r⟩:=x; ⟨o,k o ho,r⟩
theorem ents_iter {Q:Value→Shared→Prop} (hd:(d == sysModules) = false) (x:Ents s.heap d es ep)
    (q:Q (.ref s.heap.objs.size) { s with heap:=s.heap.push { cls:=.type "dict_keyiterator",data:=.fields #[.ref d,.int 0 0,.int es.size 0,.int ep 0] } }):wpAny (model prog w) A (pyIter (.ref d)) Q E s:=by
  obtain ⟨o,ho,_,hx⟩:=id x
  refine wpAny_pyIter_slot x.ty PySem.F.slot_dict_iter (wpAny_call_entry PySem.F.slot_dict_iter x.ty PySem.F.entry_dict_iter ?_ (PySem.F.args_dict_iter_1 _))
  refine wpAny_bind (wpAny_bind (wpAny_notOrdered_dict x.ty (wpAny_pure ?_)))
  refine wpAny_bind (m:=Builtin.Dict.addrOf (.ref d)) (wpAny_pure (wpAny_bind (m:=Builtin.Dict.showsAll d) ?_))
  unfold Builtin.Dict.showsAll
  rw [if_neg (fun z=>Bool.false_ne_true (hd.symm.trans z))]
  refine wpAny_pure (wpAny_bind (wpAny_dictEntries ho hx (wpAny_bind (wpAny_dictEpoch ho hx (wpAny_bind (wpAny_newObj_type (wpAny_pure ⟨_,rfl,"dict_keyiterator",_,⟨_,Heap.get?_push_size _ rfl,rfl⟩,PySem.F.slot_dict_keyiterator_next.lookup,?_⟩)))))))
  exact q
theorem field_put {vs:Array Value} {k:Nat} {x c:Value} {Q:Unit→Shared→Prop} {o:Obj} (ho:s.heap.get? it = some o) (hc:o.cls = c) (hd:o.data = .fields vs) (hk:k < vs.size)
    (q:∀ h' o',h'.get? it = some o'→o'.cls = c→o'.data = .fields (vs.setIfInBounds k x)→(∀ b o,b≠it→s.heap.get? b = some o→h'.get? b = some o)→Q () { s with heap:=h' }):wpAny (model prog w) A (setField (.ref it) k x) Q E s:=
  wpAny_setField ho hd hk (q _ _ (Heap.get?_update_self _ ho (Obj.isFreed_of_fields (Obj.data_mapFields hd _))) ((Obj.cls_mapFields ..).trans hc) (Obj.data_mapFields hd _) fun b o hb e=>(Heap.get?_update_other _ _ (Ne.symm hb)).trans e)
theorem ents_next {Q:Option Value→Shared→Prop} (st:s.heap.IsKeyIter it d i es.size ep) (x:Ents s.heap d es ep) (hi:i < es.size)
    (q:∀ h',h'.IsKeyIter it d (i + 1) es.size ep→(∀ b o,b≠it→s.heap.get? b = some o→h'.get? b = some o)→Q (some es[i].key) { s with heap:=h' }):wpAny (model prog w) A (pyNext (.ref it)) Q E s:=by
  obtain ⟨o,ho,hc,hf⟩:=id st
  obtain ⟨b,hb,_,hx⟩:=id x
  refine next_gives PySem.F.slot_dict_keyiterator_next st.typeIs PySem.F.entry_dict_keyiterator_next (PySem.F.args_dict_keyiterator_next_1 _) ?_
  refine wpAny_bind (wpAny_pure (wpAny_bind (wpAny_bind (wpAny_bind (wpAny_typeNameOfWhole_keyiter st.typeIs (wpAny_pure (wpAny_bind (wpAny_fieldsOf ho hf ?_))))))))
  have own:Builtin.Dict_items.ownsTuple "dict_keyiterator" = false:=by decide
  simp only [own,Bool.false_eq_true,if_false]
  change wpAny _ _ (if (Value.ref d == Value.none) = true then _ else _) _ _ s
  rw [if_neg (show ¬ ((Value.ref d == Value.none) = true) from Bool.false_ne_true)]
  refine wpAny_bind (wpAny_pure (wpAny_bind (wpAny_dictEntries hb hx ?_)))
  rw [if_neg (by simp)]
  refine wpAny_bind (wpAny_pure (wpAny_bind (wpAny_dictEpoch hb hx ?_)))
  rw [if_neg (by simp)]
  refine wpAny_pure ?_
  simp only [show ¬ ((i:Int) < 0) from by omega,if_false,Int.toNat_natCast,Array.getElem?_eq_getElem hi]
  refine wpAny_bind (wpAny_bind (wpAny_typeNameOfWhole_keyiter st.typeIs (wpAny_pure (wpAny_bind (wpAny_isOneOf_keyiter st.typeIs ?_)))))
  refine wpAny_bind (m:=setField (.ref it) 1 (rawInt ((i:Int) + 1))) (field_put ho hc hf (by simp) fun h1 o1 e1 c1 d1 k1=>?_)
  have st1:h1.IsKeyIter it d (i + 1) es.size ep:=⟨o1,e1,c1,by rw [d1]; simp [rawInt]⟩
  exact wpAny_bind (wpAny_holding (wpAny_bind (wpAny_isOneOf_keyiter (s:={ s with heap:=h1 }) st1.typeIs (wpAny_pure (wpAny_pure ⟨_,rfl,q h1 st1 k1⟩)))))
theorem ents_end {Q:Option Value→Shared→Prop} (hh:A.handled = none) (st:s.heap.IsKeyIter it d i es.size ep) (x:Ents s.heap d es ep) (hi:es.size≤i)
    (q:∀ h',(∀ b o,b≠it→s.heap.get? b = some o→h'.get? b = some o)→Q none { s with heap:=h' }):wpAny (model prog w) A (pyNext (.ref it)) Q E s:=by
  obtain ⟨o,ho,hc,hf⟩:=id st
  obtain ⟨b,hb,_,hx⟩:=id x
  refine next_stops PySem.F.slot_dict_keyiterator_next st.typeIs PySem.F.entry_dict_keyiterator_next (PySem.F.args_dict_keyiterator_next_1 _) ?_
  refine wpAny_bind (wpAny_pure (wpAny_bind (wpAny_bind (wpAny_bind (wpAny_typeNameOfWhole_keyiter st.typeIs (wpAny_pure (wpAny_bind (wpAny_fieldsOf ho hf ?_))))))))
  have own:Builtin.Dict_items.ownsTuple "dict_keyiterator" = false:=by decide
  simp only [own,Bool.false_eq_true,if_false]
  change wpAny _ _ (if (Value.ref d == Value.none) = true then _ else _) _ _ s
  rw [if_neg (show ¬ ((Value.ref d == Value.none) = true) from Bool.false_ne_true)]
  refine wpAny_bind (wpAny_pure (wpAny_bind (wpAny_dictEntries hb hx ?_)))
  rw [if_neg (by simp)]
  refine wpAny_bind (wpAny_pure (wpAny_bind (wpAny_dictEpoch hb hx ?_)))
  rw [if_neg (by simp)]
  refine wpAny_pure ?_
  simp only [show ¬ ((i:Int) < 0) from by omega,if_false,Int.toNat_natCast,Array.getElem?_eq_none hi]
  refine wpAny_bind (wpAny_bind (wpAny_typeNameOfWhole_keyiter st.typeIs (wpAny_pure ?_)))
  refine wpAny_bind (m:=setField (.ref it) 0 .none) (field_put ho hc hf (by simp) fun h1 o1 e1 c1 d1 k1=>?_)
  exact stop_calm hh fun h2 y k2 ⟨oy,ey,cy⟩=>⟨y,oy,rfl,ey,cy,q h2 fun b o hb e=>k2 b o (k1 b o hb e)⟩
end
section
open PySem PySem.Spec PyProof.Rows
variable {X:Cx} {tg:Expr}
end
end L2
namespace L2
section
open PySem PyProof.Rows
variable {prog:Program} {w:World} {A:Around} {E:Value→Shared→Prop} {s:Shared} {a₀:Array Keyed}
theorem minRun_le:∀ (fuel n r:Nat),minRun' fuel n r≤n + r
  | 0,_,_=>Nat.le_refl _
  | fuel + 1,n,r=>by
    rw [minRun'_succ]
    by_cases h:n < 64
    · rw [if_pos h]; exact Nat.le_refl _
    · rw [if_neg h]
      have:=minRun_le fuel (n / 2) (max r (n % 2))
      omega
theorem wpS_countUp {st:SortSt} {Q:Option Nat→SortSt→Prop} (h0:IntKeys a₀) (h1:1≤a₀.size) (hB:SBase a₀ st) (up:SortedTo (arrOf st) a₀.size) (h:Q (some a₀.size) st) :
    wpS (model prog w) A E s (countRun' 0 a₀.size) Q st:=by
  rw [countRun0_eq]
  have one:SortedTo (arrOf st) 1:=fun i j hij hj=>by
    obtain rfl:i = j:=by omega
    exact Int.le_refl _
  refine wpS_bind (wpS_ascLoop h0 (Nat.le_refl _) (Nat.le_refl 1) h1 hB one fun n hn1 hn2 _ hor=>?_)
  have hn:n = a₀.size:=by
    rcases hor with e | lt
    · exact e
    · by_cases e:n = a₀.size
      · exact e
      · have:=up (n - 1) n (by omega) (by omega)
        omega
  subst hn
  dsimp only
  rw [if_pos (by simp)]
  exact wpS_pure h
theorem wpS_runsUp {st:SortSt} {Q:Unit→SortSt→Prop} (h0:IntKeys a₀) (hB:SBase a₀ st) (h2:2≤a₀.size) (up:SortedTo (arrOf st) a₀.size)
    (h:∀ st',(arrOf st').Perm a₀→failedOf st' = none→SortedTo (arrOf st') a₀.size→Q () st'):wpS (model prog w) A E s sortRuns' Q st:=by
  rw [sortRuns'_eq]
  refine wpS_bind (wpS_get ?_)
  have hm:minRun' a₀.size a₀.size 0≤a₀.size:=minRun_le _ _ 0
  simp only [hB.size]
  generalize minRun' a₀.size a₀.size 0 = mr at hm
  have D:=hB.done up
  refine wpS_bind (wpS_mono (wpS_forRange (I:=fun x c st'=>(x = 0∧c = (none,0)∧st' = st)∨(0 < x∧c = (none,a₀.size)∧SDone a₀ st')) (Q:=fun c st'=>c = (none,a₀.size)∧SDone a₀ st') (fun x c st' _ hx hI=>?_) (fun c st' hI=>?_) (.inl ⟨rfl,rfl,rfl⟩)) fun c st' hc=>?_)
  · rcases hI with ⟨rfl,rfl,rfl⟩ | ⟨hx1,rfl,hD⟩
    · dsimp only
      rw [if_neg (by omega)]
      simp only [Nat.sub_zero,Nat.zero_add]
      refine wpS_bind (wpS_countUp h0 (by omega) hB up ?_)
      dsimp only
      rw [if_neg (by omega)]
      refine wpS_bind (wpS_get ?_)
      have hb:(pendingOf st').back? = none:=by rw [hB.pend]; rfl
      rw [hb]
      dsimp only
      exact wpS_bind (wpS_modify (wpS_pure (.inr ⟨by omega,rfl,D⟩)))
    · dsimp only
      rw [if_pos (Nat.le_refl _)]
      exact wpS_pure ⟨rfl,hD⟩
  · rcases hI with ⟨hx,_⟩ | ⟨_,hc,hD⟩
    · omega
    · exact ⟨hc,hD⟩
  · obtain ⟨rfl,hD⟩:=hc
    dsimp only
    refine wpS_bind (wpS_mono (wpS_forRange (I:=fun _ c st2=>c = (none,())∧st2 = st') (Q:=fun c st2=>c = (none,())∧st2 = st') (fun x c st2 _ _ hI=>?_) (fun _ _ hh=>hh) ⟨rfl,rfl⟩) fun c st2 hc=>?_)
    · obtain ⟨rfl,rfl⟩:=hI
      refine wpS_bind (wpS_get ?_)
      rw [if_pos (by rw [hD.2.2.1]; exact Nat.le_refl 1)]
      exact wpS_pure ⟨rfl,rfl⟩
    · obtain ⟨rfl,rfl⟩:=hc
      exact wpS_pure (h _ hD.1 hD.2.1 hD.2.2.2)
theorem pairs_up {vs:List Value} {ns:List Int} (hI:IntsAre vs ns) (up:ns.Pairwise (·≤·)):SortedTo (pairsOf vs) (pairsOf vs).size:=by
  have en:=hI.nums
  intro i j hij hj
  have hjv:j < vs.length:=by rw [pairsOf_size] at hj; exact hj
  have kk:∀ k,(hk:k < vs.length)→K (pairsOf vs) k = (vs.map numOf)[k]'(by rw [List.length_map]; exact hk):=fun k hk=>by
    rw [K_eq (by rw [pairsOf_size]; exact hk)]
    simp [pairsOf]
  rw [kk i (by omega),kk j hjv]
  subst en
  by_cases e:i = j
  · subst e; exact Int.le_refl _
  · exact List.pairwise_iff_getElem.mp up i j _ _ (by omega)
theorem sort_up {a:Addr} {vs:List Value} {ns:List Int} {n:Nat} {P:PySem.Fin→Shared→Prop} (ho:s.heap.get? a = some (seqObj "list" vs.toArray n)) (hI:IntsAre vs ns) (up:vs.length < 64∨(vs.length≤sizeLine∧ns.Pairwise (·≤·)))
    (h:∀ (out:Array Value) (ns':List Int),IntsAre out.toList ns'→ns'.Perm ns→ns'.Pairwise (·≤·)→P (.done (.ret .none)) { s with heap:=sortedHeap s.heap a vs out }) :
    wpAny (model prog w) A (Builtin.«list.sort» ⟨[.ref a],[]⟩) P E s:=by
  by_cases few:vs.length < 64
  · exact list_sort_tree ho hI few h
  have hz:=(up.resolve_left few).1
  have up':=(up.resolve_left few).2
  rw [list_sort_plain]
  have ha:a < s.heap.objs.size:=Heap.lt_size ho
  refine wpAny_bind (listItems_at ho rfl (wpAny_bind (listUpdate_at ho rfl ?_)))
  obtain ⟨e1,h1⟩:∃ e,(s.heap.update a (Obj.mapSeq fun _=>#[])).get? a = some (seqObj "list" #[] e):=⟨_,get?_update_seq ho (fun _=>#[])⟩
  refine wpAny_bind (seqEpoch_at h1 rfl (wpAny_bind (wpAny_newTuple (wpAny_bind (wpAny_newList (wpAny_holding ?_))))))
  have n1:a≠(s.heap.update a (Obj.mapSeq fun _=>#[])).objs.size:=by rw [Heap.size_update]; exact Nat.ne_of_lt ha
  have n2:a≠((s.heap.update a (Obj.mapSeq fun _=>#[])).push (seqObj "tuple" vs.toArray 0)).objs.size:=by rw [Heap.size_push,Heap.size_update]; exact Nat.ne_of_lt (Nat.lt_succ_of_lt ha)
  have h2:(((s.heap.update a (Obj.mapSeq fun _=>#[])).push (seqObj "tuple" vs.toArray 0)).push (seqObj "list" #[] 0)).get? a = some (seqObj "list" #[] e1):=by
    rw [Heap.get?_push_ne _ _ _ n2,Heap.get?_push_ne _ _ _ n1]; exact h1
  show wpAny (model prog w) A _ P E { s with heap:=((s.heap.update a (Obj.mapSeq fun _=>#[])).push (seqObj "tuple" vs.toArray 0)).push (seqObj "list" #[] 0) }
  dsimp only
  have hs2:¬ vs.toArray.size < 2:=by simp; omega
  have ps:=pairsOf_size vs
  rw [if_neg hs2,if_neg hs2]
  obtain ⟨v1,v2,rest,rfl⟩:∃ v1 v2 rest,vs = v1 :: v2 :: rest:=by
    match vs,few with
    | [],q=>exact absurd (by decide) q
    | [_],q=>exact absurd (by show 1 < 64; decide) q
    | v1 :: v2 :: rest,_=>exact ⟨v1,v2,rest,rfl⟩
  rw [keyKind_ints hI]
  refine wpAny_bind (wpAny_pure (wpAny_bind (wpAny_mono (wpS_runsUp (a₀:=pairsOf (v1 :: v2 :: rest)) (st:=SortSt.mk' oneType' ((v1 :: v2 :: rest).toArray.zip (v1 :: v2 :: rest).toArray) #[] 7 none)
    (Q:=fun _ st'=>(arrOf st').Perm (pairsOf (v1 :: v2 :: rest))∧failedOf st' = none∧SortedTo (arrOf st') (pairsOf (v1 :: v2 :: rest)).size)
    hI.intKeys ⟨Array.Perm.refl _,rfl,rfl,rfl⟩ (by rw [ps]; simp) (pairs_up hI up') fun st' a1 a2 a3=>⟨a1,a2,a3⟩) (fun r s' hr=>?_) fun _ _ e=>e)))
  obtain ⟨⟨⟩,st'⟩:=r
  obtain ⟨rfl,hp,hf,hs⟩:=hr
  dsimp only
  refine wpAny_bind (seqEpoch_at h2 rfl (wpAny_bind (listUpdate_at h2 rfl ?_ (hsz2:=?_))))
  · rw [hf]
    simp only [bne_self_eq_false,Bool.false_eq_true,if_false]
    obtain ⟨ns',g1,g2,g3⟩:=sorted_out hI hp hs
    exact wpAny_pure (h _ ns' g1 g2 g3)
  · rw [Array.size_map,hp.size_eq,ps]; exact Nat.le_succ_of_le hz
end
end L2
namespace L2
section
open PySem PySem.Calls PyProof.Rows
variable {prog:Program} {w:World} {A:Around} {E:Value→Shared→Prop} {s:Shared}
def SortsToI (Q:Value→Shared→Prop) (vs:List Value) (s1:Shared):Prop:=∃ ns,IntsAre vs ns∧(vs.length < 64∨(vs.length≤sizeLine∧ns.Pairwise (·≤·)))∧
  ∀ h' p (out:List Value) ns' c,IntsAre out ns'→ns'.Perm ns→ns'.Pairwise (·≤·)→s1.heap.objs.size≤p→(∀ b o,s1.heap.get? b = some o→h'.get? b = some o)→
    h'.get? p = some (seqObj "list" out.toArray c)→Q (.ref p) { s1 with heap:=h' }
theorem sorted_walkedI {x:Value} {Q:Value→Shared→Prop} (hc:wpAny (model prog w) A.in1 (collect x) (SortsToI Q) E s):wpAny (model prog w) A (call (.builtin "sorted") [x]) Q E s:=by
  refine Calls.call_function_entry kind_sorted plain_sorted entry_sorted (args_sorted1 x) ?_
  unfold Builtin.«sorted»
  refine wpAny_bind (m:=checkCount "sorted" 1 1 _) (wpAny_pure (wpAny_bind (wpAny_mono hc (fun vs s1 z=>?_) fun _ _ e=>e)))
  obtain ⟨ns,hI,few,q⟩:=z
  have there:(s1.heap.push (seqObj "list" vs.toArray 0)).get? s1.heap.objs.size = some (seqObj "list" vs.toArray 0):=Heap.get?_push_size _ rfl
  refine wpAny_bind (wpAny_newList (wpAny_bind (wpAny_holding (wpAny_call_entry slot_list_sort ⟨_,there,rfl⟩ entry_list_sort (sort_up there hI few fun out ns' a1 a2 a3=>⟨_,rfl,?_⟩) (args_list_sort _)))))
  obtain ⟨c,hp⟩:=sortedHeap_at (out:=out) there
  refine wpAny_pure ⟨_,rfl,q _ _ out.toList ns' c a1 a2 a3 (Nat.le_refl _) (fun b o e=>?_) (by rw [Array.toArray_toList]; exact hp)⟩
  have lt:=Heap.lt_size e
  show Heap.get? _ b = some o
  rw [sortedHeap_old (Nat.ne_of_lt lt) (by rw [Heap.size_push]; exact Nat.lt_succ_of_lt lt)]
  exact Heap.get?_push_of_some _ e
end
section
open PySem PySem.Spec PyProof.Rows
variable {X:Cx}
theorem ints_by:∀ {vs:List Value} {ns:List Int},vs.length = ns.length→(∀ (j:Nat) v,vs[j]? = some v→∃ n t,ns[j]? = some n∧v = .int n t)→IntsAre vs ns
  | [],[],_,_=>.nil
  | [],_ :: _,h,_=>by cases h
  | _ :: _,[],h,_=>by cases h
  | v :: vs,n :: ns,h,k=>by
    obtain ⟨n',t,e,rfl⟩:=k 0 v rfl
    cases e
    exact .cons _ _ (ints_by (by simpa using h) fun j v e=>k (j + 1) v (by simpa using e))
def rSortDI:List V→Hp→VK→Prop:=fun xs H Q=>∃ (d:Addr) (kvs:List (Key×V)) (ns:List Int),xs = [.ref d]∧H d = some (.dK kvs)∧kvs.map (·.1) = ns.map .inl∧(ns.length < 64∨(ns.length≤100000∧ns.Pairwise (·≤·)))∧∀ (ms:List Int) (p:Addr),ms.Perm ns→ms.Pairwise (·≤·)→H p = none→Q (.ref p) (upd H p (.lst (ms.map V.int)))
theorem call_sortDI (hc:X.calm = true):CallR X (.builtin "sorted") rSortDI:=by
  intro pins s σ H xs us Q I r h
  obtain ⟨d,kvs,ns,rfl,h1,hk,few,q⟩:=h
  obtain ⟨u,rfl,ru⟩:=vals1 r
  cases ru
  obtain ⟨_,lo,vs,rv,o,es,ep,ho,h2,h3,h4⟩:ObjOk X.prog X.w H s.heap d (.dK kvs):=I.hok d _ h1
  have D:s.heap.DictAt (mixKind X.prog X.w) d vs ep:=⟨o,es,ho,h2,h3,h4⟩
  have ln:vs.length = ns.length:=by
    have:=congrArg List.length hk
    rw [List.length_map,List.length_map] at this
    rw [← this]; exact rv.length.symm
  refine sorted_walkedI (collect_src (PySem.W.kdl_dict (knd:=mixKind X.prog X.w) (kvs:=vs) (ep:=ep) lo) (by simpa using I.ok.hd hc) D (by rw [ln,sizeLine_eq]; omega) fun h' tk us k lu it=>?_)
  have hs:IntsAre us ns:=by
    refine ints_by (by rw [lu,ln]) fun j v e=>?_
    obtain ⟨ky,x,e1,e2⟩:=it j v e
    have e3:(kvs.map (·.1))[j]? = some ky:=by rw [← kv_keys rv,List.getElem?_map,e1]; rfl
    rw [hk,List.getElem?_map] at e3
    cases z:ns[j]? with
    | none=>rw [z] at e3; cases e3
    | some y=>
      rw [z] at e3
      injection e3 with e3
      subst e3
      obtain ⟨t,rfl⟩:=relV_key e2
      exact ⟨_,t,rfl,rfl⟩
  have I1:Inv X pins σ H { s with heap:=h',toks:=tk }:=I.kept (t':=tk) k
  refine ⟨ns,hs,by rw [lu,ln]; exact few.imp id fun z=>⟨by rw [sizeLine_eq]; omega,z.2⟩,fun h2 p out ns' c a1 a2 a3 lp k2 hp=>⟨.ref p,_,I1.laid (t':=tk) k2 lp (?_:ObjOk X.prog X.w _ h2 p (.lst (ns'.map V.int))),rfl,q ns' p a2 a3 (I1.hok.fresh lp)⟩⟩
  refine ⟨?_,out,c,vals_of_ints a1,hp⟩
  rw [List.length_map,a2.length_eq,sizeLine_eq]
  omega
theorem d_setdef {pins:List (Addr×Obj)} {σ:St} {H:Hp} {s:Shared} {a:Addr} {kvs:List (Key×V)} {k:Key} {u r:Value} {z:V} {A:Around} {E:Value→Shared→Prop} {Q:Value→Shared→Prop} (I:Inv X pins σ H s) (e:H a = some (.dK kvs)) (ry:RelV (kV k) u) (rz:RelV z r) (hl:kvs.length < sizeLine)
    (h1:∀ v w' s',valV kvs k = some v→Inv X pins σ H s'→RelV v w'→Q w' s') (h2:valV kvs k = none→∀ s',Inv X pins σ (upd H a (.dK (putK kvs k z))) s'→Q r s'):wpAny (model X.prog X.w) A (call (.builtin "dict.setdefault") [.ref a,u,r]) Q E s:=by
  obtain ⟨z0,hd,vs,rel,dd⟩:=dk_of I.hok e
  have ki:=kV_is (P:=X.prog) (w:=X.w) ry
  cases hv:valV kvs k with
  | some v=>
    obtain ⟨w',hw,rw'⟩:=RelO.some_of (v:=v) (o:=valueAt vs k) (by rw [← hv]; exact rel.val k)
    refine call_meetsIn PySem.F.slot_dict_setdefault dd.typeIs PySem.F.entry_dict_setdefault (PySem.F.args_dict_setdefault_3 _ _ _) (meets_dict_setdefault (mixKind X.prog X.w) a ki hd r) ⟨_,dd.mapOf,?_,fun v' e'=>?_,fun e'=>?_⟩
    · obtain ⟨o,es,ep,ho,_,hx,_,hp,_⟩:=id dd
      intro o' es' ep' g1 g2
      rw [ho] at g1
      cases g1
      rw [hx] at g2
      cases g2
      have:=hp.length
      rw [Array.length_toList] at this
      rw [this,← rel.length]; exact z0
    · rw [hw] at e'
      cases e'
      exact h1 v _ _ hv (I.tok _) rw'
    · rw [hw] at e'; cases e'
  | none=>
    have hn:valueAt vs k = none:=RelO.none_of (by rw [← hv]; exact rel.val k)
    obtain ⟨o,es,ep,ho,hc,hx,hk,hp,nd⟩:=id dd
    refine wpAny_call_entry PySem.F.slot_dict_setdefault dd.typeIs PySem.F.entry_dict_setdefault ?_ (PySem.F.args_dict_setdefault_3 _ _ _)
    refine wpAny_bind (wpAny_bind (wpAny_notOrdered_dict dd.typeIs (wpAny_pure ?_)))
    change wpAny _ _ (if (a == sysModules) = true then _ else (dictSetDefault a u r >>= _)) _ _ s
    rw [if_neg (by rw [hd]; exact Bool.false_ne_true)]
    have le:es.size≤sizeLine:=by
      have:=hp.length
      rw [Array.length_toList] at this
      rw [this,← rel.length]; exact z0
    have nk:∀ kv∈vs,decide (kv.1 = k) = false:=fun kv hkv=>by
      cases q:decide (kv.1 = k) with
      | false=>rfl
      | true=>
        unfold valueAt at hn
        rw [Option.map_eq_none_iff,List.find?_eq_none] at hn
        exact absurd q (hn kv hkv)
    have fi:(es.findIdx? fun e=>(mixKind X.prog X.w).is k e.key) = none:=by
      have h3:(es.toList.findIdx? fun e=>(mixKind X.prog X.w).is k e.key) = none:=by rw [hp.findIdx k]; exact List.findIdx?_eq_none_iff.mpr nk
      obtain ⟨l⟩:=es
      simpa using h3
    unfold dictSetDefault
    refine wpAny_bind (wpAny_holding (wpAny_bind ((mixKind X.prog X.w).pyHash ki (wpAny_bind (wpAny_dictFind_of (s:={ s with toks:=s.toks + 1 }) ki ho hx hk ?_)))))
    rw [fi]
    have est:stored vs k r = vs ++ [(k,r)]:=by
      unfold stored
      rw [if_neg fun q=>by obtain ⟨kv,h3,h4⟩:=List.any_eq_true.mp q; rw [nk kv h3] at h4; cases h4]
    refine wpAny_bind (wpAny_rule (wpAny_bind (wpAny_updateDictKeys (hz:=le) (s:={ s with toks:=s.toks + 1 }) ho hx (wpAny_pure (wpAny_pure ⟨r,rfl,h2 hv _ ?_⟩)))))
    have hlp:(putK kvs k z).length≤sizeLine:=by have:=length_putK kvs k z; omega
    refine d_write (I.tok _) (by rw [e]; exact True.intro) (Heap.SameBut.update ..) ⟨_,Heap.get?_update_self _ ho (Obj.isFreed_of_dict (Obj.data_mapDictKeys hx _))⟩ (dk_new hlp hd (rel.put k rz) ?_)
    rw [est]
    refine ⟨_,_,ep + 1,Heap.get?_update_self _ ho (Obj.isFreed_of_dict (Obj.data_mapDictKeys hx _)),hc.mapDictKeys _,Obj.data_mapDictKeys hx _,hk.push ki _,?_,?_⟩
    · have:=hp.append ki ((mixKind X.prog X.w).hash k) r
      obtain ⟨l⟩:=es
      simpa using this
    · rw [List.map_append]
      refine List.nodup_append.mpr ⟨nd,by simp,fun x hx y hy h5=>?_⟩
      obtain ⟨kv,h3,rfl⟩:=List.mem_map.mp hx
      have h6:=nk kv h3
      rw [decide_eq_false_iff_not] at h6
      rw [List.map_cons,List.map_nil,List.mem_singleton] at hy
      exact h6 (h5.trans hy)
def tDSet2 (td ty tx:TE):TE:=fun σ H Q=>td σ H fun x H1=>∃ a,x = .ref a∧IsD H1 a∧ty σ H1 fun y H2=>tx σ H2 fun z H3=>∃ kvs k,H3 a = some (.dK kvs)∧y = kV k∧kvs.length < sizeLine∧(∀ v,valV kvs k = some v→Q v H3)∧(valV kvs k = none→Q z (upd H3 a (.dK (putK kvs k z))))
theorem pe_dset2 {o e f:Expr} {td ty tx:TE} {apos cpos:Pos} (ho:PE X o td) (he:PE X e ty) (hf:PE X f tx) (m:M2 X o "setdefault" apos e f cpos):PE X (.Call (.Attribute o "setdefault" apos) [e,f] [] cpos) (tDSet2 td ty tx):=by
  intro pins s σ H Q I h
  refine wpAny_Call_method m.base m.few m.line PySem.F.plainAttrs_dict PySem.F.slot_dict_setdefault PySem.F.type_dict_setdefault (thn (ho pins s σ H _ I h) fun u s1 ⟨x,H1,I1,rx,a,ex,d,q1⟩=>?_)
  subst ex
  obtain rfl:u = Value.ref a:=rx
  obtain ⟨t1,t2,_⟩:=isD_at I1 d
  refine ⟨t1,t2,?_⟩
  rw [m.trees]
  refine Calls.callWith_builtin rfl (Calls.evalArgs_plain (Calls.spliced_cons (thn (he pins s1 σ H1 _ I1 q1) fun iv s2 ⟨y,H2,I2,ry,q2⟩=>Calls.spliced_cons (thn (hf pins s2 σ H2 _ I2 q2) fun r s3 ⟨z,H3,I3,rz,kvs,k,hd,ey,hl,q3,q4⟩=>Calls.spliced_nil ?_))))
  subst ey
  exact d_setdef I3 hd ry rz hl (fun v w' s' hv I' rw'=>⟨v,H3,I',rw',q3 v hv⟩) fun hv s' I'=>⟨z,_,I',rz,q4 hv⟩
end
section
open PySem PySem.Calls PyProof.Rows
variable {prog:Program} {w:World} {A:Around} {E:Value→Shared→Prop} {I S:Addr} {fp wr:List Addr} {n:Nat} {P:Nat→Value→Prop} {St:Nat→Heap→Prop} {bt:Nat→Nat→Bool} {d:Value} {R:Result→Shared→Prop}
def BestAt (P:Nat→Value→Prop) (bt:Nat→Nat→Bool) (i:Nat) (arr:List Value):Prop:=(arr = []∧i = 0)∨∃ v,arr = [v,v]∧0 < i∧P (argBest bt (i - 1)) v
theorem maxD_loop (W:Walks prog w A.in1 I fp wr n P St) (hcmp:CmpOf prog w A.in1 .Gt P bt) (hSf:S ∉ fp):∀ (k i:Nat) (s:Shared) (arr:List Value) (c:Nat),i + k = n→St i s.heap→s.heap.get? S = some { cls:=.type "list",dict:=none,data:=.seq arr.toArray c,slots:=#[] }→BestAt P bt i arr→
    (∀ r h' tk,(n = 0∧r = d∨0 < n∧P (argBest bt (n - 1)) r)→(∀ b o,b ∉ wr→b≠S→s.heap.get? b = some o→h'.get? b = some o)→R (.ok (.ret r)) { s with heap:=h',toks:=tk })→
    codeAny (model prog w) A (.builtin "max.loop" ⟨[.ref I,.none,.ref S],[("default",d)]⟩) R s:=by
  have hSw:S ∉ wr:=fun h=>hSf (W.sub _ h)
  intro k
  induction k with
  | zero=>
    intro i s arr c hk hst hS hb hR
    cases (show i = n by omega)
    refine codeAny_builtin PySem.F.entry_max_loop ?_
    rw [Around.under_plainId PySem.F.plain_max_loop _]
    refine wpAny_bind (m:=seqItems? (.ref S)) (wpAny_seqItems hS rfl (wpAny_bind (wpAny_tryCatch (W.done s _ _ hst fun h' tk k'=>?_))))
    rcases hb with ⟨rfl,i0⟩ | ⟨v,rfl,i0,hv⟩
    · exact wpAny_bind (wpAny_rule (wpAny_pure (hR d h' tk (.inl ⟨i0,rfl⟩) fun b o hb _ e=>k' b o hb e)))
    · exact wpAny_bind (wpAny_updateSeq (k' S _ hSw hS) rfl (wpAny_bind (wpAny_letGo (wpAny_pure (hR v _ tk (.inr ⟨i0,hv⟩) fun b o hb hS e=>(Heap.get?_update_other _ _ (Ne.symm hS)).trans (k' b o hb e))))))
  | succ k ih=>
    intro i s arr c hk hst hS hb hR
    refine codeAny_builtin PySem.F.entry_max_loop ?_
    rw [Around.under_plainId PySem.F.plain_max_loop _]
    refine wpAny_bind (m:=seqItems? (.ref S)) (wpAny_seqItems hS rfl (wpAny_bind (wpAny_tryCatch (W.item i s _ _ (by omega) hst fun x h' tk hP st' k'=>?_))))
    have hS':=k' S _ hSw hS
    have nm:(toString "max" ++ toString ".loop":String) = "max.loop":=by decide
    have la:arr.toArray.size≤sizeLine:=by
      rw [sizeLine_eq]
      rcases hb with ⟨rfl,_⟩ | ⟨v,rfl,_⟩
      · exact Nat.zero_le _
      · show 2≤_; omega
    have put:∀ (tk':Nat),P (argBest bt i) x→wpAny (model prog w) A.in1 (updateSeq S (fun _=>#[x,x])) (fun _ s'=>codeAny (model prog w) A (.builtin "max.loop" ⟨[.ref I,.none,.ref S],[("default",d)]⟩) R s') (fun e s'=>R (.error e) s') { s with heap:=h',toks:=tk' }:=fun tk' hx=>by
      refine wpAny_updateSeq (hz:=la) (s:={ s with heap:=h',toks:=tk' }) hS' rfl (ih (i + 1) _ [x,x] _ (by omega) (W.frame _ _ _ st' fun b hb o e=>?_) (Heap.get?_update_self _ hS' rfl) (.inr ⟨x,rfl,Nat.succ_pos _,hx⟩) fun r h2 tk2 hr k2=>?_)
      · exact (Heap.get?_update_other _ _ (fun z:S = b=>hSf (by rw [z]; exact hb))).trans e
      · exact hR r h2 tk2 hr fun b o hb hbS e=>k2 b o hb hbS ((Heap.get?_update_other _ _ (Ne.symm hbS)).trans (k' b o hb e))
    rcases hb with ⟨rfl,i0⟩ | ⟨v,rfl,i0,hv⟩
    · subst i0
      refine wpAny_bind (wpAny_pure (wpAny_bind (wpAny_mono (put tk hP) (fun _ s' q=>?_) fun _ _ q=>q)))
      rw [nm]
      exact wpAny_pure ⟨plainId_quiet PySem.F.plain_max_loop _,q⟩
    · refine wpAny_bind (wpAny_pure (wpAny_bind (wpAny_tryCatch (wpAny_holding (wpAny_bind (hcmp i (argBest bt (i - 1)) x v _ _ _ hP hv (wpAny_bind (wpAny_holding (wpAny_truthy_bool (wpAny_bind (wpAny_letGo (wpAny_pure ?_))))))))))))
      have ea:argBest bt i = if bt i (argBest bt (i - 1)) then i else argBest bt (i - 1):=by
        obtain ⟨j,rfl⟩:∃ j,i = j + 1:=⟨i - 1,by omega⟩
        rfl
      cases q:bt i (argBest bt (i - 1)) with
      | true=>
        rw [q,if_pos rfl] at ea
        rw [if_pos rfl]
        refine wpAny_bind (wpAny_mono (put tk (by rw [ea]; exact hP)) (fun _ s' z=>wpAny_bind (wpAny_letGo ?_)) fun _ _ z=>z)
        rw [nm]
        exact wpAny_pure ⟨plainId_quiet PySem.F.plain_max_loop _,z⟩
      | false=>
        rw [q,if_neg Bool.false_ne_true] at ea
        rw [if_neg Bool.false_ne_true]
        refine wpAny_bind (wpAny_letGo ?_)
        rw [nm]
        refine wpAny_pure ⟨plainId_quiet PySem.F.plain_max_loop _,ih (i + 1) _ [v,v] _ (by omega) st' hS' (.inr ⟨v,rfl,Nat.succ_pos _,?_⟩) fun r h2 tk2 hr k2=>hR r h2 tk2 hr fun b o hb hbS e=>k2 b o hb hbS (k' b o hb e)⟩
        show P (argBest bt i) v
        rw [ea]
        exact hv
theorem ck_maxD (l:Addr) (d:Value):checkBuiltinCall "max" ⟨[.ref l],[("default",d)]⟩ = pure ():=by kernel_rfl
theorem call_maxD {l:Addr} {items:Array Value} {Q:Value→Shared→Prop} {s:Shared} (hh:A.handled = none) (hl:s.heap.IsList l items) (val:Nat→Int) (hval:∀ i v,items[i]? = some v→∃ t,v = Value.int (val i) t)
    (q:∀ r h' tk,(items.size = 0∧r = d∨0 < items.size∧items[argBest (fun i j=>decide (val j < val i)) (items.size - 1)]? = some r)→(∀ b o,s.heap.get? b = some o→h'.get? b = some o)→Q r { s with heap:=h',toks:=tk }):wpAny (model prog w) A (call (.builtin "max") [.ref l] [("default",d)]) Q E s:=by
  refine wpAny_call (codeAny_call_builtin PySem.F.plain_max PySem.F.entry_max ?_)
  rw [ck_maxD]
  refine wpAny_pure ?_
  have nm:(toString "max" ++ toString ".loop":String) = "max.loop":=by decide
  change wpAny _ A.in1 (Builtin.Builtins.bindParams "max" ["key","default"] 0 ⟨[],[("default",d)]⟩ >>= _) _ _ s
  refine wpAny_bind (wpAny_of_eq (show Builtin.Builtins.bindParams "max" ["key","default"] 0 ⟨[],[("default",d)]⟩ = pure [none,some d] from rfl) (wpAny_bind (wpAny_pure (wpAny_bind (wpAny_pyIter_list hl ?_)))))
  refine wpAny_bind (wpAny_newObj_type ?_)
  rw [nm]
  have ll:l < s.heap.objs.size:=let ⟨_,ho,_⟩:=hl; Heap.lt_size ho
  have sz:(s.heap.push { cls:=.type "list_iterator",data:=.fields #[.ref l,.int 0 0] }).objs.size = s.heap.objs.size + 1:=Heap.size_push ..
  refine wpAny_pure ⟨plainId_quiet PySem.F.plain_max_loop _,maxD_loop (P:=fun i v=>items[i]? = some v) (Walks.list (A:=A.in1) (show A.in1.handled = none from hh) s.heap.objs.size l (Nat.ne_of_lt ll) items) (CmpOf.ints_gt val hval) (S:=(s.heap.push { cls:=.type "list_iterator",data:=.fields #[.ref l,.int 0 0] }).objs.size) ?_ items.size 0 _ [] 0 (Nat.zero_add _) ?_ ?_ (.inl ⟨rfl,rfl⟩) fun r h' tk hr k=>?_⟩
  · rw [sz]
    intro z
    rcases List.mem_cons.mp z with z | z
    · exact Nat.succ_ne_self _ z
    · exact Nat.ne_of_gt (Nat.lt_succ_of_lt ll) (List.mem_singleton.mp z)
  · refine ⟨⟨_,Heap.get?_push_of_some _ (Heap.get?_push_size _ rfl),rfl,rfl⟩,hl.at fun o e=>Heap.get?_push_of_some _ (Heap.get?_push_of_some _ e)⟩
  · exact Heap.get?_push_size _ rfl
  · refine q r h' tk hr fun b o e=>k b o ?_ ?_ (Heap.get?_push_of_some _ (Heap.get?_push_of_some _ e))
    · exact fun z=>Nat.ne_of_lt (Heap.lt_size e) (List.mem_singleton.mp z)
    · rw [sz]; exact Nat.ne_of_lt (Nat.lt_succ_of_lt (Heap.lt_size e))
theorem cw_fn_kw {M:Model} {A:Around} {E:Value→Shared→Prop} {s:Shared} {pos:Pos} {id:String} {args:List (Bool×Sem Value)} {kws:List (Option Str×Sem Value)} {Q:Value→Shared→Prop} (hp:args.any (·.1) = false) (hk:kws.any (·.1.isNone) = false)
    (h:wpAny M A (evalArgs (.builtin id) true args kws) (fun z sz=>wpAny M A (call (.builtin id) z.pos z.kw) Q E sz) E s):wpAny M A (callWith pos (.builtin id) [] args kws) Q E s:=by
  unfold callWith
  refine wpAny_bind (wpAny_holding (wpAny_mono h (fun z sz hz=>wpAny_bind (wpAny_standAt ?_)) fun _ _ y=>y))
  simp only [hp,hk,Bool.or_false]
  refine wpAny_bind (wpAny_pure (wpAny_bind (wpAny_mono hz (fun v sv hv=>wpAny_bind (wpAny_holding (wpAny_point (wpAny_pure hv)))) fun _ _ y=>y)))
end
section
open PySem PySem.Spec PyProof.Rows PySem.Calls
variable {X:Cx}
def maxZ:List Int→Int
  | []=>0
  | x :: l=>l.foldl (fun a b=>if a < b then b else a) x
theorem maxZ_snoc {l:List Int} (h:l≠[]) (x:Int):maxZ (l ++ [x]) = if maxZ l < x then x else maxZ l:=by
  cases l with
  | nil=>exact absurd rfl h
  | cons y l=>
    show (l ++ [x]).foldl (fun a b=>if a < b then b else a) y = _
    rw [List.foldl_append]
    rfl
theorem maxZ_best (ns:List Int):∀ k,k < ns.length→argBest (fun i j=>decide (ns.getD j 0 < ns.getD i 0)) k < ns.length∧maxZ (ns.take (k + 1)) = ns.getD (argBest (fun i j=>decide (ns.getD j 0 < ns.getD i 0)) k) 0
  | 0,h=>by
    cases ns with
    | nil=>exact absurd h (Nat.not_lt_zero _)
    | cons x l=>exact ⟨h,rfl⟩
  | k + 1,h=>by
    obtain ⟨h1,h2⟩:=maxZ_best ns k (by omega)
    have e:ns.take (k + 1 + 1) = ns.take (k + 1) ++ [ns.getD (k + 1) 0]:=by
      rw [List.take_add_one,List.getD_eq_getElem?_getD,List.getElem?_eq_getElem h]; rfl
    have ne:ns.take (k + 1)≠[]:=fun z=>by
      have:=congrArg List.length z
      rw [List.length_take,List.length_nil] at this
      omega
    rw [e,maxZ_snoc ne,h2]
    show (if decide (_ < _) = true then k + 1 else _) < _∧_ = ns.getD (if decide (_ < _) = true then k + 1 else _) 0
    by_cases q:ns.getD (argBest (fun i j=>decide (ns.getD j 0 < ns.getD i 0)) k) 0 < ns.getD (k + 1) 0
    · rw [if_pos q,if_pos (decide_eq_true q)]; exact ⟨h,rfl⟩
    · rw [if_neg q,if_neg (by rw [decide_eq_false q]; exact Bool.false_ne_true)]; exact ⟨h1,rfl⟩
theorem ints_nth:∀ {its:List Value} {ns:List Int},IntsAre its ns→∀ {i:Nat} {v:Value},its[i]? = some v→∃ t,v = Value.int (ns.getD i 0) t
  | _,_,.nil,i,v,h=>by simp at h
  | _,_,.cons n t r,0,v,h=>by simp at h; exact ⟨t,h.symm⟩
  | _,_,.cons n t r,i + 1,v,h=>ints_nth r (by simpa using h)
def tMaxD (K:PySem.W.Frag) (ta:TA):TE:=fun σ H Q=>ta σ H fun vs H1=>∃ (a:Addr) (ns:List Int),vs = [.ref a]∧SqL K H1 a (ns.map V.int)∧Q (.int (maxZ ns)) H1
theorem pe_maxD {l:Expr} {ta:TA} {p pos kp cp:Pos} {j} (hc:X.calm = true) (hg:Gl X "max") (hm:X.mg "max" = none) (ha:PA X [l] ta)
    (he:backTo pos (starEach [l] X.env) = (false,eval l X.env) :: backTo pos (starEach [] X.env):=by rfl)
    (hpl:(backTo pos (starEach [l] X.env)).any (·.1) = false:=by rfl) :
    PE X (.Call (.Name "max" p) [l] [⟨some "default",.Constant (.int 0) j cp,kp⟩] pos) (tMaxD X.K ta):=by
  intro pins s σ H Q I h
  refine wpAny_Call_Name_kw (ld_blt I hg hm bt_max (cw_fn_kw hpl rfl ?_))
  have hsp:=ha pos pins s σ H _ I h
  rw [he] at hsp ⊢
  refine evalArgs_kwB rfl (thn hsp fun us s1 ⟨vs,H1,I1,r1,q1⟩=>?_)
  refine kws_cons (wpAny_Constant_int (kws_nil ?_))
  obtain ⟨a,ns,rfl,hq,q⟩:=q1
  obtain ⟨u,rfl,ru⟩:=vals1 r1
  cases ru
  have I2:=I1.tok (s1.toks + 1)
  obtain ⟨its,rv,p1,hz⟩:=I2.list hq
  have hi:=intsAre_of rv
  have ln:its.length = ns.length:=IntsAre.length hi
  refine call_maxD (items:=its.toArray) (d:=.int 0 s1.toks) (I2.ok.hd hc) p1.isList (fun i=>ns.getD i 0) (fun i v e=>ints_nth hi (by simpa using e)) fun r h' tk hr k=>?_
  obtain ⟨t,rfl⟩:∃ t,r = Value.int (maxZ ns) t:=by
    rcases hr with ⟨h0,rfl⟩ | ⟨h0,h1⟩
    · have:ns = []:=List.eq_nil_of_length_eq_zero (by rw [← ln]; simpa using h0)
      subst this
      exact ⟨_,rfl⟩
    · have h2:0 < ns.length:=by rw [← ln]; simpa using h0
      obtain ⟨t,e⟩:=ints_nth hi (i:=argBest (fun i j=>decide (ns.getD j 0 < ns.getD i 0)) (ns.length - 1)) (v:=r) (by rw [← ln]; simpa using h1)
      have:=(maxZ_best ns (ns.length - 1) (by omega)).2
      rw [show ns.length - 1 + 1 = ns.length by omega,List.take_length] at this
      exact ⟨t,by rw [e,this]⟩
  exact ⟨.int (maxZ ns),H1,I2.kept (t':=tk) k,⟨t,rfl⟩,q⟩
end
end L2
namespace L2
section
open PySem PySem.Calls PyProof.Rows
variable {prog:Program} {w:World} {A:Around} {E:Value→Shared→Prop} {s:Shared}
open PySem.Spec
end
end L2
namespace L2
section
open PySem PySem.W PyProof.Rows
variable {n:Nat} {lt:Nat→Nat→Bool} {cmp:Nat→Nat→(Bool→Shared→Prop)→Shared→Prop} {s:Shared}
structure Ordr (n:Nat) (lt:Nat→Nat→Bool) (cmp:Nat→Nat→(Bool→Shared→Prop)→Shared→Prop) (s:Shared):Prop where
  ask:∀ (i j:Nat) (C:Bool→Shared→Prop),i < n→j < n→i≠j→C (lt i j) s→cmp i j C s
  tr:∀ i j k,i < n→j < n→k < n→lt i j = true→lt j k = true→lt i k = true
  tot:∀ i j,i < n→j < n→i≠j→lt i j = false→lt j i = true
def Pmn (n:Nat) (p:Array Nat):Prop:=p.size = n∧p.toList.Perm (List.range n)
theorem Pmn.lo {p:Array Nat} (h:Pmn n p) {i:Nat} (hi:i < n):p.getD i 0 < n:=by
  have hs:i < p.size:=by rw [h.1]; exact hi
  have e:p.getD i 0 = p[i]:=by simp [Array.getD,hs]
  rw [e]
  exact List.mem_range.mp (h.2.mem_iff.mp (by simp))
theorem Pmn.ne {p:Array Nat} (h:Pmn n p) {i j:Nat} (hi:i < n) (hj:j < n) (hij:i≠j):p.getD i 0≠p.getD j 0:=by
  have hs:i < p.size:=by rw [h.1]; exact hi
  have ht:j < p.size:=by rw [h.1]; exact hj
  have nd:p.toList.Nodup:=h.2.nodup_iff.mpr List.nodup_range
  have e1:p.getD i 0 = p.toList[i]'(by simpa using hs):=by simp [Array.getD,hs]
  have e2:p.getD j 0 = p.toList[j]'(by simpa using ht):=by simp [Array.getD,ht]
  rw [e1,e2]
  intro z
  have pw:=List.pairwise_iff_getElem.mp nd
  rcases Nat.lt_or_gt_of_ne hij with g | g
  · exact pw i j (by simpa using hs) (by simpa using ht) g z
  · exact pw j i (by simpa using ht) (by simpa using hs) g z.symm
end
end L2
namespace L2
section
open PySem PySem.W PySem.Calls PyProof.Rows
variable {prog:Program} {w:World} {A:Around} {E:Value→Shared→Prop} {s:Shared}
end
end L2
namespace L2
section
open PySem PySem.W PySem.Calls PyProof.Rows
variable {prog:Program} {w:World} {A:Around} {E:Value→Shared→Prop} {s:Shared}
end
end L2
namespace L2
section
open PySem PySem.W PySem.Calls PyProof.Rows
variable {X:Cx}
end
end L2
namespace L2
section
open PySem PySem.Calls PyProof.Rows
variable {prog:Program} {w:World} {A:Around} {E:Value→Shared→Prop} {s:Shared}
structure KeyFits (prog:Program) (w:World) (A:Around) (s:Shared) (es:Array DictEntry) (key:Value) (h:Int) (eq:Nat→Bool):Prop where
  same:∀ (i:Nat) (e:DictEntry) (Q:Bool→Shared→Prop) (E:Value→Shared→Prop),es[i]? = some e→e.hash = h→Q (eq i) s→wpAny (model prog w) A (eqBool e.key key) Q E s
  hash:∀ (i:Nat) (e:DictEntry),es[i]? = some e→eq i = true→e.hash = h
  one:∀ i j,i < es.size→j < es.size→eq i = true→eq j = true→i = j
  text:∀ x t,key = .str x t→∀ (i:Nat) (e:DictEntry),es[i]? = some e→e.key.isStr x = eq i
  quiet:∀ (Q:Bool→Shared→Prop) (E:Value→Shared→Prop),Q true s→wpAny (model prog w) A (eqIsQuiet 8 key) Q E s
  quiets:∀ e∈es,∀ (Q:Bool→Shared→Prop) (E:Value→Shared→Prop),Q true s→wpAny (model prog w) A (eqIsQuiet 8 e.key) Q E s
  own:∀ e∈es,e.key = key→e.hash = h
  form:(∃ x t,key = .str x t)∨∃ a,key = .ref a
theorem places_mem {es:Array DictEntry} {h:Int} {i:Nat}:i∈placesWithHash es.size (fun i=>es[i]?.map (·.hash)) h↔∃ e,es[i]? = some e∧e.hash = h:=by
  unfold placesWithHash
  rw [List.mem_filter,List.mem_range]
  constructor
  · rintro ⟨hi,he⟩
    refine ⟨es[i],Array.getElem?_eq_getElem hi,?_⟩
    dsimp only at he
    rw [Array.getElem?_eq_getElem hi] at he
    simpa using he
  · rintro ⟨e,he,hh⟩
    refine ⟨(Array.getElem?_eq_some_iff.mp he).1,?_⟩
    dsimp only
    rw [he]
    simpa using hh
theorem walk_plain {d:Addr} {o:Obj} {es:Array DictEntry} {ep:Nat} {key:Value} {h:Int} {eq:Nat→Bool} {Q:Option Nat→Shared→Prop} (F:KeyFits prog w A s es key h eq) (ho:s.heap.get? d = some o) (hd:o.data = .dict es ep)
    (hno:(∀ i,i < es.size→eq i = false)→Q none s) (hyes:∀ i,i < es.size→eq i = true→Q (some i) s) :
    wpAny (model prog w) A (dictWalkPlain d key h es (placesWithHash es.size (fun i=>es[i]?.map (·.hash)) h)) Q E s:=by
  unfold dictWalkPlain
  refine wpAny_bind ?_
  refine wpAny_forIn_list _ (fun rest r s'=>s' = s∧r = (none,())∧(∀ i∈rest,∃ e,es[i]? = some e∧e.hash = h)∧∀ i,i < es.size→eq i = true→i∈rest) _ ?_ ?_ _ _ ⟨rfl,rfl,fun i hi=>places_mem.mp hi,fun i hi he=>?_⟩
  · rintro i rest r s' ⟨rfl,rfl,hr,hm⟩
    obtain ⟨e,he,hh⟩:=hr i List.mem_cons_self
    have hi:i < es.size:=(Array.getElem?_eq_some_iff.mp he).1
    dsimp only
    rw [he]
    dsimp only
    rw [if_pos (by simpa using hh)]
    refine wpAny_bind (wpAny_dictEpoch ho hd (wpAny_bind (F.same i e _ _ he hh (wpAny_bind (wpAny_dictEpoch ho hd ?_)))))
    rw [if_neg (by simp)]
    cases hq:eq i with
    | true=>
      simp only [if_true]
      exact wpAny_bind (wpAny_rule (wpAny_pure (wpAny_pure (hyes i hi hq))))
    | false=>
      simp only [Bool.false_eq_true,if_false]
      refine wpAny_bind (wpAny_rule (wpAny_pure ⟨rfl,rfl,fun j hj=>hr j (List.mem_cons_of_mem _ hj),fun j hj hq'=>?_⟩))
      rcases List.mem_cons.mp (hm j hj hq') with rfl | hj'
      · rw [hq] at hq'; cases hq'
      · exact hj'
  · rintro r s' ⟨rfl,rfl,_,hm⟩
    refine wpAny_pure (hno fun i hi=>?_)
    cases hq:eq i with
    | false=>rfl
    | true=>exact absurd (hm i hi hq) (by simp)
  · exact places_mem.mpr ⟨_,Array.getElem?_eq_getElem hi,F.hash i _ (Array.getElem?_eq_getElem hi) he⟩
theorem may_tell {es:Array DictEntry} {key:Value} {h:Int} {eq:Nat→Bool} {Q:Bool→Shared→Prop} (F:KeyFits prog w A s es key h eq) (stored:List Value) (hst:∀ v∈stored,∃ e∈es,v = e.key) (q:Q false s):wpAny (model prog w) A (tableMayTell key stored) Q E s:=by
  unfold tableMayTell
  split
  · exact wpAny_pure q
  · refine wpAny_bind (F.quiet _ _ ?_)
    simp only [Bool.not_true,Bool.false_eq_true,if_false]
    refine wpAny_bind ?_
    refine wpAny_forIn_list _ (fun rest r s'=>s' = s∧r = (none,())∧∀ v∈rest,∃ e∈es,v = e.key) _ (fun v rest r s' hI=>?_) (fun r s' hI=>?_) _ _ ⟨rfl,rfl,hst⟩
    · obtain ⟨rfl,rfl,hr⟩:=hI
      obtain ⟨e,he,rfl⟩:=hr v List.mem_cons_self
      refine wpAny_bind (F.quiets e he _ _ ?_)
      simp only [Bool.not_true,Bool.false_eq_true,if_false]
      exact wpAny_pure ⟨rfl,rfl,fun u hu=>hr u (List.mem_cons_of_mem _ hu)⟩
    · obtain ⟨rfl,rfl,_⟩:=hI
      exact wpAny_pure q
theorem loop_by {es:Array DictEntry} {key:Value} {h:Int} {eq:Nat→Bool} {Q:Option Nat→Shared→Prop} {body:Nat→Option (Option Nat)×Option Nat→Sem (ForInStep (Option (Option Nat)×Option Nat))} {fin:Option (Option Nat)×Option Nat→Sem (Option Nat)}
    (F:KeyFits prog w A s es key h eq) (hno:(∀ i,i < es.size→eq i = false)→Q none s) (hyes:∀ i,i < es.size→eq i = true→Q (some i) s)
    (turn:∀ (i:Nat) (e:DictEntry) (hit:Option Nat) (R:ForInStep (Option (Option Nat)×Option Nat)→Shared→Prop),es[i]? = some e→e.hash = h→(eq i = true→hit = none)→(eq i = true→R (.done (some (some i),none)) s∧R (.yield (none,some i)) s)→(eq i = false→R (.yield (none,hit)) s)→wpAny (model prog w) A (body i (none,hit)) R E s)
    (f1:∀ r b,fin (some r,b) = pure r) (f2:∀ b,fin (none,b) = pure b):wpAny (model prog w) A (forIn (placesWithHash es.size (fun i=>es[i]?.map (·.hash)) h) (none,none) body >>= fin) Q E s:=by
  refine wpAny_bind ?_
  refine wpAny_forIn_list _ (fun rest r s'=>s' = s∧∃ hit,r = (none,hit)∧(∀ i∈rest,∃ e,es[i]? = some e∧e.hash = h)∧rest.Nodup∧((hit = none∧∀ i,i < es.size→eq i = true→i∈rest)∨∃ j,hit = some j∧j < es.size∧eq j = true∧j ∉ rest)) _ (fun i rest r s' hI=>?_) (fun r s' hI=>?_) _ _ ⟨rfl,none,rfl,fun i hi=>places_mem.mp hi,?_,.inl ⟨rfl,fun i hi he=>?_⟩⟩
  · obtain ⟨rfl,hit,rfl,hr,nd,hh⟩:=hI
    obtain ⟨e,he,hh'⟩:=hr i List.mem_cons_self
    have hi:i < es.size:=(Array.getElem?_eq_some_iff.mp he).1
    rw [List.nodup_cons] at nd
    have hr':∀ j∈rest,∃ e,es[j]? = some e∧e.hash = h:=fun j hj=>hr j (List.mem_cons_of_mem _ hj)
    refine turn i e hit _ he hh' (fun hq=>?_) (fun hq=>⟨?_,⟨rfl,_,rfl,hr',nd.2,.inr ⟨i,rfl,hi,hq,nd.1⟩⟩⟩) (fun hq=>⟨rfl,_,rfl,hr',nd.2,?_⟩)
    · rcases hh with ⟨a,_⟩ | ⟨j,a,b,c,e'⟩
      · exact a
      · exact absurd (F.one j i b hi c hq) (fun z=>e' (by rw [z]; exact List.mem_cons_self))
    · show wpAny _ _ (fin (some (some i),none)) _ _ _
      rw [f1]
      exact wpAny_pure (hyes i hi hq)
    · rcases hh with ⟨a,b⟩ | ⟨j,a,b,c,e'⟩
      · refine .inl ⟨a,fun j hj hq'=>?_⟩
        rcases List.mem_cons.mp (b j hj hq') with rfl | hj'
        · rw [hq] at hq'; cases hq'
        · exact hj'
      · exact .inr ⟨j,a,b,c,fun z=>e' (List.mem_cons_of_mem _ z)⟩
  · obtain ⟨rfl,hit,rfl,_,_,hh⟩:=hI
    rw [f2]
    rcases hh with ⟨rfl,b⟩ | ⟨j,rfl,b,c,_⟩
    · refine wpAny_pure (hno fun i hi=>?_)
      cases hq:eq i with
      | false=>rfl
      | true=>exact absurd (b i hi hq) (by simp)
    · exact wpAny_pure (hyes j b c)
  · unfold placesWithHash
    exact List.nodup_range.filter _
  · exact places_mem.mpr ⟨_,Array.getElem?_eq_getElem hi,F.hash i _ (Array.getElem?_eq_getElem hi) he⟩
theorem find_by {d:Addr} {o:Obj} {es:Array DictEntry} {ep:Nat} {key:Value} {h:Int} {eq:Nat→Bool} {Q:Option Nat→Shared→Prop} (F:KeyFits prog w A s es key h eq) (ho:s.heap.get? d = some o) (hd:o.data = .dict es ep)
    (hno:(∀ i,i < es.size→eq i = false)→Q none s) (hyes:∀ i,i < es.size→eq i = true→Q (some i) s):wpAny (model prog w) A (dictFind d key h) Q E s:=by
  have stq:∀ v∈(placesWithHash es.size (fun i=>es[i]?.map (·.hash)) h).filterMap (fun i=>es[i]?.map (·.key)),∃ e∈es,v = e.key:=fun v hv=>by
    obtain ⟨i,_,hi⟩:=List.mem_filterMap.mp hv
    cases he:es[i]? with
    | none=>rw [he] at hi; cases hi
    | some e=>
      rw [he] at hi
      exact ⟨e,Array.mem_of_getElem? he,(Option.some.inj hi).symm⟩
  have anyq:(es.any fun e=>e.key == key && e.hash != h) = false:=by
    rw [Array.any_eq_false]
    intro i hi
    by_cases hk:es[i].key = key
    · have:=F.own es[i] (Array.getElem_mem hi) hk
      simp [this]
    · have:(es[i].key == key) = false:=beq_eq_false_iff_ne.mpr hk
      simp [this]
  unfold dictFind
  refine wpAny_holding (wpAny_bind (wpAny_dictEntries ho hd ?_))
  rcases F.form with ⟨x,t,rfl⟩ | ⟨a,rfl⟩
  · dsimp only
    by_cases hall:(es.all fun e=>isExactStrKey e.key) = true
    · rw [if_pos hall]
      unfold foundByValue
      cases hf:es.findIdx? (fun e=>e.key.isStr x) with
      | none=>
        dsimp only
        refine wpAny_pure (hno fun i hi=>?_)
        have:=Array.findIdx?_eq_none_iff.mp hf es[i] (Array.getElem_mem hi)
        rw [F.text x t rfl i es[i] (Array.getElem?_eq_getElem hi)] at this
        exact this
      | some i=>
        obtain ⟨hi,hp,_⟩:=Array.findIdx?_eq_some_iff_getElem.mp hf
        have hg:es[i]? = some es[i]:=Array.getElem?_eq_getElem hi
        have hq:eq i = true:=by rw [← F.text x t rfl i es[i] hg]; exact hp
        dsimp only
        rw [hg]
        dsimp only
        refine wpAny_bind (wpAny_dictEpoch ho hd (wpAny_bind (F.same i es[i] _ _ hg (F.hash i _ hg hq) (wpAny_bind (wpAny_dictEpoch ho hd ?_)))))
        rw [if_neg (by simp),hq]
        simp only [if_true]
        exact wpAny_bind (wpAny_rule (wpAny_pure (hyes i hi hq)))
    · rw [if_neg hall]
      by_cases hc:((Value.str x t :: (placesWithHash es.size (fun i=>es[i]?.map (·.hash)) h).filterMap (fun i=>es[i]?.map (·.key))).all carriedByValue) = true
      · rw [if_pos hc]
        exact walk_plain F ho hd hno hyes
      · rw [if_neg hc]
        rcases Classical.em ((((placesWithHash es.size (fun i=>es[i]?.map (·.hash)) h).filterMap (fun i=>es[i]?.map (·.key))) == [Value.str x t]) = true) with hone | hone
        · rw [if_pos hone]
          refine wpAny_bind (wpAny_pure ?_)
          rw [if_neg (by simp)]
          (refine loop_by F hno hyes (fun i e hit R he hh h0 h1 h2=>?_) (fun _ _=>rfl) (fun _=>rfl)
           dsimp only
           rw [he]
           dsimp only
           rw [if_pos (by simpa using hh)]
           refine wpAny_bind (wpAny_dictEpoch ho hd (wpAny_bind (F.same i e _ _ he hh (wpAny_bind (wpAny_dictEpoch ho hd ?_)))))
           rw [if_neg (by simp)]
           cases hq:eq i with
           | true=>
             obtain rfl:=h0 hq
             simp only [if_true,Option.isSome_none,Bool.false_eq_true,if_false]
             refine wpAny_bind (wpAny_rule ?_)
             split
             · exact wpAny_pure (h1 hq).1
             · exact wpAny_pure (h1 hq).2
           | false=>
             simp only [Bool.false_eq_true,if_false,Bool.false_and]
             exact wpAny_bind (wpAny_rule (wpAny_pure (h2 hq))))
        · rw [if_neg hone]
          refine wpAny_bind (may_tell F _ stq ?_)
          rw [if_neg (by simp)]
          (refine loop_by F hno hyes (fun i e hit R he hh h0 h1 h2=>?_) (fun _ _=>rfl) (fun _=>rfl)
           dsimp only
           rw [he]
           dsimp only
           rw [if_pos (by simpa using hh)]
           refine wpAny_bind (wpAny_dictEpoch ho hd (wpAny_bind (F.same i e _ _ he hh (wpAny_bind (wpAny_dictEpoch ho hd ?_)))))
           rw [if_neg (by simp)]
           cases hq:eq i with
           | true=>
             obtain rfl:=h0 hq
             simp only [if_true,Option.isSome_none,Bool.false_eq_true,if_false]
             refine wpAny_bind (wpAny_rule ?_)
             split
             · exact wpAny_pure (h1 hq).1
             · exact wpAny_pure (h1 hq).2
           | false=>
             simp only [Bool.false_eq_true,if_false,Bool.false_and]
             exact wpAny_bind (wpAny_rule (wpAny_pure (h2 hq))))
  · dsimp only
    rw [if_neg (by simp [carriedByValue]),if_neg (by rw [anyq]; simp)]
    rcases Classical.em ((((placesWithHash es.size (fun i=>es[i]?.map (·.hash)) h).filterMap (fun i=>es[i]?.map (·.key))) == [Value.ref a]) = true) with hone | hone
    · rw [if_pos hone]
      refine wpAny_bind (wpAny_pure ?_)
      rw [if_neg (by simp)]
      (refine loop_by F hno hyes (fun i e hit R he hh h0 h1 h2=>?_) (fun _ _=>rfl) (fun _=>rfl)
       dsimp only
       rw [he]
       dsimp only
       rw [if_pos (by simpa using hh)]
       refine wpAny_bind (wpAny_dictEpoch ho hd (wpAny_bind (F.same i e _ _ he hh (wpAny_bind (wpAny_dictEpoch ho hd ?_)))))
       rw [if_neg (by simp)]
       cases hq:eq i with
       | true=>
         obtain rfl:=h0 hq
         simp only [if_true,Option.isSome_none,Bool.false_eq_true,if_false]
         refine wpAny_bind (wpAny_rule ?_)
         split
         · exact wpAny_pure (h1 hq).1
         · exact wpAny_pure (h1 hq).2
       | false=>
         simp only [Bool.false_eq_true,if_false,Bool.false_and]
         exact wpAny_bind (wpAny_rule (wpAny_pure (h2 hq))))
    · rw [if_neg hone]
      refine wpAny_bind (may_tell F _ stq ?_)
      rw [if_neg (by simp)]
      (refine loop_by F hno hyes (fun i e hit R he hh h0 h1 h2=>?_) (fun _ _=>rfl) (fun _=>rfl)
       dsimp only
       rw [he]
       dsimp only
       rw [if_pos (by simpa using hh)]
       refine wpAny_bind (wpAny_dictEpoch ho hd (wpAny_bind (F.same i e _ _ he hh (wpAny_bind (wpAny_dictEpoch ho hd ?_)))))
       rw [if_neg (by simp)]
       cases hq:eq i with
       | true=>
         obtain rfl:=h0 hq
         simp only [if_true,Option.isSome_none,Bool.false_eq_true,if_false]
         refine wpAny_bind (wpAny_rule ?_)
         split
         · exact wpAny_pure (h1 hq).1
         · exact wpAny_pure (h1 hq).2
       | false=>
         simp only [Bool.false_eq_true,if_false,Bool.false_and]
         exact wpAny_bind (wpAny_rule (wpAny_pure (h2 hq))))
end
end L2
namespace L2
section
open PySem PySem.Calls PySem.SeqAt PyProof.Rows
abbrev MK:=Sum Str (List Key)
def mkIs (H:Hp):MK→Value→Prop
  | .inl x,u=>∃ t,u = .str x t
  | .inr ks,u=>∃ b,u = .ref b∧H b = some (.tup (ks.map kV))
def mkHash (P:Program) (w:World):MK→Int
  | .inl x=>hashStr w x
  | .inr ks=>(tupleKind (mixKind P w)).hash ks
def DM (d:Addr) (es:Array DictEntry) (ep:Nat):HO:=.ext fun h=>Ents h d es ep
def MxE (P:Program) (w:World) (H:Hp) (p:MK×V) (e:DictEntry):Prop:=mkIs H p.1 e.key∧e.hash = mkHash P w p.1∧RelV p.2 e.val
structure Mx (P:Program) (w:World) (H:Hp) (d:Addr) (kvs:List (MK×V)) (es:Array DictEntry) (ep:Nat):Prop where
  o:H d = some (DM d es ep)
  m:(d == sysModules) = false
  z:es.size≤sizeLine
  r:Paired (MxE P w H) kvs es.toList
  n:(kvs.map (·.1)).Nodup
theorem paired_at {α β:Type} {R:α→β→Prop}:∀ {xs:List α} {ys:List β},Paired R xs ys→∀ {i:Nat} {y:β},ys[i]? = some y→∃ x,xs[i]? = some x∧R x y
  | _,_,.nil,i,y,h=>by simp at h
  | x :: xs,z :: ys,.cons h t,0,y,e=>by
    simp at e
    subst e
    exact ⟨x,rfl,h⟩
  | x :: xs,z :: ys,.cons h t,i + 1,y,e=>by
    obtain ⟨x',h1,h2⟩:=paired_at t (i:=i) (by simpa using e)
    exact ⟨x',by simpa using h1,h2⟩
variable {X:Cx} {pins:List (Addr×Obj)} {σ:St} {H:Hp} {s:Shared} {d:Addr} {kvs:List (MK×V)} {es:Array DictEntry} {ep:Nat} {A:Around} {E:Value→Shared→Prop} {k:MK} {u:Value}
theorem Mx.len {P:Program} {w:World} (M:Mx P w H d kvs es ep):es.size = kvs.length:=by
  rw [← Array.length_toList]
  exact (Paired.length M.r).symm
theorem tup_is {b:Addr} {ks:List Key} (I:Inv X pins σ H s) (h:H b = some (.tup (ks.map kV))):∃ items,s.heap.IsTuple b items:=by
  obtain ⟨o,items,n,h1,h2,h3,_⟩:=key_of I.hok h
  exact ⟨items,o,h1,h2,n,h3⟩
theorem mk_fits (hu:A.units < cLine) (I:Inv X pins σ H s) (M:Mx X.prog X.w H d kvs es ep) (hk:mkIs H k u):KeyFits X.prog X.w A s es u (mkHash X.prog X.w k) (fun i=>decide ((kvs[i]?).map (·.1) = some k)):=by
  have at1:∀ {i:Nat} {e:DictEntry},es[i]? = some e→∃ p,kvs[i]? = some p∧MxE X.prog X.w H p e:=fun {i e} he=>paired_at M.r (by rw [Array.getElem?_toList]; exact he)
  have inj:∀ {k1 k2:MK} {v:Value},mkIs H k1 v→mkIs H k2 v→k1 = k2:=fun {k1 k2 v} h1 h2=>by
    cases k1 with
    | inl x=>
      obtain ⟨t,rfl⟩:=h1
      cases k2 with
      | inl y=>obtain ⟨t',e⟩:=h2; cases e; rfl
      | inr ks=>obtain ⟨b,e,_⟩:=h2; cases e
    | inr ks=>
      obtain ⟨b,rfl,hb⟩:=h1
      cases k2 with
      | inl y=>obtain ⟨t',e⟩:=h2; cases e
      | inr ks'=>
        obtain ⟨b',e,hb'⟩:=h2
        cases e
        exact congrArg Sum.inr ((key_of I.hok hb).inj (key_of I.hok hb'))
  have quiet:∀ {k1:MK} {v:Value},mkIs H k1 v→∀ (Q:Bool→Shared→Prop) (E:Value→Shared→Prop),Q true s→wpAny (model X.prog X.w) A (eqIsQuiet 8 v) Q E s:=fun {k1 v} h1 Q E q=>by
    cases k1 with
    | inl x=>obtain ⟨t,rfl⟩:=h1; exact wpAny_pure q
    | inr ks=>obtain ⟨b,rfl,hb⟩:=h1; exact wpAny_eqIsQuiet_tuple (key_of I.hok hb) q
  refine ⟨fun i e Q E he hh q=>?_,fun i e he hq=>?_,fun i j hi hj h1 h2=>?_,fun x t eu i e he=>?_,fun Q E q=>quiet hk Q E q,fun e he Q E q=>?_,fun e he ek=>?_,?_⟩
  · obtain ⟨p,hp,h1,_,_⟩:=at1 he
    have eq:decide ((kvs[i]?).map (·.1) = some k) = decide (p.1 = k):=by rw [hp]; simp
    rw [eq] at q
    cases hp1:p.1 with
    | inl x=>
      rw [hp1] at h1 q
      obtain ⟨t,h1⟩:=h1
      rw [h1]
      cases k with
      | inl y=>
        obtain ⟨t',rfl⟩:=hk
        exact wpAny_eqBool_str (by simpa using q)
      | inr ks=>
        obtain ⟨b,rfl,hb⟩:=hk
        obtain ⟨items,hi⟩:=tup_is I hb
        exact EqAt.str_tuple x t hi hu _ _ _ _ (by simpa using q)
    | inr ks=>
      rw [hp1] at h1 q
      obtain ⟨b,h1,hb⟩:=h1
      rw [h1]
      cases k with
      | inl y=>
        obtain ⟨t',rfl⟩:=hk
        obtain ⟨items,hi⟩:=tup_is I hb
        exact EqAt.tuple_str y t' hi hu _ _ _ _ (by simpa using q)
      | inr ks'=>
        obtain ⟨b',rfl,hb'⟩:=hk
        exact wpAny_eqBool_tuple hu (key_of I.hok hb) (key_of I.hok hb') (by simpa using q)
  · obtain ⟨p,hp,_,h2,_⟩:=at1 he
    have:=of_decide_eq_true hq
    rw [hp] at this
    have e9:p.1 = k:=Option.some.inj this
    rw [h2,e9]
  · have e1:=of_decide_eq_true h1
    have e2:=of_decide_eq_true h2
    rw [M.len] at hi hj
    rw [List.getElem?_eq_getElem hi] at e1
    rw [List.getElem?_eq_getElem hj] at e2
    have pw:=List.pairwise_iff_getElem.mp M.n
    have e3:kvs[i].1 = kvs[j].1:=(Option.some.inj e1).trans (Option.some.inj e2).symm
    rcases Nat.lt_trichotomy i j with g | g | g
    · have:=pw i j (by simpa using hi) (by simpa using hj) g
      rw [List.getElem_map,List.getElem_map] at this
      exact absurd e3 this
    · exact g
    · have:=pw j i (by simpa using hj) (by simpa using hi) g
      rw [List.getElem_map,List.getElem_map] at this
      exact absurd e3.symm this
  · obtain ⟨p,hp,h1,_,_⟩:=at1 he
    have hk':k = .inl x:=by
      subst eu
      exact inj hk ⟨t,rfl⟩
    subst hk'
    have eq:decide ((kvs[i]?).map (·.1) = some (Sum.inl x:MK)) = decide (p.1 = .inl x):=by rw [hp]; simp
    rw [eq]
    cases hp1:p.1 with
    | inl y=>
      rw [hp1] at h1
      obtain ⟨t',h1⟩:=h1
      rw [h1]
      show (y == x) = _
      rw [Bool.eq_iff_iff,beq_iff_eq,decide_eq_true_iff]
      exact ⟨fun e=>by rw [e],fun e=>Sum.inl.inj e⟩
    | inr ks=>
      rw [hp1] at h1
      obtain ⟨b,h1,_⟩:=h1
      rw [h1]
      simp [Value.isStr]
  · obtain ⟨i,hi,rfl⟩:=Array.getElem_of_mem he
    obtain ⟨p,_,h1,_,_⟩:=at1 (Array.getElem?_eq_getElem hi)
    exact quiet h1 Q E q
  · obtain ⟨i,hi,rfl⟩:=Array.getElem_of_mem he
    obtain ⟨p,_,h1,h2,_⟩:=at1 (Array.getElem?_eq_getElem hi)
    rw [ek] at h1
    rw [h2,inj h1 hk]
  · cases k with
    | inl x=>obtain ⟨t,rfl⟩:=hk; exact .inl ⟨x,t,rfl⟩
    | inr ks=>obtain ⟨b,rfl,_⟩:=hk; exact .inr ⟨b,rfl⟩
end
end L2
namespace L2
section
open PySem PySem.Calls PySem.SeqAt PyProof.Rows
variable {X:Cx} {pins:List (Addr×Obj)} {σ:St} {H:Hp} {s:Shared} {d:Addr} {kvs:List (MK×V)} {es:Array DictEntry} {ep:Nat} {A:Around} {E:Value→Shared→Prop} {k:MK} {u:Value}
theorem Mx.at (I:Inv X pins σ H s) (M:Mx X.prog X.w H d kvs es ep):Ents s.heap d es ep:=(show ObjOk X.prog X.w H s.heap d (DM d es ep) from I.hok d _ M.o).1
theorem mk_hash {Q:Int→Shared→Prop} (hu:A.units < cLine) (I:Inv X pins σ H s) (hk:mkIs H k u) (q:∀ tk,Q (mkHash X.prog X.w k) { s with toks:=tk }):wpAny (model X.prog X.w) A (pyHash u) Q E s:=by
  cases k with
  | inl x=>obtain ⟨t,rfl⟩:=hk; exact wpAny_pyHash_str (q _)
  | inr ks=>obtain ⟨b,rfl,hb⟩:=hk; exact (tupleKind (mixKind X.prog X.w)).pyHash hu (key_of I.hok hb) (q _)
def mkVal (kvs:List (MK×V)) (k:MK):Option V:=(kvs.find? fun p=>decide (p.1 = k)).map (·.2)
theorem mkVal_at {i:Nat} {p:MK×V} (nd:(kvs.map (·.1)).Nodup) (h:kvs[i]? = some p):mkVal kvs p.1 = some p.2:=by
  unfold mkVal
  have hm:=List.mem_of_getElem? h
  cases hf:kvs.find? (fun q=>decide (q.1 = p.1)) with
  | none=>exact absurd (List.find?_eq_none.mp hf p hm) (by simp)
  | some q=>
    have e0:=List.find?_some hf
    have e1:q.1 = p.1:=of_decide_eq_true e0
    have hq:=List.mem_of_find?_eq_some hf
    obtain ⟨i1,h1,rfl⟩:=List.getElem_of_mem hq
    obtain ⟨i2,h2,rfl⟩:=List.getElem_of_mem hm
    have pw:=List.pairwise_iff_getElem.mp nd
    rcases Nat.lt_trichotomy i1 i2 with g | g | g
    · have:=pw i1 i2 (by simpa using h1) (by simpa using h2) g
      rw [List.getElem_map,List.getElem_map] at this
      exact absurd e1 this
    · subst g; rfl
    · have:=pw i2 i1 (by simpa using h2) (by simpa using h1) g
      rw [List.getElem_map,List.getElem_map] at this
      exact absurd e1.symm this
theorem mkVal_none (h:∀ i,i < kvs.length→decide ((kvs[i]?).map (·.1) = some k) = false):mkVal kvs k = none:=by
  unfold mkVal
  rw [Option.map_eq_none_iff,List.find?_eq_none]
  intro p hp hq
  obtain ⟨i,hi,rfl⟩:=List.getElem_of_mem hp
  have:=h i hi
  rw [List.getElem?_eq_getElem hi] at this
  have:=of_decide_eq_false this
  exact this (congrArg some (of_decide_eq_true hq))
theorem mx_push (I:Inv X pins σ H s) (M:Mx X.prog X.w H d kvs es ep) (hk:mkIs H k u) {r:Value} {z:V} (rz:RelV z r) (hn:∀ i,i < kvs.length→decide ((kvs[i]?).map (·.1) = some k) = false) (hl:kvs.length < sizeLine) {t':Nat} :
    ∃ es' ep',Inv X pins σ (upd H d (DM d es' ep')) { s with heap:=s.heap.update d (Obj.mapDictKeys (·.push ⟨mkHash X.prog X.w k,u,r⟩)),toks:=t' }∧Mx X.prog X.w (upd H d (DM d es' ep')) d (kvs ++ [(k,z)]) es' ep':=by
  obtain ⟨o,ho,hc,hx⟩:=M.at I
  have E':Ents (s.heap.update d (Obj.mapDictKeys (·.push ⟨mkHash X.prog X.w k,u,r⟩))) d (es.push ⟨mkHash X.prog X.w k,u,r⟩) (ep + 1):=⟨_,Heap.get?_update_self _ ho (Obj.isFreed_of_dict (Obj.data_mapDictKeys hx _)),hc.mapDictKeys _,Obj.data_mapDictKeys hx _⟩
  refine ⟨es.push ⟨mkHash X.prog X.w k,u,r⟩,ep + 1,d_write I (by rw [M.o]; exact True.intro) (Heap.SameBut.update ..) ⟨_,Heap.get?_update_self _ ho (Obj.isFreed_of_dict (Obj.data_mapDictKeys hx _))⟩ ⟨E',⟨_,Heap.get?_update_self _ ho (Obj.isFreed_of_dict (Obj.data_mapDictKeys hx _))⟩,fun h1 h2 e kk=>e.at kk⟩,?_⟩
  have kt:∀ {k1:MK} {v:Value},mkIs H k1 v→mkIs (upd H d (DM d (es.push ⟨mkHash X.prog X.w k,u,r⟩) (ep + 1))) k1 v:=fun {k1 v} h1=>by
    cases k1 with
    | inl x=>exact h1
    | inr ks=>
      obtain ⟨b,e,hb⟩:=h1
      exact ⟨b,e,by rw [upd_ne (ne_of hb M.o (by intro z; cases z))]; exact hb⟩
  refine ⟨upd_same,M.m,?_,?_,?_⟩
  · rw [Array.size_push,M.len]; exact hl
  · rw [Array.toList_push]
    exact Paired.snoc (Paired.mapP M.r fun _ _ ⟨h1,h2⟩=>⟨kt h1,h2⟩) ⟨kt hk,rfl,rz⟩
  · rw [List.map_append,List.nodup_append]
    refine ⟨M.n,by simp,fun a ha b hb e=>?_⟩
    have hb':b = k:=List.mem_singleton.mp hb
    obtain ⟨p,hp,rfl⟩:=List.mem_map.mp ha
    obtain ⟨i,hi,rfl⟩:=List.getElem_of_mem hp
    have:=of_decide_eq_false (hn i hi)
    rw [List.getElem?_eq_getElem hi] at this
    exact this (congrArg some (e.trans hb'))
theorem d_setdefM {Q:Value→Shared→Prop} (hu:A.units + 1 < cLine) (I:Inv X pins σ H s) (M:Mx X.prog X.w H d kvs es ep) (hk:mkIs H k u) {r:Value} {z:V} (rz:RelV z r) (hl:kvs.length < sizeLine)
    (h1:∀ v w' s',mkVal kvs k = some v→Inv X pins σ H s'→RelV v w'→Q w' s') (h2:mkVal kvs k = none→∀ es' ep' s',Inv X pins σ (upd H d (DM d es' ep')) s'→Mx X.prog X.w (upd H d (DM d es' ep')) d (kvs ++ [(k,z)]) es' ep'→Q r s') :
    wpAny (model X.prog X.w) A (call (.builtin "dict.setdefault") [.ref d,u,r]) Q E s:=by
  have T:=M.at I
  refine wpAny_call_entry PySem.F.slot_dict_setdefault T.ty PySem.F.entry_dict_setdefault ?_ (PySem.F.args_dict_setdefault_3 _ _ _)
  refine wpAny_bind (wpAny_bind (wpAny_notOrdered_dict T.ty (wpAny_pure ?_)))
  change wpAny _ _ (if (d == sysModules) = true then _ else (dictSetDefault d u r >>= _)) _ _ s
  rw [if_neg (by rw [M.m]; exact Bool.false_ne_true)]
  unfold dictSetDefault
  have hu1:A.in1.units < cLine:=hu
  refine wpAny_bind (wpAny_holding (wpAny_bind (mk_hash hu1 I hk fun tk=>wpAny_bind ?_)))
  have I1:Inv X pins σ H { s with toks:=tk }:=I.tok _
  obtain ⟨o,ho,hc,hx⟩:=id T
  refine find_by (s:={ s with toks:=tk }) (mk_fits hu1 I1 M hk) ho hx (fun hn=>?_) fun i hi hq=>?_
  · have hn':∀ i,i < kvs.length→decide ((kvs[i]?).map (·.1) = some k) = false:=fun i hi=>hn i (by rw [M.len]; exact hi)
    obtain ⟨es',ep',I2,M2⟩:=mx_push I M hk rz hn' hl (t':=tk)
    exact wpAny_bind (wpAny_rule (wpAny_bind (wpAny_updateDictKeys (hz:=M.z) (s:={ s with toks:=tk }) ho hx (wpAny_pure (wpAny_pure ⟨r,rfl,h2 (mkVal_none hn') es' ep' _ I2 M2⟩)))))
  · have hi':i < kvs.length:=by rw [← M.len]; exact hi
    have e1:=of_decide_eq_true hq
    rw [List.getElem?_eq_getElem hi'] at e1
    have e2:kvs[i].1 = k:=Option.some.inj e1
    obtain ⟨p,hp,_,_,rv⟩:=paired_at M.r (i:=i) (y:=es[i]) (by rw [Array.getElem?_toList]; exact Array.getElem?_eq_getElem hi)
    have hv:=mkVal_at M.n hp
    rw [List.getElem?_eq_getElem hi'] at hp
    have e3:kvs[i] = p:=Option.some.inj hp
    rw [← e3,e2] at hv
    dsimp only
    refine wpAny_bind (wpAny_dictEntries ho hx ?_)
    rw [Array.getElem?_eq_getElem hi]
    dsimp only
    refine wpAny_bind (wpAny_rule (wpAny_pure (wpAny_pure ⟨_,rfl,h1 _ _ _ hv I1 ?_⟩)))
    rw [e3]
    exact rv
end
end L2
namespace L2
section
open PySem PySem.Calls PySem.Spec PySem.SeqAt PyProof.Rows
variable {X:Cx} {pins:List (Addr×Obj)} {σ:St} {H:Hp} {s:Shared} {d:Addr} {kvs:List (MK×V)} {es:Array DictEntry} {ep:Nat} {A:Around} {E:Value→Shared→Prop} {k:MK} {u:Value}
def mkX (H:Hp):MK→V→Prop
  | .inl z,x=>x = .str z
  | .inr ks,x=>∃ b,x = .ref b∧H b = some (.tup (ks.map kV))
theorem mkX.is {y:V} (h:mkX H k y) (r:RelV y u):mkIs H k u:=by
  cases k with
  | inl z=>
    cases (show y = .str z from h)
    obtain ⟨t,rfl⟩:=r
    exact ⟨t,rfl⟩
  | inr ks=>
    obtain ⟨b,rfl,hb⟩:=h
    cases (show u = Value.ref b from r)
    exact ⟨b,rfl,hb⟩
theorem mkIs.x (h:mkIs H k u):∃ y,mkX H k y∧RelV y u:=by
  cases k with
  | inl z=>obtain ⟨t,rfl⟩:=h; exact ⟨.str z,rfl,t,rfl⟩
  | inr ks=>obtain ⟨b,rfl,hb⟩:=h; exact ⟨.ref b,⟨b,rfl,hb⟩,rfl⟩
theorem Mx.keep {P:Program} {w:World} {H':Hp} (M:Mx P w H d kvs es ep) (ho:H' d = some (DM d es ep)) (ht:∀ c ys,H c = some (.tup ys)→H' c = some (.tup ys)):Mx P w H' d kvs es ep:=by
  refine { M with o:=ho,r:=Paired.mapP M.r fun p e hpe=>⟨?_,hpe.2⟩ }
  obtain ⟨k1,v⟩:=p
  cases k1 with
  | inl x=>exact hpe.1
  | inr ks=>obtain ⟨b,e1,hb⟩:=hpe.1; exact ⟨b,e1,ht _ _ hb⟩
theorem Mx.same {P:Program} {w:World} {H':Hp} (M:Mx P w H d kvs es ep) (s:Same H H'):Mx P w H' d kvs es ep:=M.keep (s.get M.o) fun c ys e=>s.get e
theorem d_getM {Q:Value→Shared→Prop} {v:V} (hu:A.units + 1 < cLine) (I:Inv X pins σ H s) (M:Mx X.prog X.w H d kvs es ep) (hk:mkIs H k u) (hv:mkVal kvs k = some v) (h:∀ w' s',Inv X pins σ H s'→RelV v w'→Q w' s'):wpAny (model X.prog X.w) A (getItem (.ref d) u) Q E s:=by
  have T:=M.at I
  have hu1:A.in1.units < cLine:=hu
  unfold getItem
  refine wpAny_holding (wpAny_bind (wpAny_sequenceKey T.ty (by decide) ?_))
  refine wpAny_bind (wpAny_callSpecial?_slot (name:=Str.ofString "__getitem__") T.ty slot_dict_getitem (wpAny_call_entry slot_dict_getitem T.ty entry_dict_getitem ?_ (args_dict_getitem _ _)))
  show wpAny _ _ (dictGet d u >>= _) _ _ s
  unfold dictGet
  obtain ⟨o,ho,hc,hx⟩:=id T
  refine wpAny_bind (wpAny_holding (wpAny_bind (mk_hash hu1 I hk fun tk=>wpAny_bind ?_)))
  have I1:Inv X pins σ H { s with toks:=tk }:=I.tok _
  refine find_by (s:={ s with toks:=tk }) (mk_fits hu1 I1 M hk) ho hx (fun hn=>?_) fun i hi hq=>?_
  · have hn':∀ i,i < kvs.length→decide ((kvs[i]?).map (·.1) = some k) = false:=fun i hi=>hn i (by rw [M.len]; exact hi)
    rw [mkVal_none hn'] at hv
    cases hv
  · have hi':i < kvs.length:=by rw [← M.len]; exact hi
    have e1:=of_decide_eq_true hq
    obtain ⟨p,hp,_,_,rv⟩:=paired_at M.r (i:=i) (y:=es[i]) (by rw [Array.getElem?_toList]; exact Array.getElem?_eq_getElem hi)
    rw [hp] at e1
    have e2:p.1 = k:=Option.some.inj e1
    have hv':=mkVal_at M.n hp
    rw [e2,hv] at hv'
    cases hv'
    dsimp only
    refine wpAny_bind (wpAny_dictEntries ho hx (wpAny_pure ?_))
    rw [Array.getElem?_eq_getElem hi]
    exact wpAny_pure ⟨_,rfl,wpAny_pure (h _ _ I1 rv)⟩
def tDNewM (P:Program) (w:World):TE:=fun _ H Q=>∀ d,H d = none→∀ ep H',(∀ b,b≠d→H' b = H b)→Mx P w H' d [] #[] ep→Q (.ref d) H'
theorem pe_dnewM {P:Program} {w:World} {pos:Pos} (hP:X.prog = P) (hw:X.w = w):PE X (.Dict [] [] pos) (tDNewM P w):=by
  subst hP hw
  intro pins s σ H Q I h
  have hf:=I.hok.fresh (Nat.le_refl s.heap.objs.size)
  have hs:(s.heap.objs.size == sysModules) = false:=beq_eq_false_iff_ne.mpr (Ne.symm (Nat.ne_of_lt I.big))
  have E0:Ents (s.heap.push { cls:=.type "dict",data:=.dict #[] }) s.heap.objs.size #[] 0:=⟨_,Heap.get?_push_size _ rfl,⟨rfl,rfl,rfl⟩,rfl⟩
  exact wpAny_Dict_empty ⟨.ref s.heap.objs.size,_,I.laid (a:=s.heap.objs.size) (o:=DM s.heap.objs.size #[] 0) (t':=s.toks) (fun _ _ q=>Heap.get?_push_of_some _ q) (Nat.le_refl _) ⟨E0,⟨_,Heap.get?_push_size _ rfl⟩,fun h1 h2 e kk=>e.at kk⟩,rfl,h _ hf 0 _ (fun b hb=>upd_ne hb) ⟨upd_same,hs,Nat.zero_le _,.nil,List.nodup_nil⟩⟩
def tDSetM (P:Program) (w:World) (td ty tx:TE):TE:=fun σ H Q=>td σ H fun x H1=>∃ a kvs1 es1 ep1,x = .ref a∧Mx P w H1 a kvs1 es1 ep1∧ty σ H1 fun y H2=>tx σ H2 fun z H3=>∃ kvs es ep k,Mx P w H3 a kvs es ep∧mkX H3 k y∧kvs.length < sizeLine∧(∀ v,mkVal kvs k = some v→Q v H3)∧
  (mkVal kvs k = none→∀ es' ep' H',(∀ b,b≠a→H' b = H3 b)→Mx P w H' a (kvs ++ [(k,z)]) es' ep'→Q z H')
theorem pe_dsetM {P:Program} {w:World} {o e f:Expr} {td ty tx:TE} {apos cpos:Pos} (hP:X.prog = P) (hw:X.w = w) (hu:X.A.units + 1 < cLine) (ho:PE X o td) (he:PE X e ty) (hf:PE X f tx) (m:M2 X o "setdefault" apos e f cpos):PE X (.Call (.Attribute o "setdefault" apos) [e,f] [] cpos) (tDSetM P w td ty tx):=by
  subst hP hw
  intro pins s σ H Q I h
  refine wpAny_Call_method m.base m.few m.line PySem.F.plainAttrs_dict PySem.F.slot_dict_setdefault PySem.F.type_dict_setdefault (thn (ho pins s σ H _ I h) fun u s1 ⟨x,H1,I1,rx,a,kvs1,es1,ep1,ex,M1,q1⟩=>?_)
  subst ex
  obtain rfl:u = Value.ref a:=rx
  obtain ⟨o1,h1,h2,_⟩:=M1.at I1
  refine ⟨(M1.at I1).ty,fun b q=>?_,?_⟩
  · cases q
    exact ⟨o1,h1,h2.2.1⟩
  rw [m.trees]
  refine Calls.callWith_builtin rfl (Calls.evalArgs_plain (Calls.spliced_cons (thn (he pins s1 σ H1 _ I1 q1) fun iv s2 ⟨y,H2,I2,ry,q2⟩=>Calls.spliced_cons (thn (hf pins s2 σ H2 _ I2 q2) fun r s3 ⟨z,H3,I3,rz,kvs,es,ep,k,M,hk,hl,q3,q4⟩=>Calls.spliced_nil ?_))))
  exact d_setdefM hu I3 M (hk.is ry) rz hl (fun v w' s' hv I' rw'=>⟨v,H3,I',rw',q3 v hv⟩) fun hv es' ep' s' I' M'=>⟨z,_,I',rz,q4 hv es' ep' _ (fun b hb=>upd_ne hb) M'⟩
def tDGetM (P:Program) (w:World) (td ty:TE):TE:=fun σ H Q=>td σ H fun x H1=>ty σ H1 fun y H2=>∃ a kvs es ep k v,x = .ref a∧Mx P w H2 a kvs es ep∧mkX H2 k y∧mkVal kvs k = some v∧Q v H2
theorem pe_dgetM {P:Program} {w:World} {o i:Expr} {td ty:TE} {pos:Pos} (hP:X.prog = P) (hw:X.w = w) (hu:X.A.units + 1 < cLine) (ho:PE X o td) (hi:PE X i ty) (hs:NoSl i):PE X (.Subscript o i pos) (tDGetM P w td ty):=by
  subst hP hw
  intro pins s σ H Q I h
  refine subD_of PySem.F.slot_dict_getitem.lookup hs (thn (ho pins s σ H _ I h) fun u s1 ⟨x,H1,I1,rx,q1⟩=>thn (hi pins s1 σ H1 _ I1 q1) fun iv s2 ⟨y,H2,I2,ry,a,kvs,es,ep,k,v,ex,M,hk,hv,q2⟩=>?_)
  subst ex
  obtain rfl:u = Value.ref a:=rx
  exact ⟨(M.at I2).ty,d_getM hu I2 M (hk.is ry) hv fun w' s3 I3 rw'=>⟨v,H2,I3,rw',q2⟩⟩
def ItM (P:Program) (w:World) (d:Addr) (kvs:List (MK×V)) (es:Array DictEntry) (ep:Nat):It:=
  ⟨fun i H=>Mx P w H d kvs es ep∧i < kvs.length,fun i H x H'=>H' = H∧∃ k v,kvs[i]? = some (k,v)∧mkX H k x,fun i H=>Mx P w H d kvs es ep∧kvs.length≤i⟩
theorem turn_keysM {P:Program} {w:World} {K:PySem.W.Frag} {tg:Expr} (d it:Addr) (kvs:List (MK×V)) (es:Array DictEntry) (ep:Nat):Turn P w K tg (ItM P w d kvs es ep) [it] it (fun i h=>h.IsKeyIter it d i kvs.length ep) where
  mem:=by simp
  obj:=fun i h st b hb=>by
    cases (show b = it by simpa using hb)
    obtain ⟨q,e,c,x⟩:=st
    exact ⟨q,e,fun v z=>by rw [x] at z; cases z⟩
  keep:=fun i h h' st k=>st.at fun o e=>k it (by simp) o e
  item:=by
    intro X hP hw hK hc i pins s σ H E I hf st ⟨M,hi⟩
    subst hP hw hK
    have n:=M.len
    obtain ⟨f0,f1,f2,f3,f4,f5⟩:=hf it (by simp)
    obtain ⟨p,hp,hk,_,_⟩:=paired_at M.r (i:=i) (y:=es[i]'(by omega)) (by rw [Array.getElem?_toList]; exact Array.getElem?_eq_getElem _)
    obtain ⟨y,hy,ry⟩:=hk.x
    rw [← n] at st
    refine ents_next st (M.at I) (by omega) fun h' st' k=>?_
    have I1:Inv X pins σ H { s with heap:=h' }:=I.turned (t':=s.toks) (fun b o hb e=>k b o hb e) f0 f1 f3 f4 f5
    rw [n] at st'
    obtain ⟨o2,a1,a2,a3⟩:=id st'
    exact ⟨_,rfl,go_of (s:={ s with heap:=h' }) a1 a2 a3 (by decide) ⟨y,H,I1,ry,⟨rfl,p.1,p.2,hp,hy⟩,st',fun b hb=>(hf b hb).1⟩⟩
  done:=by
    intro X hP hw hK hc i pins s σ H E I hf st ⟨M,hi⟩
    subst hP hw hK
    have n:=M.len
    obtain ⟨f0,f1,f2,f3,f4,f5⟩:=hf it (by simp)
    rw [← n] at st
    exact ents_end (I.ok.hd hc) st (M.at I) (by omega) fun h' k=>⟨rfl,I.turned (t':=s.toks) (fun b o hb e=>k b o hb e) f0 f1 f3 f4 f5⟩
  self:=fun _ _ _ _ _ st h=>wpAny_pyIter_keyiter st h
def iKeysM (P:Program) (w:World) (tl:TE):TI:=fun σ H R=>tl σ H fun x H1=>∃ d kvs es ep,x = .ref d∧Mx P w H1 d kvs es ep∧R (ItM P w d kvs es ep) H1
theorem pi_keysM {P:Program} {w:World} {l tg:Expr} {tl:TE} (hP:X.prog = P) (hw:X.w = w) (hl:PE X l tl):PI X tg l (iKeysM P w tl):=by
  subst hP hw
  intro pins s σ H R I h
  refine thn (hl pins s σ H _ I h) fun v s1 ⟨x,H1,I1,r1,d,kvs,es,ep,e,M,q⟩=>?_
  subst e
  cases r1
  refine ents_iter M.m (M.at I1) ⟨s1.heap.objs.size,[s1.heap.objs.size],_,_,_,rfl,I1.kept (t':=s1.toks) fun b o e=>Heap.get?_push_of_some _ e,turn_keysM d _ kvs es ep,⟨_,Heap.get?_push_size _ rfl,rfl,by rw [M.len]; rfl⟩,fun b hb=>?_,q⟩
  cases (show b = s1.heap.objs.size by simpa using hb)
  exact I1.fpOk (Nat.le_refl _) (I1.hok.fresh (Nat.le_refl _))
theorem call_lenM {P:Program} {w:World} (hP:X.prog = P) (hw:X.w = w):CallR X (.builtin "len") (fun xs H Q=>∃ (d:Addr) (kvs:List (MK×V)) (es:Array DictEntry) (ep:Nat),xs = [.ref d]∧Mx P w H d kvs es ep∧Q (.int kvs.length) H):=by
  subst hP hw
  intro pins s σ H xs us Q I r h
  obtain ⟨d,kvs,es,ep,rfl,M,q⟩:=h
  obtain ⟨u,rfl,ru⟩:=vals1 r
  cases ru
  have x:=M.at I
  have n:=M.len
  have hz:=M.z
  obtain ⟨o,ho,_,hx⟩:=id x
  rw [sizeLine_eq] at hz
  refine Calls.call_function_entry kind_len plain_len entry_len (args_len1 _) (wpAny_bind (m:=oneArg "len" _) (wpAny_pure (wpAny_bind (m:=callSpecial? (.ref d) (Str.ofString "__len__")) (wpAny_callSpecial?_slot (name:=Str.ofString "__len__") x.ty PySem.F.slot_dict_len
    (wpAny_call_entry PySem.F.slot_dict_len x.ty PySem.F.entry_dict_len ?_ (PySem.F.args_dict_len_1 _))))))
  refine wpAny_bind (m:=dictSize d) (wpAny_bind (wpAny_dictEntries ho hx (wpAny_pure (wpAny_bind (m:=Builtin.Dict.pendingCount d) (wpAny_pendingCount_other M.m (wpAny_ret_mkInt ?_))))))
  rw [show ((es.size:Int) + ((0:Nat):Int)) = (kvs.length:Int) by rw [n]; omega]
  refine wpAny_bind (wpAny_holding (wpAny_pure (wpAny_bind (wpAny_letGo ?_))))
  change wpAny _ _ (if ((kvs.length:Nat):Int) < 0 then _ else if ((kvs.length:Nat):Int) ≥ 2 ^ 63 then _ else _) _ _ _
  rw [if_neg (by omega),if_neg (by omega)]
  exact wpAny_bind (wpAny_mkInt (wpAny_pure ⟨_,rfl,.int kvs.length,H,I.tok _,⟨_,rfl⟩,q⟩))
end
end L2
namespace L2
section
open PySem PySem.Calls PyProof.Rows
variable {prog:Program} {w:World} {A:Around} {E:Value→Shared→Prop} {s:Shared}
theorem ints_at:∀ {vs:List Value} {ns:List Int},IntsAre vs ns→∀ (i:Nat) (v:Value),vs[i]? = some v→∃ n t,v = .int n t∧ns[i]? = some n
  | _,_,.nil,i,v,h=>by simp at h
  | _,_,.cons n t h,0,v,e=>by
    simp at e
    exact ⟨n,t,e.symm,rfl⟩
  | _,_,.cons n t h,i + 1,v,e=>by
    obtain ⟨m,u,h1,h2⟩:=ints_at h i v (by simpa using e)
    exact ⟨m,u,h1,by simpa using h2⟩
theorem ints_new {led:Bool} {h:Heap} {a:Addr} {ns:List Int} (e:h.get? a = some { cls:=.type "set",dict:=none,data:=.set #[] 0 (.fresh 0 0 led) }):h.SetOf (intKind prog w) a (fun k=>decide (k∈ns.take 0)) 0:=
  ⟨_,#[],0,_,e,⟨rfl,rfl,rfl⟩,rfl,(fun _ hx=>nomatch hx),fun k=>by simp,by unfold scanBound; decide,rfl,rfl⟩
theorem take_new {ns:List Int} (nd:ns.Nodup) {i:Nat} {n:Int} (h:ns[i]? = some n):n ∉ ns.take i:=fun hm=>by
  obtain ⟨j,hj,e⟩:=List.getElem_of_mem hm
  have hi:=(List.getElem?_eq_some_iff.mp h).1
  rw [List.length_take] at hj
  rw [List.getElem_take] at e
  have e2:ns[i] = n:=(List.getElem?_eq_some_iff.mp h).2
  exact List.pairwise_iff_getElem.mp nd j i (by omega) hi (by omega) (e.trans e2.symm)
theorem fill_ints {R:Result→Shared→Prop} {I S:Addr} {fp:List Addr} {vs:List Value} {ns:List Int} {St:Nat→Heap→Prop} (W:Walks prog w A.in1 I fp [I] vs.length (fun i v=>vs[i]? = some v) St) (nS:S ∉ fp) (hs:IntsAre vs ns) (nd:ns.Nodup) (hb:vs.length + 1 < scanBound) :
    ∀ (k i:Nat) (s:Shared),vs.length - i = k→i≤vs.length→St i s.heap→s.heap.SetOf (intKind prog w) S (fun k=>decide (k∈ns.take i)) i→
      (∀ h' tk,(∀ b o,b ∉ [S,I]→s.heap.get? b = some o→h'.get? b = some o)→h'.SetOf (intKind prog w) S (fun k=>decide (k∈ns)) ns.length→R (.ok (.ret .none)) { s with heap:=h',toks:=tk })→codeAny (model prog w) A (.builtin "set.update.loop" ⟨[.ref S,.ref I],[]⟩) R s:=by
  have nI:S ∉ [I]:=fun z=>nS (W.sub _ z)
  have ln:vs.length = ns.length:=IntsAre.length hs
  have keep:∀ {f:Int→Bool} {n:Nat} {h h':Heap},h.SetOf (intKind prog w) S f n→(∀ o,h.get? S = some o→h'.get? S = some o)→h'.SetOf (intKind prog w) S f n:=fun {f n h h'} ⟨o,es,ep,t,ho,r⟩ k=>⟨o,es,ep,t,k o ho,r⟩
  intro k
  induction k with
  | zero=>
    intro i s hk hi st T q
    have e:i = vs.length:=by omega
    subst e
    refine codeAny_builtin PyProof.Rows.F.entry_set_update_loop ?_
    rw [Around.under_plainId PyProof.Rows.F.plain_set_update_loop _]
    refine wpAny_bind (m:=pyNext (.ref I)) (W.done s _ _ st fun h' tk k'=>?_)
    rw [ln,List.take_length] at T
    exact wpAny_pure (q h' tk (fun b o n e=>k' b o (fun z=>n (List.mem_cons_of_mem _ z)) e) (keep T fun o e=>k' S o nI e))
  | succ k ih=>
    intro i s hk hi st T q
    have lt:i < vs.length:=by omega
    refine codeAny_builtin PyProof.Rows.F.entry_set_update_loop ?_
    rw [Around.under_plainId PyProof.Rows.F.plain_set_update_loop _]
    refine wpAny_bind (m:=pyNext (.ref I)) (W.item i s _ _ lt st fun v h' tk hv st' k'=>?_)
    obtain ⟨x,t,rfl,hx⟩:=ints_at hs i v hv
    have hkey:(intKind prog w).is x (.int x t) = true:=by show Value.isInt x (.int x t) = true; simp [Value.isInt]
    refine wpAny_bind (m:=holding [Value.int x t] (setAdd S (.int x t))) (wpAny_holding ?_)
    unfold setAdd
    refine wpAny_holding (wpAny_bind ((intKind prog w).pyHash hkey ?_))
    refine wpAny_setAddHashed_of hkey rfl (keep T fun o e=>k' S o nI e) (by omega) fun h2 sb T2=>?_
    have new:=take_new nd hx
    have e1:(if decide (x∈ns.take i) = true then i else i + 1) = i + 1:=by rw [if_neg (by simpa using new)]
    rw [e1] at T2
    have e2:(fun k'=>decide (k'∈ns.take i) || decide (k' = x)) = fun k'=>decide (k'∈ns.take (i + 1)):=by
      funext k'
      rw [List.take_add_one,hx,Bool.eq_iff_iff]
      simp
    rw [e2] at T2
    refine wpAny_pure ⟨plainId_quiet PyProof.Rows.F.plain_set_update_loop _,ih (i + 1) _ (by omega) lt (W.frame _ _ _ st' fun b hb o e=>?_) T2 fun h3 tk3 k3 T3=>?_⟩
    · rw [sb.2 b (fun z=>nS (z ▸ hb))]; exact e
    · refine q h3 tk3 (fun b o n e=>k3 b o n ?_) T3
      rw [sb.2 b (fun z=>n (by simp [z]))]
      exact k' b o (fun z=>n (List.mem_cons_of_mem _ z)) e
theorem set_ints {lq:Addr} {vs:List Value} {ns:List Int} {Q:Value→Shared→Prop} (hh:A.handled = none) (hl:s.heap.IsList lq vs.toArray) (hs:IntsAre vs ns) (nd:ns.Nodup) (hb:vs.length + 1 < scanBound)
    (q:∀ h' tk,(∀ b o,s.heap.get? b = some o→h'.get? b = some o)→h'.SetOf (intKind prog w) s.heap.objs.size (fun k=>decide (k∈ns)) ns.length→Q (.ref s.heap.objs.size) { s with heap:=h',toks:=tk }):wpAny (model prog w) A (call (.type "set") [.ref lq]) Q E s:=by
  obtain ⟨c,tl,hmro⟩:=PySem.F.called_set.mro
  have hmade:=PySem.F.called_set.made
  have hsub:=PySem.F.called_set.sub
  refine wpAny_call (codeAny_of_tree (wpAny_pure ⟨Code.quiet_builtin _ (by decide +kernel),codeAny_builtin PySem.F.entry_type_call ?_⟩))
  rw [Around.under_plain (weight_type_call_type "set" [.ref lq] []) rfl]
  have h1:=PySem.F.called_set.notType
  have h2:=PySem.F.called_set.canCreate
  have hct:=PySem.F.typeCall_set_1 (.ref lq)
  repeat (any_goals (first | assumption | wp_step))
  refine codeAny_mono (set_made (.ref lq) (E:=E) (Q₁:=fun obj s₁=>obj = .ref s.heap.objs.size∧s₁ = { s with heap:=s.heap.push { cls:=.type "set",dict:=none,data:=.set #[] 0 (.fresh 0 0 (!ByText w)) } }) ⟨rfl,rfl⟩) fun r s₁ hr=>?_
  match r,hr with
  | .error e,hr=>exact hr
  | .ok (.ret obj),hr=>
    obtain ⟨rfl,rfl⟩:=hr
    have hS:(s.heap.push { cls:=.type "set",dict:=none,data:=.set #[] 0 (.fresh 0 0 (!ByText w)) }).get? s.heap.objs.size = some { cls:=.type "set",dict:=none,data:=.set #[] 0 (.fresh 0 0 (!ByText w)) }:=Heap.get?_push_size _ rfl
    have hT:Shared.TypeIs { s with heap:=s.heap.push { cls:=.type "set",dict:=none,data:=.set #[] 0 (.fresh 0 0 (!ByText w)) } } (.ref s.heap.objs.size) "set":=⟨_,hS,rfl⟩
    have hli:=PySem.F.called_set.init.lookup
    have hbi:=PySem.F.called_set.init.bind (.ref s.heap.objs.size)
    repeat (any_goals (first | assumption | wp_step))
    refine codeAny_mono (codeAny_call_builtin (R:=wants (fun r s₂=>r = .none∧∃ h' tk,s₂ = { s with heap:=h',toks:=tk }∧(∀ b o,s.heap.get? b = some o→h'.get? b = some o)∧h'.SetOf (intKind prog w) s.heap.objs.size (fun k=>decide (k∈ns)) ns.length) E) PySem.F.called_set.init.plain PySem.F.entry_set_init (check_set_init_1 hT ?_)) fun r₂ s₂ hr₂=>?_
    · obtain ⟨⟨cl,dl,tl,sl⟩,el,hcl,nl,hdl⟩:=hl
      simp only at hcl hdl
      subst hcl; subst hdl
      have el':=Heap.get?_push_of_some ({ cls:=.type "set",dict:=none,data:=.set #[] 0 (.fresh 0 0 (!ByText w)) }:Obj) el
      have lt:lq < s.heap.objs.size:=Heap.lt_size el
      have l1:(s.heap.push { cls:=.type "set",dict:=none,data:=.set #[] 0 (.fresh 0 0 (!ByText w)) }).IsList lq vs.toArray:=⟨_,el',rfl,nl,rfl⟩
      have n1:=PySem.F.sub_list_set
      have n2:=PySem.F.sub_list_frozenset
      have n3:(Value.type "list" == Value.type "dict") = false:=by decide
      unfold Builtin.«set.__init__» Builtin.Frozenset.updateFrom noKeywords
      generalize ePI:pyIter = PI
      wp_walk
      subst ePI
      refine wpAny_pyIter_list l1 (wpAny_bind (wpAny_runValue ?_))
      have nI:lq≠(s.heap.push { cls:=.type "set",dict:=none,data:=.set #[] 0 (.fresh 0 0 (!ByText w)) }).objs.size:=by rw [Heap.size_push]; exact Nat.ne_of_lt (Nat.lt_succ_of_lt lt)
      have nS:s.heap.objs.size ∉ [(s.heap.push { cls:=.type "set",dict:=none,data:=.set #[] 0 (.fresh 0 0 (!ByText w)) }).objs.size,lq]:=by
        rw [Heap.size_push]
        simp only [List.mem_cons,List.not_mem_nil,or_false,not_or]
        exact ⟨Nat.ne_of_lt (Nat.lt_succ_self _),Nat.ne_of_gt lt⟩
      have hA:A.in1.in1.in1.handled = none:=by simp [hh]
      have W:=Walks.list (prog:=prog) (w:=w) hA (s.heap.push { cls:=.type "set",dict:=none,data:=.set #[] 0 (.fresh 0 0 (!ByText w)) }).objs.size lq nI vs.toArray
      have W2:Walks prog w A.in1.in1.in1 (s.heap.push { cls:=.type "set",dict:=none,data:=.set #[] 0 (.fresh 0 0 (!ByText w)) }).objs.size [(s.heap.push { cls:=.type "set",dict:=none,data:=.set #[] 0 (.fresh 0 0 (!ByText w)) }).objs.size,lq] [(s.heap.push { cls:=.type "set",dict:=none,data:=.set #[] 0 (.fresh 0 0 (!ByText w)) }).objs.size] vs.length (fun i v=>vs[i]? = some v) (fun i h=>h.IsListIter (s.heap.push { cls:=.type "set",dict:=none,data:=.set #[] 0 (.fresh 0 0 (!ByText w)) }).objs.size lq i∧h.IsList lq vs.toArray):=by
        simpa only [List.size_toArray,List.getElem?_toArray] using W
      refine fill_ints W2 nS hs nd hb vs.length 0 _ (by omega) (Nat.zero_le _) ⟨⟨_,Heap.get?_push_size _ rfl,rfl,rfl⟩,l1.push _⟩ (ints_new (Heap.get?_push_of_some _ hS)) fun h' tk k' T=>?_
      refine wpAny_pure (wpAny_pure ⟨rfl,h',tk,rfl,fun b o e=>k' b o (fun z=>?_) (Heap.get?_push_of_some _ (Heap.get?_push_of_some _ e)),T⟩)
      have lb:=Heap.lt_size e
      rw [Heap.size_push] at z
      simp only [List.mem_cons,List.not_mem_nil,or_false] at z
      rcases z with rfl | rfl
      · exact absurd lb (Nat.lt_irrefl _)
      · exact absurd lb (Nat.not_lt.mpr (Nat.le_succ _))
    · match r₂,hr₂ with
      | .error e,hr₂=>exact hr₂
      | .ok (.ret r),hr₂=>
        obtain ⟨rfl,h',tk,rfl,k',T⟩:=hr₂
        repeat (any_goals (first | assumption | wp_step))
        exact q _ _ k' T
      | .ok .next,hr₂=>exact hr₂.elim
end
section
open PySem PySem.Calls PySem.Spec PyProof.Rows
variable {X:Cx}
def rSetI (K:PySem.W.Frag):List V→Hp→VK→Prop:=fun xs H Q=>∃ (a:Addr) (ns:List Int),xs = [.ref a]∧SqL K H a (ns.map V.int)∧ns.length≤1000∧ns.Nodup∧∀ p,H p = none→Q (.ref p) (upd H p (.set (fun k=>decide (k∈ns)) ns.length))
theorem call_setI {K:PySem.W.Frag} (hK:X.K = K) (hc:X.calm = true):CallR X (.type "set") (rSetI K):=by
  subst hK
  intro pins s σ H xs us Q I r h
  obtain ⟨a,ns,rfl,h1,few,nd,q⟩:=h
  obtain ⟨u,rfl,ru⟩:=vals1 r
  cases ru
  obtain ⟨its,r1,p1,_⟩:=I.list h1
  have hs:=intsAre_of r1
  have ln:=IntsAre.length hs
  refine set_ints (I.ok.hd hc) p1.isList hs nd (by rw [ln]; unfold scanBound; omega) fun h' tk k T=>⟨.ref s.heap.objs.size,_,I.laid (t':=tk) k (Nat.le_refl _) (?_:ObjOk X.prog X.w _ h' _ (.set (fun k=>decide (k∈ns)) ns.length)),rfl,q _ (I.hok.fresh (Nat.le_refl _))⟩
  exact T
theorem call_lenSet:CallR X (.builtin "len") (fun xs H Q=>∃ (a:Addr) (f:Int→Bool) (n:Nat),xs = [.ref a]∧H a = some (.set f n)∧Q (.int n) H):=by
  intro pins s σ H xs us Q I r h
  obtain ⟨a,f,n,rfl,h1,q⟩:=h
  obtain ⟨u,rfl,ru⟩:=vals1 r
  cases ru
  obtain ⟨o,es,ep,t,ho,hex,hd,_,_,hb,hf,hn⟩:=(show ObjOk X.prog X.w H s.heap a (.set f n) from I.hok a _ h1)
  have hb':es.size < 4096:=hb
  refine Calls.call_function_entry kind_len plain_len entry_len (args_len1 _) (wpAny_len_body_set ho hex hd hf (by omega) ?_)
  rw [hn]
  exact ⟨.int n,H,(I.tok _),⟨_,rfl⟩,q⟩
end
end L2
namespace M06
def wsum:Nat→List Int→Int
  | _,[]=>0
  | k,x :: xs=>x * ((k:Int) + 1) + wsum (k + 1) xs
def mk (ns:List Int):Int:=wsum 0 ns % 2147483647
def co (r:List Int) (i:Nat):Int:=if i + 1 = r.length then -1 else (i:Int) + 1
end M06
set_option maxHeartbeats 4000000
namespace K29
open PySem L2 M06
def top (i:Nat):Stmt:=PySem.Challenge.pw_stemshelf_k29_alike_by_words.main.body.getD i (.Pass ⟨0,0,0,0⟩)
abbrev s_is_whole:Stmt:=top 2
theorem sc_is_whole:FnScope ["thing"] ["thing"] (defScope s_is_whole):=⟨rfl,rfl,rfl,by decide +kernel,rfl,by decide +kernel,by decide +kernel⟩
abbrev s_is_between:Stmt:=top 3
theorem sc_is_between:FnScope ["thing","least","most"] ["thing","least","most"] (defScope s_is_between):=⟨rfl,rfl,rfl,by decide +kernel,rfl,by decide +kernel,by decide +kernel⟩
abbrev s_number_of:Stmt:=top 7
theorem sc_number_of:FnScope ["sign"] ["sign"] (defScope s_number_of):=⟨rfl,rfl,rfl,by decide +kernel,rfl,by decide +kernel,by decide +kernel⟩
abbrev s_is_text:Stmt:=top 9
theorem sc_is_text:FnScope ["thing","least","most"] ["thing","least","most"] (defScope s_is_text):=⟨rfl,rfl,rfl,by decide +kernel,rfl,by decide +kernel,by decide +kernel⟩
abbrev s_words_of:Stmt:=top 24
theorem sc_words_of:FnScope ["thing","words","part"] ["thing"] (defScope s_words_of):=⟨rfl,rfl,rfl,by decide +kernel,rfl,by decide +kernel,by decide +kernel⟩
abbrev s_is_name:Stmt:=top 44
theorem sc_is_name:FnScope ["thing"] ["thing"] (defScope s_is_name):=⟨rfl,rfl,rfl,by decide +kernel,rfl,by decide +kernel,by decide +kernel⟩
abbrev s_sum_of:Stmt:=top 50
theorem sc_sum_of:FnScope ["block","total","number"] ["block"] (defScope s_sum_of):=⟨rfl,rfl,rfl,by decide +kernel,rfl,by decide +kernel,by decide +kernel⟩
abbrev s_numbers_told:Stmt:=top 51
theorem sc_numbers_told:FnScope ["block","told","name","kind","tag"] ["block"] (defScope s_numbers_told):=⟨rfl,rfl,rfl,by decide +kernel,rfl,by decide +kernel,by decide +kernel⟩
abbrev s_size_of:Stmt:=top 52
theorem sc_size_of:FnScope ["block"] ["block"] (defScope s_size_of):=⟨rfl,rfl,rfl,by decide +kernel,rfl,by decide +kernel,by decide +kernel⟩
abbrev s_tags_in:Stmt:=top 53
theorem sc_tags_in:FnScope ["block"] ["block"] (defScope s_tags_in):=⟨rfl,rfl,rfl,by decide +kernel,rfl,by decide +kernel,by decide +kernel⟩
abbrev s_TakenCell_init:Stmt:=inClass (top 63) 0
theorem sc_TakenCell_init:FnScope ["self","own_tag","block"] ["self","own_tag","block"] (defScope s_TakenCell_init):=⟨rfl,rfl,rfl,by decide +kernel,rfl,by decide +kernel,by decide +kernel⟩
abbrev s_Pool_init:Stmt:=inClass (top 64) 0
theorem sc_Pool_init:FnScope ["self","boards"] ["self","boards"] (defScope s_Pool_init):=⟨rfl,rfl,rfl,by decide +kernel,rfl,by decide +kernel,by decide +kernel⟩
abbrev s_Pool_put:Stmt:=inClass (top 64) 1
theorem sc_Pool_put:FnScope ["self","block","birth","found","tag"] ["self","block","birth"] (defScope s_Pool_put):=⟨rfl,rfl,rfl,by decide +kernel,rfl,by decide +kernel,by decide +kernel⟩
abbrev s_Pool_alike:Stmt:=inClass (top 64) 2
theorem sc_Pool_alike:FnScope ["self","block","unread","number","found"] ["self","block"] (defScope s_Pool_alike):=⟨rfl,rfl,rfl,by decide +kernel,rfl,by decide +kernel,by decide +kernel⟩
abbrev s_Pool_free_number:Stmt:=inClass (top 64) 3
theorem sc_Pool_free_number:FnScope ["self"] ["self"] (defScope s_Pool_free_number):=⟨rfl,rfl,rfl,by decide +kernel,rfl,by decide +kernel,by decide +kernel⟩
abbrev s_Pool_take:Stmt:=inClass (top 64) 4
theorem sc_Pool_take:FnScope ["self","tag","block","cell","same_sum","named"] ["self","tag","block"] (defScope s_Pool_take):=⟨rfl,rfl,rfl,by decide +kernel,rfl,by decide +kernel,by decide +kernel⟩
abbrev s_Pool_entries_of:Stmt:=inClass (top 64) 5
theorem sc_Pool_entries_of:FnScope ["self","folder"] ["self","folder"] (defScope s_Pool_entries_of):=⟨rfl,rfl,rfl,by decide +kernel,rfl,by decide +kernel,by decide +kernel⟩
abbrev s_Pool_steps_of:Stmt:=inClass (top 64) 6
theorem sc_Pool_steps_of:FnScope ["self","folder","steps"] ["self","folder"] (defScope s_Pool_steps_of):=⟨rfl,rfl,rfl,by decide +kernel,rfl,by decide +kernel,by decide +kernel⟩
abbrev s_Pool_block:Stmt:=inClass (top 64) 7
theorem sc_Pool_block:FnScope ["self","tag"] ["self","tag"] (defScope s_Pool_block):=⟨rfl,rfl,rfl,by decide +kernel,rfl,by decide +kernel,by decide +kernel⟩
abbrev s_Pool_hold:Stmt:=inClass (top 64) 8
theorem sc_Pool_hold:FnScope ["self","tag","cell"] ["self","tag"] (defScope s_Pool_hold):=⟨rfl,rfl,rfl,by decide +kernel,rfl,by decide +kernel,by decide +kernel⟩
abbrev s_Pool_tag:Stmt:=inClass (top 64) 14
theorem sc_Pool_tag:FnScope ["self","number"] ["self","number"] (defScope s_Pool_tag):=⟨rfl,rfl,rfl,by decide +kernel,rfl,by decide +kernel,by decide +kernel⟩
abbrev s_Pool_entries:Stmt:=inClass (top 64) 18
theorem sc_Pool_entries:FnScope ["self","number"] ["self","number"] (defScope s_Pool_entries):=⟨rfl,rfl,rfl,by decide +kernel,rfl,by decide +kernel,by decide +kernel⟩
abbrev s_Pool_deep:Stmt:=inClass (top 64) 19
theorem sc_Pool_deep:FnScope ["self","number"] ["self","number"] (defScope s_Pool_deep):=⟨rfl,rfl,rfl,by decide +kernel,rfl,by decide +kernel,by decide +kernel⟩
abbrev s_Boards_init:Stmt:=inClass (top 68) 0
theorem sc_Boards_init:FnScope ["self","many"] ["self","many"] (defScope s_Boards_init):=⟨rfl,rfl,rfl,by decide +kernel,rfl,by decide +kernel,by decide +kernel⟩
abbrev s__law_row:Stmt:=top 71
theorem sc__law_row:FnScope ["_law_cell","_law_many","_law_found","_law_number","_law_k"] ["_law_cell","_law_many"] (defScope s__law_row):=⟨rfl,rfl,rfl,by decide +kernel,rfl,by decide +kernel,by decide +kernel⟩
abbrev s__law_signs:Stmt:=top 72
theorem sc__law_signs:FnScope [] [] (defScope s__law_signs):=⟨rfl,rfl,rfl,by decide +kernel,rfl,by decide +kernel,by decide +kernel⟩
abbrev s__law_sum:Stmt:=top 73
theorem sc__law_sum:FnScope ["_law_block","_law_told","_law_name","_law_kind","_law_tag","_law_number","_law_one"] ["_law_block"] (defScope s__law_sum):=⟨rfl,rfl,rfl,by decide +kernel,rfl,by decide +kernel,by decide +kernel⟩
abbrev s__law_pair:Stmt:=top 74
theorem sc__law_pair:FnScope ["_law_row_here","_law_signs_here","_law_ahead","_law_k","_law_behind","_law_one","_law_two","_law_other"] ["_law_row_here"] (defScope s__law_pair):=⟨rfl,rfl,rfl,by decide +kernel,rfl,by decide +kernel,by decide +kernel⟩
abbrev s_law:Stmt:=top 75
theorem sc_law:FnScope ["_law_script","_law_pool","_law_known","_law_cell","_law_row_here","_law_text","_law_tag","_law_line","_law_tags","_law_thing"] ["_law_script"] (defScope s_law):=⟨rfl,rfl,rfl,by decide +kernel,rfl,by decide +kernel,by decide +kernel⟩
structure Txt (K:PySem.W.Frag) (mg:Str→Option Value) (C_Boards:Addr) (C_TakenCell:Addr) (C_Pool:Addr) (XC:Nat→Addr):Prop where
  cl_Boards:Cls K C_Boards
  n_Boards_shelves:NoAttr K C_Boards "shelves"
  n_Boards_writes:NoAttr K C_Boards "writes"
  n_Boards_writes_left:NoAttr K C_Boards "writes_left"
  cl_TakenCell:Cls K C_TakenCell
  n_TakenCell_own_tag:NoAttr K C_TakenCell "own_tag"
  n_TakenCell_own_size:NoAttr K C_TakenCell "own_size"
  n_TakenCell_named:NoAttr K C_TakenCell "named"
  n_TakenCell_times_named:NoAttr K C_TakenCell "times_named"
  n_TakenCell_entries_beneath:NoAttr K C_TakenCell "entries_beneath"
  n_TakenCell_steps_beneath:NoAttr K C_TakenCell "steps_beneath"
  cl_Pool:Cls K C_Pool
  n_Pool_boards:NoAttr K C_Pool "boards"
  n_Pool_taken:NoAttr K C_Pool "taken"
  n_Pool_by_sums:NoAttr K C_Pool "by_sums"
  n_Pool_draft:NoAttr K C_Pool "draft"
  n_Pool_first_maybe_free:NoAttr K C_Pool "first_maybe_free"
  x_Lost:mg "Lost" = some (.ref (XC 0))
  b_abs:mg "abs" = none
  b_all:mg "all" = none
  b_bool:mg "bool" = none
  b_int:mg "int" = none
  b_isinstance:mg "isinstance" = none
  b_len:mg "len" = none
  b_list:mg "list" = none
  b_max:mg "max" = none
  b_range:mg "range" = none
  b_set:mg "set" = none
  b_sorted:mg "sorted" = none
  b_str:mg "str" = none
  b_sum:mg "sum" = none
  c_SIGNS:∃ t,mg "SIGNS" = some (.str (PySem.Str.ofString " !\"#$&'()*+,-./0123456789:;<=>?@ABCDEFGHIJKLMNOPQRSTUVWXYZ[\\]^_`abcdefghijklmnopqrstuvwxyz{|}~") t)
  c_NUMBER_WORD:∃ t,mg "NUMBER_WORD" = some (.int 0 t)
  c_TEXT_WORD:∃ t,mg "TEXT_WORD" = some (.int 1 t)
  c_TUPLE_WORD:∃ t,mg "TUPLE_WORD" = some (.int 2 t)
  c_PIECE:∃ t,mg "PIECE" = some (.int 0 t)
  c_ROW:∃ t,mg "ROW" = some (.int 1 t)
  c_FOLDER:∃ t,mg "FOLDER" = some (.int 2 t)
  c_FOLDER_ENTRY:∃ t,mg "FOLDER_ENTRY" = some (.int 2 t)
  c_NAME_SIGNS:∃ t,mg "NAME_SIGNS" = some (.str (PySem.Str.ofString "0123456789abcdefghijklmnopqrstuvwxyz") t)
  c_MOST_NAME_SIGNS:∃ t,mg "MOST_NAME_SIGNS" = some (.int 8 t)
  c_SUM_RESTS:∃ t,mg "SUM_RESTS" = some (.int 997 t)
  c_LEAST_BOARDS:∃ t,mg "LEAST_BOARDS" = some (.int 2 t)
  c_MOST_BOARDS:∃ t,mg "MOST_BOARDS" = some (.int 4 t)
abbrev SG:Str:=PySem.Str.ofString " !\"#$&'()*+,-./0123456789:;<=>?@ABCDEFGHIJKLMNOPQRSTUVWXYZ[\\]^_`abcdefghijklmnopqrstuvwxyz{|}~"
theorem sg_len:SG.cps.toList.length = 94:=by decide +kernel
theorem sg_find:∀ k:Nat,k < 94→PySem.Txt.find SG ⟨#[SG.cps.toList.getD k 0]⟩ = (k:Int):=by decide +kernel
section
variable {P:Program} {w:World} {K:PySem.W.Frag} {mg:Str→Option Value} {base:Heap} {f C_Boards C_TakenCell C_Pool:Addr} {XC:Nat→Addr} {fd:FuncData}
def sp_is_whole (K:PySem.W.Frag):Sp:=fun vs H Q _=>∃ v,vs = [v]∧Ok H v∧Q (.bl (wholeB H v)) H
theorem ok_is_whole (T:Txt K mg C_Boards C_TakenCell C_Pool XC) (F:Fun K "is_whole" "is_whole" s_is_whole f fd):FnOk P w K mg base CX0 1 f fd ["thing"] (sp_is_whole K):=by
  refine F.ok sc_is_whole (fun vs H Q E h=>?_) (fun cdv A outer s H vs Q E hr h=>?_)
  · obtain ⟨c,rfl,_⟩:=h
    rfl
  obtain ⟨v,rfl,ok,q⟩:=h
  refine ⟨_,(@pss_one _ _ _ (@ps_ret _ _ _ _ (@pe_and _ _ _ _ _ _ _ (@pe_callB _ _ _ _ _ _ _ _ _ call_isinst (by rfl) T.b_isinstance bt_isinstance (@pa_cons _ _ _ _ _ (pv 0) (@pa_cons _ _ _ _ _ (@pe_ty _ _ _ _ rfl T.b_int bt_int (by decide) (by decide)) (@pa_nil _) (by rfl)) (by rfl)) (by decide) (by decide) (by rfl) (by rfl)) (@pe_one _ _ _ _ _ (@pe_not _ _ _ _ (@pe_callB _ _ _ _ _ _ _ _ _ call_isinst (by rfl) T.b_isinstance bt_isinstance (@pa_cons _ _ _ _ _ (pv 0) (@pa_cons _ _ _ _ _ (@pe_ty _ _ _ _ rfl T.b_bool bt_bool (by decide) (by decide)) (@pa_nil _) (by rfl)) (by rfl)) (by decide) (by decide) (by rfl) (by rfl))))))),?_⟩
  exact tAndV_p _ _ (fun R q=>⟨_,rfl,_,_,_,_,rfl,ok.ty K,ok.kit K,q⟩) (fun _ R q=>⟨_,rfl,_,_,_,_,rfl,ok.ty K,ok.kit K,_,rfl,q⟩) q
def sp_is_between (K:PySem.W.Frag):Sp:=fun vs H Q _=>∃ v a b,vs = [v,.int a,.int b]∧Ok H v∧Q (.bl (betw a b v)) H
theorem ok_is_between (T:Txt K mg C_Boards C_TakenCell C_Pool XC) (F:Fun K "is_between" "is_between" s_is_between f fd) (D_is_whole:Def P w K mg base 1 "is_whole" ["thing"] (sp_is_whole K)):FnOk P w K mg base CX0 2 f fd ["thing","least","most"] (sp_is_between K):=by
  refine F.ok sc_is_between (fun vs H Q E h=>?_) (fun cdv A outer s H vs Q E hr h=>?_)
  · obtain ⟨v,a,b,rfl,_⟩:=h
    rfl
  obtain ⟨v,a,b,rfl,ok,q⟩:=h
  refine ⟨_,(@pss_one _ _ _ (@ps_ret _ _ _ _ (@pe_and _ _ _ _ _ _ _ (@pe_fn _ _ _ _ _ _ _ _ _ _ D_is_whole (hr.mono (by decide)) rfl (@pa_cons _ _ _ _ _ (pv 0) (@pa_nil _) (by rfl)) (by decide) (by rfl) (by rfl)) (@pe_one _ _ _ _ _ (@pe_chain _ _ _ _ _ _ _ _ _ _ _ _ op_le op_le (pv 1) (pv 0) (pv 2) (by with_unfolding_all rfl)))))),?_⟩
  refine tAndV_p (wholeB H v) (betw a b v) (fun R q=>⟨_,rfl,v,rfl,ok,q⟩) (fun hw R q=>?_) ?_
  · obtain ⟨i,rfl⟩:=whole_of ok hw
    refine ⟨_,rfl,_,rfl,_,_,rfl,rfl,_,rfl,?_⟩
    refine ite2 (fun c=>?_) (fun c=>?_)
    · have e:betw a b (.int i) = decide (i≤b):=by show (decide (a≤i) && decide (i≤b)) = _; rw [c]; rfl
      rw [e] at q
      exact ⟨_,rfl,_,_,rfl,rfl,q⟩
    · have e:betw a b (.int i) = false:=by show (decide (a≤i) && decide (i≤b)) = _; rw [Bool.eq_false_iff.mpr c]; rfl
      rw [e] at q
      exact q
  · cases hw:wholeB H v with
    | true=>exact q
    | false=>rw [betw_eq hw] at q; exact q
def allIn (t:Str) (z:Str):Bool:=(cod z).all fun c=>decide (c∈cod t)
def textB (a b:Int):V→Bool
  | .str z=>decide (a≤(z.length:Int)) && decide ((z.length:Int)≤b) && allIn SG z
  | _=>false
theorem textB_no {H:Hp} {v:V} {a b:Int} (h:isA (tyN H v) "str" = false):textB a b v = false:=by
  cases v with
  | str z=>exact absurd (show isA "str" "str" = false from h) (by decide)
  | _=>rfl
def sp_is_text (K:PySem.W.Frag):Sp:=fun vs H Q _=>∃ v a b,vs = [v,.int a,.int b]∧Ok H v∧∀ H',Same H H'→Q (.bl (textB a b v)) H'
theorem signs_all (t z:Str):((cod z).map fun c=>V.str ⟨#[c]⟩).map (fun v=>match v with | V.str y=>V.bl (!(Builtin.Str.occurrences t y 0 t.length 1).isEmpty) | _=>V.non) = ((cod z).map fun c=>decide (c∈cod t)).map V.bl:=by
  rw [List.map_map,List.map_map]
  refine List.map_congr_left fun c _=>?_
  show V.bl (!(Builtin.Str.occurrences t ⟨#[c]⟩ 0 t.length 1).isEmpty) = V.bl (decide (c∈cod t))
  rw [PySem.StrLaws.found_one]
theorem ok_is_text (T:Txt K mg C_Boards C_TakenCell C_Pool XC) (F:Fun K "is_text" "is_text" s_is_text f fd):FnOk P w K mg base CX0 1 f fd ["thing","least","most"] (sp_is_text K):=by
  refine F.ok sc_is_text (fun vs H Q E h=>?_) (fun cdv A outer s H vs Q E hr h=>?_)
  · obtain ⟨v,a,b,rfl,_⟩:=h
    rfl
  obtain ⟨v,a,b,rfl,ok,q⟩:=h
  refine ⟨_,(@pss_cons _ _ _ _ _ (@ps_if _ _ _ _ _ _ _ _ (@PW.pt _ _ _ (@pw_or _ _ _ _ _ _ _ (@pt_not _ _ _ _ (@pt_val _ _ _ (@pe_callB _ _ _ _ _ _ _ _ _ call_isinst (by rfl) T.b_isinstance bt_isinstance (@pa_cons _ _ _ _ _ (pv 0) (@pa_cons _ _ _ _ _ (@pe_ty _ _ _ _ rfl T.b_str bt_str (by decide) (by decide)) (@pa_nil _) (by rfl)) (by rfl)) (by decide) (by decide) (by rfl) (by rfl)) (by intro _; rfl))) (@pw_or1 _ _ _ _ (@pt_not _ _ _ _ (@pt_chain _ _ _ _ _ _ _ _ _ _ _ _ op_le op_le (pv 1) (@pe_callB _ _ _ _ _ _ _ _ _ call_len_str (by rfl) T.b_len bt_len (@pa_cons _ _ _ _ _ (pv 0) (@pa_nil _) (by rfl)) (by decide) (by decide) (by rfl) (by rfl)) (pv 2) (by with_unfolding_all rfl)))))) (@pss_one _ _ _ (@ps_ret _ _ _ _ (@pe_bl _ _ _ _))) (@pss_nil _)) (@pss_one _ _ _ (@ps_ret _ _ _ _ (@pe_callB _ _ _ _ _ _ _ _ _ (call_all rfl) (by rfl) T.b_all bt_all (@pa_cons _ _ _ _ _ (@pe_comp0 _ ["sign"] _ _ _ _ _ _ _ _ _ _ rfl (@pi_str _ _ _ _ (pv 0)) (by decide +kernel) (fun C s H fp=>⟨(@pg_name _ _ (0) _ (show (["sign"]:List Str).Nodup by decide +kernel) rfl (by first | exact Or.inl rfl | exact Or.inr rfl) (by first | exact .inl rfl | exact .inr rfl | assumption)),(@pifs_nil _),(@pe_cmpR _ _ _ _ _ _ _ _ op_in_str (pv 0) (@pe_globS _ _ _ _ rfl T.c_SIGNS (by decide)) rfl)⟩) (by intro _; rfl)) (@pa_nil _) (by rfl)) (by decide) (by decide) (by rfl) (by rfl))))),?_⟩
  refine ⟨_,rfl,_,_,_,_,rfl,ok.ty K,ok.kit K,_,rfl,?_⟩
  cases hw:isA (tyN H v) "str" with
  | false=>
    refine iteTc rfl ?_
    have:=q H (Same.refl _)
    rw [textB_no hw] at this
    exact this
  | true=>
    refine iteFc rfl ?_
    obtain ⟨z,rfl,hz⟩:=str_of ok hw
    have zl:=cod_len z
    refine ⟨_,rfl,_,rfl,_,rfl,small (by omega),_,_,rfl,rfl,_,rfl,?_⟩
    refine ite2 (fun c=>?_) (fun c=>?_)
    · refine ⟨_,rfl,_,_,rfl,rfl,_,rfl,?_⟩
      refine ite2 (fun d=>?_) (fun d=>?_)
      · have d':decide ((z.length:Int)≤b) = false:=by simpa using d
        have e:textB a b (.str z) = false:=by show (decide (a≤(z.length:Int)) && decide ((z.length:Int)≤b) && allIn SG z) = _; rw [d',Bool.and_false]; rfl
        have:=q H (Same.refl _)
        rw [e] at this
        exact this
      · have d':decide ((z.length:Int)≤b) = true:=by simpa using d
        refine ⟨_,rfl,z,rfl,?_⟩
        refine comp_map (fun v=>match v with | .str y=>.bl (!(Builtin.Str.occurrences SG y 0 SG.length 1).isEmpty) | _=>.non) itIs_str (by rw [List.length_map]; exact Nat.le_trans (Nat.le_of_eq zl) (by omega)) (fun x H' R hx s' hR=>?_) fun l H7 n7 s7 h7=>?_
        · obtain ⟨u,_,rfl⟩:=List.mem_map.mp hx
          exact ⟨_,rfl,_,_,rfl,rfl,hR H' (Same.refl _)⟩
        rw [signs_all] at h7
        refine ⟨l,_,rfl,SqL.of h7,?_⟩
        have e:textB a b (.str z) = ((cod z).map fun c=>decide (c∈cod SG)).all id:=by
          show (decide (a≤(z.length:Int)) && decide ((z.length:Int)≤b) && allIn SG z) = _; unfold allIn; rw [c,d',List.all_map]; rfl
        have:=q H7 s7
        rw [e] at this
        exact this
    · have c':decide (a≤(z.length:Int)) = false:=Bool.eq_false_iff.mpr c
      have e:textB a b (.str z) = false:=by show (decide (a≤(z.length:Int)) && decide ((z.length:Int)≤b) && allIn SG z) = _; rw [c',Bool.false_and]; rfl
      have:=q H (Same.refl _)
      rw [e] at this
      exact ⟨_,rfl,this⟩
abbrev NS:Str:=PySem.Str.ofString "0123456789abcdefghijklmnopqrstuvwxyz"
abbrev LN:Str:=PySem.Str.ofString "abcdefghijklmnopqrstuvwxyz0123456789"
theorem ns_ln:(∀ c∈cod NS,c∈cod LN)∧∀ c∈cod LN,c∈cod NS∧c∈cod SG:=by decide +kernel
def nameB:V→Bool
  | .str z=>decide ((1:Int)≤z.length) && decide ((z.length:Int)≤8) && allIn LN z
  | _=>false
theorem allIn_two (z:Str):(allIn SG z && allIn NS z) = allIn LN z:=by
  unfold allIn
  rw [Bool.eq_iff_iff,Bool.and_eq_true,List.all_eq_true,List.all_eq_true,List.all_eq_true]
  simp only [decide_eq_true_eq]
  exact ⟨fun h c hc=>ns_ln.1 c (h.2 c hc),fun h=>⟨fun c hc=>(ns_ln.2 c (h c hc)).2,fun c hc=>(ns_ln.2 c (h c hc)).1⟩⟩
theorem name_text (v:V):nameB v = match v with | .str z=>textB 1 8 v && allIn NS z | _=>false:=by
  cases v with
  | str z=>
    show (decide ((1:Int)≤z.length) && decide ((z.length:Int)≤8) && allIn LN z) = ((decide ((1:Int)≤(z.length:Int)) && decide ((z.length:Int)≤8) && allIn SG z) && allIn NS z)
    rw [← allIn_two z]
    simp only [Bool.and_assoc]
  | _=>rfl
def sp_is_name (K:PySem.W.Frag):Sp:=fun vs H Q _=>∃ v,vs = [v]∧Ok H v∧∀ H',Same H H'→Q (.bl (nameB v)) H'
theorem ok_is_name (T:Txt K mg C_Boards C_TakenCell C_Pool XC) (F:Fun K "is_name" "is_name" s_is_name f fd) (D_is_text:Def P w K mg base 1 "is_text" ["thing","least","most"] (sp_is_text K)):FnOk P w K mg base CX0 2 f fd ["thing"] (sp_is_name K):=by
  refine F.ok sc_is_name (fun vs H Q E h=>?_) (fun cdv A outer s H vs Q E hr h=>?_)
  · obtain ⟨v,rfl,_⟩:=h
    rfl
  obtain ⟨v,rfl,ok,q⟩:=h
  refine ⟨_,(@pss_one _ _ _ (@ps_ret _ _ _ _ (@pe_and _ _ _ _ _ _ _ (@pe_fn _ _ _ _ _ _ _ _ _ _ D_is_text (hr.mono (by decide)) rfl (@pa_cons _ _ _ _ _ (pv 0) (@pa_cons _ _ _ _ _ (@pe_int _ _ _ _) (@pa_cons _ _ _ _ _ (@pe_globI _ _ _ _ rfl T.c_MOST_NAME_SIGNS (by decide)) (@pa_nil _) (by rfl)) (by rfl)) (by rfl)) (by decide) (by rfl) (by rfl)) (@pe_one _ _ _ _ _ (@pe_callB _ _ _ _ _ _ _ _ _ (call_all rfl) (by rfl) T.b_all bt_all (@pa_cons _ _ _ _ _ (@pe_comp0 _ ["sign"] _ _ _ _ _ _ _ _ _ _ rfl (@pi_str _ _ _ _ (pv 0)) (by decide +kernel) (fun C s H fp=>⟨(@pg_name _ _ (0) _ (show (["sign"]:List Str).Nodup by decide +kernel) rfl (by first | exact Or.inl rfl | exact Or.inr rfl) (by first | exact .inl rfl | exact .inr rfl | assumption)),(@pifs_nil _),(@pe_cmpR _ _ _ _ _ _ _ _ op_in_str (pv 0) (@pe_globS _ _ _ _ rfl T.c_NAME_SIGNS (by decide)) rfl)⟩) (by intro _; rfl)) (@pa_nil _) (by rfl)) (by decide) (by decide) (by rfl) (by rfl)))))),?_⟩
  refine ⟨_,rfl,v,1,8,rfl,ok,fun H1 s1=>⟨_,rfl,?_⟩⟩
  have en:=name_text v
  refine ite2 (fun c=>?_) (fun c=>?_)
  · cases v with
    | str z=>
      have hz:z.length≤1000:=ok
      have zl:=cod_len z
      refine ⟨_,rfl,z,rfl,?_⟩
      refine comp_map (fun v=>match v with | .str y=>.bl (!(Builtin.Str.occurrences NS y 0 NS.length 1).isEmpty) | _=>.non) itIs_str (by rw [List.length_map]; exact Nat.le_trans (Nat.le_of_eq zl) (by omega)) (fun x H' R hx s' hR=>?_) fun l H7 n7 s7 h7=>?_
      · obtain ⟨u,_,rfl⟩:=List.mem_map.mp hx
        exact ⟨_,rfl,_,_,rfl,rfl,hR H' (Same.refl _)⟩
      rw [signs_all] at h7
      refine ⟨l,_,rfl,SqL.of h7,?_⟩
      have e:nameB (.str z) = ((cod z).map fun c=>decide (c∈cod NS)).all id:=by
        rw [en]; show (textB 1 8 (.str z) && allIn NS z) = _; rw [c]; unfold allIn; rw [List.all_map]; rfl
      have:=q H7 (s1.trans s7)
      rw [e] at this
      exact this
    | _=>exact absurd (show false = true from c) Bool.false_ne_true
  · have e:nameB v = false:=by
      rw [en]
      cases v with
      | str z=>show (textB 1 8 (.str z) && allIn NS z) = false; rw [Bool.eq_false_iff.mpr c]; rfl
      | _=>rfl
    have:=q H1 s1
    rw [e] at this
    exact this
def sp_number_of (K:PySem.W.Frag):Sp:=fun vs H Q _=>∃ u:Str,vs = [.str u]∧0≤PySem.Txt.find SG u∧Q (.int (PySem.Txt.find SG u)) H
theorem ok_number_of (T:Txt K mg C_Boards C_TakenCell C_Pool XC) (F:Fun K "number_of" "number_of" s_number_of f fd):FnOk P w K mg base CX0 1 f fd ["sign"] (sp_number_of K):=by
  refine F.ok sc_number_of (fun vs H Q E h=>?_) (fun cdv A outer s H vs Q E hr h=>?_)
  · obtain ⟨u,rfl,_⟩:=h
    rfl
  obtain ⟨u,rfl,h0,q⟩:=h
  refine ⟨_,(@pss_one _ _ _ (@ps_ret _ _ _ _ (@pe_bm _ _ _ _ _ _ _ _ _ _ _ _ PySem.F.plainAttrs_str PySem.F.slot_str_index PySem.F.type_str_index (mt_index rfl) (@pe_globS _ _ _ _ rfl T.c_SIGNS (by decide)) (@pa_cons _ _ _ _ _ (pv 0) (@pa_nil _) (by rfl)) (by rfl) (by rfl) (by rfl) (by rfl) (by rfl)))),?_⟩
  exact ⟨rfl,_,rfl,_,_,rfl,rfl,h0,q⟩
def isT:Nat→Tr→Bool
  | 0,_=>false
  | _ + 1,.int i=>decide (0≤i) && decide (i≤999999999)
  | _ + 1,.str z=>decide ((z.length:Int)≤400) && allIn SG z
  | n + 1,.tup ts=>decide (ts.length≤100) && ts.all (isT n)
  | _ + 1,_=>false
def All:Addr→Prop:=fun _=>True
def NL:Addr→Prop:=fun _=>False
mutual
theorem rep_tup {H H':Hp} (k:∀ c xs,H c = some (.tup xs)→H' c = some (.tup xs)):∀ (t:Tr) (v:V),Rep NL H t v→Rep NL H' t v
  | .non,_,h=>h
  | .bl _,_,h=>h
  | .int _,_,h=>h
  | .str _,_,h=>h
  | .tup ts,_,⟨a,vs,e,ha,hr⟩=>⟨a,vs,e,k a _ ha,reps_tup k ts vs hr⟩
  | .lst _,_,⟨_,_,_,fa,_⟩=>fa.elim
theorem reps_tup {H H':Hp} (k:∀ c xs,H c = some (.tup xs)→H' c = some (.tup xs)):∀ (ts:List Tr) (vs:List V),Reps NL H ts vs→Reps NL H' ts vs
  | [],_,h=>h
  | t :: ts,_,⟨v,us,e,h1,h2⟩=>⟨v,us,e,rep_tup k t v h1,reps_tup k ts us h2⟩
end
theorem rep_all {H:Hp} {t:Tr} {v:V} (h:Rep NL H t v):Rep All H t v:=Rep.mono (fun _ z=>z.elim) t v h
mutual
theorem isT_ok:∀ (n:Nat) (t:Tr),isT n t = true→t.ok
  | 0,_,h=>nomatch h
  | n + 1,.non,h=>nomatch h
  | n + 1,.bl _,h=>nomatch h
  | n + 1,.int _,_=>trivial
  | n + 1,.str z,h=>by
    have h':(decide ((z.length:Int)≤400) && allIn SG z) = true:=h
    rw [Bool.and_eq_true,decide_eq_true_eq] at h'
    show z.length≤1000
    omega
  | n + 1,.tup ts,h=>by
    have h':(decide (ts.length≤100) && ts.all (isT n)) = true:=h
    rw [Bool.and_eq_true,decide_eq_true_eq] at h'
    exact ⟨by omega,isTs_ok n ts h'.2⟩
  | n + 1,.lst _,h=>nomatch h
theorem isTs_ok:∀ (n:Nat) (ts:List Tr),ts.all (isT n) = true→Tr.oks ts
  | _,[],_=>trivial
  | n,t :: ts,h=>by
    rw [List.all_cons,Bool.and_eq_true] at h
    exact ⟨isT_ok n t h.1,isTs_ok n ts h.2⟩
end
def idx (c:Nat):Int:=PySem.Txt.find SG ⟨#[c]⟩
theorem idx_sg {c:Nat} (h:c∈cod SG):0≤idx c∧idx c < 94∧SG.cps.toList.getD (idx c).toNat 0 = c:=by
  obtain ⟨k,hk,e⟩:=List.getElem_of_mem (show c∈SG.cps.toList from h)
  have hk':k < 94:=by rw [sg_len] at hk; exact hk
  have eg:SG.cps.toList.getD k 0 = c:=by simp only [List.getD,List.getElem?_eq_getElem hk,Option.getD_some]; exact e
  have:=sg_find k hk'
  rw [eg] at this
  have ei:idx c = (k:Int):=this
  rw [ei]
  exact ⟨by omega,by omega,eg⟩
mutual
def wT:Tr→List Int
  | .int i=>[0,i]
  | .str z=>1 :: (z.length:Int) :: (cod z).map idx
  | .tup ts=>2 :: (ts.length:Int) :: wTs ts
  | _=>[]
def wTs:List Tr→List Int
  | []=>[]
  | t :: ts=>wT t ++ wTs ts
end
theorem wTs_app:∀ (a b:List Tr),wTs (a ++ b) = wTs a ++ wTs b
  | [],_=>rfl
  | t :: a,b=>by
    show wT t ++ wTs (a ++ b) = (wT t ++ wTs a) ++ wTs b
    rw [wTs_app a b,List.append_assoc]
theorem wTs_take {ts:List Tr} {i:Nat} {t:Tr} (h:ts[i]? = some t):wTs (ts.take (i + 1)) = wTs (ts.take i) ++ wT t:=by
  rw [List.take_add_one,h,wTs_app]
  show wTs (ts.take i) ++ (wT t ++ []) = _
  rw [List.append_nil]
theorem wTs_le {ts:List Tr} (i:Nat):(wTs (ts.take i)).length≤(wTs ts).length:=by
  have:=congrArg List.length (wTs_app (ts.take i) (ts.drop i))
  rw [List.take_append_drop,List.length_append] at this
  omega
theorem wTs_one {ts:List Tr} {i:Nat} {t:Tr} (h:ts[i]? = some t):(wTs (ts.take i)).length + (wT t).length≤(wTs ts).length:=by
  have:=wTs_le (ts:=ts) (i + 1)
  rw [wTs_take h,List.length_append] at this
  exact this
theorem isT_str {n:Nat} {z:Str} (h:isT n (.str z) = true):z.length≤400∧∀ c∈cod z,c∈cod SG:=by
  cases n with
  | zero=>cases h
  | succ n=>
    have h':(decide ((z.length:Int)≤400) && allIn SG z) = true:=h
    rw [Bool.and_eq_true,decide_eq_true_eq] at h'
    refine ⟨by omega,fun c hc=>?_⟩
    have:=List.all_eq_true.mp h'.2 c hc
    simpa using this
theorem isT_tup {n:Nat} {ts:List Tr} (h:isT (n + 1) (.tup ts) = true):ts.length≤100∧∀ (i:Nat) t,ts[i]? = some t→isT n t = true:=by
  have h':(decide (ts.length≤100) && ts.all (isT n)) = true:=h
  rw [Bool.and_eq_true,decide_eq_true_eq] at h'
  exact ⟨h'.1,fun i t ht=>List.all_eq_true.mp h'.2 t (List.mem_of_getElem? ht)⟩
theorem wT_tup (ts:List Tr):wT (.tup ts) = 2 :: (ts.length:Int) :: wTs ts:=rfl
def sp_wo (n:Nat) (K:PySem.W.Frag):Sp:=fun vs H Q _=>∃ (v:V) (t:Tr),vs = [v]∧Rep NL H t v∧isT n t = true∧(wT t).length≤900000∧∀ l H',Same H H'→H l = none→H' l = some (.lst ((wT t).map V.int))→Q (.ref l) H'
def sp_words_of (K:PySem.W.Frag):Sp:=sp_wo 8 K
theorem wo_step (T:Txt K mg C_Boards C_TakenCell C_Pool XC) (F:Fun K "words_of" "words_of" s_words_of f fd) (D_is_whole:Def P w K mg base 1 "is_whole" ["thing"] (sp_is_whole K)) (D_number_of:Def P w K mg base 1 "number_of" ["sign"] (sp_number_of K)) (n:Nat) (D_words_of:Def P w K mg base (1 + n) "words_of" ["thing"] (sp_wo n K)):FnOk P w K mg base CX0 (1 + n + 1) f fd ["thing"] (sp_wo (n + 1) K):=by
  refine F.ok sc_words_of (fun vs H Q E h=>?_) (fun cdv A outer s H vs Q E hr h=>?_)
  · obtain ⟨v,t,rfl,_⟩:=h
    rfl
  obtain ⟨v,t,rfl,hv,ht,hw,q⟩:=h
  have ok:=isT_ok _ _ ht
  have okv:=(rep_all hv).ok ok
  have ety:=(rep_all hv).tyN
  refine ⟨_,(@pss_cons _ _ _ _ _ (@ps_if _ _ _ _ _ _ _ _ (@pt_val _ _ _ (@pe_fn _ _ _ _ _ _ _ _ _ _ D_is_whole (hr.mono (by omega)) rfl (@pa_cons _ _ _ _ _ (pv 0) (@pa_nil _) (by rfl)) (by decide) (by rfl) (by rfl)) (by intro _; rfl)) (@pss_one _ _ _ (@ps_ret _ _ _ _ (@pe_lst _ _ _ _ (@pa_cons _ _ _ _ _ (@pe_globI _ _ _ _ rfl T.c_NUMBER_WORD (by decide)) (@pa_cons _ _ _ _ _ (pv 0) (@pa_nil _) (by rfl)) (by rfl))))) (@pss_nil _)) (@pss_cons _ _ _ _ _ (@ps_if _ _ _ _ _ _ _ _ (@pt_val _ _ _ (@pe_callB _ _ _ _ _ _ _ _ _ call_isinst (by rfl) T.b_isinstance bt_isinstance (@pa_cons _ _ _ _ _ (pv 0) (@pa_cons _ _ _ _ _ (@pe_ty _ _ _ _ rfl T.b_str bt_str (by decide) (by decide)) (@pa_nil _) (by rfl)) (by rfl)) (by decide) (by decide) (by rfl) (by rfl)) (by intro _; rfl)) (@pss_one _ _ _ (@ps_ret _ _ _ _ (@pe_op _ _ _ _ _ _ _ _ op_catS (@pe_lst _ _ _ _ (@pa_cons _ _ _ _ _ (@pe_globI _ _ _ _ rfl T.c_TEXT_WORD (by decide)) (@pa_cons _ _ _ _ _ (@pe_callB _ _ _ _ _ _ _ _ _ call_len_str (by rfl) T.b_len bt_len (@pa_cons _ _ _ _ _ (pv 0) (@pa_nil _) (by rfl)) (by decide) (by decide) (by rfl) (by rfl)) (@pa_nil _) (by rfl)) (by rfl))) (@pe_comp0 _ ["sign"] _ _ _ _ _ _ _ _ _ _ rfl (@pi_str _ _ _ _ (pv 0)) (by decide +kernel) (fun C s H fp=>⟨(@pg_name _ _ (0) _ (show (["sign"]:List Str).Nodup by decide +kernel) rfl (by first | exact Or.inl rfl | exact Or.inr rfl) (by first | exact .inl rfl | exact .inr rfl | assumption)),(@pifs_nil _),(@pe_fn _ _ _ _ _ _ _ _ _ _ D_number_of (hr.mono (by omega)) rfl (@pa_cons _ _ _ _ _ (pv 0) (@pa_nil _) (by rfl)) (by decide) (by rfl) (by rfl))⟩) (by intro _; rfl))))) (@pss_nil _)) (@pss_cons _ _ _ _ _ (@ps_set _ _ (1) _ _ _ _ sc_words_of.nd rfl (by first | exact Or.inl rfl | exact Or.inr rfl) (@pe_lst _ _ _ _ (@pa_cons _ _ _ _ _ (@pe_globI _ _ _ _ rfl T.c_TUPLE_WORD (by decide)) (@pa_cons _ _ _ _ _ (@pe_callB _ _ _ _ _ _ _ _ _ call_len_seq (by rfl) T.b_len bt_len (@pa_cons _ _ _ _ _ (pv 0) (@pa_nil _) (by rfl)) (by decide) (by decide) (by rfl) (by rfl)) (@pa_nil _) (by rfl)) (by rfl))) (by rfl) (by first | exact .inl rfl | exact .inr rfl | assumption)) (@pss_cons _ _ _ _ _ (@ps_for _ _ _ _ _ _ _ _ PassesOwn.never rfl (@pi_tup _ _ _ _ (pv 0)) (@pg_name _ _ (2) _ sc_words_of.nd rfl (by first | exact Or.inl rfl | exact Or.inr rfl) (by first | exact .inl rfl | exact .inr rfl | assumption)) (@pss_one _ _ _ (@ps_expr _ _ _ _ (@pe_bm _ _ _ _ _ _ _ _ _ _ _ _ PySem.F.plainAttrs_list PySem.F.slot_list_extend PySem.F.type_list_extend mt_extend (pv 1) (@pa_cons _ _ _ _ _ (@pe_fn _ _ _ _ _ _ _ _ _ _ D_words_of (hr.mono (by omega)) rfl (@pa_cons _ _ _ _ _ (pv 2) (@pa_nil _) (by rfl)) (by decide) (by rfl) (by rfl)) (@pa_nil _) (by rfl)) (by rfl) (by rfl) (by rfl) (by rfl) (by rfl)) (by rfl))) (by intro _; rfl)) (@pss_one _ _ _ (@ps_ret _ _ _ _ (pv 1))))))),?_⟩
  refine ⟨_,rfl,v,rfl,okv,_,rfl,?_⟩
  cases t with
  | int i=>
    cases (show v = V.int i from hv)
    refine iteTc rfl ?_
    exact ⟨_,rfl,small (by show 2≤1000000; decide),fun l hl=>q l _ (same_new hl _) hl upd_same⟩
  | str z=>
    cases (show v = V.str z from hv)
    obtain ⟨zl,zs⟩:=isT_str ht
    have zc:=cod_len z
    refine iteFc rfl ?_
    refine ⟨_,rfl,_,_,_,_,rfl,okv.ty K,okv.kit K,_,rfl,iteTc (by rw [ety]; show isA "str" "str" = true; decide) ?_⟩
    refine ⟨_,rfl,_,rfl,small (by omega),small (by show 2≤1000000; decide),fun p1 hp1=>?_⟩
    refine ⟨_,rfl,z,rfl,?_⟩
    refine comp_map (fun v=>match v with | .str y=>.int (PySem.Txt.find SG y) | _=>.non) itIs_str (by rw [List.length_map]; exact Nat.le_trans (Nat.le_of_eq zc) (by omega)) (fun x H' R hx s' hR=>?_) fun l H7 n7 s7 h7=>?_
    · obtain ⟨u,hu,rfl⟩:=List.mem_map.mp hx
      exact ⟨_,rfl,_,rfl,(idx_sg (zs u hu)).1,hR H' (Same.refl _)⟩
    have e7:((z.cps.toList.map fun c=>V.str ⟨#[c]⟩).map fun v=>match v with | V.str y=>V.int (PySem.Txt.find SG y) | _=>V.non) = ((cod z).map idx).map V.int:=by
      rw [List.map_map,List.map_map]; rfl
    rw [e7] at h7
    have s1:=same_new hp1 (.lst [V.int 1,V.int (z.length:Int)])
    refine ⟨p1,l,_,_,rfl,rfl,SqL.of (s7.get upd_same),SqL.of h7,small (by rw [List.length_map,List.length_map]; show 2 + _≤_; omega),fun p hp=>?_⟩
    exact q p _ ((s1.trans s7).trans (same_new hp _)) ((s1.trans s7).free hp) upd_same
  | tup ts=>
    obtain ⟨a,vs,rfl,ha,hr'⟩:=hv
    have lv:=Reps.len ts vs hr'
    obtain ⟨tl,tt⟩:=isT_tup ht
    rw [wT_tup] at hw q
    have hw2:(wTs ts).length≤899998:=by simp only [List.length_cons] at hw; omega
    refine iteFc (by unfold wholeB; rw [ety]; rfl) ?_
    refine ⟨_,rfl,_,_,_,_,rfl,okv.ty K,okv.kit K,_,rfl,iteFc (by rw [ety]; show isA "tuple" "str" = false; decide) ?_⟩
    refine ⟨_,rfl,a,_,rfl,.inr (SqT.of ha),small (by show 2≤1000000; decide),fun g hg=>?_⟩
    rw [lv]
    refine ⟨_,rfl,a,rfl,⟨_,SqT.of ((same_new hg _).get ha)⟩,for_tup (K:=K) (a:=a) (xs:=vs) (fun i σ H2=>∃ (v2:Option V),σ = [some (.ref a),some (.ref g),v2]∧Same H H2∧H2 g = some (.lst ((2 :: (ts.length:Int) :: wTs (ts.take i)).map V.int)))
      ⟨none,rfl,same_new hg _,upd_same⟩ (fun i σ H2 _ ⟨_,_,s2,_⟩=>SqT.of (s2.get ha)) ?_ ?_⟩
    · rintro i y σ H2 hi ⟨v2,rfl,s2,hg2⟩
      obtain ⟨ty,et,ry⟩:=Reps.get hr' hi
      have b1:=wTs_one et
      refine ⟨_,rfl,.inl ⟨rfl,_,SqL.of hg2⟩,_,rfl,y,ty,rfl,Rep.same s2 _ _ ry,tt i ty et,by omega,fun l3 H3 s3 n3 h3=>?_⟩
      refine ⟨g,l3,_,_,rfl,rfl,s3.get hg2,h3,small (by simp only [List.length_map,List.length_cons]; omega),?_⟩
      refine ⟨_,rfl,same_upd (s2.trans s3) hg _,?_⟩
      rw [upd_same,← List.map_append,wTs_take et]
      rfl
    · rintro σ H2 ⟨v2,rfl,s2,hg2⟩
      rw [lv,List.take_of_length_le (Nat.le_refl _)] at hg2
      exact ⟨_,rfl,q g H2 s2 hg hg2⟩
  | non=>cases n <;> cases ht
  | bl b=>cases n <;> cases ht
  | lst ts=>cases n <;> cases ht
theorem wo_all (T:Txt K mg C_Boards C_TakenCell C_Pool XC) (F:Fun K "words_of" "words_of" s_words_of f fd) (D_is_whole:Def P w K mg base 1 "is_whole" ["thing"] (sp_is_whole K)) (D_number_of:Def P w K mg base 1 "number_of" ["sign"] (sp_number_of K)) (hm:mg "words_of" = some (.ref f)) (hk:PySem.W.keepIn K (.ref f) = true) (hb:Binds K fd ["thing"] []):∀ n,FnOk P w K mg base CX0 (1 + n) f fd ["thing"] (sp_wo n K)
  | 0=>by
    refine F.ok sc_words_of (fun vs H Q E h=>?_) (fun cdv A outer s H vs Q E hr h=>?_)
    · obtain ⟨v,t,rfl,_,ht,_⟩:=h
      cases ht
    · obtain ⟨v,t,rfl,_,ht,_⟩:=h
      cases ht
  | n + 1=>wo_step T F D_is_whole D_number_of n ⟨f,fd,wo_all T F D_is_whole D_number_of hm hk hb n,hm,hk,hb⟩
theorem ok_words_of (T:Txt K mg C_Boards C_TakenCell C_Pool XC) (F:Fun K "words_of" "words_of" s_words_of f fd) (D_is_whole:Def P w K mg base 1 "is_whole" ["thing"] (sp_is_whole K)) (D_number_of:Def P w K mg base 1 "number_of" ["sign"] (sp_number_of K)) (hm:mg "words_of" = some (.ref f)) (hk:PySem.W.keepIn K (.ref f) = true) (hb:Binds K fd ["thing"] []):FnOk P w K mg base CX0 9 f fd ["thing"] (sp_words_of K):=
  wo_all T F D_is_whole D_number_of hm hk hb 8
def rdK (g:List Int→Option (Tr×List Int)):Nat→List Int→Option (List Tr×List Int)
  | 0,ws=>some ([],ws)
  | i + 1,ws=>match rdK g i ws with
    | none=>none
    | some (ts,r)=>match g r with
      | none=>none
      | some (t,r')=>some (ts ++ [t],r')
def letter (x:Int):Nat:=SG.cps.toList.getD x.toNat 0
def rdS:Nat→List Int→Option (List Nat×List Int)
  | 0,ws=>some ([],ws)
  | i + 1,ws=>match rdS i ws with
    | some (cs,x :: r)=>if 0≤x∧x≤93 then some (cs ++ [letter x],r) else none
    | _=>none
def rd:Nat→List Int→Option (Tr×List Int)
  | 0,_=>none
  | n + 1,ws=>match ws with
    | []=>none
    | x :: ws1=>if 0≤x∧x≤2 then match ws1 with
        | []=>none
        | m :: r=>if x = 0 then (if 0≤m∧m≤999999999 then some (.int m,r) else none)
          else if x = 1 then (if 0≤m∧m≤400 then (match rdS m.toNat r with | some (cs,r')=>some (.str ⟨cs.toArray⟩,r') | none=>none) else none)
          else (if 0≤m∧m≤100 then (match rdK (rd n) m.toNat r with | some (ts,r')=>some (.tup ts,r') | none=>none) else none)
      else none
theorem letter_idx {c:Nat} (h:c∈cod SG):letter (idx c) = c:=(idx_sg h).2.2
theorem rdS_full:∀ (cs:List Nat) (r:List Int),(∀ c∈cs,c∈cod SG)→∀ i,i≤cs.length→rdS i (cs.map idx ++ r) = some (cs.take i,(cs.drop i).map idx ++ r)
  | cs,r,h,0,_=>rfl
  | cs,r,h,i + 1,hi=>by
    have ih:=rdS_full cs r h i (by omega)
    obtain ⟨c,hc⟩:∃ c,cs[i]? = some c:=⟨cs[i],List.getElem?_eq_getElem _⟩
    have hd:cs.drop i = c :: cs.drop (i + 1):=by rw [List.drop_eq_getElem_cons (by omega)]; congr 1; rw [List.getElem?_eq_getElem (by omega)] at hc; exact Option.some.inj hc
    obtain ⟨b1,b2,b3⟩:=idx_sg (h c (List.mem_of_getElem? hc))
    unfold rdS
    rw [ih,hd]
    show (if 0≤idx c∧idx c≤93 then _ else _) = _
    rw [if_pos ⟨b1,by omega⟩,List.take_add_one,hc,letter_idx (h c (List.mem_of_getElem? hc))]
    rfl
theorem rdK_full {g:List Int→Option (Tr×List Int)} (ts:List Tr) (r:List Int) (hg:∀ t∈ts,∀ r,g (wT t ++ r) = some (t,r)):∀ i,i≤ts.length→rdK g i (wTs ts ++ r) = some (ts.take i,wTs (ts.drop i) ++ r)
  | 0,_=>rfl
  | i + 1,hi=>by
    have ih:=rdK_full ts r hg i (by omega)
    obtain ⟨t,ht⟩:∃ t,ts[i]? = some t:=⟨ts[i],List.getElem?_eq_getElem _⟩
    have hd:ts.drop i = t :: ts.drop (i + 1):=by rw [List.drop_eq_getElem_cons (by omega)]; congr 1; rw [List.getElem?_eq_getElem (by omega)] at ht; exact Option.some.inj ht
    unfold rdK
    rw [ih,hd]
    show (match g ((wT t ++ wTs (ts.drop (i + 1))) ++ r) with | none=>none | some (t,r')=>some (ts.take i ++ [t],r')) = _
    rw [List.append_assoc,hg t (List.mem_of_getElem? ht),List.take_add_one,ht]
    rfl
theorem rd_full:∀ (n:Nat) (t:Tr) (r:List Int),isT n t = true→rd n (wT t ++ r) = some (t,r)
  | 0,_,_,h=>nomatch h
  | n + 1,.non,_,h=>nomatch h
  | n + 1,.bl _,_,h=>nomatch h
  | n + 1,.lst _,_,h=>nomatch h
  | n + 1,.int i,r,h=>by
    have h':(decide (0≤i) && decide (i≤999999999)) = true:=h
    rw [Bool.and_eq_true,decide_eq_true_eq,decide_eq_true_eq] at h'
    show rd (n + 1) (0 :: i :: r) = _
    unfold rd
    dsimp only
    rw [if_pos ⟨by decide,by decide⟩,if_pos rfl,if_pos h']
  | n + 1,.str z,r,h=>by
    obtain ⟨zl,zs⟩:=isT_str h
    have zc:=cod_len z
    show rd (n + 1) (1 :: (z.length:Int) :: ((cod z).map idx ++ r)) = _
    unfold rd
    dsimp only
    rw [if_pos ⟨by decide,by decide⟩]
    rw [if_neg (by decide),if_pos rfl,if_pos ⟨by omega,by omega⟩,rdS_full (cod z) r zs _ (by omega),List.take_of_length_le (by omega),List.drop_eq_nil_of_le (by omega)]
    have:(⟨(cod z).toArray⟩:Str) = z:=str_ext rfl
    show some (Tr.str ⟨(cod z).toArray⟩,r) = _
    rw [this]
  | n + 1,.tup ts,r,h=>by
    obtain ⟨tl,tt⟩:=isT_tup h
    have hg:∀ t∈ts,∀ r,rd n (wT t ++ r) = some (t,r):=fun t ht r=>by
      obtain ⟨i,hi⟩:=List.getElem?_of_mem ht
      exact rd_full n t r (tt i t hi)
    show rd (n + 1) (2 :: (ts.length:Int) :: (wTs ts ++ r)) = _
    unfold rd
    dsimp only
    rw [if_pos ⟨by decide,by decide⟩]
    rw [if_neg (by decide),if_neg (by decide),if_pos ⟨by omega,by omega⟩,rdK_full ts r hg _ (by omega),List.take_of_length_le (by omega),List.drop_eq_nil_of_le (by omega)]
    rfl
theorem wT_inj {n:Nat} {t u:Tr} (ht:isT n t = true) (hu:isT n u = true) (h:wT t = wT u):t = u:=by
  have e1:=rd_full n t [] ht
  rw [h,rd_full n u [] hu] at e1
  exact (Prod.mk.inj (Option.some.inj e1)).1.symm
theorem rep_det {H:Hp}:∀ (n:Nat) (t u:Tr) (v:V),isT n t = true→isT n u = true→Rep NL H t v→Rep NL H u v→t = u
  | 0,_,_,_,h,_,_,_=>nomatch h
  | n + 1,.int i,.int j,v,_,_,h1,h2=>by
    have e1:v = V.int i:=h1
    have e2:v = V.int j:=h2
    rw [e1] at e2; cases e2; rfl
  | n + 1,.int i,.str z,v,_,_,h1,h2=>by
    have e1:v = V.int i:=h1
    have e2:v = V.str z:=h2
    rw [e1] at e2; cases e2
  | n + 1,.int i,.tup ts,v,_,_,h1,⟨a,vs,e2,_⟩=>by
    have e1:v = V.int i:=h1
    rw [e1] at e2; cases e2
  | n + 1,.str z,.int j,v,_,_,h1,h2=>by
    have e1:v = V.str z:=h1
    have e2:v = V.int j:=h2
    rw [e1] at e2; cases e2
  | n + 1,.str z,.str y,v,_,_,h1,h2=>by
    have e1:v = V.str z:=h1
    have e2:v = V.str y:=h2
    rw [e1] at e2; cases e2; rfl
  | n + 1,.str z,.tup ts,v,_,_,h1,⟨a,vs,e2,_⟩=>by
    have e1:v = V.str z:=h1
    rw [e1] at e2; cases e2
  | n + 1,.tup ts,.int j,v,_,_,⟨a,vs,e1,_⟩,h2=>by
    have e2:v = V.int j:=h2
    rw [e1] at e2; cases e2
  | n + 1,.tup ts,.str y,v,_,_,⟨a,vs,e1,_⟩,h2=>by
    have e2:v = V.str y:=h2
    rw [e1] at e2; cases e2
  | n + 1,.tup ts,.tup us,v,ht,hu,⟨a,vs,e1,ha,r1⟩,⟨b,ws,e2,hb,r2⟩=>by
    subst e1
    cases e2
    rw [ha] at hb
    cases hb
    obtain ⟨_,tt⟩:=isT_tup ht
    obtain ⟨_,tu⟩:=isT_tup hu
    have l1:=Reps.len ts vs r1
    have l2:=Reps.len us vs r2
    have:ts = us:=by
      refine List.ext_getElem? fun i=>?_
      by_cases hi:i < vs.length
      · obtain ⟨t1,g1,p1⟩:=Reps.get r1 (List.getElem?_eq_getElem hi)
        obtain ⟨t2,g2,p2⟩:=Reps.get r2 (List.getElem?_eq_getElem hi)
        rw [g1,g2,rep_det n t1 t2 _ (tt i t1 g1) (tu i t2 g2) p1 p2]
      · rw [List.getElem?_eq_none (by omega),List.getElem?_eq_none (by omega)]
    rw [this]
  | n + 1,.non,_,_,h,_,_,_=>nomatch h
  | n + 1,.bl _,_,_,h,_,_,_=>nomatch h
  | n + 1,.lst _,_,_,h,_,_,_=>nomatch h
  | n + 1,.int _,.non,_,_,h,_,_=>nomatch h
  | n + 1,.int _,.bl _,_,_,h,_,_=>nomatch h
  | n + 1,.int _,.lst _,_,_,h,_,_=>nomatch h
  | n + 1,.str _,.non,_,_,h,_,_=>nomatch h
  | n + 1,.str _,.bl _,_,_,h,_,_=>nomatch h
  | n + 1,.str _,.lst _,_,_,h,_,_=>nomatch h
  | n + 1,.tup _,.non,_,_,h,_,_=>nomatch h
  | n + 1,.tup _,.bl _,_,_,h,_,_=>nomatch h
  | n + 1,.tup _,.lst _,_,_,h,_,_=>nomatch h
theorem dec_w {n:Nat} {t u:Tr} (ht:isT n t = true) (hu:isT n u = true) {b:Bool} (h:b = true↔t = u):decide (wT t = wT u) = b:=by
  rw [Bool.eq_iff_iff,decide_eq_true_eq,h]
  exact ⟨wT_inj ht hu,fun e=>by rw [e]⟩
theorem tups_dec {n:Nat} {ts us:List Tr} (ht:isT (n + 1) (.tup ts) = true) (hu:isT (n + 1) (.tup us) = true):decide (wT (.tup ts) = wT (.tup us)) = ((List.range (min ts.length us.length)).all (fun j=>decide (wT (ts.getD j .non) = wT (us.getD j .non))) && ts.length == us.length):=by
  obtain ⟨_,tt⟩:=isT_tup ht
  obtain ⟨_,tu⟩:=isT_tup hu
  refine dec_w ht hu ?_
  rw [Bool.and_eq_true,List.all_eq_true,beq_iff_eq]
  constructor
  · rintro ⟨h1,h2⟩
    congr 1
    refine List.ext_getElem? fun i=>?_
    by_cases hi:i < ts.length
    · have e:=h1 i (List.mem_range.mpr (by omega))
      obtain ⟨t1,g1⟩:∃ t1,ts[i]? = some t1:=⟨ts[i],List.getElem?_eq_getElem hi⟩
      obtain ⟨t2,g2⟩:∃ t2,us[i]? = some t2:=⟨us[i]'(by omega),List.getElem?_eq_getElem _⟩
      simp only [List.getD,g1,g2,Option.getD_some,decide_eq_true_eq] at e
      rw [g1,g2,wT_inj (tt i t1 g1) (tu i t2 g2) e]
    · rw [List.getElem?_eq_none (by omega),List.getElem?_eq_none (by omega)]
  · intro h
    cases h
    exact ⟨fun i _=>decide_eq_true rfl,rfl⟩
section
variable {X:Cx} {pins:List (Addr×Obj)} {σ:St} {H:Hp} {s:Shared}
theorem deq_at (I:Inv X pins σ H s):∀ (n:Nat) (t u:Tr) (A:Around) (v w:V) (vv ww:Value),isT n t = true→isT n u = true→A.units + n < cLine→Rep NL H t v→Rep NL H u w→RelV v vv→RelV w ww→SeqAt.EqAt A s vv ww (decide (wT t = wT u))
  | 0,_,_,_,_,_,_,_,h,_,_,_,_,_,_=>nomatch h
  | n + 1,t,u,A,v,w,vv,ww,ht,hu,hA,h1,h2,r1,r2=>by
    cases t with
    | int i=>
      cases (show v = V.int i from h1)
      obtain ⟨t1,rfl⟩:=r1
      cases u with
      | int j=>
        cases (show w = V.int j from h2)
        obtain ⟨t2,rfl⟩:=r2
        rw [dec_w ht hu (b:=i == j) (by rw [beq_iff_eq]; exact ⟨fun e=>by rw [e],fun e=>by cases e; rfl⟩)]
        exact SeqAt.EqAt.int_int i t1 j t2
      | str z=>
        cases (show w = V.str z from h2)
        obtain ⟨t2,rfl⟩:=r2
        rw [dec_w ht hu (b:=false) ⟨(fun e=>nomatch e),(fun e=>nomatch e)⟩]
        exact SeqAt.EqAt.int_str i t1 z t2
      | tup us=>
        obtain ⟨b,ws,rfl,hb,_⟩:=h2
        cases r2
        obtain ⟨its,_,p,_⟩:=I.tuple (SqT.of (K:=X.K) hb)
        rw [dec_w ht hu (b:=false) ⟨(fun e=>nomatch e),(fun e=>nomatch e)⟩]
        exact SeqAt.EqAt.int_tuple i t1 p (by omega)
      | non=>cases hu
      | bl _=>cases hu
      | lst _=>cases hu
    | str y=>
      cases (show v = V.str y from h1)
      obtain ⟨t1,rfl⟩:=r1
      cases u with
      | int j=>
        cases (show w = V.int j from h2)
        obtain ⟨t2,rfl⟩:=r2
        rw [dec_w ht hu (b:=false) ⟨(fun e=>nomatch e),(fun e=>nomatch e)⟩]
        exact SeqAt.EqAt.str_int y t1 j t2
      | str z=>
        cases (show w = V.str z from h2)
        obtain ⟨t2,rfl⟩:=r2
        rw [dec_w ht hu (b:=y == z) (by rw [beq_iff_eq]; exact ⟨fun e=>by rw [e],fun e=>by cases e; rfl⟩)]
        exact SeqAt.EqAt.str_str y t1 z t2
      | tup us=>
        obtain ⟨b,ws,rfl,hb,_⟩:=h2
        cases r2
        obtain ⟨its,_,p,_⟩:=I.tuple (SqT.of (K:=X.K) hb)
        rw [dec_w ht hu (b:=false) ⟨(fun e=>nomatch e),(fun e=>nomatch e)⟩]
        exact SeqAt.EqAt.str_tuple y t1 p (by omega)
      | non=>cases hu
      | bl _=>cases hu
      | lst _=>cases hu
    | tup ts=>
      obtain ⟨a,vs,rfl,ha,hr1⟩:=h1
      cases r1
      obtain ⟨its,rv1,p1,_⟩:=I.tuple (SqT.of (K:=X.K) ha)
      cases u with
      | int j=>
        cases (show w = V.int j from h2)
        obtain ⟨t2,rfl⟩:=r2
        rw [dec_w ht hu (b:=false) ⟨(fun e=>nomatch e),(fun e=>nomatch e)⟩]
        exact SeqAt.EqAt.tuple_int j t2 p1 (by omega)
      | str z=>
        cases (show w = V.str z from h2)
        obtain ⟨t2,rfl⟩:=r2
        rw [dec_w ht hu (b:=false) ⟨(fun e=>nomatch e),(fun e=>nomatch e)⟩]
        exact SeqAt.EqAt.tuple_str z t2 p1 (by omega)
      | tup us=>
        obtain ⟨b,ws,rfl,hb,hr2⟩:=h2
        cases r2
        obtain ⟨its2,rv2,p2,_⟩:=I.tuple (SqT.of (K:=X.K) hb)
        by_cases hab:a = b
        · subst hab
          have:=rep_det (n + 1) (.tup ts) (.tup us) (.ref a) ht hu ⟨a,vs,rfl,ha,hr1⟩ ⟨a,ws,rfl,hb,hr2⟩
          rw [this,decide_eq_true rfl]
          exact SeqAt.EqAt.same _
        obtain ⟨_,tt⟩:=isT_tup ht
        obtain ⟨_,tu⟩:=isT_tup hu
        have l1:=rv1.length.symm.trans (Reps.len ts vs hr1)
        have l2:=rv2.length.symm.trans (Reps.len us ws hr2)
        have q:=SeqAt.RcAt.tuples (A:=A) (s:=s) (e:=fun j=>decide (wT (ts.getD j .non) = wT (us.getD j .non))) p1 p2 (by omega) (fun j g1 g2=>by
          have g1':j < its.length:=by simpa using g1
          have g2':j < its2.length:=by simpa using g2
          have lv1:=rv1.length
          have lv2:=rv2.length
          obtain ⟨x1,hx1⟩:∃ x1,vs[j]? = some x1:=⟨vs[j]'(by omega),List.getElem?_eq_getElem _⟩
          obtain ⟨x2,hx2⟩:∃ x2,ws[j]? = some x2:=⟨ws[j]'(by omega),List.getElem?_eq_getElem _⟩
          obtain ⟨y1,hy1,ry1⟩:=rv1.get hx1
          obtain ⟨y2,hy2,ry2⟩:=rv2.get hx2
          obtain ⟨t1,e1,p1'⟩:=Reps.get hr1 hx1
          obtain ⟨t2,e2,p2'⟩:=Reps.get hr2 hx2
          have:=deq_at I n t1 t2 A.in1 x1 x2 y1 y2 (tt j t1 e1) (tu j t2 e2) (by show A.units + 1 + n < cLine; omega) p1' p2' ry1 ry2
          rw [List.getElem?_eq_getElem g1'] at hy1
          rw [List.getElem?_eq_getElem g2'] at hy2
          cases hy1
          cases hy2
          simp only [List.getD,e1,e2,Option.getD_some]
          simpa using this)
        rw [tups_dec ht hu]
        simp only [List.size_toArray,l1,l2] at q
        exact SeqAt.EqAt.of_refs hab q
      | non=>cases hu
      | bl _=>cases hu
      | lst _=>cases hu
    | non=>cases ht
    | bl _=>cases ht
    | lst _=>cases ht
end
section
variable {X:Cx}
def rEqT (neg:Bool):R2:=fun x y H Q=>∃ t u,isT 8 t = true∧isT 8 u = true∧Rep NL H t x∧Rep NL H u y∧Q (.bl (if neg then !decide (wT t = wT u) else decide (wT t = wT u))) H
theorem items_at {pins:List (Addr×Obj)} {σ:St} {H:Hp} {s:Shared} (I:Inv X pins σ H s) {n:Nat} {A:Around} {ts us:List Tr} {vs ws:List V} {its its2:List Value} (hA:A.units + 1 + n < cLine) (tt:∀ (i:Nat) t,ts[i]? = some t→isT n t = true) (tu:∀ (i:Nat) t,us[i]? = some t→isT n t = true)
    (hr1:Reps NL H ts vs) (hr2:Reps NL H us ws) (rv1:Vals vs its) (rv2:Vals ws its2) (j:Nat) (g1:j < its.toArray.size) (g2:j < its2.toArray.size):SeqAt.EqAt A.in1 s its.toArray[j] its2.toArray[j] (decide (wT (ts.getD j .non) = wT (us.getD j .non))):=by
  have g1':j < its.length:=by simpa using g1
  have g2':j < its2.length:=by simpa using g2
  have lv1:=rv1.length
  have lv2:=rv2.length
  obtain ⟨x1,hx1⟩:∃ x1,vs[j]? = some x1:=⟨vs[j]'(by omega),List.getElem?_eq_getElem _⟩
  obtain ⟨x2,hx2⟩:∃ x2,ws[j]? = some x2:=⟨ws[j]'(by omega),List.getElem?_eq_getElem _⟩
  obtain ⟨y1,hy1,ry1⟩:=rv1.get hx1
  obtain ⟨y2,hy2,ry2⟩:=rv2.get hx2
  obtain ⟨t1,e1,p1'⟩:=Reps.get hr1 hx1
  obtain ⟨t2,e2,p2'⟩:=Reps.get hr2 hx2
  have:=deq_at I n t1 t2 A.in1 x1 x2 y1 y2 (tt j t1 e1) (tu j t2 e2) (by show A.units + 1 + n < cLine; omega) p1' p2' ry1 ry2
  rw [List.getElem?_eq_getElem g1'] at hy1
  rw [List.getElem?_eq_getElem g2'] at hy2
  cases hy1
  cases hy2
  simp only [List.getD,e1,e2,Option.getD_some]
  simpa using this
theorem op_eqT (hu9:X.A.units + 150 < cLine):OpR X (compareOp .Eq) (rEqT false):=by
  intro pins s σ H x y v u Q I rx ry h
  obtain ⟨t,w,ht,hw,h1,h2,q⟩:=h
  have fin:∀ b:Bool,decide (wT t = wT w) = b→SeqAt.RcAt X.A s v u b→wpAny (model X.prog X.w) X.A (compareOp .Eq v u) (EP X pins σ Q) X.xe s:=fun b e r=>by
    rw [e] at q
    exact r _ _ _ _ ⟨.bl _,H,I,rfl,q⟩
  cases t with
  | int i=>
    cases (show x = V.int i from h1)
    obtain ⟨t1,rfl⟩:=rx
    cases w with
    | int j=>
      cases (show y = V.int j from h2)
      obtain ⟨t2,rfl⟩:=ry
      exact fin (i == j) (dec_w ht hw (by rw [beq_iff_eq]; exact ⟨fun e=>by rw [e],fun e=>by cases e; rfl⟩)) (SeqAt.RcAt.int_int i t1 j t2)
    | str z=>
      cases (show y = V.str z from h2)
      obtain ⟨t2,rfl⟩:=ry
      exact fin false (dec_w ht hw ⟨(fun e=>nomatch e),(fun e=>nomatch e)⟩) (SeqAt.RcAt.int_str i t1 z t2)
    | tup us=>
      obtain ⟨b,ws,rfl,hb,_⟩:=h2
      cases ry
      obtain ⟨its,_,p,_⟩:=I.tuple (SqT.of (K:=X.K) hb)
      exact fin false (dec_w ht hw ⟨(fun e=>nomatch e),(fun e=>nomatch e)⟩) (SeqAt.RcAt.int_tuple i t1 p (by omega))
    | non=>cases hw
    | bl _=>cases hw
    | lst _=>cases hw
  | str a=>
    cases (show x = V.str a from h1)
    obtain ⟨t1,rfl⟩:=rx
    cases w with
    | int j=>
      cases (show y = V.int j from h2)
      obtain ⟨t2,rfl⟩:=ry
      exact fin false (dec_w ht hw ⟨(fun e=>nomatch e),(fun e=>nomatch e)⟩) (SeqAt.RcAt.str_int a t1 j t2)
    | str z=>
      cases (show y = V.str z from h2)
      obtain ⟨t2,rfl⟩:=ry
      exact fin (a == z) (dec_w ht hw (by rw [beq_iff_eq]; exact ⟨fun e=>by rw [e],fun e=>by cases e; rfl⟩)) (SeqAt.RcAt.str_str a t1 z t2)
    | tup us=>
      obtain ⟨b,ws,rfl,hb,_⟩:=h2
      cases ry
      obtain ⟨its,_,p,_⟩:=I.tuple (SqT.of (K:=X.K) hb)
      exact fin false (dec_w ht hw ⟨(fun e=>nomatch e),(fun e=>nomatch e)⟩) (SeqAt.RcAt.str_tuple a t1 p (by omega))
    | non=>cases hw
    | bl _=>cases hw
    | lst _=>cases hw
  | tup ts=>
    obtain ⟨a,vs,rfl,ha,hr1⟩:=h1
    cases rx
    obtain ⟨its,rv1,p1,_⟩:=I.tuple (SqT.of (K:=X.K) ha)
    cases w with
    | int j=>
      cases (show y = V.int j from h2)
      obtain ⟨t2,rfl⟩:=ry
      exact fin false (dec_w ht hw ⟨(fun e=>nomatch e),(fun e=>nomatch e)⟩) (SeqAt.RcAt.tuple_int j t2 p1 (by omega))
    | str z=>
      cases (show y = V.str z from h2)
      obtain ⟨t2,rfl⟩:=ry
      exact fin false (dec_w ht hw ⟨(fun e=>nomatch e),(fun e=>nomatch e)⟩) (SeqAt.RcAt.tuple_str z t2 p1 (by omega))
    | tup us=>
      obtain ⟨b,ws,rfl,hb,hr2⟩:=h2
      cases ry
      obtain ⟨its2,rv2,p2,_⟩:=I.tuple (SqT.of (K:=X.K) hb)
      have l1:=rv1.length.symm.trans (Reps.len ts vs hr1)
      have l2:=rv2.length.symm.trans (Reps.len us ws hr2)
      have r:=SeqAt.RcAt.tuples (A:=X.A) (s:=s) (e:=fun j=>decide (wT (ts.getD j .non) = wT (us.getD j .non))) p1 p2 (by omega) (fun j g1 g2=>items_at I (n:=7) (by omega) (isT_tup ht).2 (isT_tup hw).2 hr1 hr2 rv1 rv2 j g1 g2)
      simp only [List.size_toArray,l1,l2] at r
      exact fin _ (tups_dec ht hw) r
    | non=>cases hw
    | bl _=>cases hw
    | lst _=>cases hw
  | non=>cases ht
  | bl _=>cases ht
  | lst _=>cases ht
theorem op_neT (hu9:X.A.units + 150 < cLine):OpR X (compareOp .NotEq) (rEqT true):=by
  intro pins s σ H x y v u Q I rx ry h
  obtain ⟨t,w,ht,hw,h1,h2,q⟩:=h
  have fin:∀ b:Bool,decide (wT t = wT w) = b→SeqAt.RcNeAt X.A s v u (!b)→wpAny (model X.prog X.w) X.A (compareOp .NotEq v u) (EP X pins σ Q) X.xe s:=fun b e r=>by
    rw [e] at q
    exact r _ _ _ _ ⟨.bl _,H,I,rfl,q⟩
  cases t with
  | int i=>
    cases (show x = V.int i from h1)
    obtain ⟨t1,rfl⟩:=rx
    cases w with
    | int j=>
      cases (show y = V.int j from h2)
      obtain ⟨t2,rfl⟩:=ry
      exact fin (i == j) (dec_w ht hw (by rw [beq_iff_eq]; exact ⟨fun e=>by rw [e],fun e=>by cases e; rfl⟩)) (SeqAt.RcNeAt.int_int i t1 j t2)
    | str z=>
      cases (show y = V.str z from h2)
      obtain ⟨t2,rfl⟩:=ry
      exact fin false (dec_w ht hw ⟨(fun e=>nomatch e),(fun e=>nomatch e)⟩) (SeqAt.RcNeAt.int_str i t1 z t2)
    | tup us=>
      obtain ⟨b,ws,rfl,hb,_⟩:=h2
      cases ry
      obtain ⟨its,_,p,_⟩:=I.tuple (SqT.of (K:=X.K) hb)
      exact fin false (dec_w ht hw ⟨(fun e=>nomatch e),(fun e=>nomatch e)⟩) (SeqAt.RcNeAt.int_tuple i t1 p (by omega))
    | non=>cases hw
    | bl _=>cases hw
    | lst _=>cases hw
  | str a=>
    cases (show x = V.str a from h1)
    obtain ⟨t1,rfl⟩:=rx
    cases w with
    | int j=>
      cases (show y = V.int j from h2)
      obtain ⟨t2,rfl⟩:=ry
      exact fin false (dec_w ht hw ⟨(fun e=>nomatch e),(fun e=>nomatch e)⟩) (SeqAt.RcNeAt.str_int a t1 j t2)
    | str z=>
      cases (show y = V.str z from h2)
      obtain ⟨t2,rfl⟩:=ry
      exact fin (a == z) (dec_w ht hw (by rw [beq_iff_eq]; exact ⟨fun e=>by rw [e],fun e=>by cases e; rfl⟩)) (SeqAt.RcNeAt.str_str a t1 z t2)
    | tup us=>
      obtain ⟨b,ws,rfl,hb,_⟩:=h2
      cases ry
      obtain ⟨its,_,p,_⟩:=I.tuple (SqT.of (K:=X.K) hb)
      exact fin false (dec_w ht hw ⟨(fun e=>nomatch e),(fun e=>nomatch e)⟩) (SeqAt.RcNeAt.str_tuple a t1 p (by omega))
    | non=>cases hw
    | bl _=>cases hw
    | lst _=>cases hw
  | tup ts=>
    obtain ⟨a,vs,rfl,ha,hr1⟩:=h1
    cases rx
    obtain ⟨its,rv1,p1,_⟩:=I.tuple (SqT.of (K:=X.K) ha)
    cases w with
    | int j=>
      cases (show y = V.int j from h2)
      obtain ⟨t2,rfl⟩:=ry
      exact fin false (dec_w ht hw ⟨(fun e=>nomatch e),(fun e=>nomatch e)⟩) (SeqAt.RcNeAt.tuple_int j t2 p1 (by omega))
    | str z=>
      cases (show y = V.str z from h2)
      obtain ⟨t2,rfl⟩:=ry
      exact fin false (dec_w ht hw ⟨(fun e=>nomatch e),(fun e=>nomatch e)⟩) (SeqAt.RcNeAt.tuple_str z t2 p1 (by omega))
    | tup us=>
      obtain ⟨b,ws,rfl,hb,hr2⟩:=h2
      cases ry
      obtain ⟨its2,rv2,p2,_⟩:=I.tuple (SqT.of (K:=X.K) hb)
      have l1:=rv1.length.symm.trans (Reps.len ts vs hr1)
      have l2:=rv2.length.symm.trans (Reps.len us ws hr2)
      have r:=SeqAt.RcNeAt.tuples (A:=X.A) (s:=s) (e:=fun j=>decide (wT (ts.getD j .non) = wT (us.getD j .non))) p1 p2 (by omega) (fun j g1 g2=>items_at I (n:=7) (by omega) (isT_tup ht).2 (isT_tup hw).2 hr1 hr2 rv1 rv2 j g1 g2)
      simp only [List.size_toArray,l1,l2] at r
      exact fin _ (tups_dec ht hw) r
    | non=>cases hw
    | bl _=>cases hw
    | lst _=>cases hw
  | non=>cases ht
  | bl _=>cases ht
  | lst _=>cases ht
end
end
section
variable {P:Program} {w:World} {K:PySem.W.Frag} {mg:Str→Option Value} {base:Heap} {f C_Boards C_TakenCell C_Pool:Addr} {XC:Nat→Addr} {fd:FuncData}
abbrev Cel:=List (Int×List Int)
def putC (b:Cel) (k:Int) (row:List Int):Cel:=if (b.any fun x=>decide (x.1 = k)) = true then b.map (fun x=>if x.1 = k then (x.1,row) else x) else b ++ [(k,row)]
def getC (b:Cel) (k:Int):Option (List Int):=(b.find? fun x=>decide (x.1 = k)).map (·.2)
def CelR (H:Hp):Key×V→Int×List Int→Prop:=fun kv x=>kv.1 = Sum.inl x.1∧∃ r,kv.2 = .ref r∧H r = some (.lst (x.2.map V.int))
def CellsR (H:Hp) (kvs:List (Key×V)) (b:Cel):Prop:=Paired (CelR H) kvs b
theorem CellsR.same {H H':Hp} {kvs:List (Key×V)} {b:Cel} (r:CellsR H kvs b) (s:∀ a xs,H a = some (.lst xs)→H' a = some (.lst xs)):CellsR H' kvs b:=Paired.mapP r fun _ _ ⟨h1,a,h2,h3⟩=>⟨h1,a,h2,s _ _ h3⟩
theorem inl_dec (a k:Int):decide ((Sum.inl a:Key) = Sum.inl k) = decide (a = k):=by
  by_cases e:a = k
  · rw [e]; simp
  · rw [decide_eq_false e,decide_eq_false fun z=>e (Sum.inl.inj z)]
theorem CellsR.any {H:Hp} {kvs:List (Key×V)} {b:Cel} (r:CellsR H kvs b) (k:Int):(kvs.any fun kv=>decide (kv.1 = Sum.inl k)) = (b.any fun x=>decide (x.1 = k)):=by
  unfold CellsR at r
  induction r with
  | nil=>rfl
  | cons h t ih=>rw [List.any_cons,List.any_cons,ih,h.1,inl_dec]
theorem CellsR.put {H:Hp} {kvs:List (Key×V)} {b:Cel} (r:CellsR H kvs b) (k:Int) {l:Addr} {row:List Int} (hl:H l = some (.lst (row.map V.int))):CellsR H (putK kvs (Sum.inl k) (.ref l)) (putC b k row):=by
  unfold putK putC
  rw [r.any k]
  by_cases hc:(b.any fun x=>decide (x.1 = k)) = true
  · rw [if_pos hc,if_pos hc]
    clear hc
    unfold CellsR at r ⊢
    induction r with
    | nil=>exact .nil
    | @cons kv x ps qs h t ih=>
      rw [List.map_cons,List.map_cons]
      refine .cons ?_ ih
      by_cases e:x.1 = k
      · rw [if_pos (by rw [h.1,e]),if_pos e]
        exact ⟨h.1,l,rfl,hl⟩
      · rw [if_neg (by rw [h.1]; exact fun z=>e (Sum.inl.inj z)),if_neg e]
        exact h
  · rw [if_neg hc,if_neg hc]
    exact Paired.snoc r ⟨rfl,l,rfl,hl⟩
theorem CellsR.get {H:Hp} {kvs:List (Key×V)} {b:Cel} (r:CellsR H kvs b) (k:Int):(valV kvs (Sum.inl k) = none∧getC b k = none)∨∃ a row,valV kvs (Sum.inl k) = some (.ref a)∧getC b k = some row∧H a = some (.lst (row.map V.int)):=by
  unfold CellsR at r
  induction r with
  | nil=>exact .inl ⟨rfl,rfl⟩
  | @cons kv x ps qs h t ih=>
    obtain ⟨h1,a,h2,h3⟩:=h
    by_cases e:x.1 = k
    · refine .inr ⟨a,x.2,?_,?_,h3⟩
      · rw [valV_pos (by rw [h1,e]),h2]
      · unfold getC; rw [List.find?_cons,decide_eq_true e]; rfl
    · have g1:getC (x :: qs) k = getC qs k:=by unfold getC; rw [List.find?_cons,decide_eq_false e]
      have g2:valV (kv :: ps) (Sum.inl k) = valV ps (Sum.inl k):=valV_neg (by rw [h1]; exact fun z=>e (Sum.inl.inj z))
      rw [g1,g2]; exact ih
theorem CellsR.len {H:Hp} {kvs:List (Key×V)} {b:Cel} (r:CellsR H kvs b):kvs.length = b.length:=Paired.length r
theorem pair_mem {α β:Type} {F G:α→β→Prop}:∀ {l₁:List α} {l₂:List β},Paired F l₁ l₂→(∀ a∈l₁,∀ b,F a b→G a b)→Paired G l₁ l₂
  | _,_,.nil,_=>.nil
  | _,_,.cons r t,f=>.cons (f _ List.mem_cons_self _ r) (pair_mem t fun a ha=>f a (List.mem_cons_of_mem _ ha))
theorem pair_get1 {α β:Type} {F:α→β→Prop}:∀ {l₁:List α} {l₂:List β} {i:Nat} {a:α},Paired F l₁ l₂→l₁[i]? = some a→∃ b,l₂[i]? = some b∧F a b
  | _,_,_,_,.nil,e=>by simp at e
  | _,_,0,_,.cons r _,e=>by simp at e; subst e; exact ⟨_,rfl,r⟩
  | _,_,i + 1,a,.cons _ t,e=>by
    obtain ⟨b,h1,h2⟩:=pair_get1 (i:=i) (a:=a) t (by simpa using e)
    exact ⟨b,by simpa using h1,h2⟩
def BsR (H:Hp) (ds:List Addr) (bs:List Cel):Prop:=Paired (fun d b=>∃ kvs,H d = some (.dK kvs)∧CellsR H kvs b∧(b.map (·.1)).Nodup) ds bs
theorem BsR.same {H H':Hp} {ds:List Addr} {bs:List Cel} (r:BsR H ds bs) (s:∀ a xs,H a = some (.lst xs)→H' a = some (.lst xs)) (k:∀ d∈ds,∀ kvs,H d = some (.dK kvs)→H' d = some (.dK kvs)):BsR H' ds bs:=
  pair_mem r fun d hd _ ⟨kvs,h1,h2,h3⟩=>⟨kvs,k d hd kvs h1,h2.same s,h3⟩
theorem BsR.set {H H':Hp} {d:Addr} {b':Cel} (s:∀ a xs,H a = some (.lst xs)→H' a = some (.lst xs)) (hd:∃ kvs,H' d = some (.dK kvs)∧CellsR H' kvs b'∧(b'.map (·.1)).Nodup):∀ {ds:List Addr} {bs:List Cel},BsR H ds bs→ds.Nodup→(∀ e∈ds,e≠d→∀ kvs,H e = some (.dK kvs)→H' e = some (.dK kvs))→∀ {i:Nat},ds[i]? = some d→BsR H' ds (bs.set i b')
  | _,_,.nil,_,_,i,hi=>by simp at hi
  | _,_,.cons h t,nd,k,0,hi=>by
    simp at hi
    subst hi
    refine .cons hd (pair_mem t fun e he _ ⟨kvs,h1,h2,h3⟩=>⟨kvs,k e (List.mem_cons_of_mem _ he) (fun z=>(List.nodup_cons.mp nd).1 (z ▸ he)) kvs h1,h2.same s,h3⟩)
  | e :: es,_,.cons h t,nd,k,i + 1,hi=>by
    have hi':es[i]? = some d:=by simpa using hi
    obtain ⟨kvs,h1,h2,h3⟩:=h
    refine .cons ⟨kvs,k e List.mem_cons_self (fun z=>(List.nodup_cons.mp nd).1 (by rw [z]; exact List.mem_of_getElem? hi')) kvs h1,h2.same s,h3⟩ ?_
    exact BsR.set s hd t (List.nodup_cons.mp nd).2 (fun e' he'=>k e' (List.mem_cons_of_mem _ he')) hi'
def fldsB (s:Addr) (n:Int) (lf:V):List (Str×V):=[("shelves",.ref s),("writes",.int n),("writes_left",lf)]
def BAt (C_Boards:Addr) (H:Hp) (p:Addr) (ds:List Addr) (bs:List Cel) (n:Int) (lf:V):Prop:=∃ dx s,H p = some (.ins C_Boards dx (fldsB s n lf))∧H s = some (.lst (ds.map V.ref))∧ds.Nodup∧BsR H ds bs
theorem BAt.len {C_Boards:Addr} {H:Hp} {p:Addr} {ds:List Addr} {bs:List Cel} {n:Int} {lf:V} (h:BAt C_Boards H p ds bs n lf):ds.length = bs.length:=by
  obtain ⟨_,_,_,_,_,r⟩:=h
  exact Paired.length r
def Kb (H H':Hp) (p:Addr) (ds:List Addr):Prop:=∀ b o,H b = some o→b≠p→b ∉ ds→H' b = some o
theorem BAt.kept {C_Boards:Addr} {H H':Hp} {p q:Addr} {ds es:List Addr} {bs:List Cel} {n:Int} {lf:V} {m:Int} {lf2:V} {cs:List Cel} (h:BAt C_Boards H q es bs n lf) (g:BAt C_Boards H p ds cs m lf2) (k:Kb H H' p ds) (hq:q≠p) (ha:∀ e∈es,e ∉ ds):BAt C_Boards H' q es bs n lf:=by
  obtain ⟨dx,s,h1,h2,h3,h4⟩:=h
  obtain ⟨dx2,s2,g1,g2,g3,g4⟩:=g
  have nd:∀ {b:Addr} {o:HO},H b = some o→(∀ kvs,o≠.dK kvs)→b ∉ ds:=fun {b o} e z hb=>by
    obtain ⟨i,hi,ei⟩:=List.getElem_of_mem hb
    obtain ⟨c,_,kvs,q1,_⟩:=pair_get1 (i:=i) g4 (by rw [List.getElem?_eq_getElem hi,ei])
    rw [e] at q1
    exact z kvs (Option.some.inj q1)
  refine ⟨dx,s,k q _ h1 hq (nd h1 (by intro kvs z; cases z)),k s _ h2 (ne_of h2 g1 (by intro z; cases z)) (nd h2 (by intro kvs z; cases z)),h3,h4.same (fun a xs e=>k a _ e (ne_of e g1 (by intro z; cases z)) (nd e (by intro kvs z; cases z))) fun d hd kvs e=>k d _ e (ne_of e g1 (by intro z; cases z)) (ha d hd)⟩
theorem BAt.same {C_Boards:Addr} {H H':Hp} {p:Addr} {ds:List Addr} {bs:List Cel} {n:Int} {lf:V} (h:BAt C_Boards H p ds bs n lf) (s:Same H H'):BAt C_Boards H' p ds bs n lf:=by
  obtain ⟨dx,s0,h1,h2,h3,h4⟩:=h
  exact ⟨dx,s0,s.get h1,s.get h2,h3,h4.same (fun a xs e=>s.get e) fun d _ kvs e=>s.get e⟩
theorem Kb.trans {H H1 H2:Hp} {p:Addr} {ds:List Addr} (a:Kb H H1 p ds) (b:Kb H1 H2 p ds):Kb H H2 p ds:=fun c o e h1 h2=>b c o (a c o e h1 h2) h1 h2
theorem BAt.there {C_Boards:Addr} {H:Hp} {p:Addr} {ds:List Addr} {bs:List Cel} {n:Int} {lf:V} (g:BAt C_Boards H p ds bs n lf):∀ d∈ds,∃ kvs,H d = some (.dK kvs):=fun d hb=>by
  obtain ⟨_,_,_,_,_,g4⟩:=g
  obtain ⟨i,hi,ei⟩:=List.getElem_of_mem hb
  obtain ⟨c,_,kvs,q1,_⟩:=pair_get1 (i:=i) g4 (by rw [List.getElem?_eq_getElem hi,ei])
  exact ⟨kvs,q1⟩
def sp_Boards_init (K:PySem.W.Frag) (C_Boards:Addr):Sp:=fun vs H Q _=>∃ (p dx:Addr) (m:Nat),vs = [.ref p,.int m]∧2≤m∧m≤4∧H p = some (.ins C_Boards dx [])∧∀ H' ds,BAt C_Boards H' p ds (List.replicate m []) 0 .non→(∀ d∈ds,H d = none)→(∀ b o,H b = some o→b≠p→H' b = some o)→Q .non H'
theorem ok_Boards_init (T:Txt K mg C_Boards C_TakenCell C_Pool XC) (F:Fun K "__init__" "Boards.__init__" s_Boards_init f fd) (D_is_between:Def P w K mg base 2 "is_between" ["thing","least","most"] (sp_is_between K)):FnOk P w K mg base CX0 3 f fd ["self","many"] (sp_Boards_init K C_Boards):=by
  refine F.ok sc_Boards_init (fun vs H Q E h=>?_) (fun cdv A outer s H vs Q E hr h=>?_)
  · obtain ⟨p,dx,m,rfl,_⟩:=h
    rfl
  obtain ⟨p,dx,m,rfl,m1,m2,h1,q⟩:=h
  refine ⟨_,(@pss_cons _ _ _ _ _ (@ps_if _ _ _ _ _ _ _ _ (@pt_not _ _ _ _ (@pt_val _ _ _ (@pe_fn _ _ _ _ _ _ _ _ _ _ D_is_between (hr.mono (by decide)) rfl (@pa_cons _ _ _ _ _ (pv 1) (@pa_cons _ _ _ _ _ (@pe_globI _ _ _ _ rfl T.c_LEAST_BOARDS (by decide)) (@pa_cons _ _ _ _ _ (@pe_globI _ _ _ _ rfl T.c_MOST_BOARDS (by decide)) (@pa_nil _) (by rfl)) (by rfl)) (by rfl)) (by decide) (by rfl) (by rfl)) (by intro _; rfl))) (@pss_one _ _ _ (@ps_never _ _)) (@pss_nil _)) (@pss_cons _ _ _ _ _ (@ps_fld _ _ _ _ _ _ _ _ (pv 0) (@pe_comp0 _ ["board"] _ _ _ _ _ _ _ _ _ _ rfl (@pi_range1 _ _ _ _ _ _ rfl T.b_range (@pa_cons _ _ _ _ _ (pv 1) (@pa_nil _) (by rfl)) (by rfl)) (by decide +kernel) (fun C s H fp=>⟨(@pg_name _ _ (0) _ (show (["board"]:List Str).Nodup by decide +kernel) rfl (by first | exact Or.inl rfl | exact Or.inr rfl) (by first | exact .inl rfl | exact .inr rfl | assumption)),(@pifs_nil _),(@pe_dnewK _ _)⟩) (by intro _; rfl)) rfl) (@pss_cons _ _ _ _ _ (@ps_fld _ _ _ _ _ _ _ _ (pv 0) (@pe_int _ _ _ _) rfl) (@pss_one _ _ _ (@ps_fld _ _ _ _ _ _ _ _ (pv 0) (@pe_non _ _ _) rfl))))),?_⟩
  try dsimp only [cxOf,Cx.nox,Cx.wish]
  refine ⟨_,rfl,.int m,2,4,rfl,trivial,_,rfl,iteFc ?_ ?_⟩
  · show (!(decide ((2:Int)≤(m:Int)) && decide ((m:Int)≤4))) = false
    rw [decide_eq_true (show (2:Int)≤(m:Int) by omega),decide_eq_true (show (m:Int)≤4 by omega)]; rfl
  refine ⟨_,rfl,m,rfl,by omega,by omega,?_⟩
  refine comp_st (xs:=(List.range (m:Int).toNat).map fun (i:Nat)=>V.int (0 + (i:Int))) (fun i ys l H'=>Same H H'∧∃ ds:List Addr,ys = ds.map V.ref∧ds.Nodup∧∀ d∈ds,H' d = some (.dK [])∧H d = none) (by rw [List.length_map,List.length_range]; omega) (fun i ys l H' _=>itr_go) (fun l hl=>⟨same_new hl _,[],rfl,List.nodup_nil,fun _ h=>nomatch h⟩) (fun i x ys l H' R hx hl hl' hlen hI hR d hd=>?_) fun l H1 ys hl hl1 ly hI=>?_
  · obtain ⟨s',ds,rfl,nd,hds⟩:=hI
    have nld:l≠d:=ne_of_none hl' hd
    refine hR _ _ (by rw [upd_ne nld]; exact hl') ⟨same_upd (same_upd s' (s'.free hd) _) hl _,ds ++ [d],by rw [List.map_append]; rfl,?_,fun e he=>?_⟩
    · rw [List.nodup_append]
      refine ⟨nd,by simp,fun e he g hg=>?_⟩
      rw [List.mem_singleton.mp hg]
      intro z
      have:=(hds e he).1
      rw [z,hd] at this
      cases this
    · have nel:∀ {o},H' e = some (.dK o)→e≠l:=fun q=>ne_of q hl' (by intro z; cases z)
      rcases List.mem_append.mp he with he | he
      · obtain ⟨g1,g2⟩:=hds e he
        exact ⟨by rw [upd_ne (nel g1),upd_ne (ne_of_none g1 hd)]; exact g1,g2⟩
      · rw [List.mem_singleton.mp he]
        exact ⟨by rw [upd_ne nld.symm,upd_same],s'.free hd⟩
  obtain ⟨s1,ds,rfl,nd,hds⟩:=hI
  have lds:ds.length = m:=by rw [List.length_map,List.length_map,List.length_range] at ly; omega
  have p1:=s1.get h1
  have npl:l≠p:=ne_of hl1 p1 (by intro z; cases z)
  refine ⟨_,rfl,p,C_Boards,dx,[],rfl,p1,T.cl_Boards,T.n_Boards_shelves,(by show 0 < 1000; decide),?_⟩
  refine ⟨_,rfl,p,C_Boards,dx,_,rfl,upd_same,T.cl_Boards,T.n_Boards_writes,(by show 1 < 1000; decide),?_⟩
  refine ⟨_,rfl,p,C_Boards,dx,_,rfl,upd_same,T.cl_Boards,T.n_Boards_writes_left,(by show 2 < 1000; decide),?_⟩
  rw [upd_upd,upd_upd]
  refine q _ ds ⟨dx,l,upd_same,by rw [upd_ne npl]; exact hl1,nd,?_⟩ (fun d hd=>(hds d hd).2) fun b o e hb=>?_
  · have all:∀ (es:List Addr),(∀ d∈es,d∈ds)→BsR (upd H1 p (.ins C_Boards dx (putF "writes_left" V.non (putF "writes" (V.int 0) (putF "shelves" (V.ref l) []))))) es (List.replicate es.length []):=by
      intro es
      induction es with
      | nil=>intro _; exact .nil
      | cons d es ih=>
        intro hm
        refine .cons ⟨[],?_,.nil,List.nodup_nil⟩ (ih fun e he=>hm e (List.mem_cons_of_mem _ he))
        have:=(hds d (hm d List.mem_cons_self)).1
        rw [upd_ne (ne_of this p1 (by intro z; cases z))]; exact this
    have:=all ds fun _ h=>h
    rw [lds] at this
    exact this
  · rw [upd_ne hb]; exact s1.get e
end
section
variable {P:Program} {w:World} {K:PySem.W.Frag} {mg:Str→Option Value} {base:Heap} {f C_Boards C_TakenCell C_Pool:Addr} {XC:Nat→Addr} {fd:FuncData}
abbrev Tg:=Int×Int×Int
structure En where
  nm:Str
  kd:Int
  tg:Tg
inductive Bk where
  | piece (z:Str)
  | row (lv:Int) (ts:List Tg)
  | folder (es:List En)
def tgT (t:Tg):Tr:=.tup [.int t.1,.int t.2.1,.int t.2.2]
def enT (e:En):Tr:=.tup [.str e.nm,.int e.kd,tgT e.tg]
def bkT:Bk→Tr
  | .piece z=>.tup [.int 0,.str z]
  | .row lv ts=>.tup [.int 1,.int lv,.tup (ts.map tgT)]
  | .folder es=>.tup [.int 2,.tup (es.map enT)]
def tgOk (t:Tg):Prop:=(1≤t.1∧t.1≤999999)∧(0≤t.2.1∧t.2.1≤999999999)∧0≤t.2.2∧t.2.2≤996
def enOk (e:En):Prop:=nameB (.str e.nm) = true∧(1≤e.kd∧e.kd≤2)∧tgOk e.tg
def rowOk (lv:Int) (ts:List Tg):Prop:=ts.length≤8∧(1 < lv→ts≠[])∧∀ t∈ts,tgOk t
def folOk (es:List En):Prop:=es.length≤16∧(∀ e∈es,enOk e)∧PyProof.Rows.sortedS (es.map (·.nm)) = true∧(es.map (·.nm)).Nodup
def bkOk:Bk→Prop
  | .piece z=>textB 1 8 (.str z) = true
  | .row lv ts=>(1≤lv∧lv≤9)∧rowOk lv ts
  | .folder es=>folOk es
theorem rep_tg {H:Hp} {t:Tg} {v:V} (h:Rep NL H (tgT t) v):∃ a,v = .ref a∧H a = some (.tup [.int t.1,.int t.2.1,.int t.2.2]):=by
  obtain ⟨a,vs,rfl,e,x1,u1,rfl,rfl,x2,u2,rfl,rfl,x3,u3,rfl,rfl,rfl⟩:=h
  exact ⟨a,rfl,e⟩
theorem tg_rep {H:Hp} {t:Tg} {a:Addr} (e:H a = some (.tup [.int t.1,.int t.2.1,.int t.2.2])):Rep NL H (tgT t) (.ref a):=⟨a,_,rfl,e,_,_,rfl,rfl,_,_,rfl,rfl,_,_,rfl,rfl,rfl⟩
theorem rep_en {H:Hp} {x:En} {v:V} (h:Rep NL H (enT x) v):∃ a b,v = .ref a∧H a = some (.tup [.str x.nm,.int x.kd,.ref b])∧H b = some (.tup [.int x.tg.1,.int x.tg.2.1,.int x.tg.2.2]):=by
  obtain ⟨a,vs,rfl,e,x1,u1,rfl,rfl,x2,u2,rfl,rfl,x3,u3,rfl,r3,rfl⟩:=h
  obtain ⟨b,rfl,e2⟩:=rep_tg r3
  exact ⟨a,b,rfl,e,e2⟩
theorem rep_piece {H:Hp} {z:Str} {v:V} (h:Rep NL H (bkT (.piece z)) v):∃ a,v = .ref a∧H a = some (.tup [.int 0,.str z]):=by
  obtain ⟨a,vs,rfl,e,x1,u1,rfl,rfl,x2,u2,rfl,rfl,rfl⟩:=h
  exact ⟨a,rfl,e⟩
theorem rep_row {H:Hp} {lv:Int} {ts:List Tg} {v:V} (h:Rep NL H (bkT (.row lv ts)) v):∃ a b vs,v = .ref a∧H a = some (.tup [.int 1,.int lv,.ref b])∧H b = some (.tup vs)∧Reps NL H (ts.map tgT) vs:=by
  obtain ⟨a,vs,rfl,e,x1,u1,rfl,rfl,x2,u2,rfl,rfl,x3,u3,rfl,⟨b,us,rfl,e2,r⟩,rfl⟩:=h
  exact ⟨a,b,us,rfl,e,e2,r⟩
theorem rep_folder {H:Hp} {es:List En} {v:V} (h:Rep NL H (bkT (.folder es)) v):∃ a b vs,v = .ref a∧H a = some (.tup [.int 2,.ref b])∧H b = some (.tup vs)∧Reps NL H (es.map enT) vs:=by
  obtain ⟨a,vs,rfl,e,x1,u1,rfl,rfl,x2,u2,rfl,⟨b,us,rfl,e2,r⟩,rfl⟩:=h
  exact ⟨a,b,us,rfl,e,e2,r⟩
theorem reps_at {α:Type} {g:α→Tr} {H:Hp} {xs:List α} {vs:List V} (h:Reps NL H (xs.map g) vs) {v:V} (hv:v∈vs):∃ x∈xs,Rep NL H (g x) v:=by
  obtain ⟨i,hi,e⟩:=List.getElem_of_mem hv
  obtain ⟨t,ht,r⟩:=Reps.get h (show vs[i]? = some v by rw [List.getElem?_eq_getElem hi,e])
  rw [List.getElem?_map] at ht
  cases z:xs[i]? with
  | none=>rw [z] at ht; cases ht
  | some x=>
    rw [z] at ht
    cases ht
    exact ⟨x,List.mem_of_getElem? z,r⟩
theorem isT_tg {t:Tg} (h:tgOk t) (n:Nat):isT (n + 2) (tgT t) = true:=by
  obtain ⟨⟨a1,a2⟩,⟨b1,b2⟩,c1,c2⟩:=h
  simp only [tgT,isT,List.all_cons,List.all_nil,List.length_cons,List.length_nil,Bool.and_true,Bool.and_eq_true,decide_eq_true_eq]
  omega
theorem name_parts {z:Str} (h:nameB (.str z) = true):1≤z.length∧z.length≤8∧allIn SG z = true∧∀ c∈cod z,c∈cod SG:=by
  have h':(decide ((1:Int)≤z.length) && decide ((z.length:Int)≤8) && allIn LN z) = true:=h
  simp only [Bool.and_eq_true,decide_eq_true_eq] at h'
  have a:allIn SG z = true:=by
    have:=h'.2
    rw [← allIn_two,Bool.and_eq_true] at this
    exact this.1
  refine ⟨by omega,by omega,a,fun c hc=>?_⟩
  have:=List.all_eq_true.mp a c hc
  simpa using this
theorem isT_en {x:En} (h:enOk x) (n:Nat):isT (n + 3) (enT x) = true:=by
  obtain ⟨a,b,c⟩:=h
  obtain ⟨n1,n2,n3,_⟩:=name_parts a
  have d:=isT_tg c n
  simp only [enT,isT,List.all_cons,List.all_nil,List.length_cons,List.length_nil,Bool.and_true,Bool.and_eq_true,decide_eq_true_eq,n3,d,and_true]
  omega
theorem isT_bk {b:Bk} (h:bkOk b):isT 8 (bkT b) = true:=by
  cases b with
  | piece z=>
    have h':(decide ((1:Int)≤(z.length:Int)) && decide ((z.length:Int)≤8) && allIn SG z) = true:=h
    simp only [Bool.and_eq_true,decide_eq_true_eq] at h'
    simp only [bkT,isT,List.all_cons,List.all_nil,List.length_cons,List.length_nil,Bool.and_true,Bool.and_eq_true,decide_eq_true_eq,h'.2,and_true]
    omega
  | row lv ts=>
    obtain ⟨l,n,_,o⟩:=h
    have d:(ts.map tgT).all (isT 6) = true:=List.all_eq_true.mpr fun t ht=>by
      obtain ⟨x,hx,rfl⟩:=List.mem_map.mp ht
      exact isT_tg (o x hx) 4
    simp only [bkT,isT,List.all_cons,List.all_nil,List.length_cons,List.length_nil,List.length_map,Bool.and_true,Bool.and_eq_true,decide_eq_true_eq,d,and_true]
    omega
  | folder es=>
    obtain ⟨n,o,_⟩:=h
    have d:(es.map enT).all (isT 6) = true:=List.all_eq_true.mpr fun t ht=>by
      obtain ⟨x,hx,rfl⟩:=List.mem_map.mp ht
      exact isT_en (o x hx) 3
    simp only [bkT,isT,List.all_cons,List.all_nil,List.length_cons,List.length_nil,List.length_map,Bool.and_true,Bool.and_eq_true,decide_eq_true_eq,d,and_true]
    omega
theorem comp_map3 {J:It} {xs:List V} {te:TE} {Q:VK} {σ:St} {H:Hp} (f:V→V) (hJ:ItIs J H xs) (hn:xs.length≤1000000) (htg:∀ x∈xs,∃ a x1 x2 x3,x = .ref a∧H a = some (.tup [x1,x2,x3]))
    (helt:∀ a x1 x2 x3 (H':Hp) (R:VK),V.ref a∈xs→H a = some (.tup [x1,x2,x3])→Same H H'→(∀ H'',Same H' H''→R (f (.ref a)) H'')→te [some x1,some x2,some x3] H' R)
    (hQ:∀ l H',H l = none→Same H H'→H' l = some (.lst (xs.map f))→Q (.ref l) H') :
    tCompK [none,none,none] (gTup K 3 (gCons (gName 0) (gCons (gName 1) (gCons (gName 2) gNil)))) tYes te σ Q J H:=by
  intro l hl
  refine ⟨fun i m σ' H'=>m = xs.length - i∧i≤xs.length∧(∃ y0 y1 y2,σ' = [y0,y1,y2])∧Same H H'∧H' l = some (.lst ((xs.take i).map f)),⟨xs.length,by simp,Nat.zero_le _,⟨_,_,_,rfl⟩,same_new hl _,by rw [upd_same,List.take_zero,List.map_nil]⟩,?_⟩
  rintro i m σ' H' ⟨rfl,hi,⟨y0,y1,y2,rfl⟩,hs,hl'⟩
  obtain ⟨h1,h2,h3⟩:=hJ H' hs i
  by_cases hlt:i < xs.length
  · refine .inr ⟨h1 hlt,fun x H'' y=>?_⟩
    obtain ⟨rfl,hx⟩:=h2 x H'' y
    have hx:=hx hlt
    obtain ⟨a,x1,x2,x3,rfl,ha⟩:=htg x (List.mem_of_getElem? hx)
    refine ⟨a,_,rfl,SqT.of (hs.get ha),rfl,_,_,rfl,_,_,rfl,_,_,rfl,rfl,?_⟩
    refine helt a x1 x2 x3 H'' _ (List.mem_of_getElem? hx) ha hs fun H4 s4=>?_
    refine ⟨_,s4.get hl',smallLt (by rw [List.length_map,List.length_take]; omega),xs.length - (i + 1),by omega,rfl,hlt,⟨_,_,_,rfl⟩,same_upd (hs.trans s4) hl _,?_⟩
    rw [upd_same,List.take_add_one,hx]
    simp
  · have e:i = xs.length:=by omega
    subst e
    exact .inl ⟨h3 (Nat.le_refl _),hQ l H' hl hs (by rw [hl',List.take_of_length_le (Nat.le_refl _)])⟩
def enTold (x:En):List Int:=(cod x.nm).map idx ++ [x.kd,x.tg.2.2]
def told:Bk→List Int
  | .piece z=>(cod z).map idx
  | .row lv ts=>lv :: ts.map (·.2.2)
  | .folder es=>es.flatMap enTold
theorem idx_map (z:Str):((z.cps.toList.map fun c=>V.str ⟨#[c]⟩).map fun v=>match v with | V.str y=>V.int (PySem.Txt.find SG y) | _=>V.non) = ((cod z).map idx).map V.int:=by
  rw [List.map_map,List.map_map]; rfl
theorem third_of:∀ {ts:List Tg} {us:List V} {H:Hp},Reps NL H (ts.map tgT) us→(us.map fun v=>match v with | .ref x=>(match H x with | some (.tup [_,_,y])=>y | _=>.non) | _=>.non) = (ts.map (·.2.2)).map V.int
  | [],us,H,r=>by rw [show us = [] from r]; rfl
  | e :: es,us,H,r=>by
    obtain ⟨v,us',rfl,r1,r2⟩:=r
    obtain ⟨a,rfl,e1⟩:=rep_tg r1
    rw [List.map_cons,List.map_cons,List.map_cons,third_of r2]
    simp only [e1]
theorem told_take {es:List En} {i:Nat} {x:En} (h:es[i]? = some x):(es.take (i + 1)).flatMap enTold = (es.take i).flatMap enTold ++ enTold x:=by
  rw [List.take_add_one,h,List.flatMap_append]
  simp
theorem told_len {es:List En} (h:∀ x∈es,(enTold x).length≤10):(es.flatMap enTold).length≤10 * es.length:=by
  induction es with
  | nil=>exact Nat.le_refl _
  | cons x r ih=>
    rw [List.flatMap_cons,List.length_append,List.length_cons]
    have:=h x List.mem_cons_self
    have:=ih fun y hy=>h y (List.mem_cons_of_mem _ hy)
    omega
theorem en_len {x:En} (h:enOk x):(enTold x).length≤10:=by
  have:=(name_parts h.1).2.1
  unfold enTold
  rw [List.length_append,List.length_map,cod_len]
  show x.nm.length + 2≤10
  omega
def sp_numbers_told (K:PySem.W.Frag):Sp:=fun vs H Q _=>∃ v b,vs = [v]∧Rep NL H (bkT b) v∧bkOk b∧∀ l H',Same H H'→H l = none→H' l = some (.lst ((told b).map V.int))→Q (.ref l) H'
theorem ok_numbers_told (T:Txt K mg C_Boards C_TakenCell C_Pool XC) (F:Fun K "numbers_told" "numbers_told" s_numbers_told f fd) (D_number_of:Def P w K mg base 1 "number_of" ["sign"] (sp_number_of K)):FnOk P w K mg base CX0 2 f fd ["block"] (sp_numbers_told K):=by
  refine F.ok sc_numbers_told (fun vs H Q E h=>?_) (fun cdv A outer s H vs Q E hr h=>?_)
  · obtain ⟨v,b,rfl,_⟩:=h
    rfl
  obtain ⟨v,b,rfl,hv,ok,q⟩:=h
  refine ⟨_,(@pss_cons _ _ _ _ _ (@ps_if _ _ _ _ _ _ _ _ (@pt_cmpR _ _ _ _ _ _ _ _ op_eq (@pe_ix _ _ _ _ _ _ _ ix_tup (pv 0) (@pe_int _ _ _ _) (fun _ _=>rfl)) (@pe_globI _ _ _ _ rfl T.c_PIECE (by decide)) (nomark _)) (@pss_one _ _ _ (@ps_ret _ _ _ _ (@pe_comp0 _ ["sign"] _ _ _ _ _ _ _ _ _ _ rfl (@pi_str _ _ _ _ (@pe_ix _ _ _ _ _ _ _ ix_tup (pv 0) (@pe_int _ _ _ _) (fun _ _=>rfl))) (by decide +kernel) (fun C s H fp=>⟨(@pg_name _ _ (0) _ (show (["sign"]:List Str).Nodup by decide +kernel) rfl (by first | exact Or.inl rfl | exact Or.inr rfl) (by first | exact .inl rfl | exact .inr rfl | assumption)),(@pifs_nil _),(@pe_fn _ _ _ _ _ _ _ _ _ _ D_number_of (hr.mono (by decide)) rfl (@pa_cons _ _ _ _ _ (pv 0) (@pa_nil _) (by rfl)) (by decide) (by rfl) (by rfl))⟩) (by intro _; rfl)))) (@pss_nil _)) (@pss_cons _ _ _ _ _ (@ps_if _ _ _ _ _ _ _ _ (@pt_cmpR _ _ _ _ _ _ _ _ op_eq (@pe_ix _ _ _ _ _ _ _ ix_tup (pv 0) (@pe_int _ _ _ _) (fun _ _=>rfl)) (@pe_globI _ _ _ _ rfl T.c_ROW (by decide)) (nomark _)) (@pss_one _ _ _ (@ps_ret _ _ _ _ (@pe_op _ _ _ _ _ _ _ _ op_catS (@pe_lst _ _ _ _ (@pa_cons _ _ _ _ _ (@pe_ix _ _ _ _ _ _ _ ix_tup (pv 0) (@pe_int _ _ _ _) (fun _ _=>rfl)) (@pa_nil _) (by rfl))) (@pe_comp0 _ ["tag"] _ _ _ _ _ _ _ _ _ _ rfl (@pi_tup _ _ _ _ (@pe_ix _ _ _ _ _ _ _ ix_tup (pv 0) (@pe_int _ _ _ _) (fun _ _=>rfl))) (by decide +kernel) (fun C s H fp=>⟨(@pg_name _ _ (0) _ (show (["tag"]:List Str).Nodup by decide +kernel) rfl (by first | exact Or.inl rfl | exact Or.inr rfl) (by first | exact .inl rfl | exact .inr rfl | assumption)),(@pifs_nil _),(@pe_ix _ _ _ _ _ _ _ (ix_tupK (K:=K) (by rfl)) (pv 0) (@pe_int _ _ _ _) (fun _ _=>rfl))⟩) (by intro _; rfl))))) (@pss_nil _)) (@pss_cons _ _ _ _ _ (@ps_set _ _ (1) _ _ _ _ sc_numbers_told.nd rfl (by first | exact Or.inl rfl | exact Or.inr rfl) (@pe_lst _ _ _ _ (@pa_nil _)) (by rfl) (by first | exact .inl rfl | exact .inr rfl | assumption)) (@pss_cons _ _ _ _ _ (@ps_for _ _ _ _ _ _ _ _ PassesOwn.never rfl (@pi_tup _ _ _ _ (@pe_ix _ _ _ _ _ _ _ ix_tup (pv 0) (@pe_int _ _ _ _) (fun _ _=>rfl))) (@pg_tup _ _ _ _ _ _ rfl (@pgs_cons _ _ _ _ _ (@pg_name _ _ (2) _ sc_numbers_told.nd rfl (by first | exact Or.inl rfl | exact Or.inr rfl) (by first | exact .inl rfl | exact .inr rfl | assumption)) (@pgs_cons _ _ _ _ _ (@pg_name _ _ (3) _ sc_numbers_told.nd rfl (by first | exact Or.inl rfl | exact Or.inr rfl) (by first | exact .inl rfl | exact .inr rfl | assumption)) (@pgs_cons _ _ _ _ _ (@pg_name _ _ (4) _ sc_numbers_told.nd rfl (by first | exact Or.inl rfl | exact Or.inr rfl) (by first | exact .inl rfl | exact .inr rfl | assumption)) (@pgs_nil _) (by rfl)) (by rfl)) (by rfl)) (by rfl) (by rfl)) (@pss_cons _ _ _ _ _ (@ps_expr _ _ _ _ (@pe_bm _ _ _ _ _ _ _ _ _ _ _ _ PySem.F.plainAttrs_list PySem.F.slot_list_extend PySem.F.type_list_extend mt_extend (pv 1) (@pa_cons _ _ _ _ _ (@pe_comp0 _ ["sign"] _ _ _ _ _ _ _ _ _ _ rfl (@pi_str _ _ _ _ (pv 2)) (by decide +kernel) (fun C s H fp=>⟨(@pg_name _ _ (0) _ (show (["sign"]:List Str).Nodup by decide +kernel) rfl (by first | exact Or.inl rfl | exact Or.inr rfl) (by first | exact .inl rfl | exact .inr rfl | assumption)),(@pifs_nil _),(@pe_fn _ _ _ _ _ _ _ _ _ _ D_number_of (hr.mono (by decide)) rfl (@pa_cons _ _ _ _ _ (pv 0) (@pa_nil _) (by rfl)) (by decide) (by rfl) (by rfl))⟩) (by intro _; rfl)) (@pa_nil _) (by rfl)) (by rfl) (by rfl) (by rfl) (by rfl) (by rfl)) (by rfl)) (@pss_one _ _ _ (@ps_expr _ _ _ _ (@pe_bm _ _ _ _ _ _ _ _ _ _ _ _ PySem.F.plainAttrs_list PySem.F.slot_list_extend PySem.F.type_list_extend mt_extend (pv 1) (@pa_cons _ _ _ _ _ (@pe_lst _ _ _ _ (@pa_cons _ _ _ _ _ (pv 3) (@pa_cons _ _ _ _ _ (@pe_ix _ _ _ _ _ _ _ ix_tup (pv 4) (@pe_int _ _ _ _) (fun _ _=>rfl)) (@pa_nil _) (by rfl)) (by rfl))) (@pa_nil _) (by rfl)) (by rfl) (by rfl) (by rfl) (by rfl) (by rfl)) (by rfl)))) (by intro _; rfl)) (@pss_one _ _ _ (@ps_ret _ _ _ _ (pv 1))))))),?_⟩
  cases b with
  | piece z=>
    obtain ⟨a,rfl,e⟩:=rep_piece hv
    have h':(decide ((1:Int)≤(z.length:Int)) && decide ((z.length:Int)≤8) && allIn SG z) = true:=ok
    simp only [Bool.and_eq_true,decide_eq_true_eq] at h'
    have zs:∀ c∈cod z,c∈cod SG:=fun c hc=>by simpa using List.all_eq_true.mp h'.2 c hc
    refine ⟨_,rfl,a,_,_,_,rfl,rfl,SqT.of e,rfl,rfl,_,rfl,iteTc rfl ?_⟩
    refine ⟨_,rfl,a,_,_,_,rfl,rfl,SqT.of e,rfl,z,rfl,?_⟩
    refine comp_map (fun v=>match v with | .str y=>.int (PySem.Txt.find SG y) | _=>.non) itIs_str (by rw [List.length_map]; exact Nat.le_trans (Nat.le_of_eq (cod_len z)) (by omega)) (fun x H' R hx s' hR=>?_) fun l H7 n7 s7 h7=>?_
    · obtain ⟨u,hu,rfl⟩:=List.mem_map.mp hx
      exact ⟨_,rfl,_,rfl,(idx_sg (zs u hu)).1,hR H' (Same.refl _)⟩
    rw [idx_map] at h7
    exact q l H7 s7 n7 h7
  | row lv ts=>
    obtain ⟨a,b,us,rfl,e,e2,r⟩:=rep_row hv
    have lu:=Reps.len _ _ r
    rw [List.length_map] at lu
    have l8:=ok.2.1
    refine ⟨_,rfl,a,_,_,_,rfl,rfl,SqT.of e,rfl,rfl,_,rfl,iteFc rfl ?_⟩
    refine ⟨_,rfl,a,_,_,_,rfl,rfl,SqT.of e,rfl,rfl,_,rfl,iteTc rfl ?_⟩
    refine ⟨_,rfl,a,_,_,_,rfl,rfl,SqT.of e,rfl,small (by show 1≤1000000; decide),fun p1 hp1=>?_⟩
    have s1:=same_new hp1 (.lst [V.int lv])
    have e2':=s1.get e2
    have r':=Reps.same s1 _ _ r
    refine ⟨_,rfl,a,_,_,_,rfl,rfl,SqT.of (s1.get e),rfl,b,rfl,⟨_,SqT.of e2'⟩,comp_map (fun v=>match v with | .ref x=>(match (upd H p1 (.lst [V.int lv])) x with | some (.tup [_,_,y])=>y | _=>.non) | _=>.non) (itIs_tup e2') (by omega) (fun x H' R hx s' hR=>?_) fun l H7 n7 s7 h7=>?_⟩
    · obtain ⟨t,ht,rt⟩:=reps_at r' hx
      obtain ⟨c,rfl,ec⟩:=rep_tg rt
      have:=hR H' (Same.refl _)
      simp only [ec] at this
      exact ⟨_,rfl,c,_,_,_,rfl,rfl,SqT.of (s'.get ec),rfl,this⟩
    rw [third_of r'] at h7
    refine ⟨p1,l,_,_,rfl,rfl,SqL.of (s7.get upd_same),SqL.of h7,small (by rw [List.length_map,List.length_map]; show 1 + ts.length≤1000000; omega),fun p hp=>?_⟩
    exact q p _ ((s1.trans s7).trans (same_new hp _)) ((s1.trans s7).free hp) upd_same
  | folder es=>
    obtain ⟨a,b,us,rfl,e,e2,r⟩:=rep_folder hv
    have lu:=Reps.len _ _ r
    rw [List.length_map] at lu
    obtain ⟨o1,o2,_⟩:=ok
    refine ⟨_,rfl,a,_,_,_,rfl,rfl,SqT.of e,rfl,rfl,_,rfl,iteFc rfl ?_⟩
    refine ⟨_,rfl,a,_,_,_,rfl,rfl,SqT.of e,rfl,rfl,_,rfl,iteFc rfl ?_⟩
    refine ⟨small (by show 0≤1000000; decide),fun g hg=>?_⟩
    have sg:=same_new hg (.lst [])
    refine ⟨_,rfl,a,_,_,_,rfl,rfl,SqT.of (sg.get e),rfl,b,rfl,⟨_,SqT.of (sg.get e2)⟩,for_tup (K:=K) (a:=b) (xs:=us) (fun i σ H2=>∃ v2 v3 v4,σ = [some (.ref a),some (.ref g),v2,v3,v4]∧Same H H2∧H2 g = some (.lst (((es.take i).flatMap enTold).map V.int))) ⟨none,none,none,rfl,sg,upd_same⟩ (fun i σ H2 _ ⟨_,_,_,_,s2,_⟩=>SqT.of (s2.get e2)) ?_ ?_⟩
    · rintro i y σ H2 hi ⟨v2,v3,v4,rfl,s2,hg2⟩
      obtain ⟨t,ht,ry⟩:=Reps.get r hi
      rw [List.getElem?_map] at ht
      cases z:es[i]? with
      | none=>rw [z] at ht; cases ht
      | some x=>
        rw [z] at ht
        cases ht
        obtain ⟨c,d,rfl,ec,ed⟩:=rep_en ry
        have ox:=o2 x (List.mem_of_getElem? z)
        obtain ⟨n1,n2,_,n4⟩:=name_parts ox.1
        have tl:((es.take i).flatMap enTold).length≤160:=by
          have:=told_len (es:=es.take i) fun y hy=>en_len (o2 y (List.mem_of_mem_take hy))
          rw [List.length_take] at this
          omega
        refine ⟨c,_,rfl,SqT.of (s2.get ec),rfl,_,_,rfl,_,_,rfl,_,_,rfl,rfl,?_⟩
        refine ⟨_,rfl,.inl ⟨rfl,_,SqL.of hg2⟩,_,rfl,x.nm,rfl,?_⟩
        refine comp_map (fun v=>match v with | .str y=>.int (PySem.Txt.find SG y) | _=>.non) itIs_str (by rw [List.length_map]; exact Nat.le_trans (Nat.le_of_eq (cod_len x.nm)) (by omega)) (fun u H' R hu s' hR=>?_) fun l H7 n7 s7 h7=>?_
        · obtain ⟨k,hk,rfl⟩:=List.mem_map.mp hu
          exact ⟨_,rfl,_,rfl,(idx_sg (n4 k hk)).1,hR H' (Same.refl _)⟩
        rw [idx_map] at h7
        refine ⟨g,l,_,_,rfl,rfl,s7.get hg2,h7,small (by rw [List.length_map,List.length_map,List.length_map,cod_len]; omega),?_⟩
        have t7:=same_upd (s2.trans s7) hg (.lst (((es.take i).flatMap enTold).map V.int ++ ((cod x.nm).map idx).map V.int))
        refine ⟨_,rfl,.inl ⟨rfl,_,SqL.of upd_same⟩,_,rfl,_,rfl,d,_,_,_,rfl,rfl,SqT.of (t7.get ed),rfl,small (by show 2≤1000000; decide),fun p hp=>?_⟩
        have t8:=same_new hp (.lst [V.int x.kd,V.int x.tg.2.2])
        refine ⟨g,p,_,_,rfl,rfl,t8.get upd_same,upd_same,small (by rw [List.length_append,List.length_map,List.length_map,List.length_map,cod_len]; show _ + _ + 2≤_; omega),?_⟩
        refine ⟨_,_,_,rfl,same_upd (t7.trans t8) hg _,?_⟩
        rw [upd_same,told_take z,List.map_append]
        unfold enTold
        rw [List.map_append,List.append_assoc]
        rfl
    · rintro σ H2 ⟨v2,v3,v4,rfl,s2,hg2⟩
      rw [lu,List.take_of_length_le (Nat.le_refl _)] at hg2
      exact ⟨_,rfl,q g H2 s2 hg hg2⟩
def kindB:Bk→Int
  | .piece _=>0
  | .row _ _=>1
  | .folder _=>2
def sumB (b:Bk):Int:=(told b).foldl (fun t n=>(31 * t + n + 1) % 997) (1 + kindB b)
theorem bk_first {H:Hp} {b:Bk} {v:V} (h:Rep NL H (bkT b) v):∃ a xs,v = .ref a∧H a = some (.tup (.int (kindB b) :: xs)):=by
  cases b with
  | piece z=>obtain ⟨a,rfl,e⟩:=rep_piece h; exact ⟨a,_,rfl,e⟩
  | row lv ts=>obtain ⟨a,b,us,rfl,e,_⟩:=rep_row h; exact ⟨a,_,rfl,e⟩
  | folder es=>obtain ⟨a,b,us,rfl,e,_⟩:=rep_folder h; exact ⟨a,_,rfl,e⟩
theorem at_first {x:V} {xs:List V}:atI (x :: xs) 0 = some x:=by
  unfold atI ixN
  simp
theorem ints_get {ns:List Int} {i:Nat} {y:V} (h:(ns.map V.int)[i]? = some y):∃ n,y = .int n∧ns[i]? = some n:=by
  rw [List.getElem?_map] at h
  cases z:ns[i]? with
  | none=>rw [z] at h; cases h
  | some n=>rw [z] at h; cases h; exact ⟨n,rfl,rfl⟩
theorem fold_take {f:Int→Int→Int} {z:Int} {ns:List Int} {i:Nat} {n:Int} (h:ns[i]? = some n):(ns.take (i + 1)).foldl f z = f ((ns.take i).foldl f z) n:=by
  rw [List.take_add_one,h,List.foldl_append]
  rfl
def sp_sum_of (K:PySem.W.Frag):Sp:=fun vs H Q _=>∃ v b,vs = [v]∧Rep NL H (bkT b) v∧bkOk b∧∀ H',Same H H'→Q (.int (sumB b)) H'
theorem ok_sum_of (T:Txt K mg C_Boards C_TakenCell C_Pool XC) (F:Fun K "sum_of" "sum_of" s_sum_of f fd) (D_numbers_told:Def P w K mg base 2 "numbers_told" ["block"] (sp_numbers_told K)):FnOk P w K mg base CX0 3 f fd ["block"] (sp_sum_of K):=by
  refine F.ok sc_sum_of (fun vs H Q E h=>?_) (fun cdv A outer s H vs Q E hr h=>?_)
  · obtain ⟨v,b,rfl,_⟩:=h
    rfl
  obtain ⟨v,b,rfl,hv,ok,q⟩:=h
  obtain ⟨a,xs,rfl,e⟩:=bk_first hv
  refine ⟨_,(@pss_cons _ _ _ _ _ (@ps_set _ _ (1) _ _ _ _ sc_sum_of.nd rfl (by first | exact Or.inl rfl | exact Or.inr rfl) (@pe_op _ _ _ _ _ _ _ _ op_add (@pe_int _ _ _ _) (@pe_ix _ _ _ _ _ _ _ ix_tup (pv 0) (@pe_int _ _ _ _) (fun _ _=>rfl))) (by rfl) (by first | exact .inl rfl | exact .inr rfl | assumption)) (@pss_cons _ _ _ _ _ (@ps_for _ _ _ _ _ _ _ _ PassesOwn.never rfl (@pi_list _ _ _ _ (@pe_fn _ _ _ _ _ _ _ _ _ _ D_numbers_told (hr.mono (by decide)) rfl (@pa_cons _ _ _ _ _ (pv 0) (@pa_nil _) (by rfl)) (by decide) (by rfl) (by rfl))) (@pg_name _ _ (2) _ sc_sum_of.nd rfl (by first | exact Or.inl rfl | exact Or.inr rfl) (by first | exact .inl rfl | exact .inr rfl | assumption)) (@pss_one _ _ _ (@ps_set _ _ (1) _ _ _ _ sc_sum_of.nd rfl (by first | exact Or.inl rfl | exact Or.inr rfl) (@pe_op _ _ _ _ _ _ _ _ op_mod (@pe_op _ _ _ _ _ _ _ _ op_add (@pe_op _ _ _ _ _ _ _ _ op_add (@pe_op _ _ _ _ _ _ _ _ op_mul (@pe_int _ _ _ _) (pv 1)) (pv 2)) (@pe_int _ _ _ _)) (@pe_globI _ _ _ _ rfl T.c_SUM_RESTS (by decide))) (by rfl) (by first | exact .inl rfl | exact .inr rfl | assumption))) (by intro _; rfl)) (@pss_one _ _ _ (@ps_ret _ _ _ _ (pv 1))))),?_⟩
  refine ⟨_,rfl,a,_,_,_,rfl,rfl,SqT.of e,at_first,_,_,rfl,rfl,?_⟩
  refine ⟨_,rfl,_,b,rfl,hv,ok,fun l H1 s1 n1 h1=>?_⟩
  refine ⟨l,rfl,⟨_,SqL.of h1⟩,for_list (K:=K) (a:=l) (xs:=(told b).map V.int) (fun i σ H2=>∃ v2,σ = [some (.ref a),some (.int (((told b).take i).foldl (fun t n=>(31 * t + n + 1) % 997) (1 + kindB b))),v2]∧Same H1 H2) ⟨none,rfl,Same.refl _⟩ (fun i σ H2 _ ⟨_,_,s2⟩=>SqL.of (s2.get h1)) ?_ ?_⟩
  · rintro i y σ H2 hi ⟨v2,rfl,s2⟩
    obtain ⟨n,rfl,hn⟩:=ints_get hi
    refine ⟨_,rfl,_,_,rfl,rfl,.inl ⟨by decide,by decide⟩,_,rfl,_,_,rfl,rfl,_,_,rfl,rfl,_,_,rfl,rfl,(show (0:Int) < 997 by decide),?_⟩
    refine ⟨some (.int n),?_,s2⟩
    rw [fold_take hn]
    rfl
  · rintro σ H2 ⟨v2,rfl,s2⟩
    rw [List.length_map,List.take_length]
    exact ⟨_,rfl,q H2 (s1.trans s2)⟩
theorem wlen_ints (ts:List Tg):(wTs (ts.map tgT)).length = 8 * ts.length:=by
  induction ts with
  | nil=>rfl
  | cons t r ih=>
    rw [List.map_cons]
    show (wT (tgT t) ++ wTs (r.map tgT)).length = _
    rw [List.length_append,ih,List.length_cons]
    have:(wT (tgT t)).length = 8:=rfl
    omega
def sizeB:Bk→Nat
  | .piece z=>6 + z.length
  | .row _ ts=>8 + 8 * ts.length
  | .folder es=>6 + (es.map fun x=>14 + x.nm.length).sum
theorem wlen_ens (es:List En):(wTs (es.map enT)).length = (es.map fun x=>14 + x.nm.length).sum:=by
  induction es with
  | nil=>rfl
  | cons x r ih=>
    rw [List.map_cons,List.map_cons,List.sum_cons,← ih]
    show (wT (enT x) ++ wTs (r.map enT)).length = _
    rw [List.length_append]
    have:(wT (enT x)).length = 14 + x.nm.length:=by
      show (2 :: ((3:Int)) :: ((1 :: (x.nm.length:Int) :: (cod x.nm).map idx) ++ ([0,x.kd] ++ (wT (tgT x.tg) ++ [])))).length = _
      have t8:(wT (tgT x.tg)).length = 8:=rfl
      simp only [List.length_cons,List.length_append,List.length_map,cod_len,List.length_nil,t8]
      omega
    omega
theorem wlen_bk (b:Bk):(wT (bkT b)).length = sizeB b:=by
  cases b with
  | piece z=>
    show (2 :: (2:Int) :: ([0,0] ++ ((1 :: (z.length:Int) :: (cod z).map idx) ++ []))).length = 6 + z.length
    simp only [List.length_cons,List.length_append,List.length_map,cod_len,List.length_nil]
    omega
  | row lv ts=>
    show (2 :: (3:Int) :: ([0,1] ++ ([0,lv] ++ ((2 :: ((ts.map tgT).length:Int) :: wTs (ts.map tgT)) ++ [])))).length = 8 + 8 * ts.length
    simp only [List.length_cons,List.length_append,List.length_nil,wlen_ints]
    omega
  | folder es=>
    show (2 :: (2:Int) :: ([0,2] ++ ((2 :: ((es.map enT).length:Int) :: wTs (es.map enT)) ++ []))).length = 6 + (es.map fun x=>14 + x.nm.length).sum
    simp only [List.length_cons,List.length_append,List.length_nil,wlen_ens]
    omega
theorem size_le {b:Bk} (h:bkOk b):sizeB b≤500:=by
  cases b with
  | piece z=>
    have h':(decide ((1:Int)≤(z.length:Int)) && decide ((z.length:Int)≤8) && allIn SG z) = true:=h
    simp only [Bool.and_eq_true,decide_eq_true_eq] at h'
    show 6 + z.length≤500
    omega
  | row lv ts=>
    have:=h.2.1
    show 8 + 8 * ts.length≤500
    omega
  | folder es=>
    have n:=h.1
    have s0:∀ l:List En,(∀ x∈l,enOk x)→(l.map fun x=>14 + x.nm.length).sum≤22 * l.length:=fun l=>by
      induction l with
      | nil=>intro _; exact Nat.le_refl _
      | cons x r ih=>
        intro hx
        rw [List.map_cons,List.sum_cons,List.length_cons]
        have:=ih fun y hy=>hx y (List.mem_cons_of_mem _ hy)
        have:=(name_parts (hx x List.mem_cons_self).1).2.1
        omega
    have:=s0 es h.2.1
    show 6 + _≤500
    omega
end
section
variable {P:Program} {w:World} {K:PySem.W.Frag} {mg:Str→Option Value} {base:Heap} {f C_Boards C_TakenCell C_Pool:Addr} {XC:Nat→Addr} {fd:FuncData}
def sp_size_of (K:PySem.W.Frag):Sp:=fun vs H Q _=>∃ v b,vs = [v]∧Rep NL H (bkT b) v∧bkOk b∧∀ H',Same H H'→Q (.int ((wT (bkT b)).length:Int)) H'
theorem ok_size_of (T:Txt K mg C_Boards C_TakenCell C_Pool XC) (F:Fun K "size_of" "size_of" s_size_of f fd) (D_words_of:Def P w K mg base 9 "words_of" ["thing"] (sp_words_of K)):FnOk P w K mg base CX0 10 f fd ["block"] (sp_size_of K):=by
  refine F.ok sc_size_of (fun vs H Q E h=>?_) (fun cdv A outer s H vs Q E hr h=>?_)
  · obtain ⟨v,b,rfl,_⟩:=h
    rfl
  obtain ⟨v,b,rfl,hv,ok,q⟩:=h
  refine ⟨_,(@pss_one _ _ _ (@ps_ret _ _ _ _ (@pe_callB _ _ _ _ _ _ _ _ _ call_len_seq (by rfl) T.b_len bt_len (@pa_cons _ _ _ _ _ (@pe_fn _ _ _ _ _ _ _ _ _ _ D_words_of (hr.mono (by decide)) rfl (@pa_cons _ _ _ _ _ (pv 0) (@pa_nil _) (by rfl)) (by decide) (by rfl) (by rfl)) (@pa_nil _) (by rfl)) (by decide) (by decide) (by rfl) (by rfl)))),?_⟩
  try dsimp only [cxOf,Cx.nox,Cx.wish]
  have:=wlen_bk b
  have:=size_le ok
  refine ⟨_,rfl,v,bkT b,rfl,hv,isT_bk ok,by omega,fun wl H2 s2 nw hw=>⟨wl,_,rfl,.inl (SqL.of hw),?_⟩⟩
  rw [List.length_map]
  exact q _ s2
def tagsB:Bk→List Tg
  | .piece _=>[]
  | .row _ ts=>ts
  | .folder es=>es.map (·.tg)
def thirdV (H:Hp):V→V
  | .ref a=>match H a with
    | some (.tup [_,_,t])=>t
    | _=>.non
  | _=>.non
theorem third_at {H:Hp} {a:Addr} {x y z:V} (h:H a = some (.tup [x,y,z])):thirdV H (.ref a) = z:=by
  show (match H a with | some (.tup [_,_,t])=>t | _=>V.non) = z
  rw [h]
theorem reps_third {H:Hp}:∀ {es:List En} {us:List V},Reps NL H (es.map enT) us→Reps NL H ((es.map (·.tg)).map tgT) (us.map (thirdV H))
  | [],us,h=>by cases h; exact rfl
  | e :: es,us,h=>by
    obtain ⟨v,vs,rfl,h1,h2⟩:=h
    obtain ⟨a,b,rfl,e1,e2⟩:=rep_en h1
    refine ⟨_,_,rfl,?_,reps_third h2⟩
    rw [third_at e1]
    exact tg_rep e2
def sp_tags_in (K:PySem.W.Frag):Sp:=fun vs H Q _=>∃ v b,vs = [v]∧Rep NL H (bkT b) v∧bkOk b∧∀ l us H',Same H H'→H l = none→H' l = some (.lst us)→Reps NL H' ((tagsB b).map tgT) us→Q (.ref l) H'
theorem ok_tags_in (T:Txt K mg C_Boards C_TakenCell C_Pool XC) (F:Fun K "tags_in" "tags_in" s_tags_in f fd):FnOk P w K mg base CX0 1 f fd ["block"] (sp_tags_in K):=by
  refine F.ok sc_tags_in (fun vs H Q E h=>?_) (fun cdv A outer s H vs Q E hr h=>?_)
  · obtain ⟨v,b,rfl,_⟩:=h
    rfl
  obtain ⟨v,b,rfl,hv,ok,q⟩:=h
  refine ⟨_,(@pss_cons _ _ _ _ _ (@ps_if _ _ _ _ _ _ _ _ (@pt_cmpR _ _ _ _ _ _ _ _ op_eq (@pe_ix _ _ _ _ _ _ _ ix_tup (pv 0) (@pe_int _ _ _ _) (fun _ _=>rfl)) (@pe_globI _ _ _ _ rfl T.c_PIECE (by decide)) (nomark _)) (@pss_one _ _ _ (@ps_ret _ _ _ _ (@pe_lst _ _ _ _ (@pa_nil _)))) (@pss_nil _)) (@pss_cons _ _ _ _ _ (@ps_if _ _ _ _ _ _ _ _ (@pt_cmpR _ _ _ _ _ _ _ _ op_eq (@pe_ix _ _ _ _ _ _ _ ix_tup (pv 0) (@pe_int _ _ _ _) (fun _ _=>rfl)) (@pe_globI _ _ _ _ rfl T.c_ROW (by decide)) (nomark _)) (@pss_one _ _ _ (@ps_ret _ _ _ _ (@pe_callTy _ _ _ _ _ _ _ _ _ call_list_of (by rfl) T.b_list bt_list (@pa_cons _ _ _ _ _ (@pe_ix _ _ _ _ _ _ _ ix_tup (pv 0) (@pe_int _ _ _ _) (fun _ _=>rfl)) (@pa_nil _) (by rfl)) (by decide) (by decide) (by rfl) (by rfl)))) (@pss_nil _)) (@pss_one _ _ _ (@ps_ret _ _ _ _ (@pe_comp0 _ ["name","kind","tag"] _ _ _ _ _ _ _ _ _ _ rfl (@pi_tup _ _ _ _ (@pe_ix _ _ _ _ _ _ _ ix_tup (pv 0) (@pe_int _ _ _ _) (fun _ _=>rfl))) (by decide +kernel) (fun C s H fp=>⟨(@pg_tupK _ (K) _ _ _ _ (3) (by rfl) rfl (@pgs_cons _ _ _ _ _ (@pg_name _ _ (0) _ (show (["name","kind","tag"]:List Str).Nodup by decide +kernel) rfl (by first | exact Or.inl rfl | exact Or.inr rfl) (by first | exact .inl rfl | exact .inr rfl | assumption)) (@pgs_cons _ _ _ _ _ (@pg_name _ _ (1) _ (show (["name","kind","tag"]:List Str).Nodup by decide +kernel) rfl (by first | exact Or.inl rfl | exact Or.inr rfl) (by first | exact .inl rfl | exact .inr rfl | assumption)) (@pgs_cons _ _ _ _ _ (@pg_name _ _ (2) _ (show (["name","kind","tag"]:List Str).Nodup by decide +kernel) rfl (by first | exact Or.inl rfl | exact Or.inr rfl) (by first | exact .inl rfl | exact .inr rfl | assumption)) (@pgs_nil _) (by rfl)) (by rfl)) (by rfl)) (by rfl) (by rfl)),(@pifs_nil _),(pv 2)⟩) (by intro _; rfl)))))),?_⟩
  try dsimp only [cxOf,Cx.nox,Cx.wish]
  cases b with
  | piece z=>
    obtain ⟨a,rfl,e⟩:=rep_piece hv
    refine ⟨_,rfl,a,_,_,_,rfl,rfl,SqT.of e,rfl,rfl,_,rfl,iteTc rfl ?_⟩
    exact ⟨small (by show 0≤1000000; decide),fun l hl=>q l [] _ (same_new hl _) hl upd_same rfl⟩
  | row lv ts=>
    obtain ⟨a,d,us,rfl,e,e2,r⟩:=rep_row hv
    refine ⟨_,rfl,a,_,_,_,rfl,rfl,SqT.of e,rfl,rfl,_,rfl,iteFc rfl ?_⟩
    refine ⟨_,rfl,a,_,_,_,rfl,rfl,SqT.of e,rfl,rfl,_,rfl,iteTc rfl ?_⟩
    exact ⟨_,rfl,a,_,_,_,rfl,rfl,SqT.of e,rfl,d,_,rfl,.inr (SqT.of e2),fun l hl=>q l us _ (same_new hl _) hl upd_same (Reps.same (same_new hl _) _ _ r)⟩
  | folder es=>
    obtain ⟨a,d,us,rfl,e,e2,r⟩:=rep_folder hv
    refine ⟨_,rfl,a,_,_,_,rfl,rfl,SqT.of e,rfl,rfl,_,rfl,iteFc rfl ?_⟩
    refine ⟨_,rfl,a,_,_,_,rfl,rfl,SqT.of e,rfl,rfl,_,rfl,iteFc rfl ?_⟩
    refine ⟨_,rfl,a,_,_,_,rfl,rfl,SqT.of e,rfl,d,rfl,⟨_,SqT.of e2⟩,?_⟩
    have lu:us.length = es.length:=by rw [Reps.len _ _ r,List.length_map]
    have l16:es.length≤16:=ok.1
    refine comp_map3 (xs:=us) (thirdV H) (itIs_tup e2) (by omega) (fun x hx=>?_) (fun b x1 x2 x3 H' R hx hb s' hR=>⟨_,rfl,?_⟩) fun l H' nl s' hl=>q l _ H' s' nl hl (Reps.same s' _ _ (reps_third r))
    · obtain ⟨en,_,hr⟩:=reps_at r hx
      obtain ⟨b,c,rfl,e3,_⟩:=rep_en hr
      exact ⟨b,_,_,_,rfl,e3⟩
    · have:=hR H' (Same.refl _)
      rw [third_at hb] at this
      exact this
def fldsC (t:Addr) (n:Int) (l:Addr) (k e s:Int):List (Str×V):=[("own_tag",.ref t),("own_size",.int n),("named",.ref l),("times_named",.int k),("entries_beneath",.int e),("steps_beneath",.int s)]
def sp_TakenCell_init (K:PySem.W.Frag) (C:Addr):Sp:=fun vs H Q _=>∃ (x dx ta:Addr) (v:V) (b:Bk),vs = [.ref x,.ref ta,v]∧H x = some (.ins C dx [])∧Rep NL H (bkT b) v∧bkOk b∧
  ∀ l us H',(∀ c o,H c = some o→c≠x→H' c = some o)→H l = none→H' l = some (.lst us)→Reps NL H' ((tagsB b).map tgT) us→H' x = some (.ins C dx (fldsC ta ((wT (bkT b)).length:Int) l 0 0 0))→Q .non H'
theorem ok_TakenCell_init (T:Txt K mg C_Boards C_TakenCell C_Pool XC) (F:Fun K "__init__" "TakenCell.__init__" s_TakenCell_init f fd) (D_size_of:Def P w K mg base 10 "size_of" ["block"] (sp_size_of K)) (D_tags_in:Def P w K mg base 1 "tags_in" ["block"] (sp_tags_in K)):FnOk P w K mg base CX0 11 f fd ["self","own_tag","block"] (sp_TakenCell_init K C_TakenCell):=by
  refine F.ok sc_TakenCell_init (fun vs H Q E h=>?_) (fun cdv A outer s H vs Q E hr h=>?_)
  · obtain ⟨x,dx,ta,v,b,rfl,_⟩:=h
    rfl
  obtain ⟨x,dx,ta,v,b,rfl,hx,hv,ok,q⟩:=h
  refine ⟨_,(@pss_cons _ _ _ _ _ (@ps_fld _ _ _ _ _ _ _ _ (pv 0) (pv 1) rfl) (@pss_cons _ _ _ _ _ (@ps_fld _ _ _ _ _ _ _ _ (pv 0) (@pe_fn _ _ _ _ _ _ _ _ _ _ D_size_of (hr.mono (by decide)) rfl (@pa_cons _ _ _ _ _ (pv 2) (@pa_nil _) (by rfl)) (by decide) (by rfl) (by rfl)) rfl) (@pss_cons _ _ _ _ _ (@ps_fld _ _ _ _ _ _ _ _ (pv 0) (@pe_fn _ _ _ _ _ _ _ _ _ _ D_tags_in (hr.mono (by decide)) rfl (@pa_cons _ _ _ _ _ (pv 2) (@pa_nil _) (by rfl)) (by decide) (by rfl) (by rfl)) rfl) (@pss_cons _ _ _ _ _ (@ps_fld _ _ _ _ _ _ _ _ (pv 0) (@pe_int _ _ _ _) rfl) (@pss_cons _ _ _ _ _ (@ps_fld _ _ _ _ _ _ _ _ (pv 0) (@pe_int _ _ _ _) rfl) (@pss_one _ _ _ (@ps_fld _ _ _ _ _ _ _ _ (pv 0) (@pe_int _ _ _ _) rfl))))))),?_⟩
  try dsimp only [cxOf,Cx.nox,Cx.wish]
  have tp:∀ (o:HO) c ys,H c = some (.tup ys)→(upd H x o) c = some (.tup ys):=fun o c ys h=>by rw [upd_ne (ne_of h hx (by intro z; cases z))]; exact h
  refine ⟨_,rfl,_,rfl,x,C_TakenCell,dx,[],rfl,hx,T.cl_TakenCell,T.n_TakenCell_own_tag,(by show 0 < 1000; decide),?_⟩
  refine ⟨_,rfl,v,b,rfl,rep_tup (tp _) _ _ hv,ok,fun H1 s1=>⟨_,rfl,x,C_TakenCell,dx,_,rfl,s1.get upd_same,T.cl_TakenCell,T.n_TakenCell_own_size,(by show 1 < 1000; decide),?_⟩⟩
  have hx1:∀ o,(upd H1 x o) x = some o:=fun o=>upd_same
  have k1:∀ o c u,H c = some u→c≠x→(upd H1 x o) c = some u:=fun o c u h n=>by rw [upd_ne n]; exact s1.get (by rw [upd_ne n]; exact h)
  refine ⟨_,rfl,v,b,rfl,rep_tup (fun c ys h=>k1 _ c _ h (ne_of h hx (by intro z; cases z))) _ _ hv,ok,fun l us H2 s2 nl hl r=>⟨_,rfl,x,C_TakenCell,dx,_,rfl,s2.get (hx1 _),T.cl_TakenCell,T.n_TakenCell_named,(by show 2 < 1000; decide),?_⟩⟩
  have nlx:l≠x:=fun z=>by rw [z,hx1] at nl; cases nl
  refine ⟨_,rfl,x,C_TakenCell,dx,_,rfl,upd_same,T.cl_TakenCell,T.n_TakenCell_times_named,(by show 3 < 1000; decide),?_⟩
  refine ⟨_,rfl,x,C_TakenCell,dx,_,rfl,upd_same,T.cl_TakenCell,T.n_TakenCell_entries_beneath,(by show 4 < 1000; decide),?_⟩
  refine ⟨_,rfl,x,C_TakenCell,dx,_,rfl,upd_same,T.cl_TakenCell,T.n_TakenCell_steps_beneath,(by show 5 < 1000; decide),?_⟩
  rw [upd_upd,upd_upd,upd_upd]
  have nlH:H l = none:=by
    cases h:H l with
    | none=>rfl
    | some o=>rw [k1 _ l o h nlx] at nl; cases nl
  refine q l us _ (fun c o h n=>by rw [upd_ne n]; exact s2.get (k1 _ c o h n)) nlH (by rw [upd_ne nlx]; exact hl) (reps_tup (fun c ys h=>?_) _ _ r) upd_same
  rw [upd_ne (fun z=>by have:=s2.get (hx1 (.ins C_TakenCell dx (putF "own_size" (V.int ((wT (bkT b)).length:Int)) (putF "own_tag" (V.ref ta) [])))); rw [z,this] at h; cases h)]; exact h
def fldsP (bo dt dz dd:Addr) (n:Int):List (Str×V):=[("boards",.ref bo),("taken",.ref dt),("by_sums",.ref dz),("draft",.ref dd),("first_maybe_free",.int n)]
def sp_Pool_init (K:PySem.W.Frag) (C:Addr):Sp:=fun vs H Q _=>∃ (x dx bo:Addr),vs = [.ref x,.ref bo]∧H x = some (.ins C dx [])∧
  ∀ dt dz dd H',(∀ c o,H c = some o→c≠x→H' c = some o)→dt≠dz→dt≠dd→dz≠dd→H' dt = some (.dK [])→H' dz = some (.dK [])→H' dd = some (.dK [])→H' x = some (.ins C dx (fldsP bo dt dz dd 1))→Q .non H'
theorem ok_Pool_init (T:Txt K mg C_Boards C_TakenCell C_Pool XC) (F:Fun K "__init__" "Pool.__init__" s_Pool_init f fd):FnOk P w K mg base CX0 1 f fd ["self","boards"] (sp_Pool_init K C_Pool):=by
  refine F.ok sc_Pool_init (fun vs H Q E h=>?_) (fun cdv A outer s H vs Q E hr h=>?_)
  · obtain ⟨x,dx,bo,rfl,_⟩:=h
    rfl
  obtain ⟨x,dx,bo,rfl,hx,q⟩:=h
  refine ⟨_,(@pss_cons _ _ _ _ _ (@ps_fld _ _ _ _ _ _ _ _ (pv 0) (pv 1) rfl) (@pss_cons _ _ _ _ _ (@ps_fld _ _ _ _ _ _ _ _ (pv 0) (@pe_dnewK _ _) rfl) (@pss_cons _ _ _ _ _ (@ps_fld _ _ _ _ _ _ _ _ (pv 0) (@pe_dnewK _ _) rfl) (@pss_cons _ _ _ _ _ (@ps_fld _ _ _ _ _ _ _ _ (pv 0) (@pe_dnewK _ _) rfl) (@pss_one _ _ _ (@ps_fld _ _ _ _ _ _ _ _ (pv 0) (@pe_int _ _ _ _) rfl)))))),?_⟩
  try dsimp only [cxOf,Cx.nox,Cx.wish]
  refine ⟨_,rfl,_,rfl,x,C_Pool,dx,[],rfl,hx,T.cl_Pool,T.n_Pool_boards,(by show 0 < 1000; decide),?_⟩
  refine fun dt hdt=>?_
  have n1:dt≠x:=fun z=>by rw [z,upd_same] at hdt; cases hdt
  refine ⟨_,rfl,x,C_Pool,dx,_,rfl,(same_new hdt _).get upd_same,T.cl_Pool,T.n_Pool_taken,(by show 1 < 1000; decide),?_⟩
  refine fun dz hdz=>?_
  have n2:dz≠x:=fun z=>by rw [z,upd_same] at hdz; cases hdz
  have e1:dz≠dt:=fun z=>by rw [z,upd_ne n1,upd_same] at hdz; cases hdz
  refine ⟨_,rfl,x,C_Pool,dx,_,rfl,(same_new hdz _).get upd_same,T.cl_Pool,T.n_Pool_by_sums,(by show 2 < 1000; decide),?_⟩
  refine fun dd hdd=>?_
  have n3:dd≠x:=fun z=>by rw [z,upd_same] at hdd; cases hdd
  have e2:dd≠dz:=fun z=>by rw [z,upd_ne n2,upd_same] at hdd; cases hdd
  have e3:dd≠dt:=fun z=>by rw [z,upd_ne n1,upd_ne (Ne.symm e1),upd_ne n1,upd_same] at hdd; cases hdd
  refine ⟨_,rfl,x,C_Pool,dx,_,rfl,(same_new hdd _).get upd_same,T.cl_Pool,T.n_Pool_draft,(by show 3 < 1000; decide),?_⟩
  refine ⟨_,rfl,x,C_Pool,dx,_,rfl,upd_same,T.cl_Pool,T.n_Pool_first_maybe_free,(by show 4 < 1000; decide),?_⟩
  refine q dt dz dd _ (fun c o h n=>?_) (Ne.symm e1) (Ne.symm e3) (Ne.symm e2) ?_ ?_ ?_ upd_same
  · have a1:c≠dt:=fun z=>by rw [← z,upd_ne n,h] at hdt; cases hdt
    have b1:=h
    have a2:c≠dz:=fun z=>by rw [← z,upd_ne n,upd_ne a1,upd_ne n,h] at hdz; cases hdz
    have a3:c≠dd:=fun z=>by rw [← z,upd_ne n,upd_ne a2,upd_ne n,upd_ne a1,upd_ne n,h] at hdd; cases hdd
    rw [upd_ne n,upd_ne n,upd_ne a3,upd_ne n,upd_ne a2,upd_ne n,upd_ne a1,upd_ne n]; exact h
  · rw [upd_ne n1,upd_ne n1,upd_ne (Ne.symm e3),upd_ne n1,upd_ne (Ne.symm e1),upd_ne n1,upd_same]
  · rw [upd_ne n2,upd_ne n2,upd_ne (Ne.symm e2),upd_ne n2,upd_same]
  · rw [upd_ne n3,upd_ne n3,upd_same]
structure Cl where
  z:Int
  y:Int
  bk:Bk
  v:V
  c:Addr
  dx:Addr
  ta:Addr
  l:Addr
  k:Int
  en:Int
  st:Int
structure Pl where
  dp:Addr
  bo:Addr
  dt:Addr
  dz:Addr
  dd:Addr
  n:Int
def CellAt (C:Addr) (H:Hp) (e:Cl):Prop:=H e.c = some (.ins C e.dx (fldsC e.ta ((wT (bkT e.bk)).length:Int) e.l e.k e.en e.st))∧H e.ta = some (.tup [.int e.z,.int e.y,.int (sumB e.bk)])∧Rep NL H (bkT e.bk) e.v∧bkOk e.bk
def dTk (cs:List Cl):List (Key×V):=cs.map fun e=>(Sum.inl e.z,.ref e.c)
def dDr (cs:List Cl):List (Key×V):=cs.map fun e=>(Sum.inl e.z,e.v)
def PAt0 (CP CT:Addr) (H:Hp) (p:Addr) (q:Pl) (cs:List Cl):Prop:=H p = some (.ins CP q.dp (fldsP q.bo q.dt q.dz q.dd q.n))∧H q.dt = some (.dK (dTk cs))∧(∀ e∈cs,CellAt CT H e)∧(cs.map (·.z)).Nodup
theorem val_in {κ:Type} [DecidableEq κ]:∀ {kvs:List (κ×V)} (_:(kvs.map (·.1)).Nodup) {k:κ} {v:V},(k,v)∈kvs→valV kvs k = some v
  | [],_,_,_,h=>nomatch h
  | x :: kvs,nd,k,v,h=>by
    rw [List.map_cons,List.nodup_cons] at nd
    rcases List.mem_cons.mp h with rfl | h
    · exact valV_pos rfl
    · rw [valV_neg (fun e=>nd.1 (by rw [e]; exact List.mem_map.mpr ⟨_,h,rfl⟩))]
      exact val_in nd.2 h
theorem inl_nodup {g:Cl→V}:∀ {cs:List Cl},(cs.map (·.z)).Nodup→((cs.map fun e=>((Sum.inl e.z:Key),g e)).map (·.1)).Nodup
  | [],_=>List.nodup_nil
  | e :: cs,h=>by
    rw [List.map_cons,List.nodup_cons] at h
    rw [List.map_cons,List.map_cons,List.nodup_cons]
    refine ⟨fun q=>h.1 ?_,inl_nodup h.2⟩
    obtain ⟨x,hx,e1⟩:=List.mem_map.mp q
    obtain ⟨u,hu,rfl⟩:=List.mem_map.mp hx
    exact List.mem_map.mpr ⟨u,hu,Sum.inl.inj e1⟩
theorem tk_val {cs:List Cl} (nd:(cs.map (·.z)).Nodup) {e:Cl} (h:e∈cs):valV (dTk cs) (Sum.inl e.z) = some (.ref e.c):=val_in (inl_nodup nd) (List.mem_map.mpr ⟨e,h,rfl⟩)
theorem dr_val {cs:List Cl} (nd:(cs.map (·.z)).Nodup) {e:Cl} (h:e∈cs):valV (dDr cs) (Sum.inl e.z) = some e.v:=val_in (inl_nodup nd) (List.mem_map.mpr ⟨e,h,rfl⟩)
def sp_Pool_tag (K:PySem.W.Frag) (CP CT:Addr):Sp:=fun vs H Q _=>∃ p q cs e,vs = [.ref p,.int e.z]∧PAt0 CP CT H p q cs∧e∈cs∧Q (.ref e.ta) H
theorem ok_Pool_tag (T:Txt K mg C_Boards C_TakenCell C_Pool XC) (F:Fun K "tag" "Pool.tag" s_Pool_tag f fd):FnOk P w K mg base CX0 1 f fd ["self","number"] (sp_Pool_tag K C_Pool C_TakenCell):=by
  refine F.ok sc_Pool_tag (fun vs H Q E h=>?_) (fun cdv A outer s H vs Q E hr h=>?_)
  · obtain ⟨p,q,cs,e,rfl,_⟩:=h
    rfl
  obtain ⟨p,q,cs,e,rfl,⟨h1,h2,h4,nd⟩,he,hq⟩:=h
  have hu:=hu_of hr
  refine ⟨_,(@pss_one _ _ _ (@ps_ret _ _ _ _ (@pe_fld _ _ _ _ _ (@pe_dget _ _ _ _ _ _ hu (@pe_fld _ _ _ _ _ (pv 0) rfl) (pv 1) (fun _ _=>rfl)) rfl))),?_⟩
  try dsimp only [cxOf,Cx.nox,Cx.wish]
  have g:DGet H q.dt (.int e.z) (some (.ref e.c)):=by
    have:=DGet.k (k:=Sum.inl e.z) h2
    rw [tk_val nd he] at this
    exact this
  exact ⟨_,rfl,p,C_Pool,q.dp,_,_,rfl,h1,T.cl_Pool,T.n_Pool_taken,rfl,_,rfl,q.dt,_,rfl,g,e.c,C_TakenCell,e.dx,_,_,rfl,(h4 e he).1,T.cl_TakenCell,T.n_TakenCell_own_tag,rfl,hq⟩
def sp_Pool_entries (K:PySem.W.Frag) (CP CT:Addr):Sp:=fun vs H Q _=>∃ p q cs e,vs = [.ref p,.int e.z]∧PAt0 CP CT H p q cs∧e∈cs∧Q (.int e.en) H
theorem ok_Pool_entries (T:Txt K mg C_Boards C_TakenCell C_Pool XC) (F:Fun K "entries" "Pool.entries" s_Pool_entries f fd):FnOk P w K mg base CX0 1 f fd ["self","number"] (sp_Pool_entries K C_Pool C_TakenCell):=by
  refine F.ok sc_Pool_entries (fun vs H Q E h=>?_) (fun cdv A outer s H vs Q E hr h=>?_)
  · obtain ⟨p,q,cs,e,rfl,_⟩:=h
    rfl
  obtain ⟨p,q,cs,e,rfl,⟨h1,h2,h4,nd⟩,he,hq⟩:=h
  have hu:=hu_of hr
  refine ⟨_,(@pss_one _ _ _ (@ps_ret _ _ _ _ (@pe_fld _ _ _ _ _ (@pe_dget _ _ _ _ _ _ hu (@pe_fld _ _ _ _ _ (pv 0) rfl) (pv 1) (fun _ _=>rfl)) rfl))),?_⟩
  try dsimp only [cxOf,Cx.nox,Cx.wish]
  have g:DGet H q.dt (.int e.z) (some (.ref e.c)):=by
    have:=DGet.k (k:=Sum.inl e.z) h2
    rw [tk_val nd he] at this
    exact this
  exact ⟨_,rfl,p,C_Pool,q.dp,_,_,rfl,h1,T.cl_Pool,T.n_Pool_taken,rfl,_,rfl,q.dt,_,rfl,g,e.c,C_TakenCell,e.dx,_,_,rfl,(h4 e he).1,T.cl_TakenCell,T.n_TakenCell_entries_beneath,rfl,hq⟩
def sp_Pool_deep (K:PySem.W.Frag) (CP CT:Addr):Sp:=fun vs H Q _=>∃ p q cs e,vs = [.ref p,.int e.z]∧PAt0 CP CT H p q cs∧e∈cs∧Q (.int e.st) H
theorem ok_Pool_deep (T:Txt K mg C_Boards C_TakenCell C_Pool XC) (F:Fun K "deep" "Pool.deep" s_Pool_deep f fd):FnOk P w K mg base CX0 1 f fd ["self","number"] (sp_Pool_deep K C_Pool C_TakenCell):=by
  refine F.ok sc_Pool_deep (fun vs H Q E h=>?_) (fun cdv A outer s H vs Q E hr h=>?_)
  · obtain ⟨p,q,cs,e,rfl,_⟩:=h
    rfl
  obtain ⟨p,q,cs,e,rfl,⟨h1,h2,h4,nd⟩,he,hq⟩:=h
  have hu:=hu_of hr
  refine ⟨_,(@pss_one _ _ _ (@ps_ret _ _ _ _ (@pe_fld _ _ _ _ _ (@pe_dget _ _ _ _ _ _ hu (@pe_fld _ _ _ _ _ (pv 0) rfl) (pv 1) (fun _ _=>rfl)) rfl))),?_⟩
  try dsimp only [cxOf,Cx.nox,Cx.wish]
  have g:DGet H q.dt (.int e.z) (some (.ref e.c)):=by
    have:=DGet.k (k:=Sum.inl e.z) h2
    rw [tk_val nd he] at this
    exact this
  exact ⟨_,rfl,p,C_Pool,q.dp,_,_,rfl,h1,T.cl_Pool,T.n_Pool_taken,rfl,_,rfl,q.dt,_,rfl,g,e.c,C_TakenCell,e.dx,_,_,rfl,(h4 e he).1,T.cl_TakenCell,T.n_TakenCell_steps_beneath,rfl,hq⟩
def sp_Pool_block (K:PySem.W.Frag) (CP CT:Addr):Sp:=fun vs H Q _=>∃ p q cs e,∃ (ta:Addr) (y k:V),vs = [.ref p,.ref ta]∧PAt0 CP CT H p q cs∧H q.dd = some (.dK (dDr cs))∧e∈cs∧H ta = some (.tup [.int e.z,y,k])∧Q e.v H
theorem ok_Pool_block (T:Txt K mg C_Boards C_TakenCell C_Pool XC) (F:Fun K "block" "Pool.block" s_Pool_block f fd):FnOk P w K mg base CX0 1 f fd ["self","tag"] (sp_Pool_block K C_Pool C_TakenCell):=by
  refine F.ok sc_Pool_block (fun vs H Q E h=>?_) (fun cdv A outer s H vs Q E hr h=>?_)
  · obtain ⟨p,q,cs,e,ta,y,k,rfl,_⟩:=h
    rfl
  obtain ⟨p,q,cs,e,ta,y,k,rfl,⟨h1,h2,h4,nd⟩,h3,he,ht,hq⟩:=h
  have hu:=hu_of hr
  refine ⟨_,(@pss_cons _ _ _ _ _ (@ps_if _ _ _ _ _ _ _ _ (@pt_cmp _ _ _ _ _ _ (@pc_din _ _ _ _ _ hu (@pe_ix _ _ _ _ _ _ _ ix_tup (pv 1) (@pe_int _ _ _ _) (fun _ _=>rfl)) (@pe_fld _ _ _ _ _ (pv 0) rfl)) (by first | exact nobehind _ (by decide) (by decide) | rfl)) (@pss_one _ _ _ (@ps_ret _ _ _ _ (@pe_dget _ _ _ _ _ _ hu (@pe_fld _ _ _ _ _ (pv 0) rfl) (@pe_ix _ _ _ _ _ _ _ ix_tup (pv 1) (@pe_int _ _ _ _) (fun _ _=>rfl)) (fun _ _=>rfl)))) (@pss_nil _)) (@pss_one _ _ _ (@ps_never _ _))),?_⟩
  try dsimp only [cxOf,Cx.nox,Cx.wish]
  have g:DGet H q.dd (.int e.z) (some e.v):=by
    have:=DGet.k (k:=Sum.inl e.z) h3
    rw [dr_val nd he] at this
    exact this
  refine ⟨_,rfl,ta,_,_,_,rfl,rfl,SqT.of ht,rfl,_,rfl,p,C_Pool,q.dp,_,_,rfl,h1,T.cl_Pool,T.n_Pool_draft,rfl,q.dd,_,rfl,g,?_⟩
  refine ⟨_,rfl,iteTc rfl ?_⟩
  exact ⟨_,rfl,p,C_Pool,q.dp,_,_,rfl,h1,T.cl_Pool,T.n_Pool_draft,rfl,_,rfl,ta,_,_,_,rfl,rfl,SqT.of ht,rfl,q.dd,_,rfl,g,hq⟩
def sp_Pool_hold (K:PySem.W.Frag) (CP CT:Addr):Sp:=fun vs H Q _=>∃ p q cs e,∃ (ta:Addr) (y k:V),vs = [.ref p,.ref ta]∧PAt0 CP CT H p q cs∧e∈cs∧H ta = some (.tup [.int e.z,y,k])∧Q .non (upd H e.c (.ins CT e.dx (fldsC e.ta ((wT (bkT e.bk)).length:Int) e.l (e.k + 1) e.en e.st)))
theorem ok_Pool_hold (T:Txt K mg C_Boards C_TakenCell C_Pool XC) (F:Fun K "hold" "Pool.hold" s_Pool_hold f fd):FnOk P w K mg base CX0 1 f fd ["self","tag"] (sp_Pool_hold K C_Pool C_TakenCell):=by
  refine F.ok sc_Pool_hold (fun vs H Q E h=>?_) (fun cdv A outer s H vs Q E hr h=>?_)
  · obtain ⟨p,q,cs,e,ta,y,k,rfl,_⟩:=h
    rfl
  obtain ⟨p,q,cs,e,ta,y,k,rfl,⟨h1,h2,h4,nd⟩,he,ht,hq⟩:=h
  have hu:=hu_of hr
  refine ⟨_,(@pss_cons _ _ _ _ _ (@ps_set _ _ (2) _ _ _ _ sc_Pool_hold.nd rfl (by first | exact Or.inl rfl | exact Or.inr rfl) (@pe_dget _ _ _ _ _ _ hu (@pe_fld _ _ _ _ _ (pv 0) rfl) (@pe_ix _ _ _ _ _ _ _ ix_tup (pv 1) (@pe_int _ _ _ _) (fun _ _=>rfl)) (fun _ _=>rfl)) (by rfl) (by first | exact .inl rfl | exact .inr rfl | assumption)) (@pss_one _ _ _ (@ps_fldaug _ _ _ _ _ _ _ _ _ _ (pv 2) (@pe_int _ _ _ _) iop_add))),?_⟩
  try dsimp only [cxOf,Cx.nox,Cx.wish]
  have g:DGet H q.dt (.int e.z) (some (.ref e.c)):=by
    have:=DGet.k (k:=Sum.inl e.z) h2
    rw [tk_val nd he] at this
    exact this
  have hc:=(h4 e he).1
  refine ⟨_,rfl,p,C_Pool,q.dp,_,_,rfl,h1,T.cl_Pool,T.n_Pool_taken,rfl,_,rfl,ta,_,_,_,rfl,rfl,SqT.of ht,rfl,q.dt,_,rfl,g,?_⟩
  exact ⟨_,rfl,e.c,C_TakenCell,e.dx,_,_,rfl,hc,T.cl_TakenCell,T.n_TakenCell_times_named,rfl,_,_,rfl,rfl,e.dx,_,hc,(by show 6 < 1000; decide),hq⟩
def sp_Pool_free_number (K:PySem.W.Frag) (CP CT:Addr):Sp:=fun vs H Q _=>∃ p q cs,vs = [.ref p]∧PAt0 CP CT H p q cs∧(∀ (i:Nat) e,cs[i]? = some e→e.z = (i:Int) + 1)∧1≤q.n∧q.n≤(cs.length:Int) + 1∧
  ∀ H',H' p = some (.ins CP q.dp (fldsP q.bo q.dt q.dz q.dd ((cs.length:Int) + 1)))→(∀ b,b≠p→H' b = H b)→Q (.int ((cs.length:Int) + 1)) H'
theorem ok_Pool_free_number (T:Txt K mg C_Boards C_TakenCell C_Pool XC) (F:Fun K "free_number" "Pool.free_number" s_Pool_free_number f fd):FnOk P w K mg base CX0 1 f fd ["self"] (sp_Pool_free_number K C_Pool C_TakenCell):=by
  refine F.ok sc_Pool_free_number (fun vs H Q E h=>?_) (fun cdv A outer s H vs Q E hr h=>?_)
  · obtain ⟨p,q,cs,rfl,_⟩:=h
    rfl
  obtain ⟨p,q,cs,rfl,⟨h1,h2,h4,nd⟩,zs,n1,n2,hq⟩:=h
  have hu:=hu_of hr
  refine ⟨_,(@pss_cons _ _ _ _ _ (@ps_while _ _ _ _ _ _ PassesOwn.never (@pt_cmp _ _ _ _ _ _ (@pc_din _ _ _ _ _ hu (@pe_fld _ _ _ _ _ (pv 0) rfl) (@pe_fld _ _ _ _ _ (pv 0) rfl)) (by first | exact nobehind _ (by decide) (by decide) | rfl)) (@pss_one _ _ _ (@ps_fldaug _ _ _ _ _ _ _ _ _ _ (pv 0) (@pe_int _ _ _ _) iop_add))) (@pss_one _ _ _ (@ps_ret _ _ _ _ (@pe_fld _ _ _ _ _ (pv 0) rfl)))),?_⟩
  try dsimp only [cxOf,Cx.nox,Cx.wish]
  have nt:q.dt≠p:=ne_of h2 h1 (by intro z; cases z)
  have vn:∀ j:Int,(cs.length:Int) < j→valV (dTk cs) (Sum.inl j) = none:=fun j hj=>by
    unfold valV
    rw [Option.map_eq_none_iff,List.find?_eq_none]
    intro x hx
    obtain ⟨e,he,rfl⟩:=List.mem_map.mp hx
    obtain ⟨i,hi,rfl⟩:=List.getElem_of_mem he
    have:=zs i _ (List.getElem?_eq_getElem hi)
    intro z
    have:=Sum.inl.inj (of_decide_eq_true z)
    omega
  refine ⟨fun m σ H2=>∃ j:Int,m = ((cs.length:Int) + 1 - j).toNat∧1≤j∧j≤(cs.length:Int) + 1∧σ = [some (.ref p)]∧H2 p = some (.ins C_Pool q.dp (fldsP q.bo q.dt q.dz q.dd j))∧∀ b,b≠p→H2 b = H b,⟨_,q.n,rfl,n1,n2,rfl,h1,fun _ _=>rfl⟩,?_⟩
  rintro m σ H2 ⟨j,rfl,j1,j2,rfl,hp,ho⟩
  have hdt:H2 q.dt = some (.dK (dTk cs)):=by rw [ho _ nt]; exact h2
  refine ⟨_,rfl,p,C_Pool,q.dp,_,_,rfl,hp,T.cl_Pool,T.n_Pool_first_maybe_free,rfl,_,rfl,p,C_Pool,q.dp,_,_,rfl,hp,T.cl_Pool,T.n_Pool_taken,rfl,q.dt,_,rfl,DGet.k (k:=Sum.inl j) hdt,_,rfl,ite2 (fun c=>?_) (fun c=>?_)⟩
  · have hj:j≤(cs.length:Int):=Classical.byContradiction fun z=>by
      rw [vn j (by omega)] at c
      cases c
    refine ⟨fun σ H'=>σ = [some (.ref p)]∧H' p = some (.ins C_Pool q.dp (fldsP q.bo q.dt q.dz q.dd (j + 1)))∧∀ b,b≠p→H' b = H b,?_,?_⟩
    · rintro σ' H' ⟨rfl,a1,a2⟩
      exact ⟨((cs.length:Int) + 1 - (j + 1)).toNat,by omega,j + 1,rfl,by omega,by omega,rfl,a1,a2⟩
    · refine ⟨_,rfl,p,C_Pool,q.dp,_,_,rfl,hp,T.cl_Pool,T.n_Pool_first_maybe_free,rfl,_,_,rfl,rfl,q.dp,_,hp,(by show 5 < 1000; decide),rfl,upd_same,fun b hb=>?_⟩
      rw [upd_ne hb]; exact ho b hb
  · have hj:j = (cs.length:Int) + 1:=Classical.byContradiction fun z=>by
      have li:(j - 1).toNat < cs.length:=by omega
      have hz:=zs _ _ (List.getElem?_eq_getElem li)
      have:=tk_val nd (List.getElem_mem li)
      rw [hz,show (((j - 1).toNat:Nat):Int) + 1 = j by omega] at this
      rw [this] at c
      exact c rfl
    subst hj
    exact ⟨_,rfl,p,C_Pool,q.dp,_,_,rfl,hp,T.cl_Pool,T.n_Pool_first_maybe_free,rfl,hq H2 hp ho⟩
theorem comp_map3S {J:It} {xs:List V} {te:TE} {Q:VK} {s0:Option V} {σ:St} {H:Hp} (f:V→V) (hJ:ItIs J H xs) (hn:xs.length≤1000000) (htg:∀ x∈xs,∃ a x1 x2 x3,x = .ref a∧H a = some (.tup [x1,x2,x3]))
    (helt:∀ a x1 x2 x3 (H':Hp) (R:VK),V.ref a∈xs→H a = some (.tup [x1,x2,x3])→Same H H'→(∀ H'',Same H' H''→R (f (.ref a)) H'')→te [some x1,some x2,some x3,s0] H' R)
    (hQ:∀ l H',H l = none→Same H H'→H' l = some (.lst (xs.map f))→Q (.ref l) H') :
    tCompK [none,none,none,some 0] (gTup K 3 (gCons (gName 0) (gCons (gName 1) (gCons (gName 2) gNil)))) tYes te (s0 :: σ) Q J H:=by
  intro l hl
  refine ⟨fun i m σ' H'=>m = xs.length - i∧i≤xs.length∧(∃ y0 y1 y2,σ' = [y0,y1,y2,s0])∧Same H H'∧H' l = some (.lst ((xs.take i).map f)),⟨xs.length,by simp,Nat.zero_le _,⟨_,_,_,rfl⟩,same_new hl _,by rw [upd_same,List.take_zero,List.map_nil]⟩,?_⟩
  rintro i m σ' H' ⟨rfl,hi,⟨y0,y1,y2,rfl⟩,hs,hl'⟩
  obtain ⟨h1,h2,h3⟩:=hJ H' hs i
  by_cases hlt:i < xs.length
  · refine .inr ⟨h1 hlt,fun x H'' y=>?_⟩
    obtain ⟨rfl,hx⟩:=h2 x H'' y
    have hx:=hx hlt
    obtain ⟨a,x1,x2,x3,rfl,ha⟩:=htg x (List.mem_of_getElem? hx)
    refine ⟨a,_,rfl,SqT.of (hs.get ha),rfl,_,_,rfl,_,_,rfl,_,_,rfl,rfl,?_⟩
    refine helt a x1 x2 x3 H'' _ (List.mem_of_getElem? hx) ha hs fun H4 s4=>?_
    refine ⟨_,s4.get hl',smallLt (by rw [List.length_map,List.length_take]; omega),xs.length - (i + 1),by omega,rfl,hlt,⟨_,_,_,rfl⟩,same_upd (hs.trans s4) hl _,?_⟩
    rw [upd_same,List.take_add_one,hx]
    simp
  · have e:i = xs.length:=by omega
    subst e
    exact .inl ⟨h3 (Nat.le_refl _),hQ l H' hl hs (by rw [hl',List.take_of_length_le (Nat.le_refl _)])⟩
theorem CellAt.tup {C:Addr} {H H':Hp} {e:Cl} (hc:H' e.c = H e.c) (ht:∀ c ys,H c = some (.tup ys)→H' c = some (.tup ys)) (h:CellAt C H e):CellAt C H' e:=⟨by rw [hc]; exact h.1,ht _ _ h.2.1,rep_tup ht _ _ h.2.2.1,h.2.2.2⟩
theorem PAt0.same {CP CT:Addr} {H H':Hp} {p:Addr} {q:Pl} {cs:List Cl} (s:Same H H') (h:PAt0 CP CT H p q cs):PAt0 CP CT H' p q cs:=
  ⟨s.get h.1,s.get h.2.1,fun e he=>(h.2.2.1 e he).tup ((s.get (h.2.2.1 e he).1).trans (h.2.2.1 e he).1.symm) (fun c ys h=>s.get h),h.2.2.2⟩
def enOf (cs:List Cl) (z:Int):Int:=match cs.find? (fun e=>decide (e.z = z)) with
  | some e=>e.en
  | none=>0
def stOf (cs:List Cl) (z:Int):Int:=match cs.find? (fun e=>decide (e.z = z)) with
  | some e=>e.st
  | none=>0
def enZ (cs:List Cl) (x:En):Int:=1 + if x.kd = 2 then enOf cs x.tg.1 else 0
def stZ (cs:List Cl) (x:En):Int:=1 + if x.kd = 2 then stOf cs x.tg.1 else 0
theorem find_z {cs:List Cl} (nd:(cs.map (·.z)).Nodup) {e:Cl} (h:e∈cs):cs.find? (fun x=>decide (x.z = e.z)) = some e:=by
  induction cs with
  | nil=>nomatch h
  | cons x cs ih=>
    rw [List.map_cons,List.nodup_cons] at nd
    rcases List.mem_cons.mp h with rfl | h
    · exact List.find?_cons_of_pos (by simp)
    · have n:x.z≠e.z:=fun z=>nd.1 (by rw [z]; exact List.mem_map.mpr ⟨_,h,rfl⟩)
      rw [List.find?_cons_of_neg (by simpa using n)]
      exact ih nd.2 h
theorem enOf_of {cs:List Cl} (nd:(cs.map (·.z)).Nodup) {e:Cl} (h:e∈cs):enOf cs e.z = e.en:=by unfold enOf; rw [find_z nd h]
theorem stOf_of {cs:List Cl} (nd:(cs.map (·.z)).Nodup) {e:Cl} (h:e∈cs):stOf cs e.z = e.st:=by unfold stOf; rw [find_z nd h]
def entV (H:Hp) (g:Int→Int→Int):V→V
  | .ref a=>match H a with
    | some (.tup [_,.int k,.ref b])=>(match H b with
      | some (.tup (.int z :: _))=>.int (g k z)
      | _=>.non)
    | _=>.non
  | _=>.non
theorem ent_at {H:Hp} {g:Int→Int→Int} {a b:Addr} {x:V} {k z:Int} {xs:List V} (h:H a = some (.tup [x,.int k,.ref b])) (h2:H b = some (.tup (.int z :: xs))):entV H g (.ref a) = .int (g k z):=by
  unfold entV
  simp only [h,h2]
theorem reps_ent {H:Hp} {g:Int→Int→Int}:∀ {es:List En} {us:List V},Reps NL H (es.map enT) us→us.map (entV H g) = (es.map fun x=>g x.kd x.tg.1).map V.int
  | [],us,h=>by cases h; exact rfl
  | e :: es,us,h=>by
    obtain ⟨v,vs,rfl,h1,h2⟩:=h
    obtain ⟨a,b,rfl,e1,e2⟩:=rep_en h1
    rw [List.map_cons,ent_at e1 e2,reps_ent h2]
    rfl
def sp_Pool_entries_of (K:PySem.W.Frag) (CP CT:Addr):Sp:=fun vs H Q _=>∃ p q cs v es,vs = [.ref p,v]∧PAt0 CP CT H p q cs∧Rep NL H (bkT (.folder es)) v∧es.length≤16∧(∀ x∈es,x.kd = 2→∃ e∈cs,e.z = x.tg.1)∧∀ H',Same H H'→Q (.int (es.map (enZ cs)).sum) H'
theorem ok_Pool_entries_of (T:Txt K mg C_Boards C_TakenCell C_Pool XC) (F:Fun K "entries_of" "Pool.entries_of" s_Pool_entries_of f fd) (D_Pool_entries:MDef P w K mg base 1 C_Pool "entries" ["self","number"] (sp_Pool_entries K C_Pool C_TakenCell)):FnOk P w K mg base CX0 2 f fd ["self","folder"] (sp_Pool_entries_of K C_Pool C_TakenCell):=by
  refine F.ok sc_Pool_entries_of (fun vs H Q E h=>?_) (fun cdv A outer s H vs Q E hr h=>?_)
  · obtain ⟨p,q,cs,v,es,rfl,_⟩:=h
    rfl
  obtain ⟨p,q,cs,v,es,rfl,pa,hv,l16,kn,hq⟩:=h
  have hu:=hu_of hr
  refine ⟨_,(@pss_one _ _ _ (@ps_ret _ _ _ _ (@pe_callB _ _ _ _ _ _ _ _ _ (call_sum rfl) (by rfl) T.b_sum bt_sum (@pa_cons _ _ _ _ _ (@pe_comp _ ["name","kind","tag","self"] [none,none,none,some 0] _ _ _ _ _ _ _ _ _ _ _ rfl (@pi_tup _ _ _ _ (@pe_ix _ _ _ _ _ _ _ ix_tup (pv 1) (@pe_int _ _ _ _) (fun _ _=>rfl))) (by rfl) rfl (by repeat (first | exact trivial | refine ⟨rfl,?_⟩)) (by repeat (first | exact trivial | refine ⟨fun h=>(by first | exact ⟨_,rfl⟩ | cases h),?_⟩)) (fun C s H fp=>⟨(@pg_tupK _ (K) _ _ _ _ (3) (by rfl) rfl (@pgs_cons _ _ _ _ _ (@pg_name _ _ (0) _ (show (["name","kind","tag","self"]:List Str).Nodup by decide +kernel) rfl (by first | exact Or.inl rfl | exact Or.inr rfl) (by first | exact .inl rfl | exact .inr rfl | assumption)) (@pgs_cons _ _ _ _ _ (@pg_name _ _ (1) _ (show (["name","kind","tag","self"]:List Str).Nodup by decide +kernel) rfl (by first | exact Or.inl rfl | exact Or.inr rfl) (by first | exact .inl rfl | exact .inr rfl | assumption)) (@pgs_cons _ _ _ _ _ (@pg_name _ _ (2) _ (show (["name","kind","tag","self"]:List Str).Nodup by decide +kernel) rfl (by first | exact Or.inl rfl | exact Or.inr rfl) (by first | exact .inl rfl | exact .inr rfl | assumption)) (@pgs_nil _) (by rfl)) (by rfl)) (by rfl)) (by rfl) (by rfl)),(@pifs_nil _),(@pe_op _ _ _ _ _ _ _ _ op_add (@pe_int _ _ _ _) (@pe_ifExp _ _ _ _ _ _ _ _ (@pt_cmpR _ _ _ _ _ _ _ _ op_eq (pv 1) (@pe_globI _ _ _ _ rfl T.c_FOLDER_ENTRY (by decide)) (nomark _)) (@pe_mth _ _ _ _ _ _ _ _ _ _ _ _ _ _ (pv 3) T.cl_Pool D_Pool_entries (hr.mono (by decide)) (@pa_cons _ _ _ _ _ (@pe_ix _ _ _ _ _ _ _ (ix_tupK (K:=K) (by rfl)) (pv 2) (@pe_int _ _ _ _) (fun _ _=>rfl)) (@pa_nil _) (by rfl)) (by rfl) (by rfl) (by rfl)) (@pe_int _ _ _ _)))⟩) (by intro _; rfl)) (@pa_nil _) (by rfl)) (by decide) (by decide) (by rfl) (by rfl)))),?_⟩
  try dsimp only [cxOf,Cx.nox,Cx.wish]
  obtain ⟨a,b,us,rfl,e1,e2,r⟩:=rep_folder hv
  have lu:us.length = es.length:=by rw [Reps.len _ _ r,List.length_map]
  have nd:=pa.2.2.2
  refine ⟨_,rfl,a,_,_,_,rfl,rfl,SqT.of e1,rfl,b,rfl,⟨_,SqT.of e2⟩,?_⟩
  refine comp_map3S (xs:=us) (entV H fun k z=>1 + if k = 2 then enOf cs z else 0) (itIs_tup e2) (by omega) (fun x hx=>?_) (fun c x1 x2 x3 H' R hx hb s' hR=>?_) fun l H' nl s' hl=>⟨l,es.map (enZ cs),rfl,SqL.of (by rw [hl,reps_ent r]; rfl),hq H' s'⟩
  · obtain ⟨en,_,hr⟩:=reps_at r hx
    obtain ⟨c,d,rfl,e3,_⟩:=rep_en hr
    exact ⟨c,_,_,_,rfl,e3⟩
  · obtain ⟨en,hen,hr⟩:=reps_at r hx
    obtain ⟨c',d,z,e3,e4⟩:=rep_en hr
    cases z
    rw [hb] at e3
    cases e3
    have hR:=hR H' (Same.refl _)
    rw [ent_at hb e4] at hR
    refine ⟨_,rfl,rfl,_,rfl,ite2 (fun hk=>?_) (fun hk=>?_)⟩
    · have hk:=of_decide_eq_true hk
      have hk:en.kd = 2:=V.int.inj hk
      obtain ⟨e,he,hz⟩:=kn en hen hk
      rw [if_pos hk,← hz,enOf_of nd he] at hR
      rw [← hz] at e4
      exact ⟨_,rfl,p,q.dp,_,rfl,(pa.same s').1,rfl,_,rfl,d,_,_,_,rfl,rfl,SqT.of (s'.get e4),rfl,p,q,cs,e,rfl,pa.same s',he,_,_,rfl,rfl,hR⟩
    · have hk:¬ en.kd = 2:=fun z=>hk (decide_eq_true (congrArg V.int z))
      rw [if_neg hk] at hR
      exact ⟨_,_,rfl,rfl,hR⟩
def sp_Pool_steps_of (K:PySem.W.Frag) (CP CT:Addr):Sp:=fun vs H Q _=>∃ p q cs v es,vs = [.ref p,v]∧PAt0 CP CT H p q cs∧Rep NL H (bkT (.folder es)) v∧es.length≤16∧(∀ x∈es,x.kd = 2→∃ e∈cs,e.z = x.tg.1)∧∀ H',Same H H'→Q (.int (maxZ (es.map (stZ cs)))) H'
theorem ok_Pool_steps_of (T:Txt K mg C_Boards C_TakenCell C_Pool XC) (F:Fun K "steps_of" "Pool.steps_of" s_Pool_steps_of f fd) (D_Pool_deep:MDef P w K mg base 1 C_Pool "deep" ["self","number"] (sp_Pool_deep K C_Pool C_TakenCell)):FnOk P w K mg base CX0 2 f fd ["self","folder"] (sp_Pool_steps_of K C_Pool C_TakenCell):=by
  refine F.ok sc_Pool_steps_of (fun vs H Q E h=>?_) (fun cdv A outer s H vs Q E hr h=>?_)
  · obtain ⟨p,q,cs,v,es,rfl,_⟩:=h
    rfl
  obtain ⟨p,q,cs,v,es,rfl,pa,hv,l16,kn,hq⟩:=h
  have hu:=hu_of hr
  refine ⟨_,(@pss_cons _ _ _ _ _ (@ps_setC _ ["name","kind","tag","self"] [none,none,none,some 0] (2) _ _ _ _ _ _ _ _ _ _ _ _ _ _ sc_Pool_steps_of.nd rfl (by first | exact Or.inl rfl | exact Or.inr rfl) rfl (@pi_tup _ _ _ _ (@pe_ix _ _ _ _ _ _ _ ix_tup (pv 1) (@pe_int _ _ _ _) (fun _ _=>rfl))) (by rfl) rfl (by repeat (first | exact trivial | refine ⟨rfl,?_⟩)) (by repeat (first | exact trivial | refine ⟨fun h=>(by first | exact ⟨_,rfl⟩ | cases h),?_⟩)) (fun C s H fp=>⟨(@pg_tupK _ (K) _ _ _ _ (3) (by rfl) rfl (@pgs_cons _ _ _ _ _ (@pg_name _ _ (0) _ (show (["name","kind","tag","self"]:List Str).Nodup by decide +kernel) rfl (by first | exact Or.inl rfl | exact Or.inr rfl) (by first | exact .inl rfl | exact .inr rfl | assumption)) (@pgs_cons _ _ _ _ _ (@pg_name _ _ (1) _ (show (["name","kind","tag","self"]:List Str).Nodup by decide +kernel) rfl (by first | exact Or.inl rfl | exact Or.inr rfl) (by first | exact .inl rfl | exact .inr rfl | assumption)) (@pgs_cons _ _ _ _ _ (@pg_name _ _ (2) _ (show (["name","kind","tag","self"]:List Str).Nodup by decide +kernel) rfl (by first | exact Or.inl rfl | exact Or.inr rfl) (by first | exact .inl rfl | exact .inr rfl | assumption)) (@pgs_nil _) (by rfl)) (by rfl)) (by rfl)) (by rfl) (by rfl)),(@pifs_nil _),(@pe_op _ _ _ _ _ _ _ _ op_add (@pe_int _ _ _ _) (@pe_ifExp _ _ _ _ _ _ _ _ (@pt_cmpR _ _ _ _ _ _ _ _ op_eq (pv 1) (@pe_globI _ _ _ _ rfl T.c_FOLDER_ENTRY (by decide)) (nomark _)) (@pe_mth _ _ _ _ _ _ _ _ _ _ _ _ _ _ (pv 3) T.cl_Pool D_Pool_deep (hr.mono (by decide)) (@pa_cons _ _ _ _ _ (@pe_ix _ _ _ _ _ _ _ (ix_tupK (K:=K) (by rfl)) (pv 2) (@pe_int _ _ _ _) (fun _ _=>rfl)) (@pa_nil _) (by rfl)) (by rfl) (by rfl) (by rfl)) (@pe_int _ _ _ _)))⟩) (by intro _; rfl) (by rfl) (by first | exact .inl rfl | exact .inr rfl | assumption)) (@pss_one _ _ _ (@ps_ret _ _ _ _ (@pe_maxD _ _ _ _ _ _ _ _ rfl (by rfl) T.b_max (@pa_cons _ _ _ _ _ (pv 2) (@pa_nil _) (by rfl)) (by rfl) (by rfl))))),?_⟩
  try dsimp only [cxOf,Cx.nox,Cx.wish]
  obtain ⟨a,b,us,rfl,e1,e2,r⟩:=rep_folder hv
  have lu:us.length = es.length:=by rw [Reps.len _ _ r,List.length_map]
  have nd:=pa.2.2.2
  refine ⟨_,rfl,a,_,_,_,rfl,rfl,SqT.of e1,rfl,b,rfl,⟨_,SqT.of e2⟩,?_⟩
  refine comp_map3S (xs:=us) (entV H fun k z=>1 + if k = 2 then stOf cs z else 0) (itIs_tup e2) (by omega) (fun x hx=>?_) (fun c x1 x2 x3 H' R hx hb s' hR=>?_) fun l H' nl s' hl=>⟨_,rfl,l,es.map (stZ cs),rfl,SqL.of (by rw [hl,reps_ent r]; rfl),hq H' s'⟩
  · obtain ⟨en,_,hr⟩:=reps_at r hx
    obtain ⟨c,d,rfl,e3,_⟩:=rep_en hr
    exact ⟨c,_,_,_,rfl,e3⟩
  · obtain ⟨en,hen,hr⟩:=reps_at r hx
    obtain ⟨c',d,z,e3,e4⟩:=rep_en hr
    cases z
    rw [hb] at e3
    cases e3
    have hR:=hR H' (Same.refl _)
    rw [ent_at hb e4] at hR
    refine ⟨_,rfl,rfl,_,rfl,ite2 (fun hk=>?_) (fun hk=>?_)⟩
    · have hk:=of_decide_eq_true hk
      have hk:en.kd = 2:=V.int.inj hk
      obtain ⟨e,he,hz⟩:=kn en hen hk
      rw [if_pos hk,← hz,stOf_of nd he] at hR
      rw [← hz] at e4
      exact ⟨_,rfl,p,q.dp,_,rfl,(pa.same s').1,rfl,_,rfl,d,_,_,_,rfl,rfl,SqT.of (s'.get e4),rfl,p,q,cs,e,rfl,pa.same s',he,_,_,rfl,rfl,hR⟩
    · have hk:¬ en.kd = 2:=fun z=>hk (decide_eq_true (congrArg V.int z))
      rw [if_neg hk] at hR
      exact ⟨_,_,rfl,rfl,hR⟩
theorem map_one {α β:Type} {g:α→β} (hg:∀ a b,g a = g b→a = b):∀ {l l':List α},l.map g = l'.map g→l = l'
  | [],[],_=>rfl
  | [],_ :: _,h=>nomatch h
  | _ :: _,[],h=>nomatch h
  | x :: l,y :: l',h=>by
    rw [List.map_cons,List.map_cons] at h
    injection h with h1 h2
    rw [hg x y h1,map_one hg h2]
theorem tgT_inj (a b:Tg) (h:tgT a = tgT b):a = b:=by
  obtain ⟨a1,a2,a3⟩:=a
  obtain ⟨b1,b2,b3⟩:=b
  injection h with h
  injection h with h1 h
  injection h with h2 h
  injection h with h3 _
  injection h1 with h1
  injection h2 with h2
  injection h3 with h3
  dsimp only at h1 h2 h3
  rw [h1,h2,h3]
theorem enT_inj (a b:En) (h:enT a = enT b):a = b:=by
  obtain ⟨a1,a2,a3⟩:=a
  obtain ⟨b1,b2,b3⟩:=b
  injection h with h
  injection h with h1 h
  injection h with h2 h
  injection h with h3 _
  injection h1 with h1
  injection h2 with h2
  have h3:=tgT_inj _ _ h3
  dsimp only at h1 h2 h3
  rw [h1,h2,h3]
theorem bkT_inj {a b:Bk} (h:bkT a = bkT b):a = b:=by
  cases a with
  | piece z=>
    cases b with
    | piece z'=>injection h with h; injection h with _ h; injection h with h _; injection h with h; rw [h]
    | row lv ts=>injection h with h; injection h with h _; injection h with h; cases h
    | folder es=>injection h with h; injection h with h _; injection h with h; cases h
  | row lv ts=>
    cases b with
    | piece z'=>injection h with h; injection h with h _; injection h with h; cases h
    | row lv' ts'=>
      injection h with h; injection h with _ h; injection h with h1 h; injection h with h2 _
      injection h1 with h1
      injection h2 with h2
      rw [h1,map_one tgT_inj h2]
    | folder es=>injection h with h; injection h with h _; injection h with h; cases h
  | folder es=>
    cases b with
    | piece z'=>injection h with h; injection h with h _; injection h with h; cases h
    | row lv ts=>injection h with h; injection h with h _; injection h with h; cases h
    | folder es'=>injection h with h; injection h with _ h; injection h with h _; injection h with h; rw [map_one enT_inj h]
theorem nodup_inj {α β:Type} {g:α→β}:∀ {l:List α},(l.map g).Nodup→∀ {x y:α},x∈l→y∈l→g x = g y→x = y
  | [],_,_,_,h,_,_=>nomatch h
  | a :: l,nd,x,y,hx,hy,e=>by
    rw [List.map_cons,List.nodup_cons] at nd
    rcases List.mem_cons.mp hx with hx | hx
    · rcases List.mem_cons.mp hy with hy | hy
      · rw [hx,hy]
      · exact (nd.1 (by rw [← hx,e]; exact List.mem_map.mpr ⟨_,hy,rfl⟩)).elim
    · rcases List.mem_cons.mp hy with hy | hy
      · exact (nd.1 (by rw [← hy,← e]; exact List.mem_map.mpr ⟨_,hx,rfl⟩)).elim
      · exact nodup_inj nd.2 hx hy e
def bump (zs:List Int) (e:Cl):Cl:={ e with k:=e.k + (zs.count e.z:Int) }
theorem bump_bump (zs ys:List Int) (e:Cl):bump ys (bump zs e) = bump (zs ++ ys) e:=by
  unfold bump
  rw [List.count_append]
  simp only [Int.natCast_add,Int.add_assoc]
theorem bump_nil (e:Cl):bump [] e = e:=by
  unfold bump
  simp
theorem bumps_nil (cs:List Cl):cs.map (bump []) = cs:=by
  rw [show (bump []:Cl→Cl) = id from funext bump_nil]; simp
theorem bumps_bump (zs ys:List Int) (cs:List Cl):(cs.map (bump zs)).map (bump ys) = cs.map (bump (zs ++ ys)):=by
  rw [List.map_map]
  exact List.map_congr_left fun e _=>bump_bump zs ys e
theorem dTk_bump (zs:List Int) (cs:List Cl):dTk (cs.map (bump zs)) = dTk cs:=by unfold dTk; rw [List.map_map]; rfl
theorem dDr_bump (zs:List Int) (cs:List Cl):dDr (cs.map (bump zs)) = dDr cs:=by unfold dDr; rw [List.map_map]; rfl
theorem mz_bump (zs:List Int) (cs:List Cl):(cs.map (bump zs)).map (·.z) = cs.map (·.z):=by rw [List.map_map]; rfl
theorem mc_bump (zs:List Int) (cs:List Cl):(cs.map (bump zs)).map (·.c) = cs.map (·.c):=by rw [List.map_map]; rfl
def numS (cs:List Cl) (s:Int):List Int:=(cs.filter (fun e=>decide (sumB e.bk = s))).map (·.z)
theorem numS_bump (zs:List Int) (s:Int):∀ cs:List Cl,numS (cs.map (bump zs)) s = numS cs s
  | []=>rfl
  | e :: cs=>by
    have ih:=numS_bump zs s cs
    unfold numS at ih ⊢
    rw [List.map_cons,List.filter_cons,List.filter_cons]
    have:decide (sumB (bump zs e).bk = s) = decide (sumB e.bk = s):=rfl
    rw [this]
    cases decide (sumB e.bk = s)
    · exact ih
    · show (bump zs e).z :: _ = e.z :: _
      rw [ih]; rfl
theorem numS_snoc (cs:List Cl) (e:Cl) (s:Int):numS (cs ++ [e]) s = numS cs s ++ if sumB e.bk = s then [e.z] else []:=by
  unfold numS
  rw [List.filter_append,List.map_append]
  by_cases h:sumB e.bk = s
  · rw [if_pos h,List.filter_cons_of_pos (by simpa using h)]; rfl
  · rw [if_neg h,List.filter_cons_of_neg (by simpa using h)]; rfl
theorem numS_mem {cs:List Cl} {s z:Int}:z∈numS cs s↔∃ e∈cs,sumB e.bk = s∧e.z = z:=by
  unfold numS
  rw [List.mem_map]
  constructor
  · rintro ⟨e,he,rfl⟩
    rw [List.mem_filter,decide_eq_true_eq] at he
    exact ⟨e,he.1,he.2,rfl⟩
  · rintro ⟨e,he,hs,rfl⟩
    exact ⟨e,List.mem_filter.mpr ⟨he,by simpa using hs⟩,rfl⟩
theorem numS_len (cs:List Cl) (s:Int):(numS cs s).length≤cs.length:=by
  unfold numS
  rw [List.length_map]
  exact List.length_filter_le _ _
def dSm (ns:List Int):List (Key×V):=ns.map fun z=>(Sum.inl z,V.bl true)
def dBy (bs:List (Int×Addr)):List (Key×V):=bs.map fun x=>(Sum.inl x.1,V.ref x.2)
theorem val_none {κ:Type} [DecidableEq κ] {kvs:List (κ×V)} {k:κ} (h:∀ x∈kvs,x.1≠k):valV kvs k = none:=by
  unfold valV
  rw [Option.map_eq_none_iff,List.find?_eq_none]
  intro x hx z
  exact h x hx (of_decide_eq_true z)
theorem val_mem {κ:Type} [DecidableEq κ] {kvs:List (κ×V)} {k:κ} {v:V} (h:valV kvs k = some v):(k,v)∈kvs:=by
  unfold valV at h
  rw [Option.map_eq_some_iff] at h
  obtain ⟨x,hx,rfl⟩:=h
  have:=List.mem_of_find?_eq_some hx
  have e:x.1 = k:=by simpa using List.find?_some hx
  rw [← e]; exact this
structure BsAt (H:Hp) (q:Pl) (cs:List Cl) (bs:List (Int×Addr)):Prop where
  h:H q.dz = some (.dK (dBy bs))
  k:(bs.map (·.1)).Nodup
  a:(bs.map (·.2)).Nodup
  d:∀ x∈bs,H x.2 = some (.dK (dSm (numS cs x.1)))∧x.2≠q.dt∧x.2≠q.dz∧x.2≠q.dd
  all:∀ e∈cs,∃ x∈bs,x.1 = sumB e.bk
theorem by_val {bs:List (Int×Addr)} (nd:(bs.map (·.1)).Nodup) {x:Int×Addr} (h:x∈bs):valV (dBy bs) (Sum.inl x.1) = some (.ref x.2):=by
  refine val_in ?_ (List.mem_map.mpr ⟨x,h,rfl⟩)
  unfold dBy
  rw [List.map_map,show ((fun y:Key×V=>y.1)∘fun x:Int×Addr=>((Sum.inl x.1:Key),V.ref x.2)) = (fun z:Int=>(Sum.inl z:Key))∘(fun x:Int×Addr=>x.1) from rfl,← List.map_map]
  exact List.Pairwise.map _ (fun a b n e=>n (Sum.inl.inj e)) nd
theorem by_mem {bs:List (Int×Addr)} {s:Int} {v:V} (h:valV (dBy bs) (Sum.inl s) = some v):∃ x∈bs,x.1 = s∧v = .ref x.2:=by
  obtain ⟨x,hx,e⟩:=List.mem_map.mp (val_mem h)
  exact ⟨x,hx,Sum.inl.inj (congrArg Prod.fst e),(congrArg Prod.snd e).symm⟩
theorem BsAt.no {H:Hp} {q:Pl} {cs:List Cl} {bs:List (Int×Addr)} (B:BsAt H q cs bs) {s:Int} (h:valV (dBy bs) (Sum.inl s) = none):numS cs s = []:=by
  rw [List.eq_nil_iff_forall_not_mem]
  intro z hz
  obtain ⟨e,he,rfl,rfl⟩:=numS_mem.mp hz
  obtain ⟨x,hx,hs⟩:=B.all e he
  rw [← hs,by_val B.k hx] at h
  cases h
structure PAt (CP CT:Addr) (H:Hp) (p:Addr) (q:Pl) (cs:List Cl) (bs:List (Int×Addr)):Prop where
  t:PAt0 CP CT H p q cs
  d:H q.dd = some (.dK (dDr cs))
  b:BsAt H q cs bs
  n1:q.dt≠q.dz
  n2:q.dt≠q.dd
  n3:q.dz≠q.dd
  c:(cs.map (·.c)).Nodup
  z:∀ (i:Nat) e,cs[i]? = some e→e.z = (i:Int) + 1
  w:bs.length≤cs.length
  f1:1≤q.n
  f2:q.n≤(cs.length:Int) + 1
def ownP (p:Addr) (q:Pl) (cs:List Cl) (bs:List (Int×Addr)):List Addr:=p :: q.dt :: q.dz :: q.dd :: (bs.map (·.2) ++ cs.map (·.c))
def Frm (L:List Addr) (H H':Hp):Prop:=∀ a o,H a = some o→a ∉ L→H' a = some o
theorem Same.frm {L:List Addr} {H H':Hp} (s:Same H H'):Frm L H H':=fun _ _ h _=>s.get h
theorem PAt.same {CP CT:Addr} {H H':Hp} {p:Addr} {q:Pl} {cs:List Cl} {bs:List (Int×Addr)} (s:Same H H') (h:PAt CP CT H p q cs bs):PAt CP CT H' p q cs bs:=
  { h with t:=h.t.same s,d:=s.get h.d,b:={ h.b with h:=s.get h.b.h,d:=fun x hx=>⟨s.get (h.b.d x hx).1,(h.b.d x hx).2⟩ } }
theorem PAt.apart {CP CT:Addr} {H:Hp} {p:Addr} {q:Pl} {cs:List Cl} {bs:List (Int×Addr)} (h:PAt CP CT H p q cs bs) {a:Addr} {o:HO} (e:H a = some o) (n1:∀ C d fs,o≠.ins C d fs) (n2:∀ kvs,o≠.dK kvs):a ∉ ownP p q cs bs:=by
  have no:∀ {b u},H b = some u→u≠o→a≠b:=fun {b u} hb hn z=>hn (by rw [z,hb] at e; exact Option.some.inj e)
  unfold ownP
  simp only [List.mem_cons,List.mem_append,List.mem_map,not_or]
  refine ⟨no h.t.1 (Ne.symm (n1 _ _ _)),no h.t.2.1 (Ne.symm (n2 _)),no h.b.h (Ne.symm (n2 _)),no h.d (Ne.symm (n2 _)),?_,?_⟩
  · rintro ⟨x,hx,z⟩
    exact no (h.b.d x hx).1 (Ne.symm (n2 _)) z.symm
  · rintro ⟨x,hx,z⟩
    exact no (h.t.2.2.1 x hx).1 (Ne.symm (n1 _ _ _)) z.symm
theorem PAt0.hold {CP CT:Addr} {H:Hp} {p:Addr} {q:Pl} {cs:List Cl} (h:PAt0 CP CT H p q cs) (nc:(cs.map (·.c)).Nodup) {e:Cl} (he:e∈cs):PAt0 CP CT (upd H e.c (.ins CT e.dx (fldsC e.ta ((wT (bkT e.bk)).length:Int) e.l (e.k + 1) e.en e.st))) p q (cs.map (bump [e.z])):=by
  obtain ⟨h1,h2,h4,nd⟩:=h
  have hc:=(h4 e he).1
  have n1:p≠e.c:=fun z=>by
    rw [z,hc] at h1
    have:=Option.some.inj h1
    injection this with _ _ this
    injection this with this _
    injection this with this _
    revert this
    decide
  refine ⟨by rw [upd_ne n1]; exact h1,by rw [upd_ne (ne_of h2 hc (by intro z; cases z)),dTk_bump]; exact h2,fun x hx=>?_,by rw [mz_bump]; exact nd⟩
  obtain ⟨y,hy,rfl⟩:=List.mem_map.mp hx
  have ht:∀ c ys,H c = some (.tup ys)→(upd H e.c (.ins CT e.dx (fldsC e.ta ((wT (bkT e.bk)).length:Int) e.l (e.k + 1) e.en e.st))) c = some (.tup ys):=fun c ys h=>by rw [upd_ne (ne_of h hc (by intro z; cases z))]; exact h
  obtain ⟨a1,a2,a3,a4⟩:=h4 y hy
  by_cases hz:y.z = e.z
  · obtain rfl:=nodup_inj nd hy he hz
    refine ⟨?_,ht _ _ a2,rep_tup ht _ _ a3,a4⟩
    show upd H y.c _ y.c = some (.ins CT y.dx (fldsC y.ta ((wT (bkT y.bk)).length:Int) y.l (y.k + (([y.z].count y.z:Nat):Int)) y.en y.st))
    rw [upd_same,List.count_singleton_self]
    rfl
  · have nn:y.c≠e.c:=fun z=>hz (by rw [nodup_inj nc hy he z])
    refine ⟨?_,ht _ _ a2,rep_tup ht _ _ a3,a4⟩
    show upd H e.c _ y.c = some (.ins CT y.dx (fldsC y.ta ((wT (bkT y.bk)).length:Int) y.l (y.k + (([e.z].count y.z:Nat):Int)) y.en y.st))
    rw [upd_ne nn,a1,List.count_eq_zero.mpr (by simpa using hz)]
    simp
def ben (cs:List Cl):Bk→Int×Int
  | .folder es=>((es.map (enZ cs)).sum,maxZ (es.map (stZ cs)))
  | _=>(0,0)
def Wl (cs:List Cl):Prop:=∀ e∈cs,tgOk (e.z,e.y,sumB e.bk)∧(∀ t∈tagsB e.bk,∃ c∈cs,c.z = t.1)∧(e.en,e.st) = ben cs e.bk
theorem of_bump (zs:List Int):∀ (cs:List Cl) (z:Int),(cs.map (bump zs)).find? (fun e=>decide (e.z = z)) = (cs.find? (fun e=>decide (e.z = z))).map (bump zs)
  | [],_=>rfl
  | e :: cs,z=>by
    rw [List.map_cons]
    by_cases h:e.z = z
    · have h':(bump zs e).z = z:=h
      rw [List.find?_cons_of_pos (by simpa using h'),List.find?_cons_of_pos (by simpa using h)]; rfl
    · have h':¬ (bump zs e).z = z:=h
      rw [List.find?_cons_of_neg (by simpa using h'),List.find?_cons_of_neg (by simpa using h)]; exact of_bump zs cs z
theorem enOf_bump (zs:List Int) (cs:List Cl) (z:Int):enOf (cs.map (bump zs)) z = enOf cs z:=by
  unfold enOf; rw [of_bump]; cases cs.find? (fun e=>decide (e.z = z)) <;> rfl
theorem stOf_bump (zs:List Int) (cs:List Cl) (z:Int):stOf (cs.map (bump zs)) z = stOf cs z:=by
  unfold stOf; rw [of_bump]; cases cs.find? (fun e=>decide (e.z = z)) <;> rfl
theorem ben_bump (zs:List Int) (cs:List Cl) (b:Bk):ben (cs.map (bump zs)) b = ben cs b:=by
  cases b with
  | folder es=>
    have e1:enZ (cs.map (bump zs)) = enZ cs:=funext fun x=>by unfold enZ; rw [enOf_bump]
    have e2:stZ (cs.map (bump zs)) = stZ cs:=funext fun x=>by unfold stZ; rw [stOf_bump]
    show ((es.map _).sum,maxZ (es.map _)) = ((es.map _).sum,maxZ (es.map _))
    rw [e1,e2]
  | _=>rfl
theorem find_app {cs ds:List Cl} {z:Int} (h:∃ e∈cs,e.z = z):(cs ++ ds).find? (fun e=>decide (e.z = z)) = cs.find? (fun e=>decide (e.z = z)):=by
  rw [List.find?_append]
  obtain ⟨e,he,hz⟩:=h
  have:(cs.find? (fun e=>decide (e.z = z))).isSome = true:=List.find?_isSome.mpr ⟨e,he,by simpa using hz⟩
  cases hh:cs.find? (fun e=>decide (e.z = z)) with
  | none=>rw [hh] at this; cases this
  | some x=>rfl
theorem ben_app {cs ds:List Cl} {b:Bk} (h:∀ t∈tagsB b,∃ c∈cs,c.z = t.1):ben (cs ++ ds) b = ben cs b:=by
  cases b with
  | folder es=>
    have e1:es.map (enZ (cs ++ ds)) = es.map (enZ cs):=List.map_congr_left fun x hx=>by unfold enZ enOf; rw [find_app (h x.tg (List.mem_map.mpr ⟨x,hx,rfl⟩))]
    have e2:es.map (stZ (cs ++ ds)) = es.map (stZ cs):=List.map_congr_left fun x hx=>by unfold stZ stOf; rw [find_app (h x.tg (List.mem_map.mpr ⟨x,hx,rfl⟩))]
    show ((es.map _).sum,maxZ (es.map _)) = ((es.map _).sum,maxZ (es.map _))
    rw [e1,e2]
  | _=>rfl
theorem Wl.more {cs:List Cl} (h:Wl cs) {e:Cl} (ok:tgOk (e.z,e.y,sumB e.bk)) (hn:∀ t∈tagsB e.bk,∃ c∈cs,c.z = t.1) (hb:(e.en,e.st) = ben cs e.bk) (zs:List Int):Wl ((cs ++ [e]).map (bump zs)):=by
  intro x hx
  obtain ⟨y,hy,rfl⟩:=List.mem_map.mp hx
  have up:∀ t:Int,(∃ c∈cs,c.z = t)→∃ c∈(cs ++ [e]).map (bump zs),c.z = t:=fun t ⟨c,hc,z⟩=>⟨bump zs c,List.mem_map.mpr ⟨c,List.mem_append.mpr (.inl hc),rfl⟩,z⟩
  rcases List.mem_append.mp hy with hy | hy
  · obtain ⟨a1,a2,a3⟩:=h y hy
    refine ⟨a1,fun t ht=>up _ (a2 t ht),?_⟩
    show (y.en,y.st) = ben _ y.bk
    rw [ben_bump,ben_app a2]; exact a3
  · rw [List.mem_singleton.mp hy]
    refine ⟨ok,fun t ht=>up _ (hn t ht),?_⟩
    show (e.en,e.st) = ben _ e.bk
    rw [ben_bump,ben_app hn]; exact hb
theorem numS_up {cs:List Cl} (hz:∀ (i:Nat) e,cs[i]? = some e→e.z = (i:Int) + 1) {s:Int}:(numS cs s).Pairwise (·≤·):=by
  have all:(cs.map (·.z)).Pairwise (·≤·):=by
    rw [List.pairwise_iff_getElem]
    intro i j hi hj hij
    rw [List.length_map] at hi hj
    rw [List.getElem_map,List.getElem_map,hz i _ (List.getElem?_eq_getElem hi),hz j _ (List.getElem?_eq_getElem hj)]
    omega
  unfold numS
  exact List.Pairwise.sublist (List.Sublist.map _ List.filter_sublist) all
def sp_Pool_alike (K:PySem.W.Frag) (CP CT:Addr):Sp:=fun vs H Q _=>∃ p q cs bs v b,vs = [.ref p,v]∧PAt CP CT H p q cs bs∧cs.length≤10000∧Rep NL H (bkT b) v∧bkOk b∧(∀ e∈cs,e.bk = b→∀ H',Same H H'→Q (.ref e.ta) H')∧((∀ e∈cs,e.bk≠b)→∀ H',Same H H'→Q .non H')
theorem ok_Pool_alike (T:Txt K mg C_Boards C_TakenCell C_Pool XC) (F:Fun K "alike" "Pool.alike" s_Pool_alike f fd) (D_sum_of:Def P w K mg base 3 "sum_of" ["block"] (sp_sum_of K)) (D_Pool_block:MDef P w K mg base 1 C_Pool "block" ["self","tag"] (sp_Pool_block K C_Pool C_TakenCell)) (D_Pool_tag:MDef P w K mg base 1 C_Pool "tag" ["self","number"] (sp_Pool_tag K C_Pool C_TakenCell)):FnOk P w K mg base CX0 4 f fd ["self","block"] (sp_Pool_alike K C_Pool C_TakenCell):=by
  refine F.ok sc_Pool_alike (fun vs H Q E h=>?_) (fun cdv A outer s H vs Q E hr h=>?_)
  · obtain ⟨p,q,cs,bs,v,b,rfl,_⟩:=h
    rfl
  obtain ⟨p,q,cs,bs,v,b,rfl,pa,few,hv,ok,hq1,hq2⟩:=h
  have hu:=hu_of hr
  have hu9:=hu9_of hr
  refine ⟨_,(@pss_cons _ _ _ _ _ (@ps_set _ _ (2) _ _ _ _ sc_Pool_alike.nd rfl (by first | exact Or.inl rfl | exact Or.inr rfl) (@pe_lst _ _ _ _ (@pa_nil _)) (by rfl) (by first | exact .inl rfl | exact .inr rfl | assumption)) (@pss_cons _ _ _ _ _ (@ps_for _ _ _ _ _ _ _ _ PassesOwn.never rfl (@pi_list _ _ _ _ (@pe_callB _ _ _ _ _ _ _ _ _ (call_sortDI rfl) (by rfl) T.b_sorted bt_sorted (@pa_cons _ _ _ _ _ (@pe_dget2 _ _ _ _ _ _ _ _ _ hu (@pe_fld _ _ _ _ _ (pv 0) rfl) (@pe_fn _ _ _ _ _ _ _ _ _ _ D_sum_of (hr.mono (by decide)) rfl (@pa_cons _ _ _ _ _ (pv 1) (@pa_nil _) (by rfl)) (by decide) (by rfl) (by rfl)) (@pe_dnewK _ _) ⟨rfl,rfl,rfl,rfl⟩) (@pa_nil _) (by rfl)) (by decide) (by decide) (by rfl) (by rfl))) (@pg_name _ _ (3) _ sc_Pool_alike.nd rfl (by first | exact Or.inl rfl | exact Or.inr rfl) (by first | exact .inl rfl | exact .inr rfl | assumption)) (@pss_one _ _ _ (@ps_try _ _ _ _ _ _ _ _ _ _ _ _ _ ⟨rfl,rfl⟩ T.x_Lost rfl (@pxs_one _ _ _ (@px_lift _ _ _ (@ps_set _ _ (4) _ _ _ _ sc_Pool_alike.nd rfl (by first | exact Or.inl rfl | exact Or.inr rfl) (@pe_mth _ _ _ _ _ _ _ _ _ _ _ _ _ _ (pv 0) T.cl_Pool D_Pool_block (hr.mono (by decide)) (@pa_cons _ _ _ _ _ (@pe_mth _ _ _ _ _ _ _ _ _ _ _ _ _ _ (pv 0) T.cl_Pool D_Pool_tag (hr.mono (by decide)) (@pa_cons _ _ _ _ _ (pv 3) (@pa_nil _) (by rfl)) (by rfl) (by rfl) (by rfl)) (@pa_nil _) (by rfl)) (by rfl) (by rfl) (by rfl)) (by rfl) (by first | exact .inl rfl | exact .inr rfl | assumption)))) (@pss_one _ _ _ (@ps_if _ _ _ _ _ _ _ _ (@pt_cmpR _ _ _ _ _ _ _ _ (op_eqT hu9) (pv 4) (pv 1) (nomark _)) (@pss_one _ _ _ (@ps_ret _ _ _ _ (@pe_mth _ _ _ _ _ _ _ _ _ _ _ _ _ _ (pv 0) T.cl_Pool D_Pool_tag (hr.mono (by decide)) (@pa_cons _ _ _ _ _ (pv 3) (@pa_nil _) (by rfl)) (by rfl) (by rfl) (by rfl)))) (@pss_nil _))) (fun e=>(@pss_one _ _ _ (@ps_never _ _))) (by decide))) (by intro _; rfl)) (@pss_cons _ _ _ _ _ (@ps_if _ _ _ _ _ _ _ _ (@pt_cmpR _ _ _ _ _ _ _ _ op_gt (@pe_callB _ _ _ _ _ _ _ _ _ call_len_seq (by rfl) T.b_len bt_len (@pa_cons _ _ _ _ _ (pv 2) (@pa_nil _) (by rfl)) (by decide) (by decide) (by rfl) (by rfl)) (@pe_int _ _ _ _) (nomark _)) (@pss_one _ _ _ (@ps_never _ _)) (@pss_nil _)) (@pss_one _ _ _ (@ps_ret _ _ _ _ (@pe_non _ _ _)))))),?_⟩
  try dsimp only [cxOf,Cx.nox,Cx.wish]
  refine ⟨small (by show 0≤1000000; decide),fun un hun=>?_⟩
  have s1:=same_new hun (.lst [])
  have pa1:=pa.same s1
  refine ⟨_,rfl,p,C_Pool,q.dp,_,_,rfl,pa1.t.1,T.cl_Pool,T.n_Pool_by_sums,rfl,q.dz,rfl,.inl ⟨_,.inl pa1.b.h⟩,?_⟩
  refine ⟨_,rfl,v,b,rfl,Rep.same s1 _ _ hv,ok,fun H2 s2 dn hdn=>?_⟩
  have s3:=(s1.trans s2).trans (same_new hdn (.dK []))
  have pa3:=pa.same s3
  obtain ⟨d,hd,hd2⟩:∃ d,(((valV (dBy bs) (Sum.inl (sumB b))).getD (.ref dn)) = .ref d)∧(upd H2 dn (.dK [])) d = some (.dK (dSm (numS cs (sumB b)))):=by
    cases hc:valV (dBy bs) (Sum.inl (sumB b)) with
    | none=>exact ⟨dn,rfl,by rw [pa.b.no hc]; exact upd_same⟩
    | some u=>
      obtain ⟨x,hx,hs,rfl⟩:=by_mem hc
      exact ⟨x.2,rfl,by rw [(pa3.b.d x hx).1,hs]⟩
  refine ⟨_,DGet.k (k:=Sum.inl (sumB b)) pa3.b.h,d,_,numS cs (sumB b),?_,hd2,?_,?_,fun ms pl pm so hpl=>?_⟩
  · rw [hd]
  · unfold dSm; rw [List.map_map]; rfl
  · have:=numS_len cs (sumB b)
    exact .inr ⟨by omega,numS_up pa.z⟩
  have s4:=s3.trans (same_new hpl (.lst (ms.map V.int)))
  have pa4:=pa.same s4
  have hun4:(upd (upd H2 dn (.dK [])) pl (.lst (ms.map V.int))) un = some (.lst []):=(same_new hpl _).get ((same_new hdn _).get (s2.get upd_same))
  have hpl4:(upd (upd H2 dn (.dK [])) pl (.lst (ms.map V.int))) pl = some (.lst (ms.map V.int)):=upd_same
  generalize (upd (upd H2 dn (.dK [])) pl (.lst (ms.map V.int))) = H4 at s4 pa4 hun4 hpl4
  refine ⟨pl,rfl,⟨_,SqL.of hpl4⟩,for_list (K:=K) (a:=pl) (xs:=ms.map V.int) (fun i σ H'=>H' = H4∧(∃ v3 v4,σ = [some (.ref p),some v,some (.ref un),v3,v4])∧∀ (j:Nat) n,j < i→ms[j]? = some n→∀ e∈cs,e.z = n→e.bk≠b) ⟨rfl,⟨_,_,rfl⟩,fun j _ h=>absurd h (Nat.not_lt_zero j)⟩ ?_ ?_ ?_⟩
  · rintro i σ H' _ ⟨rfl,_⟩
    exact SqL.of hpl4
  · rintro i x σ H' hx ⟨rfl,⟨v3,v4,rfl⟩,hb⟩
    obtain ⟨n,rfl,hn⟩:=ints_get hx
    obtain ⟨e,he,hs,hz⟩:=numS_mem.mp (pm.mem_iff.mp (List.mem_of_getElem? hn))
    subst hz
    have ce:=pa4.t.2.2.1 e he
    refine ⟨_,rfl,p,q.dp,_,rfl,pa4.t.1,rfl,_,rfl,p,q.dp,_,rfl,pa4.t.1,rfl,_,rfl,p,q,cs,e,rfl,pa4.t,he,?_⟩
    refine ⟨p,q,cs,e,e.ta,_,_,rfl,pa4.t,pa4.d,he,ce.2.1,?_⟩
    refine ⟨_,rfl,_,rfl,bkT e.bk,bkT b,isT_bk ce.2.2.2,isT_bk ok,ce.2.2.1,Rep.same s4 _ _ hv,_,rfl,ite2 (fun hk=>?_) (fun hk=>?_)⟩
    · have hk:decide (wT (bkT e.bk) = wT (bkT b)) = true:=hk
      have eb:e.bk = b:=bkT_inj (wT_inj (isT_bk ce.2.2.2) (isT_bk ok) (of_decide_eq_true hk))
      exact ⟨_,rfl,p,q.dp,_,rfl,pa4.t.1,rfl,_,rfl,p,q,cs,e,rfl,pa4.t,he,hq1 e he eb _ s4⟩
    · have hk:¬ decide (wT (bkT e.bk) = wT (bkT b)) = true:=hk
      refine ⟨rfl,⟨_,_,rfl⟩,fun j n hj hm e' he' hz=>?_⟩
      by_cases hji:j < i
      · exact hb j n hji hm e' he' hz
      · obtain rfl:j = i:=by omega
        rw [hn] at hm
        obtain rfl:=nodup_inj pa4.t.2.2.2 he he' ((Option.some.inj hm).trans hz.symm)
        intro z
        exact hk (by rw [z]; exact decide_eq_true rfl)
  · rintro σ H' ⟨rfl,⟨v3,v4,rfl⟩,hb⟩
    refine ⟨_,rfl,un,_,rfl,.inl (SqL.of hun4),_,_,rfl,rfl,_,rfl,iteFc rfl ?_⟩
    refine hq2 (fun e he z=>?_) _ s4
    have:e.z∈ms:=pm.mem_iff.mpr (numS_mem.mpr ⟨e,he,by rw [z],rfl⟩)
    obtain ⟨j,hj,hje⟩:=List.getElem_of_mem this
    exact hb j e.z (by rw [List.length_map]; exact hj) (by rw [List.getElem?_eq_getElem hj,hje]) e he rfl z
theorem BsAt.same {H H':Hp} {q:Pl} {cs:List Cl} {bs:List (Int×Addr)} (s:Same H H') (h:BsAt H q cs bs):BsAt H' q cs bs:={ h with h:=s.get h.h,d:=fun x hx=>⟨s.get (h.d x hx).1,(h.d x hx).2⟩ }
theorem BsAt.ins {H:Hp} {q:Pl} {cs:List Cl} {bs:List (Int×Addr)} {x C d:Addr} {fs:List (Str×V)} {o:HO} (hx:H x = some (.ins C d fs)) (h:BsAt H q cs bs):BsAt (upd H x o) q cs bs:=
  { h with h:=by rw [upd_ne (ne_of h.h hx (by intro z; cases z))]; exact h.h,d:=fun y hy=>⟨by rw [upd_ne (ne_of (h.d y hy).1 hx (by intro z; cases z))]; exact (h.d y hy).1,(h.d y hy).2⟩ }
theorem BsAt.bump {H:Hp} {q:Pl} {cs:List Cl} {bs:List (Int×Addr)} (zs:List Int) (h:BsAt H q cs bs):BsAt H q (cs.map (bump zs)) bs:=
  { h with d:=fun x hx=>by rw [numS_bump]; exact h.d x hx,all:=fun e he=>(List.mem_map.mp he).elim fun y hy=>(by rw [← hy.2]; exact h.all y hy.1) }
theorem dSm_put {ns:List Int} {z:Int} (h:z ∉ ns):putK (dSm ns) (Sum.inl z) (.bl true) = dSm (ns ++ [z]):=by
  rw [putK_new _ (val_none fun x hx=>?_)]
  · unfold dSm; rw [List.map_append]; rfl
  · obtain ⟨y,hy,rfl⟩:=List.mem_map.mp hx
    intro e
    exact h (by rw [← Sum.inl.inj e]; exact hy)
theorem BsAt.snoc {H:Hp} {q:Pl} {cs:List Cl} {bs:List (Int×Addr)} {d:Addr} {e:Cl} (h:BsAt H q cs bs) (hd:(sumB e.bk,d)∈bs) (hz:e.z ∉ numS cs (sumB e.bk)):BsAt (upd H d (.dK (putK (dSm (numS cs (sumB e.bk))) (Sum.inl e.z) (.bl true)))) q (cs ++ [e]) bs where
  h:=by rw [upd_ne (Ne.symm (h.d _ hd).2.2.1)]; exact h.h
  k:=h.k
  a:=h.a
  d:=fun x hx=>by
    by_cases hs:x.1 = sumB e.bk
    · obtain rfl:x = (sumB e.bk,d):=nodup_inj h.k hx hd hs
      exact ⟨by rw [upd_same,dSm_put hz,numS_snoc,if_pos rfl],(h.d _ hx).2⟩
    · have n:x.2≠d:=fun z=>hs (congrArg Prod.fst (nodup_inj h.a hx hd z))
      rw [upd_ne n,numS_snoc,if_neg (fun z=>hs z.symm),List.append_nil]
      exact h.d x hx
  all:=fun x hx=>by
    rcases List.mem_append.mp hx with hx | hx
    · exact h.all x hx
    · rw [List.mem_singleton.mp hx]; exact ⟨_,hd,rfl⟩
theorem BsAt.fresh {H:Hp} {q:Pl} {cs:List Cl} {bs:List (Int×Addr)} {dn:Addr} {s:Int} (h:BsAt H q cs bs) (hv:valV (dBy bs) (Sum.inl s) = none) (hd:H dn = none) (n1:dn≠q.dt) (n2:dn≠q.dd):BsAt (upd (upd H dn (.dK [])) q.dz (.dK (putK (dBy bs) (Sum.inl s) (.ref dn)))) q cs (bs ++ [(s,dn)]):=by
  have nz:dn≠q.dz:=fun z=>by rw [z,h.h] at hd; cases hd
  have nb:∀ x∈bs,x.2≠dn:=fun x hx z=>by have:=(h.d x hx).1; rw [z,hd] at this; cases this
  refine ⟨?_,?_,?_,fun x hx=>?_,fun e he=>?_⟩
  · rw [upd_same,putK_new _ hv]; unfold dBy; rw [List.map_append]; rfl
  · rw [List.map_append,List.nodup_append]
    refine ⟨h.k,by simp,fun a ha b hb=>?_⟩
    obtain ⟨x,hx,rfl⟩:=List.mem_map.mp ha
    have:b = s:=by simpa using hb
    rw [this]
    intro z
    rw [← z,by_val h.k hx] at hv
    cases hv
  · rw [List.map_append,List.nodup_append]
    refine ⟨h.a,by simp,fun a ha b hb=>?_⟩
    obtain ⟨x,hx,rfl⟩:=List.mem_map.mp ha
    have:b = dn:=by simpa using hb
    rw [this]
    exact nb x hx
  · rcases List.mem_append.mp hx with hx | hx
    · rw [upd_ne (h.d x hx).2.2.1,upd_ne (nb x hx)]; exact h.d x hx
    · rw [List.mem_singleton.mp hx]
      refine ⟨?_,n1,nz,n2⟩
      show upd _ _ _ dn = some (.dK (dSm (numS cs s)))
      rw [upd_ne nz,upd_same,h.no hv]; rfl
  · obtain ⟨x,hx,e1⟩:=h.all e he
    exact ⟨x,List.mem_append.mpr (.inl hx),e1⟩
structure Md (CP CT:Addr) (H H':Hp) (p:Addr) (q:Pl) (cs:List Cl) (own:List Addr) (e:Cl) (us:List V) (dtk:List (Key×V)):Prop where
  f:Frm own H H'
  p:H' p = some (.ins CP q.dp (fldsP q.bo q.dt q.dz q.dd q.n))
  t:H' q.dt = some (.dK dtk)
  d:H' q.dd = some (.dK (dDr cs))
  c:∀ x∈cs,CellAt CT H' x
  n:CellAt CT H' e
  l:H' e.l = some (.lst us)
  u:Reps NL H' ((tagsB e.bk).map tgT) us
theorem Md.put {CP CT:Addr} {H H':Hp} {p:Addr} {q:Pl} {cs:List Cl} {own:List Addr} {e:Cl} {us:List V} {dtk:List (Key×V)} (M:Md CP CT H H' p q cs own e us dtk) {x:Addr} {o:HO} (hx:x∈own∨H x = none) (nt:x≠q.dt) (nd:x≠q.dd) (k:∀ u,H' x = some u→∃ kvs,u = .dK kvs):Md CP CT H (upd H' x o) p q cs own e us dtk:=by
  have no:∀ {a u},H' a = some u→(∀ kvs,u≠.dK kvs)→a≠x:=fun {a u} h n z=>by
    rw [z] at h
    obtain ⟨kvs,e⟩:=k _ h
    exact n kvs e
  have ht:∀ c ys,H' c = some (.tup ys)→(upd H' x o) c = some (.tup ys):=fun c ys h=>by rw [upd_ne (no h (by intro kvs z; cases z))]; exact h
  refine ⟨fun a u h n=>?_,?_,?_,?_,fun y hy=>?_,?_,?_,reps_tup ht _ _ M.u⟩
  · have:a≠x:=fun z=>by
      rcases hx with hx | hx
      · exact n (by rw [z]; exact hx)
      · rw [z,hx] at h; cases h
    rw [upd_ne this]; exact M.f a u h n
  · rw [upd_ne (no M.p (by intro kvs z; cases z))]; exact M.p
  · rw [upd_ne (Ne.symm nt)]; exact M.t
  · rw [upd_ne (Ne.symm nd)]; exact M.d
  · exact (M.c y hy).tup (upd_ne (no (M.c y hy).1 (by intro kvs z; cases z))) ht
  · exact M.n.tup (upd_ne (no M.n.1 (by intro kvs z; cases z))) ht
  · rw [upd_ne (no M.l (by intro kvs z; cases z))]; exact M.l
theorem Md.putT {CP CT:Addr} {H H':Hp} {p:Addr} {q:Pl} {cs:List Cl} {own:List Addr} {e:Cl} {us:List V} {dtk dt2:List (Key×V)} (M:Md CP CT H H' p q cs own e us dtk) (hx:q.dt∈own) (nd:q.dt≠q.dd):Md CP CT H (upd H' q.dt (.dK dt2)) p q cs own e us dt2:=by
  have no:∀ {a u},H' a = some u→(∀ kvs,u≠.dK kvs)→a≠q.dt:=fun {a u} h n z=>by
    rw [z,M.t] at h
    exact n _ (Option.some.inj h).symm
  have ht:∀ c ys,H' c = some (.tup ys)→(upd H' q.dt (.dK dt2)) c = some (.tup ys):=fun c ys h=>by rw [upd_ne (no h (by intro kvs z; cases z))]; exact h
  refine ⟨fun a u h n=>?_,?_,upd_same,?_,fun y hy=>?_,?_,?_,reps_tup ht _ _ M.u⟩
  · rw [upd_ne (fun z=>n (by rw [z]; exact hx))]; exact M.f a u h n
  · rw [upd_ne (no M.p (by intro kvs z; cases z))]; exact M.p
  · rw [upd_ne (Ne.symm nd)]; exact M.d
  · exact (M.c y hy).tup (upd_ne (no (M.c y hy).1 (by intro kvs z; cases z))) ht
  · exact M.n.tup (upd_ne (no M.n.1 (by intro kvs z; cases z))) ht
  · rw [upd_ne (no M.l (by intro kvs z; cases z))]; exact M.l
def newC (z y:Int) (b:Bk) (v:V) (c dx ta l:Addr) (cs:List Cl):Cl:=⟨z,y,b,v,c,dx,ta,l,0,(ben cs b).1,(ben cs b).2⟩
def sp_Pool_take (K:PySem.W.Frag) (CP CT:Addr):Sp:=fun vs H Q _=>∃ p q cs bs v b,∃ (ta:Addr) (z y:Int),vs = [.ref p,.ref ta,v]∧PAt CP CT H p q cs bs∧cs.length≤10000∧Rep NL H (bkT b) v∧bkOk b∧H ta = some (.tup [.int z,.int y,.int (sumB b)])∧z = (cs.length:Int) + 1∧(∀ t∈tagsB b,∃ e∈cs,e.z = t.1)∧
  ∀ H' c dx l bs',H c = none→H l = none→(∃ us,H' l = some (.lst us)∧Reps NL H' ((tagsB b).map tgT) us)→PAt0 CP CT H' p q ((cs ++ [newC z y b v c dx ta l cs]).map (bump ((tagsB b).map (·.1))))→BsAt H' q ((cs ++ [newC z y b v c dx ta l cs]).map (bump ((tagsB b).map (·.1)))) bs'→bs'.length≤bs.length + 1→H' q.dd = some (.dK (dDr cs))→Frm (ownP p q cs bs) H H'→(∀ x∈bs',x∈bs∨H x.2 = none)→Q .non H'
theorem ok_Pool_take (T:Txt K mg C_Boards C_TakenCell C_Pool XC) (F:Fun K "take" "Pool.take" s_Pool_take f fd) (D_TakenCell_init:CDef P w K mg base 11 C_TakenCell "TakenCell" ["self","own_tag","block"] (sp_TakenCell_init K C_TakenCell)) (D_Pool_entries_of:MDef P w K mg base 2 C_Pool "entries_of" ["self","folder"] (sp_Pool_entries_of K C_Pool C_TakenCell)) (D_Pool_steps_of:MDef P w K mg base 2 C_Pool "steps_of" ["self","folder"] (sp_Pool_steps_of K C_Pool C_TakenCell)) (D_Pool_hold:MDef P w K mg base 1 C_Pool "hold" ["self","tag"] (sp_Pool_hold K C_Pool C_TakenCell)):FnOk P w K mg base CX0 13 f fd ["self","tag","block"] (sp_Pool_take K C_Pool C_TakenCell):=by
  refine F.ok sc_Pool_take (fun vs H Q E h=>?_) (fun cdv A outer s H vs Q E hr h=>?_)
  · obtain ⟨p,q,cs,bs,v,b,ta,z,y,rfl,_⟩:=h
    rfl
  obtain ⟨p,q,cs,bs,v,b,ta,z,y,rfl,pa,few,hv,ok,hta,hz,hn,hq⟩:=h
  have hu:=hu_of hr
  refine ⟨_,(@pss_cons _ _ _ _ _ (@ps_set _ _ (3) _ _ _ _ sc_Pool_take.nd rfl (by first | exact Or.inl rfl | exact Or.inr rfl) (@pe_cls _ _ _ _ _ _ _ _ _ _ _ D_TakenCell_init (hr.mono (by decide)) rfl (@pa_cons _ _ _ _ _ (pv 1) (@pa_cons _ _ _ _ _ (pv 2) (@pa_nil _) (by rfl)) (by rfl)) (by decide) (by rfl) (by rfl)) (by rfl) (by first | exact .inl rfl | exact .inr rfl | assumption)) (@pss_cons _ _ _ _ _ (@ps_if _ _ _ _ _ _ _ _ (@pt_cmpR _ _ _ _ _ _ _ _ op_eq (@pe_ix _ _ _ _ _ _ _ ix_tup (pv 2) (@pe_int _ _ _ _) (fun _ _=>rfl)) (@pe_globI _ _ _ _ rfl T.c_FOLDER (by decide)) (nomark _)) (@pss_cons _ _ _ _ _ (@ps_fld _ _ _ _ _ _ _ _ (pv 3) (@pe_mth _ _ _ _ _ _ _ _ _ _ _ _ _ _ (pv 0) T.cl_Pool D_Pool_entries_of (hr.mono (by decide)) (@pa_cons _ _ _ _ _ (pv 2) (@pa_nil _) (by rfl)) (by rfl) (by rfl) (by rfl)) rfl) (@pss_one _ _ _ (@ps_fld _ _ _ _ _ _ _ _ (pv 3) (@pe_mth _ _ _ _ _ _ _ _ _ _ _ _ _ _ (pv 0) T.cl_Pool D_Pool_steps_of (hr.mono (by decide)) (@pa_cons _ _ _ _ _ (pv 2) (@pa_nil _) (by rfl)) (by rfl) (by rfl) (by rfl)) rfl))) (@pss_nil _)) (@pss_cons _ _ _ _ _ (@ps_dput _ _ _ _ _ _ _ _ _ hu (@pe_fld _ _ _ _ _ (pv 0) rfl) (@pe_ix _ _ _ _ _ _ _ ix_tup (pv 1) (@pe_int _ _ _ _) (fun _ _=>rfl)) (pv 3) rfl) (@pss_cons _ _ _ _ _ (@ps_set _ _ (4) _ _ _ _ sc_Pool_take.nd rfl (by first | exact Or.inl rfl | exact Or.inr rfl) (@pe_dset2 _ _ _ _ _ _ _ _ _ (@pe_fld _ _ _ _ _ (pv 0) rfl) (@pe_ix _ _ _ _ _ _ _ ix_tup (pv 1) (@pe_int _ _ _ _) (fun _ _=>rfl)) (@pe_dnewK _ _) ⟨rfl,rfl,rfl,rfl⟩) (by rfl) (by first | exact .inl rfl | exact .inr rfl | assumption)) (@pss_cons _ _ _ _ _ (@ps_dput _ _ _ _ _ _ _ _ _ hu (pv 4) (@pe_ix _ _ _ _ _ _ _ ix_tup (pv 1) (@pe_int _ _ _ _) (fun _ _=>rfl)) (@pe_bl _ _ _ _) rfl) (@pss_one _ _ _ (@ps_for _ _ _ _ _ _ _ _ PassesOwn.never rfl (@pi_list _ _ _ _ (@pe_fld _ _ _ _ _ (pv 3) rfl)) (@pg_name _ _ (5) _ sc_Pool_take.nd rfl (by first | exact Or.inl rfl | exact Or.inr rfl) (by first | exact .inl rfl | exact .inr rfl | assumption)) (@pss_one _ _ _ (@ps_expr _ _ _ _ (@pe_mth _ _ _ _ _ _ _ _ _ _ _ _ _ _ (pv 0) T.cl_Pool D_Pool_hold (hr.mono (by decide)) (@pa_cons _ _ _ _ _ (pv 5) (@pa_nil _) (by rfl)) (by rfl) (by rfl) (by rfl)) (by rfl))) (by intro _; rfl)))))))),?_⟩
  try dsimp only [cxOf,Cx.nox,Cx.wish]
  refine ⟨_,rfl,_,rfl,fun c dx hc hdx hcd=>?_⟩
  have hH1:∀ a o,H a = some o→(upd (upd H dx (.own c)) c (.ins C_TakenCell dx [])) a = some o:=fun a o h=>by
    rw [upd_ne (fun z=>by rw [z,hc] at h; cases h),upd_ne (fun z=>by rw [z,hdx] at h; cases h)]; exact h
  refine ⟨c,dx,ta,v,b,rfl,upd_same,rep_tup (fun c ys h=>hH1 c _ h) _ _ hv,ok,fun l us H2 f2 nl hl r hc2=>⟨rfl,?_⟩⟩
  have s2:Same H H2:=fun a o h=>f2 a o (hH1 a o h) (fun z=>by rw [z,hc] at h; cases h)
  have nlH:H l = none:=by
    cases h:H l with
    | none=>rfl
    | some o=>rw [hH1 l o h] at nl; cases nl
  dsimp only [gName]
  refine seq_mid (fun σ' H'=>σ' = [some (.ref p),some (.ref ta),some v,some (.ref c),none,none]∧Same H H'∧H' c = some (.ins C_TakenCell dx (fldsC ta ((wT (bkT b)).length:Int) l 0 (ben cs b).1 (ben cs b).2))∧H' l = some (.lst us)∧Reps NL H' ((tagsB b).map tgT) us) (fun N hN=>?_) ?_
  · obtain ⟨va,xs,rfl,hva⟩:=bk_first hv
    refine ⟨_,rfl,va,_,_,_,rfl,rfl,SqT.of (s2.get hva),at_first,rfl,_,rfl,ite2 (fun hk=>?_) (fun hk=>?_)⟩
    · cases b with
      | folder es=>
        have kn:∀ x∈es,x.kd = 2→∃ e∈cs,e.z = x.tg.1:=fun x hx _=>hn x.tg (List.mem_map.mpr ⟨x,hx,rfl⟩)
        refine ⟨_,rfl,p,q.dp,_,rfl,(pa.same s2).t.1,rfl,_,rfl,p,q,cs,_,es,rfl,(pa.same s2).t,Rep.same s2 _ _ hv,ok.1,kn,fun H4 s4=>?_⟩
        refine ⟨_,rfl,c,C_TakenCell,dx,_,rfl,s4.get hc2,T.cl_TakenCell,T.n_TakenCell_entries_beneath,(by show 6 < 1000; decide),?_⟩
        have s5:Same H (upd H4 c (.ins C_TakenCell dx (fldsC ta ((wT (bkT (.folder es))).length:Int) l 0 (ben cs (.folder es)).1 0))):=same_upd (s2.trans s4) hc _
        refine ⟨_,rfl,p,q.dp,_,rfl,(pa.same s5).t.1,rfl,_,rfl,p,q,cs,_,es,rfl,(pa.same s5).t,Rep.same s5 _ _ hv,ok.1,kn,fun H6 s6=>?_⟩
        refine ⟨_,rfl,c,C_TakenCell,dx,_,rfl,s6.get upd_same,T.cl_TakenCell,T.n_TakenCell_steps_beneath,(by show 6 < 1000; decide),?_⟩
        have nlc:l≠c:=ne_of hl hc2 (by intro z; cases z)
        have tp:∀ a ys,H2 a = some (.tup ys)→(upd H6 c (.ins C_TakenCell dx (fldsC ta ((wT (bkT (.folder es))).length:Int) l 0 (ben cs (.folder es)).1 (ben cs (.folder es)).2))) a = some (.tup ys):=fun a ys h=>by
          have na:a≠c:=ne_of h hc2 (by intro z; cases z)
          rw [upd_ne na]
          exact s6.get (by rw [upd_ne na]; exact s4.get h)
        refine hN _ _ ⟨rfl,same_upd (s5.trans s6) hc _,upd_same,?_,reps_tup tp _ _ r⟩
        rw [upd_ne nlc]
        exact s6.get (by rw [upd_ne nlc]; exact s4.get hl)
      | piece _=>cases hk
      | row _ _=>cases hk
    · refine hN _ _ ⟨rfl,s2,?_,hl,r⟩
      cases b with
      | folder es=>exact absurd rfl hk
      | piece _=>exact hc2
      | row _ _=>exact hc2
  rintro σ' H3 ⟨rfl,s3,hc3,hl3,r3⟩
  have pa3:=pa.same s3
  have M3:Md C_Pool C_TakenCell H H3 p q cs (ownP p q cs bs) (newC z y b v c dx ta l cs) us (dTk cs):=⟨Same.frm s3,pa3.t.1,pa3.t.2.1,pa3.d,pa3.t.2.2.1,⟨hc3,s3.get hta,Rep.same s3 _ _ hv,ok⟩,hl3,r3⟩
  have fz:∀ e∈cs,e.z≠z:=fun e he=>by
    obtain ⟨i,hi,rfl⟩:=List.getElem_of_mem he
    have:=pa.z i _ (List.getElem?_eq_getElem hi)
    omega
  have tkl:(dTk cs).length < 100000:=by unfold dTk; rw [List.length_map]; omega
  have ht3:=s3.get hta
  refine ⟨_,rfl,_,rfl,p,C_Pool,q.dp,_,_,rfl,M3.p,T.cl_Pool,T.n_Pool_taken,rfl,_,rfl,ta,_,_,_,rfl,rfl,SqT.of ht3,rfl,q.dt,_,rfl,DPut.k (k:=Sum.inl z) M3.t (smallLt (by omega)),?_⟩
  have etk:putK (dTk cs) (Sum.inl z) (.ref c) = dTk (cs ++ [newC z y b v c dx ta l cs]):=by
    rw [putK_new _ (val_none fun x hx=>?_)]
    · unfold dTk; rw [List.map_append]; rfl
    · obtain ⟨e,he,rfl⟩:=List.mem_map.mp hx
      intro z
      exact fz e he (Sum.inl.inj z)
  rw [etk]
  have ot:q.dt∈ownP p q cs bs:=by unfold ownP; simp
  have oz:q.dz∈ownP p q cs bs:=by unfold ownP; simp
  have M4:=M3.putT (dt2:=dTk (cs ++ [newC z y b v c dx ta l cs])) ot pa.n2
  have B4:BsAt (upd H3 q.dt (.dK (dTk (cs ++ [newC z y b v c dx ta l cs])))) q cs bs:={ pa3.b with h:=by rw [upd_ne (Ne.symm pa.n1)]; exact pa3.b.h,d:=fun x hx=>⟨by rw [upd_ne (pa3.b.d x hx).2.1]; exact (pa3.b.d x hx).1,(pa3.b.d x hx).2⟩ }
  have hz4:∀ a,(upd H3 q.dt (.dK (dTk (cs ++ [newC z y b v c dx ta l cs])))) a = none→H a = none:=fun a h=>by
    cases ha:H a with
    | none=>rfl
    | some o=>
      have:=s3.get ha
      by_cases e:a = q.dt
      · rw [e,upd_same] at h; cases h
      · rw [upd_ne e,this] at h; cases h
  generalize (upd H3 q.dt (.dK (dTk (cs ++ [newC z y b v c dx ta l cs])))) = H4 at M4 B4 hz4
  have bl:bs.length≤100000:=by have:=pa.w; omega
  dsimp only
  refine seq_mid (fun σ' H'=>∃ d bs',σ' = [some (.ref p),some (.ref ta),some v,some (.ref c),some (.ref d),none]∧Md C_Pool C_TakenCell H H' p q cs (ownP p q cs bs) (newC z y b v c dx ta l cs) us (dTk (cs ++ [newC z y b v c dx ta l cs]))∧BsAt H' q cs bs'∧(sumB b,d)∈bs'∧bs'.length≤bs.length + 1∧(∀ x∈bs',x∈bs∨H x.2 = none)∧(d∈ownP p q cs bs∨H d = none)) (fun N hN=>?_) ?_
  · refine ⟨_,rfl,p,C_Pool,q.dp,_,_,rfl,M4.p,T.cl_Pool,T.n_Pool_by_sums,rfl,q.dz,rfl,.inl ⟨_,.inl B4.h⟩,_,rfl,ta,_,_,_,rfl,rfl,SqT.of M4.n.2.1,rfl,fun dn hdn=>?_⟩
    have ndn:∀ {a o},H4 a = some o→dn≠a:=fun {a o} h z=>by rw [z,h] at hdn; cases hdn
    have M5:=M4.put (x:=dn) (o:=.dK []) (.inr (hz4 _ hdn)) (ndn M4.t) (ndn M4.d) (fun u h=>by rw [hdn] at h; cases h)
    have B5:=B4.same (same_new hdn (.dK []))
    refine ⟨_,Sum.inl (sumB b),B5.h,rfl,smallLt (by unfold dBy; rw [List.length_map]; omega),fun u hv=>?_,fun hv=>?_⟩
    · obtain ⟨x,hx,hs,rfl⟩:=by_mem hv
      refine hN _ _ ⟨x.2,bs,rfl,M5,B5,by rw [← hs]; exact hx,by omega,(fun _ h=>.inl h),.inl ?_⟩
      unfold ownP
      simp only [List.mem_cons,List.mem_append]
      exact .inr (.inr (.inr (.inr (.inl (List.mem_map.mpr ⟨x,hx,rfl⟩)))))
    · refine hN _ _ ⟨dn,bs ++ [(sumB b,dn)],rfl,M5.put (.inl oz) (Ne.symm pa.n1) pa.n3 (fun u h=>⟨_,by rw [B5.h] at h; exact (Option.some.inj h).symm⟩),B4.fresh hv hdn (ndn M4.t) (ndn M4.d),by simp,by simp,(fun x hx=>(List.mem_append.mp hx).imp id fun h=>by rw [List.mem_singleton.mp h]; exact hz4 _ hdn),.inr (hz4 _ hdn)⟩
  rintro σ' H5 ⟨d,bs',rfl,M5,B5,hd5,lb,bfr,od⟩
  have hd6:=B5.d _ hd5
  refine ⟨_,rfl,_,rfl,ta,_,_,_,rfl,rfl,SqT.of M5.n.2.1,rfl,d,_,rfl,DPut.k (k:=Sum.inl z) hd6.1 (smallLt (by unfold dSm; rw [List.length_map]; have:=numS_len cs (sumB b); show (numS cs (sumB b)).length < 1000000; omega)),?_⟩
  have B6:=B5.snoc (e:=newC z y b v c dx ta l cs) hd5 (fun h=>by
    obtain ⟨e,he,_,hz'⟩:=numS_mem.mp h
    exact fz e he hz')
  have M6:=M5.put (x:=d) (o:=.dK (putK (dSm (numS cs (sumB b))) (Sum.inl z) (.bl true))) od hd6.2.1 hd6.2.2.2 (fun u h=>⟨_,by rw [hd6.1] at h; exact (Option.some.inj h).symm⟩)
  have e6:(upd H5 d (.dK (putK (dSm (numS cs (sumB b))) (Sum.inl z) (.bl true)))) = (upd H5 d (.dK (putK (dSm (numS cs (sumB (newC z y b v c dx ta l cs).bk))) (Sum.inl (newC z y b v c dx ta l cs).z) (.bl true)))):=rfl
  rw [← e6] at B6
  dsimp only
  generalize (upd H5 d (.dK (putK (dSm (numS cs (sumB b))) (Sum.inl z) (.bl true)))) = H6 at M6 B6
  have nc6:((cs ++ [newC z y b v c dx ta l cs]).map (·.c)).Nodup:=by
    rw [List.map_append,List.nodup_append]
    refine ⟨pa.c,by simp,fun a ha b' hb=>?_⟩
    obtain ⟨x,hx,rfl⟩:=List.mem_map.mp ha
    have:b' = c:=List.mem_singleton.mp hb
    rw [this]
    intro zz
    have:=(pa.t.2.2.1 x hx).1
    rw [zz,hc] at this
    cases this
  have P6:PAt0 C_Pool C_TakenCell H6 p q (cs ++ [newC z y b v c dx ta l cs]):=by
    refine ⟨M6.p,M6.t,fun e he=>?_,?_⟩
    · rcases List.mem_append.mp he with he | he
      · exact M6.c e he
      · rw [List.mem_singleton.mp he]; exact M6.n
    · rw [List.map_append,List.nodup_append]
      refine ⟨pa.t.2.2.2,by simp,fun a ha b' hb=>?_⟩
      obtain ⟨x,hx,rfl⟩:=List.mem_map.mp ha
      have:b' = z:=List.mem_singleton.mp hb
      rw [this]
      exact fz x hx
  refine ⟨_,rfl,c,C_TakenCell,dx,_,_,rfl,M6.n.1,T.cl_TakenCell,T.n_TakenCell_named,rfl,l,rfl,⟨_,SqL.of M6.l⟩,?_⟩
  refine for_list (K:=K) (a:=l) (xs:=us) (fun i σ H'=>(∃ v5,σ = [some (.ref p),some (.ref ta),some v,some (.ref c),some (.ref d),v5])∧PAt0 C_Pool C_TakenCell H' p q ((cs ++ [newC z y b v c dx ta l cs]).map (bump (((tagsB b).map (·.1)).take i)))∧BsAt H' q (cs ++ [newC z y b v c dx ta l cs]) bs'∧H' q.dd = some (.dK (dDr cs))∧H' l = some (.lst us)∧Reps NL H' ((tagsB b).map tgT) us∧Frm (ownP p q cs bs) H H') ⟨⟨_,rfl⟩,by rw [List.take_zero,bumps_nil]; exact P6,B6,M6.d,M6.l,M6.u,M6.f⟩ ?_ ?_ ?_
  · rintro i σ H' _ ⟨_,_,_,_,h,_⟩
    exact SqL.of h
  · rintro i x σ H' hx ⟨⟨v5,rfl⟩,P7,B7,d7,l7,u7,f7⟩
    obtain ⟨t,ht,rt⟩:=Reps.get u7 hx
    rw [List.getElem?_map] at ht
    obtain ⟨g,hg,rfl⟩:=Option.map_eq_some_iff.mp ht
    obtain ⟨tx,rfl,htx⟩:=rep_tg rt
    obtain ⟨e,he,hze⟩:=hn g (List.mem_of_getElem? hg)
    have he7:bump (((tagsB b).map (·.1)).take i) e∈(cs ++ [newC z y b v c dx ta l cs]).map (bump (((tagsB b).map (·.1)).take i)):=List.mem_map.mpr ⟨e,List.mem_append.mpr (.inl he),rfl⟩
    have hz7:(bump (((tagsB b).map (·.1)).take i) e).z = g.1:=hze
    have H7:=P7.hold (by rw [mc_bump]; exact nc6) he7
    have c7:=(P7.2.2.1 _ he7).1
    rw [← hz7] at htx
    refine ⟨_,rfl,p,q.dp,_,rfl,P7.1,rfl,_,rfl,p,q,_,_,tx,_,_,rfl,P7,he7,htx,?_⟩
    have tp:∀ a ys,H' a = some (.tup ys)→(upd H' (bump (((tagsB b).map (·.1)).take i) e).c (.ins C_TakenCell (bump (((tagsB b).map (·.1)).take i) e).dx (fldsC (bump (((tagsB b).map (·.1)).take i) e).ta ((wT (bkT (bump (((tagsB b).map (·.1)).take i) e).bk)).length:Int) (bump (((tagsB b).map (·.1)).take i) e).l ((bump (((tagsB b).map (·.1)).take i) e).k + 1) (bump (((tagsB b).map (·.1)).take i) e).en (bump (((tagsB b).map (·.1)).take i) e).st))) a = some (.tup ys):=fun a ys h=>by rw [upd_ne (ne_of h c7 (by intro z; cases z))]; exact h
    refine ⟨⟨_,rfl⟩,?_,B7.ins c7,by rw [upd_ne (ne_of d7 c7 (by intro z; cases z))]; exact d7,by rw [upd_ne (ne_of l7 c7 (by intro z; cases z))]; exact l7,reps_tup tp _ _ u7,fun a o h n=>?_⟩
    · rw [bumps_bump,hz7] at H7
      rw [List.take_add_one,List.getElem?_map,hg]
      exact H7
    · rw [upd_ne (fun zz=>n (by rw [zz]; unfold ownP; simp only [List.mem_cons,List.mem_append]; exact .inr (.inr (.inr (.inr (.inr (List.mem_map.mpr ⟨e,he,rfl⟩)))))))]
      exact f7 a o h n
  · rintro σ H' ⟨⟨v5,rfl⟩,P7,B7,d7,l7,u7,f7⟩
    have lu:us.length = ((tagsB b).map (·.1)).length:=by rw [Reps.len _ _ u7,List.length_map,List.length_map]
    rw [lu,List.take_length] at P7
    exact hq H' c dx l bs' hc nlH ⟨us,l7,u7⟩ P7 (B7.bump _) lb d7 f7 bfr
theorem PAt.lst {CP CT:Addr} {H:Hp} {p:Addr} {q:Pl} {cs:List Cl} {bs:List (Int×Addr)} {l:Addr} {us us':List V} (h:PAt CP CT H p q cs bs) (hl:H l = some (.lst us)):PAt CP CT (upd H l (.lst us')) p q cs bs:=by
  have no:∀ {a o},H a = some o→(∀ ys,o≠.lst ys)→(upd H l (.lst us')) a = some o:=fun {a o} h1 n=>by rw [upd_ne (fun z=>by rw [z,hl] at h1; exact n _ (Option.some.inj h1).symm)]; exact h1
  have nk:∀ {a kvs},H a = some (.dK kvs)→(upd H l (.lst us')) a = some (.dK kvs):=fun {a kvs} h1=>no h1 (by intro ys z; cases z)
  refine ⟨⟨no h.t.1 (by intro ys z; cases z),nk h.t.2.1,fun e he=>?_,h.t.2.2.2⟩,nk h.d,{ h.b with h:=nk h.b.h,d:=fun x hx=>⟨nk (h.b.d x hx).1,(h.b.d x hx).2⟩ },h.n1,h.n2,h.n3,h.c,h.z,h.w,h.f1,h.f2⟩
  have hc:=(h.t.2.2.1 e he).1
  exact (h.t.2.2.1 e he).tup ((no hc (by intro ys z; cases z)).trans hc.symm) fun c ys h1=>no h1 (by intro ys z; cases z)
theorem PAt.setn {CP CT:Addr} {H H':Hp} {p:Addr} {q:Pl} {cs:List Cl} {bs:List (Int×Addr)} {m:Int} (h:PAt CP CT H p q cs bs) (hp:H' p = some (.ins CP q.dp (fldsP q.bo q.dt q.dz q.dd m))) (ho:∀ b,b≠p→H' b = H b) (m1:1≤m) (m2:m≤(cs.length:Int) + 1):PAt CP CT H' p { q with n:=m } cs bs:=by
  have no:∀ {a o},H a = some o→(∀ C d fs,o≠.ins C d fs)→H' a = some o:=fun {a o} h1 n=>by rw [ho a (fun z=>by rw [z,h.t.1] at h1; exact n _ _ _ (Option.some.inj h1).symm)]; exact h1
  have nk:∀ {a kvs},H a = some (.dK kvs)→H' a = some (.dK kvs):=fun {a kvs} h1=>no h1 (by intro C d fs z; cases z)
  refine ⟨⟨hp,nk h.t.2.1,fun e he=>?_,h.t.2.2.2⟩,nk h.d,{ h.b with h:=nk h.b.h,d:=fun x hx=>⟨nk (h.b.d x hx).1,(h.b.d x hx).2⟩ },h.n1,h.n2,h.n3,h.c,h.z,h.w,m1,m2⟩
  have hc:=(h.t.2.2.1 e he).1
  refine (h.t.2.2.1 e he).tup (ho _ fun z=>?_) fun c ys h1=>no h1 (by intro C d fs z; cases z)
  rw [z,h.t.1] at hc
  have:=Option.some.inj hc
  injection this with _ _ this
  injection this with this _
  injection this with this _
  revert this
  decide
def sp_Pool_put (K:PySem.W.Frag) (CP CT:Addr):Sp:=fun vs H Q _=>∃ p q cs bs v b,∃ (y:Int),vs = [.ref p,v,.int y]∧PAt CP CT H p q cs bs∧cs.length≤10000∧Rep NL H (bkT b) v∧bkOk b∧(∀ t∈tagsB b,∃ e∈cs,e.z = t.1)∧
  (∀ e∈cs,e.bk = b→∀ H',Same H H'→Q (.ref e.ta) H')∧
  ((∀ e∈cs,e.bk≠b)→∀ H' c dx l ta bs',H c = none→H l = none→(∃ us,H' l = some (.lst us)∧Reps NL H' ((tagsB b).map tgT) us)→PAt CP CT H' p { q with n:=(cs.length:Int) + 1 } ((cs ++ [newC ((cs.length:Int) + 1) y b v c dx ta l cs]).map (bump ((tagsB b).map (·.1)))) bs'→Frm (ownP p q cs bs) H H'→(∀ x∈bs',x∈bs∨H x.2 = none)→Q (.ref ta) H')
theorem ok_Pool_put (T:Txt K mg C_Boards C_TakenCell C_Pool XC) (F:Fun K "put" "Pool.put" s_Pool_put f fd) (D_Pool_alike:MDef P w K mg base 4 C_Pool "alike" ["self","block"] (sp_Pool_alike K C_Pool C_TakenCell)) (D_Pool_take:MDef P w K mg base 13 C_Pool "take" ["self","tag","block"] (sp_Pool_take K C_Pool C_TakenCell)) (D_Pool_free_number:MDef P w K mg base 1 C_Pool "free_number" ["self"] (sp_Pool_free_number K C_Pool C_TakenCell)) (D_sum_of:Def P w K mg base 3 "sum_of" ["block"] (sp_sum_of K)):FnOk P w K mg base CX0 14 f fd ["self","block","birth"] (sp_Pool_put K C_Pool C_TakenCell):=by
  refine F.ok sc_Pool_put (fun vs H Q E h=>?_) (fun cdv A outer s H vs Q E hr h=>?_)
  · obtain ⟨p,q,cs,bs,v,b,y,rfl,_⟩:=h
    rfl
  obtain ⟨p,q,cs,bs,v,b,y,rfl,pa,few,hv,ok,hn,hq1,hq2⟩:=h
  have hu:=hu_of hr
  refine ⟨_,(@pss_cons _ _ _ _ _ (@ps_set _ _ (3) _ _ _ _ sc_Pool_put.nd rfl (by first | exact Or.inl rfl | exact Or.inr rfl) (@pe_mth _ _ _ _ _ _ _ _ _ _ _ _ _ _ (pv 0) T.cl_Pool D_Pool_alike (hr.mono (by decide)) (@pa_cons _ _ _ _ _ (pv 1) (@pa_nil _) (by rfl)) (by rfl) (by rfl) (by rfl)) (by rfl) (by first | exact .inl rfl | exact .inr rfl | assumption)) (@pss_cons _ _ _ _ _ (@ps_if _ _ _ _ _ _ _ _ (@pt_cmp _ _ _ _ _ _ (@pc_notN _ _ _ _ _ (pv 3)) (by first | exact nobehind _ (by decide) (by decide) | rfl)) (@pss_one _ _ _ (@ps_ret _ _ _ _ (pv 3))) (@pss_nil _)) (@pss_cons _ _ _ _ _ (@ps_set _ _ (4) _ _ _ _ sc_Pool_put.nd rfl (by first | exact Or.inl rfl | exact Or.inr rfl) (@pe_tup _ _ _ _ _ (@pa_cons _ _ _ _ _ (@pe_mth0 _ _ _ _ _ _ _ _ _ _ _ (pv 0) T.cl_Pool D_Pool_free_number (hr.mono (by decide)) (by rfl)) (@pa_cons _ _ _ _ _ (pv 2) (@pa_cons _ _ _ _ _ (@pe_fn _ _ _ _ _ _ _ _ _ _ D_sum_of (hr.mono (by decide)) rfl (@pa_cons _ _ _ _ _ (pv 1) (@pa_nil _) (by rfl)) (by decide) (by rfl) (by rfl)) (@pa_nil _) (by rfl)) (by rfl)) (by rfl))) (by rfl) (by first | exact .inl rfl | exact .inr rfl | assumption)) (@pss_cons _ _ _ _ _ (@ps_expr _ _ _ _ (@pe_mth _ _ _ _ _ _ _ _ _ _ _ _ _ _ (pv 0) T.cl_Pool D_Pool_take (hr.mono (by decide)) (@pa_cons _ _ _ _ _ (pv 4) (@pa_cons _ _ _ _ _ (pv 1) (@pa_nil _) (by rfl)) (by rfl)) (by rfl) (by rfl) (by rfl)) (by rfl)) (@pss_cons _ _ _ _ _ (@ps_dput _ _ _ _ _ _ _ _ _ hu (@pe_fld _ _ _ _ _ (pv 0) rfl) (@pe_ix _ _ _ _ _ _ _ ix_tup (pv 4) (@pe_int _ _ _ _) (fun _ _=>rfl)) (pv 1) rfl) (@pss_one _ _ _ (@ps_ret _ _ _ _ (pv 4)))))))),?_⟩
  try dsimp only [cxOf,Cx.nox,Cx.wish]
  refine ⟨_,rfl,p,q.dp,_,rfl,pa.t.1,rfl,_,rfl,p,q,cs,bs,v,b,rfl,pa,few,hv,ok,fun e he eb H1 s1=>?_,fun hne H1 s1=>?_⟩
  · exact ⟨_,rfl,_,rfl,iteTc rfl ⟨_,rfl,hq1 e he eb H1 s1⟩⟩
  refine ⟨_,rfl,_,rfl,iteFc rfl ?_⟩
  have pa1:=pa.same s1
  refine ⟨_,rfl,p,q.dp,_,rfl,pa1.t.1,rfl,p,q,cs,rfl,pa1.t,pa.z,pa.f1,pa.f2,fun H2 hp2 ho2=>?_⟩
  have pa2:PAt C_Pool C_TakenCell H2 p { q with n:=(cs.length:Int) + 1 } cs bs:=pa1.setn hp2 ho2 (by omega) (by omega)
  have tp2:∀ a ys,H1 a = some (.tup ys)→H2 a = some (.tup ys):=fun a ys h=>by rw [ho2 a (ne_of h pa1.t.1 (by intro z; cases z))]; exact h
  have k2:∀ a o,H a = some o→∃ o',H2 a = some o':=fun a o h=>by
    by_cases e:a = p
    · exact ⟨_,by rw [e]; exact hp2⟩
    · exact ⟨o,by rw [ho2 a e]; exact s1.get h⟩
  refine ⟨_,rfl,_,rfl,v,b,rfl,rep_tup tp2 _ _ (Rep.same s1 _ _ hv),ok,fun H3 s3=>?_⟩
  refine ⟨small (by show 3≤1000000; decide),fun ta hta=>?_⟩
  have s4:=s3.trans (same_new hta (.tup [.int ((cs.length:Int) + 1),.int y,.int (sumB b)]))
  have pa4:=pa2.same s4
  have t4:(upd H3 ta (.tup [.int ((cs.length:Int) + 1),.int y,.int (sumB b)])) ta = some (.tup [.int ((cs.length:Int) + 1),.int y,.int (sumB b)]):=upd_same
  have hv4:=Rep.same s4 _ _ (rep_tup tp2 _ _ (Rep.same s1 _ _ hv))
  generalize (upd H3 ta (.tup [.int ((cs.length:Int) + 1),.int y,.int (sumB b)])) = H4 at s4 pa4 t4 hv4
  refine ⟨_,rfl,p,q.dp,_,rfl,pa4.t.1,rfl,_,rfl,_,rfl,p,_,cs,bs,v,b,ta,_,y,rfl,pa4,few,hv4,ok,t4,rfl,hn,fun H5 c dx l bs' hc hl4 ⟨us,l5,u5⟩ P5 B5 lb d5 f5 bfr=>?_⟩
  have t5:=f5 ta _ t4 (pa4.apart t4 (by intro C d fs z; cases z) (by intro kvs z; cases z))
  refine ⟨_,rfl,_,rfl,p,C_Pool,q.dp,_,_,rfl,P5.1,T.cl_Pool,T.n_Pool_draft,rfl,_,rfl,ta,_,_,_,rfl,rfl,SqT.of t5,rfl,q.dd,_,rfl,DPut.k (k:=Sum.inl ((cs.length:Int) + 1)) d5 (smallLt (by unfold dDr; rw [List.length_map]; omega)),?_⟩
  have fr:∀ a,H4 a = none→H a = none:=fun a hc=>by
    cases h:H a with
    | none=>rfl
    | some o=>
      obtain ⟨o',h'⟩:=k2 a o h
      rw [s4.get h'] at hc
      cases hc
  have hcH:=fr c hc
  have edr:putK (dDr cs) (Sum.inl ((cs.length:Int) + 1)) v = dDr ((cs ++ [newC ((cs.length:Int) + 1) y b v c dx ta l cs]).map (bump ((tagsB b).map (·.1)))):=by
    rw [dDr_bump,putK_new _ (val_none fun x hx=>?_)]
    · unfold dDr; rw [List.map_append]; rfl
    · obtain ⟨e,he,rfl⟩:=List.mem_map.mp hx
      obtain ⟨i,hi,rfl⟩:=List.getElem_of_mem he
      have:=pa.z i _ (List.getElem?_eq_getElem hi)
      intro zz
      have:=Sum.inl.inj zz
      omega
  rw [edr]
  have nt0:∀ {a u},H5 a = some u→(∀ kvs,u≠.dK kvs)→a≠q.dd:=fun {a u} h n zz=>by
    rw [zz,d5] at h
    exact n _ (Option.some.inj h).symm
  refine ⟨_,rfl,hq2 hne _ c dx l ta bs' hcH (fr l hl4) ⟨us,by rw [upd_ne (nt0 l5 (by intro kvs z; cases z))]; exact l5,reps_tup (fun a ys h=>by rw [upd_ne (nt0 h (by intro kvs z; cases z))]; exact h) _ _ u5⟩ ?_ (fun a o h n=>?_) fun x hx=>(bfr x hx).imp id (fr x.2)⟩
  · have nt:∀ {a u},H5 a = some u→(∀ kvs,u≠.dK kvs)→a≠q.dd:=fun {a u} h n zz=>by
      rw [zz,d5] at h
      exact n _ (Option.some.inj h).symm
    refine ⟨⟨?_,?_,fun e he=>?_,P5.2.2.2⟩,upd_same,{ B5 with h:=?_,d:=fun x hx=>⟨?_,(B5.d x hx).2⟩ },pa.n1,pa.n2,pa.n3,?_,fun i e h=>?_,?_,?_,?_⟩
    · rw [upd_ne (nt P5.1 (by intro kvs z; cases z))]; exact P5.1
    · rw [upd_ne pa.n2]; exact P5.2.1
    · exact (P5.2.2.1 e he).tup (upd_ne (nt (P5.2.2.1 e he).1 (by intro kvs z; cases z))) fun a ys h=>by rw [upd_ne (nt h (by intro kvs z; cases z))]; exact h
    · rw [upd_ne pa.n3]; exact B5.h
    · rw [upd_ne (B5.d x hx).2.2.2]; exact (B5.d x hx).1
    · rw [mc_bump,List.map_append,List.nodup_append]
      refine ⟨pa.c,by simp,fun a ha b' hb=>?_⟩
      obtain ⟨x,hx,rfl⟩:=List.mem_map.mp ha
      have:b' = c:=List.mem_singleton.mp hb
      rw [this]
      intro zz
      have:=(pa.t.2.2.1 x hx).1
      rw [zz,hcH] at this
      cases this
    · rw [List.getElem?_map] at h
      obtain ⟨x,hx,rfl⟩:=Option.map_eq_some_iff.mp h
      show x.z = _
      by_cases hi:i < cs.length
      · rw [List.getElem?_append_left hi] at hx
        exact pa.z i x hx
      · rw [List.getElem?_append_right (by omega)] at hx
        obtain ⟨h1,h2⟩:=List.getElem?_eq_some_iff.mp hx
        have:i = cs.length:=by
          have:i - cs.length < 1:=h1
          omega
        subst this
        simp only [Nat.sub_self,List.getElem_cons_zero] at h2
        rw [← h2]
        rfl
    · rw [List.length_map,List.length_append]
      have:=pa.w
      show bs'.length≤cs.length + 1
      omega
    · show (1:Int)≤(cs.length:Int) + 1
      omega
    · rw [List.length_map,List.length_append]
      show (cs.length:Int) + 1≤((cs.length + 1:Nat):Int) + 1
      omega
  · have na:a≠q.dd:=fun zz=>n (by rw [zz]; unfold ownP; simp)
    have np:a≠p:=fun zz=>n (by rw [zz]; unfold ownP; simp)
    rw [upd_ne na]
    exact f5 a o (s4.get (by rw [ho2 a np]; exact s1.get h)) n
def Kn (H H':Hp):Prop:=∀ a o,H a = some o→(∀ C d fs,o≠.ins C d fs)→(∀ kvs,o≠.dK kvs)→H' a = some o
theorem Kn.seq {H H':Hp} {a:Addr} {xs:List V} (e:Kn H H') (h:SqL K H a xs):SqL K H' a xs:=by
  rcases h with (h | ⟨o,h⟩) | h
  · exact .inl (.inl (e _ _ h (by intro C d fs z; cases z) (by intro kvs z; cases z)))
  · exact .inl (.inr ⟨o,e _ _ h (by intro C d fs z; cases z) (by intro kvs z; cases z)⟩)
  · exact .inr h
theorem Kn.tup {H H':Hp} (e:Kn H H'):∀ c ys,H c = some (.tup ys)→H' c = some (.tup ys):=fun c ys h=>e c _ h (by intro C d fs z; cases z) (by intro kvs z; cases z)
theorem Kn.lst {H H':Hp} (e:Kn H H') {c:Addr} {ys:List V} (h:H c = some (.lst ys)):H' c = some (.lst ys):=e c _ h (by intro C d fs z; cases z) (by intro kvs z; cases z)
theorem fold_in:∀ (l:List Int) (t:Int),0≤t→t≤996→0≤l.foldl (fun t n=>(31 * t + n + 1) % 997) t∧l.foldl (fun t n=>(31 * t + n + 1) % 997) t≤996
  | [],t,h0,h1=>⟨h0,h1⟩
  | x :: l,t,_,_=>fold_in l ((31 * t + x + 1) % 997) (by omega) (by omega)
theorem sum_in (b:Bk):0≤sumB b∧sumB b≤996:=by
  have k:0≤kindB b∧kindB b≤2:=by cases b <;> simp [kindB]
  exact fold_in _ _ (by omega) (by omega)
end
open M06
section
variable {P:Program} {w:World} {K:PySem.W.Frag} {mg:Str→Option Value} {base:Heap} {f C_Boards C_TakenCell C_Pool:Addr} {XC:Nat→Addr} {fd:FuncData}
def sp__law_row (K:PySem.W.Frag):Sp:=fun vs H Q _=>∃ (c m:Int),vs = [.int c,.int m]∧0≤m∧m≤1000∧
  ∀ (r:Addr) (H':Hp) (ns:List Int),Same H H'→H r = none→H' r = some (.lst (ns.map V.int))→ns.length = m.toNat→(∀ x∈ns,0≤x∧x < 1000000)→Q (.ref r) H'
theorem ok__law_row (T:Txt K mg C_Boards C_TakenCell C_Pool XC) (F:Fun K "_law_row" "_law_row" s__law_row f fd):FnOk P w K mg base CX0 1 f fd ["_law_cell","_law_many"] (sp__law_row K):=by
  refine F.ok sc__law_row (fun vs H Q E h=>?_) (fun cdv A outer s H vs Q E hr h=>?_)
  · obtain ⟨c,m,rfl,_⟩:=h
    rfl
  obtain ⟨c,m,rfl,hm0,hm1,q⟩:=h
  refine ⟨_,(@pss_cons _ _ _ _ _ (@ps_set _ _ (2) _ _ _ _ sc__law_row.nd rfl (by first | exact Or.inl rfl | exact Or.inr rfl) (@pe_lst _ _ _ _ (@pa_nil _)) (by rfl) (by first | exact .inl rfl | exact .inr rfl | assumption)) (@pss_cons _ _ _ _ _ (@ps_set _ _ (3) _ _ _ _ sc__law_row.nd rfl (by first | exact Or.inl rfl | exact Or.inr rfl) (pv 0) (by rfl) (by first | exact .inl rfl | exact .inr rfl | assumption)) (@pss_cons _ _ _ _ _ (@ps_if _ _ _ _ _ _ _ _ (@pt_cmpR _ _ _ _ _ _ _ _ op_lt (@pe_callB _ _ _ _ _ _ _ _ _ call_abs (by rfl) T.b_abs bt_abs (@pa_cons _ _ _ _ _ (pv 0) (@pa_nil _) (by rfl)) (by decide) (by decide) (by rfl) (by rfl)) (@pe_op _ _ _ _ _ _ _ _ op_pow (@pe_int _ _ _ _) (@pe_int _ _ _ _)) (nomark _)) (@pss_one _ _ _ (@ps_set _ _ (3) _ _ _ _ sc__law_row.nd rfl (by first | exact Or.inl rfl | exact Or.inr rfl) (@pe_op _ _ _ _ _ _ _ _ op_add (@pe_op _ _ _ _ _ _ _ _ op_mod (pv 0) (@pe_int _ _ _ _)) (@pe_int _ _ _ _)) (by rfl) (by first | exact .inl rfl | exact .inr rfl | assumption))) (@pss_nil _)) (@pss_cons _ _ _ _ _ (@ps_for _ _ _ _ _ _ _ _ PassesOwn.never rfl (@pi_range1 _ _ _ _ _ _ rfl T.b_range (@pa_cons _ _ _ _ _ (pv 1) (@pa_nil _) (by rfl)) (by rfl)) (@pg_name _ _ (4) _ sc__law_row.nd rfl (by first | exact Or.inl rfl | exact Or.inr rfl) (by first | exact .inl rfl | exact .inr rfl | assumption)) (@pss_one _ _ _ (@ps_if _ _ _ _ _ _ _ _ (@pt_cmpR _ _ _ _ _ _ _ _ op_lt (@pe_callB _ _ _ _ _ _ _ _ _ call_abs (by rfl) T.b_abs bt_abs (@pa_cons _ _ _ _ _ (pv 0) (@pa_nil _) (by rfl)) (by decide) (by decide) (by rfl) (by rfl)) (@pe_op _ _ _ _ _ _ _ _ op_pow (@pe_int _ _ _ _) (@pe_int _ _ _ _)) (nomark _)) (@pss_cons _ _ _ _ _ (@ps_set _ _ (3) _ _ _ _ sc__law_row.nd rfl (by first | exact Or.inl rfl | exact Or.inr rfl) (@pe_op _ _ _ _ _ _ _ _ op_mod (@pe_op _ _ _ _ _ _ _ _ op_mul (pv 3) (@pe_int _ _ _ _)) (@pe_int _ _ _ _)) (by rfl) (by first | exact .inl rfl | exact .inr rfl | assumption)) (@pss_one _ _ _ (@ps_expr _ _ _ _ (@pe_bm _ _ _ _ _ _ _ _ _ _ _ _ PySem.F.plainAttrs_list PySem.F.slot_list_append PySem.F.type_list_append mt_append (pv 2) (@pa_cons _ _ _ _ _ (@pe_op _ _ _ _ _ _ _ _ op_mod (@pe_op _ _ _ _ _ _ _ _ op_fdiv (@pe_op _ _ _ _ _ _ _ _ op_mod (@pe_op _ _ _ _ _ _ _ _ op_add (@pe_op _ _ _ _ _ _ _ _ op_add (@pe_op _ _ _ _ _ _ _ _ op_mul (pv 3) (pv 3)) (@pe_op _ _ _ _ _ _ _ _ op_mul (@pe_int _ _ _ _) (pv 3))) (pv 4)) (@pe_int _ _ _ _)) (@pe_int _ _ _ _)) (@pe_op _ _ _ _ _ _ _ _ op_pow (@pe_int _ _ _ _) (@pe_int _ _ _ _))) (@pa_nil _) (by rfl)) (by rfl) (by rfl) (by rfl) (by rfl) (by rfl)) (by rfl)))) (@pss_cons _ _ _ _ _ (@ps_expr _ _ _ _ (@pe_bm _ _ _ _ _ _ _ _ _ _ _ _ PySem.F.plainAttrs_list PySem.F.slot_list_append PySem.F.type_list_append mt_append (pv 2) (@pa_cons _ _ _ _ _ (@pe_op _ _ _ _ _ _ _ _ op_mod (pv 3) (@pe_op _ _ _ _ _ _ _ _ op_pow (@pe_int _ _ _ _) (@pe_int _ _ _ _))) (@pa_nil _) (by rfl)) (by rfl) (by rfl) (by rfl) (by rfl) (by rfl)) (by rfl)) (@pss_one _ _ _ (@ps_set _ _ (3) _ _ _ _ sc__law_row.nd rfl (by first | exact Or.inl rfl | exact Or.inr rfl) (@pe_op _ _ _ _ _ _ _ _ op_fdiv (pv 3) (@pe_op _ _ _ _ _ _ _ _ op_pow (@pe_int _ _ _ _) (@pe_int _ _ _ _))) (by rfl) (by first | exact .inl rfl | exact .inr rfl | assumption)))))) (by intro _; rfl)) (@pss_one _ _ _ (@ps_ret _ _ _ _ (pv 2))))))),?_⟩
  refine ⟨small (by show 0≤1000000; decide),fun g hg=>?_⟩
  refine ⟨_,rfl,?_⟩
  have z1:∀ (N:St→Hp→Prop),(∀ z:Int,N [some (.int c),some (.int m),some (.ref g),some (.int z),none] (upd H g (.lst [])))→tIfS (tTest (tOp (rI0 fun i j=>V.bl (decide (i < j))) (tCB (fun xs H Q=>∃ i,xs = [V.int i]∧Q (V.int (if i < 0 then -i else i)) H) (tCons (tVar 0) tNil)) (tOp (rI CPow fun i j=>V.int (i ^ j.toNat)) (tC (V.int 10)) (tC (V.int 18))))) (tAsg (tOp (rI0 fun i j=>V.int (i + j)) (tOp (rI (fun x j=>0 < j) fun i j=>V.int (i % j)) (tVar 0) (tC (V.int 2147483647))) (tC (V.int 1))) (gName 3)) tNext { nx:=N,rt:=Q } [some (.int c),some (.int m),some (.ref g),some (.int c),none] (upd H g (.lst [])):=fun N hN=>by
    refine ⟨_,rfl,_,rfl,_,_,rfl,rfl,⟨by decide,by decide,by decide⟩,_,_,rfl,rfl,_,rfl,ite2 (fun _=>?_) (fun _=>?_)⟩
    · exact ⟨_,rfl,_,_,rfl,rfl,(by show (0:Int) < 2147483647; decide),_,_,rfl,rfl,hN _⟩
    · exact hN _
  refine z1 _ fun z0=>?_
  refine ⟨_,rfl,m,rfl,by omega,by omega,for_range (lo:=0) (n:=m.toNat) (fun i σ H2=>∃ (ns:List Int) (z:Int) (v:Option V),σ = [some (.int c),some (.int m),some (.ref g),some (.int z),v]∧Same H H2∧H2 g = some (.lst (ns.map V.int))∧ns.length = i∧∀ x∈ns,0≤x∧x < 1000000)
    ⟨[],_,none,rfl,same_new hg _,upd_same,rfl,fun _ h=>nomatch h⟩ ?_ ?_⟩
  · rintro i σ H2 hi ⟨ns,z,v,rfl,s2,hg2,hl,hb⟩
    refine ⟨_,rfl,_,rfl,_,_,rfl,rfl,⟨by decide,by decide,by decide⟩,_,_,rfl,rfl,_,rfl,ite2 (fun _=>?_) (fun _=>?_)⟩
    · refine ⟨_,rfl,_,_,rfl,rfl,.inr ⟨by decide,by decide⟩,_,_,rfl,rfl,(by show (0:Int) < 2147483647; decide),?_⟩
      have b0:=Int.emod_nonneg (z * 48271) (show (2147483647:Int)≠0 by decide)
      have b1:=Int.emod_lt_of_pos (z * 48271) (show (0:Int) < 2147483647 by decide)
      dsimp only
      generalize z * 48271 % 2147483647 = y at b0 b1
      refine ⟨_,rfl,.inl ⟨rfl,_,SqL.of hg2⟩,_,rfl,_,rfl,_,_,rfl,rfl,.inl ⟨by omega,by omega⟩,_,rfl,_,_,rfl,rfl,.inl ⟨by decide,by decide⟩,_,_,rfl,rfl,_,rfl,_,_,rfl,rfl,_,_,rfl,rfl,(by show (0:Int) < 2147483629; decide),_,_,rfl,rfl,⟨by decide,by decide⟩,_,_,rfl,rfl,⟨by decide,by decide,by decide⟩,_,_,rfl,rfl,(by show (0:Int) < 10 ^ (6:Int).toNat; decide),?_⟩
      refine ⟨g,_,_,rfl,rfl,hg2,smallLt (by rw [List.length_map]; omega),?_⟩
      refine ⟨ns ++ [_],_,_,rfl,same_upd s2 hg _,by rw [upd_same,List.map_append]; rfl,by rw [List.length_append,hl]; rfl,fun x hx=>?_⟩
      rcases List.mem_append.mp hx with hx | hx
      · exact hb x hx
      · rw [List.mem_singleton.mp hx]
        exact ⟨Int.emod_nonneg _ (by decide),Int.emod_lt_of_pos _ (by decide)⟩
    · refine ⟨_,rfl,.inl ⟨rfl,_,SqL.of hg2⟩,_,rfl,_,_,rfl,rfl,⟨by decide,by decide,by decide⟩,_,_,rfl,rfl,(by show (0:Int) < 10 ^ (6:Int).toNat; decide),g,_,_,rfl,rfl,hg2,smallLt (by rw [List.length_map]; omega),?_⟩
      refine ⟨_,rfl,_,_,rfl,rfl,⟨by decide,by decide,by decide⟩,_,_,rfl,rfl,⟨by decide,by decide⟩,?_⟩
      refine ⟨ns ++ [_],_,_,rfl,same_upd s2 hg _,by rw [upd_same,List.map_append]; rfl,by rw [List.length_append,hl]; rfl,fun x hx=>?_⟩
      rcases List.mem_append.mp hx with hx | hx
      · exact hb x hx
      · rw [List.mem_singleton.mp hx]
        exact ⟨Int.emod_nonneg _ (by decide),Int.emod_lt_of_pos _ (by decide)⟩
  · rintro σ H2 ⟨ns,z,v,rfl,s2,hg2,hl,hb⟩
    exact ⟨_,rfl,q g _ ns s2 hg hg2 hl hb⟩
def sp__law_signs (K:PySem.W.Frag):Sp:=fun vs H Q _=>vs = []∧Q (.str SG) H
theorem ok__law_signs (T:Txt K mg C_Boards C_TakenCell C_Pool XC) (F:Fun K "_law_signs" "_law_signs" s__law_signs f fd):FnOk P w K mg base CX0 1 f fd [] (sp__law_signs K):=by
  refine F.ok sc__law_signs (fun vs H Q E h=>?_) (fun cdv A outer s H vs Q E hr h=>?_)
  · obtain ⟨rfl,_⟩:=h
    rfl
  obtain ⟨rfl,q⟩:=h
  refine ⟨_,(@pss_one _ _ _ (@ps_ret _ _ _ _ (@pe_str _ _ _ _))),?_⟩
  have e:PySem.Str.ofString " !\"#$&'()*+,-./0123456789:;<=>?@ABCDEFGHIJKLMNOPQRSTUVWXYZ[\\]^_`abcdefghijklmnopqrstuvwxyz{|}~" = SG:=by decide +kernel
  rw [← e] at q
  exact q
def sp__law_sum (K:PySem.W.Frag):Sp:=fun vs H Q _=>∃ v b,vs = [v]∧Rep NL H (bkT b) v∧bkOk b∧∀ H',Same H H'→Q (.int (sumB b)) H'
theorem ok__law_sum (T:Txt K mg C_Boards C_TakenCell C_Pool XC) (F:Fun K "_law_sum" "_law_sum" s__law_sum f fd) (D__law_signs:Def P w K mg base 1 "_law_signs" [] (sp__law_signs K)):FnOk P w K mg base CX0 2 f fd ["_law_block"] (sp__law_sum K):=by
  refine F.ok sc__law_sum (fun vs H Q E h=>?_) (fun cdv A outer s H vs Q E hr h=>?_)
  · obtain ⟨v,b,rfl,_⟩:=h
    rfl
  obtain ⟨v,b,rfl,hv,ok,q⟩:=h
  have hu:=hu_of hr
  have hu9:=hu9_of hr
  refine ⟨_,(@pss_cons _ _ _ _ _ (@ps_set _ _ (1) _ _ _ _ sc__law_sum.nd rfl (by first | exact Or.inl rfl | exact Or.inr rfl) (@pe_lst _ _ _ _ (@pa_nil _)) (by rfl) (by first | exact .inl rfl | exact .inr rfl | assumption)) (@pss_cons _ _ _ _ _ (@ps_if _ _ _ _ _ _ _ _ (@pt_cmpR _ _ _ _ _ _ _ _ op_eq (@pe_ix _ _ _ _ _ _ _ ix_tup (pv 0) (@pe_int _ _ _ _) (fun _ _=>rfl)) (@pe_int _ _ _ _) (nomark _)) (@pss_one _ _ _ (@ps_setC0 _ ["_law_sign"] (1) _ _ _ _ _ _ _ _ _ _ _ _ _ sc__law_sum.nd rfl (by first | exact Or.inl rfl | exact Or.inr rfl) rfl (@pi_str _ _ _ _ (@pe_ix _ _ _ _ _ _ _ ix_tup (pv 0) (@pe_int _ _ _ _) (fun _ _=>rfl))) (by decide +kernel) (fun C s H fp=>⟨(@pg_name _ _ (0) _ (show (["_law_sign"]:List Str).Nodup by decide +kernel) rfl (by first | exact Or.inl rfl | exact Or.inr rfl) (by first | exact .inl rfl | exact .inr rfl | assumption)),(@pifs_nil _),(@pe_bmK _ (K) _ _ _ _ _ _ _ _ _ _ _ rfl PySem.F.plainAttrs_str PySem.F.slot_str_index PySem.F.type_str_index (mt_index rfl) (@pe_fn0 _ _ _ _ _ _ _ D__law_signs (hr.mono (by decide)) rfl (by decide)) (@pa_cons _ _ _ _ _ (pv 0) (@pa_nil _) (by rfl)) (by rfl) (by rfl) (by rfl) (by rfl) (by rfl))⟩) (by intro _; rfl) (by rfl) (by first | exact .inl rfl | exact .inr rfl | assumption))) (@pss_one _ _ _ (@ps_if _ _ _ _ _ _ _ _ (@pt_cmpR _ _ _ _ _ _ _ _ op_eq (@pe_ix _ _ _ _ _ _ _ ix_tup (pv 0) (@pe_int _ _ _ _) (fun _ _=>rfl)) (@pe_int _ _ _ _) (nomark _)) (@pss_one _ _ _ (@ps_set _ _ (1) _ _ _ _ sc__law_sum.nd rfl (by first | exact Or.inl rfl | exact Or.inr rfl) (@pe_op _ _ _ _ _ _ _ _ op_catS (@pe_lst _ _ _ _ (@pa_cons _ _ _ _ _ (@pe_ix _ _ _ _ _ _ _ ix_tup (pv 0) (@pe_int _ _ _ _) (fun _ _=>rfl)) (@pa_nil _) (by rfl))) (@pe_comp0 _ ["_law_tag"] _ _ _ _ _ _ _ _ _ _ rfl (@pi_tup _ _ _ _ (@pe_ix _ _ _ _ _ _ _ ix_tup (pv 0) (@pe_int _ _ _ _) (fun _ _=>rfl))) (by decide +kernel) (fun C s H fp=>⟨(@pg_name _ _ (0) _ (show (["_law_tag"]:List Str).Nodup by decide +kernel) rfl (by first | exact Or.inl rfl | exact Or.inr rfl) (by first | exact .inl rfl | exact .inr rfl | assumption)),(@pifs_nil _),(@pe_ix _ _ _ _ _ _ _ (ix_tupK (K:=K) (by rfl)) (pv 0) (@pe_int _ _ _ _) (fun _ _=>rfl))⟩) (by intro _; rfl))) (by rfl) (by first | exact .inl rfl | exact .inr rfl | assumption))) (@pss_one _ _ _ (@ps_for _ _ _ _ _ _ _ _ PassesOwn.never rfl (@pi_tup _ _ _ _ (@pe_ix _ _ _ _ _ _ _ ix_tup (pv 0) (@pe_int _ _ _ _) (fun _ _=>rfl))) (@pg_tup _ _ _ _ _ _ rfl (@pgs_cons _ _ _ _ _ (@pg_name _ _ (2) _ sc__law_sum.nd rfl (by first | exact Or.inl rfl | exact Or.inr rfl) (by first | exact .inl rfl | exact .inr rfl | assumption)) (@pgs_cons _ _ _ _ _ (@pg_name _ _ (3) _ sc__law_sum.nd rfl (by first | exact Or.inl rfl | exact Or.inr rfl) (by first | exact .inl rfl | exact .inr rfl | assumption)) (@pgs_cons _ _ _ _ _ (@pg_name _ _ (4) _ sc__law_sum.nd rfl (by first | exact Or.inl rfl | exact Or.inr rfl) (by first | exact .inl rfl | exact .inr rfl | assumption)) (@pgs_nil _) (by rfl)) (by rfl)) (by rfl)) (by rfl) (by rfl)) (@pss_one _ _ _ (@ps_set _ _ (1) _ _ _ _ sc__law_sum.nd rfl (by first | exact Or.inl rfl | exact Or.inr rfl) (@pe_op _ _ _ _ _ _ _ _ op_catS (@pe_op _ _ _ _ _ _ _ _ op_catS (pv 1) (@pe_comp0 _ ["_law_sign"] _ _ _ _ _ _ _ _ _ _ rfl (@pi_str _ _ _ _ (pv 2)) (by decide +kernel) (fun C s H fp=>⟨(@pg_name _ _ (0) _ (show (["_law_sign"]:List Str).Nodup by decide +kernel) rfl (by first | exact Or.inl rfl | exact Or.inr rfl) (by first | exact .inl rfl | exact .inr rfl | assumption)),(@pifs_nil _),(@pe_bmK _ (K) _ _ _ _ _ _ _ _ _ _ _ rfl PySem.F.plainAttrs_str PySem.F.slot_str_index PySem.F.type_str_index (mt_index rfl) (@pe_fn0 _ _ _ _ _ _ _ D__law_signs (hr.mono (by decide)) rfl (by decide)) (@pa_cons _ _ _ _ _ (pv 0) (@pa_nil _) (by rfl)) (by rfl) (by rfl) (by rfl) (by rfl) (by rfl))⟩) (by intro _; rfl))) (@pe_lst _ _ _ _ (@pa_cons _ _ _ _ _ (pv 3) (@pa_cons _ _ _ _ _ (@pe_ix _ _ _ _ _ _ _ ix_tup (pv 4) (@pe_int _ _ _ _) (fun _ _=>rfl)) (@pa_nil _) (by rfl)) (by rfl)))) (by rfl) (by first | exact .inl rfl | exact .inr rfl | assumption))) (by intro _; rfl)))))) (@pss_cons _ _ _ _ _ (@ps_set _ _ (5) _ _ _ _ sc__law_sum.nd rfl (by first | exact Or.inl rfl | exact Or.inr rfl) (@pe_op _ _ _ _ _ _ _ _ op_add (@pe_int _ _ _ _) (@pe_ix _ _ _ _ _ _ _ ix_tup (pv 0) (@pe_int _ _ _ _) (fun _ _=>rfl))) (by rfl) (by first | exact .inl rfl | exact .inr rfl | assumption)) (@pss_cons _ _ _ _ _ (@ps_for _ _ _ _ _ _ _ _ PassesOwn.never rfl (@pi_list _ _ _ _ (pv 1)) (@pg_name _ _ (6) _ sc__law_sum.nd rfl (by first | exact Or.inl rfl | exact Or.inr rfl) (by first | exact .inl rfl | exact .inr rfl | assumption)) (@pss_one _ _ _ (@ps_set _ _ (5) _ _ _ _ sc__law_sum.nd rfl (by first | exact Or.inl rfl | exact Or.inr rfl) (@pe_op _ _ _ _ _ _ _ _ op_mod (@pe_op _ _ _ _ _ _ _ _ op_add (@pe_op _ _ _ _ _ _ _ _ op_add (@pe_op _ _ _ _ _ _ _ _ op_mul (@pe_int _ _ _ _) (pv 5)) (pv 6)) (@pe_int _ _ _ _)) (@pe_int _ _ _ _)) (by rfl) (by first | exact .inl rfl | exact .inr rfl | assumption))) (by intro _; rfl)) (@pss_one _ _ _ (@ps_ret _ _ _ _ (pv 5))))))),?_⟩
  try dsimp only [cxOf,Cx.nox,Cx.wish]
  refine ⟨small (by show 0≤1000000; decide),fun g hg=>?_⟩
  have s0:=same_new hg (.lst [])
  have hg0:(upd H g (.lst [])) g = some (.lst []):=upd_same
  have hv0:=Rep.same s0 _ _ hv
  generalize (upd H g (.lst [])) = G at s0 hg0 hv0
  dsimp only [gName]
  refine seq_mid (fun σ' H'=>∃ l v2 v3 v4,σ' = [some v,some (.ref l),v2,v3,v4,none,none]∧Same G H'∧H' l = some (.lst ((told b).map V.int))) (fun N hN=>?_) ?_
  · cases b with
    | piece z=>
      obtain ⟨a,rfl,e⟩:=rep_piece hv0
      have h':(decide ((1:Int)≤(z.length:Int)) && decide ((z.length:Int)≤8) && allIn SG z) = true:=ok
      simp only [Bool.and_eq_true,decide_eq_true_eq] at h'
      have zs:∀ c∈cod z,c∈cod SG:=fun c hc=>by simpa using List.all_eq_true.mp h'.2 c hc
      refine ⟨_,rfl,a,_,_,_,rfl,rfl,SqT.of e,rfl,rfl,_,rfl,iteTc rfl ?_⟩
      refine ⟨_,rfl,a,_,_,_,rfl,rfl,SqT.of e,rfl,z,rfl,?_⟩
      refine comp_map (fun v=>match v with | .str y=>.int (PySem.Txt.find SG y) | _=>.non) itIs_str (by rw [List.length_map]; exact Nat.le_trans (Nat.le_of_eq (cod_len z)) (by omega)) (fun x H' R hx s' hR=>?_) fun l H7 n7 s7 h7=>?_
      · obtain ⟨u,hu,rfl⟩:=List.mem_map.mp hx
        exact ⟨rfl,rfl,_,rfl,_,_,rfl,rfl,(idx_sg (zs u hu)).1,hR H' (Same.refl _)⟩
      have h7:=h7.trans (congrArg (fun x=>some (HO.lst x)) (idx_map z))
      exact hN _ _ ⟨l,_,_,_,rfl,s7,h7⟩
    | row lv ts=>
      obtain ⟨a,b,us,rfl,e,e2,r⟩:=rep_row hv0
      have lu:=Reps.len _ _ r
      rw [List.length_map] at lu
      have l8:=ok.2.1
      refine ⟨_,rfl,a,_,_,_,rfl,rfl,SqT.of e,rfl,rfl,_,rfl,iteFc rfl ?_⟩
      refine ⟨_,rfl,a,_,_,_,rfl,rfl,SqT.of e,rfl,rfl,_,rfl,iteTc rfl ?_⟩
      refine ⟨_,rfl,a,_,_,_,rfl,rfl,SqT.of e,rfl,small (by show 1≤1000000; decide),fun p1 hp1=>?_⟩
      have s1:=same_new hp1 (.lst [V.int lv])
      have e2':=s1.get e2
      have r':=Reps.same s1 _ _ r
      refine ⟨_,rfl,a,_,_,_,rfl,rfl,SqT.of (s1.get e),rfl,b,rfl,⟨_,SqT.of e2'⟩,comp_map (fun v=>match v with | .ref x=>(match (upd G p1 (.lst [V.int lv])) x with | some (.tup [_,_,y])=>y | _=>.non) | _=>.non) (itIs_tup e2') (by omega) (fun x H' R hx s' hR=>?_) fun l H7 n7 s7 h7=>?_⟩
      · obtain ⟨t,ht,rt⟩:=reps_at r' hx
        obtain ⟨c,rfl,ec⟩:=rep_tg rt
        have:=hR H' (Same.refl _)
        simp only [ec] at this
        exact ⟨_,rfl,c,_,_,_,rfl,rfl,SqT.of (s'.get ec),rfl,this⟩
      have h7:=h7.trans (congrArg (fun x=>some (HO.lst x)) (third_of r'))
      refine ⟨p1,l,_,_,rfl,rfl,SqL.of (s7.get upd_same),SqL.of h7,small (by rw [List.length_map,List.length_map]; show 1 + ts.length≤1000000; omega),fun p hp=>?_⟩
      exact hN _ _ ⟨p,_,_,_,rfl,(s1.trans s7).trans (same_new hp _),upd_same⟩
    | folder es=>
      obtain ⟨a,b,us,rfl,e,e2,r⟩:=rep_folder hv0
      have lu:=Reps.len _ _ r
      rw [List.length_map] at lu
      obtain ⟨o1,o2,_⟩:=ok
      refine ⟨_,rfl,a,_,_,_,rfl,rfl,SqT.of e,rfl,rfl,_,rfl,iteFc rfl ?_⟩
      refine ⟨_,rfl,a,_,_,_,rfl,rfl,SqT.of e,rfl,rfl,_,rfl,iteFc rfl ?_⟩
      refine ⟨_,rfl,a,_,_,_,rfl,rfl,SqT.of e,rfl,b,rfl,⟨_,SqT.of e2⟩,for_tup (K:=K) (a:=b) (xs:=us) (fun i σ H2=>∃ g2 v2 v3 v4,σ = [some (.ref a),some (.ref g2),v2,v3,v4,none,none]∧Same G H2∧H2 g2 = some (.lst (((es.take i).flatMap enTold).map V.int))) ⟨g,none,none,none,rfl,Same.refl _,hg0⟩ (fun i σ H2 _ ⟨_,_,_,_,_,s2,_⟩=>SqT.of (s2.get e2)) ?_ ?_⟩
      · rintro i y σ H2 hi ⟨g2,v2,v3,v4,rfl,s2,hg2⟩
        obtain ⟨t,ht,ry⟩:=Reps.get r hi
        rw [List.getElem?_map] at ht
        cases z:es[i]? with
        | none=>rw [z] at ht; cases ht
        | some x=>
          rw [z] at ht
          cases ht
          obtain ⟨c,d,rfl,ec,ed⟩:=rep_en ry
          have ox:=o2 x (List.mem_of_getElem? z)
          obtain ⟨n1,n2,_,n4⟩:=name_parts ox.1
          have tl:((es.take i).flatMap enTold).length≤160:=by
            have:=told_len (es:=es.take i) fun y hy=>en_len (o2 y (List.mem_of_mem_take hy))
            rw [List.length_take] at this
            omega
          refine ⟨c,_,rfl,SqT.of (s2.get ec),rfl,_,_,rfl,_,_,rfl,_,_,rfl,rfl,?_⟩
          refine ⟨_,rfl,_,rfl,x.nm,rfl,?_⟩
          refine comp_map (fun v=>match v with | .str y=>.int (PySem.Txt.find SG y) | _=>.non) itIs_str (by rw [List.length_map]; exact Nat.le_trans (Nat.le_of_eq (cod_len x.nm)) (by omega)) (fun u H' R hu s' hR=>?_) fun l H7 n7 s7 h7=>?_
          · obtain ⟨k,hk,rfl⟩:=List.mem_map.mp hu
            exact ⟨rfl,rfl,_,rfl,_,_,rfl,rfl,(idx_sg (n4 k hk)).1,hR H' (Same.refl _)⟩
          have h7:=h7.trans (congrArg (fun x=>some (HO.lst x)) (idx_map x.nm))
          refine ⟨g2,l,_,_,rfl,rfl,SqL.of (s7.get hg2),SqL.of h7,small (by rw [List.length_map,List.length_map,List.length_map,cod_len]; omega),fun p1 hp1=>?_⟩
          have t8:=same_new hp1 (.lst (((es.take i).flatMap enTold).map V.int ++ ((cod x.nm).map idx).map V.int))
          have t78:=(s2.trans s7).trans t8
          refine ⟨_,rfl,_,rfl,d,_,_,_,rfl,rfl,SqT.of (t78.get ed),rfl,small (by show 2≤1000000; decide),fun p2 hp2=>?_⟩
          have t9:=same_new hp2 (.lst [V.int x.kd,V.int x.tg.2.2])
          refine ⟨p1,p2,_,_,rfl,rfl,SqL.of (t9.get upd_same),SqL.of upd_same,small (by rw [List.length_append,List.length_map,List.length_map,List.length_map,cod_len]; show _ + _ + 2≤_; omega),fun p3 hp3=>?_⟩
          refine ⟨p3,_,_,_,rfl,(t78.trans t9).trans (same_new hp3 _),?_⟩
          rw [upd_same,told_take z,List.map_append]
          unfold enTold
          rw [List.map_append,List.append_assoc]
          rfl
      · rintro σ H2 ⟨g2,v2,v3,v4,rfl,s2,hg2⟩
        rw [lu,List.take_of_length_le (Nat.le_refl _)] at hg2
        exact hN _ _ ⟨g2,_,_,_,rfl,s2,hg2⟩
  rintro σ' H1 ⟨l,v2,v3,v4,rfl,s1,h1⟩
  obtain ⟨a,xs,rfl,e⟩:=bk_first hv0
  refine ⟨_,rfl,a,_,_,_,rfl,rfl,SqT.of (s1.get e),at_first,_,_,rfl,rfl,?_⟩
  refine ⟨_,rfl,l,rfl,⟨_,SqL.of h1⟩,for_list (K:=K) (a:=l) (xs:=(told b).map V.int) (fun i σ H2=>∃ v6,σ = [some (.ref a),some (.ref l),v2,v3,v4,some (.int (((told b).take i).foldl (fun t n=>(31 * t + n + 1) % 997) (1 + kindB b))),v6]∧Same H1 H2) ⟨none,rfl,Same.refl _⟩ (fun i σ H2 _ ⟨_,_,s2⟩=>SqL.of (s2.get h1)) ?_ ?_⟩
  · rintro i y σ H2 hi ⟨v6,rfl,s2⟩
    obtain ⟨n,rfl,hn⟩:=ints_get hi
    refine ⟨_,rfl,_,_,rfl,rfl,.inl ⟨by decide,by decide⟩,_,rfl,_,_,rfl,rfl,_,_,rfl,rfl,_,_,rfl,rfl,(show (0:Int) < 997 by decide),?_⟩
    refine ⟨some (.int n),?_,s2⟩
    rw [fold_take hn]
    rfl
  · rintro σ H2 ⟨v6,rfl,s2⟩
    rw [List.length_map,List.take_length]
    exact ⟨_,rfl,q H2 ((s0.trans s1).trans s2)⟩
theorem at_cod {z:Str} {i:Int} (h0:0≤i) (h1:i < (cod z).length):∃ c,atI z.cps.toList i = some c∧c∈cod z:=by
  obtain ⟨k,rfl⟩:=Int.eq_ofNat_of_zero_le h0
  have hk:k < z.cps.toList.length:=by have:((k:Nat):Int) < (cod z).length:=h1; exact_mod_cast this
  refine ⟨z.cps.toList[k],?_,List.getElem_mem hk⟩
  have hk2:k < z.cps.size:=by simpa using hk
  unfold atI ixN
  rw [if_pos h0]
  simp [hk2]
theorem row_at {row:List Int} (lr:row.length = 12) (br:∀ x∈row,0≤x∧x < 1000000) (k:Int) (h0:0≤k) (h1:k < 12):∃ x,atI (row.map V.int) k = some (.int x)∧0≤x∧x < 1000000:=by
  have hk:k.toNat < row.length:=by omega
  refine ⟨_,at_int h0 (by omega),?_⟩
  rw [List.getD_eq_getElem?_getD,List.getElem?_eq_getElem hk]
  exact br _ (List.getElem_mem hk)
def sp__law_pair (K:PySem.W.Frag):Sp:=fun vs H Q _=>∃ (rl:Addr) (row:List Int),vs = [.ref rl]∧H rl = some (.lst (row.map V.int))∧row.length = 12∧(∀ x∈row,0≤x∧x < 1000000)∧∀ a x y H',Same H H'→H' a = some (.tup [.str x,.str y])→bkOk (.piece x)→bkOk (.piece y)→Q (.ref a) H'
theorem ok__law_pair (T:Txt K mg C_Boards C_TakenCell C_Pool XC) (F:Fun K "_law_pair" "_law_pair" s__law_pair f fd) (D__law_signs:Def P w K mg base 1 "_law_signs" [] (sp__law_signs K)):FnOk P w K mg base CX0 2 f fd ["_law_row_here"] (sp__law_pair K):=by
  refine F.ok sc__law_pair (fun vs H Q E h=>?_) (fun cdv A outer s H vs Q E hr h=>?_)
  · obtain ⟨rl,row,rfl,_⟩:=h
    rfl
  obtain ⟨rl,row,rfl,hrl,lr,br,q⟩:=h
  have hu:=hu_of hr
  have hu9:=hu9_of hr
  refine ⟨_,(@pss_cons _ _ _ _ _ (@ps_set _ _ (1) _ _ _ _ sc__law_pair.nd rfl (by first | exact Or.inl rfl | exact Or.inr rfl) (@pe_fn0 _ _ _ _ _ _ _ D__law_signs (hr.mono (by decide)) rfl (by decide)) (by rfl) (by first | exact .inl rfl | exact .inr rfl | assumption)) (@pss_cons _ _ _ _ _ (@ps_set _ _ (2) _ _ _ _ sc__law_pair.nd rfl (by first | exact Or.inl rfl | exact Or.inr rfl) (@pe_str _ _ _ _) (by rfl) (by first | exact .inl rfl | exact .inr rfl | assumption)) (@pss_cons _ _ _ _ _ (@ps_for _ _ _ _ _ _ _ _ PassesOwn.never rfl (@pi_range1 _ _ _ _ _ _ rfl T.b_range (@pa_cons _ _ _ _ _ (@pe_op _ _ _ _ _ _ _ _ op_mod (@pe_ix _ _ _ _ _ _ _ ix_list (pv 0) (@pe_int _ _ _ _) (fun _ _=>rfl)) (@pe_int _ _ _ _)) (@pa_nil _) (by rfl)) (by rfl)) (@pg_name _ _ (3) _ sc__law_pair.nd rfl (by first | exact Or.inl rfl | exact Or.inr rfl) (by first | exact .inl rfl | exact .inr rfl | assumption)) (@pss_one _ _ _ (@ps_set _ _ (2) _ _ _ _ sc__law_pair.nd rfl (by first | exact Or.inl rfl | exact Or.inr rfl) (@pe_op _ _ _ _ _ _ _ _ op_add_str (pv 2) (@pe_ix _ _ _ _ _ _ _ ix_str (pv 1) (@pe_op _ _ _ _ _ _ _ _ op_mod (@pe_ix _ _ _ _ _ _ _ ix_list (pv 0) (@pe_op _ _ _ _ _ _ _ _ op_add (@pe_int _ _ _ _) (pv 3)) (fun _ _=>rfl)) (@pe_int _ _ _ _)) (fun _ _=>rfl))) (by rfl) (by first | exact .inl rfl | exact .inr rfl | assumption))) (by intro _; rfl)) (@pss_cons _ _ _ _ _ (@ps_set _ _ (4) _ _ _ _ sc__law_pair.nd rfl (by first | exact Or.inl rfl | exact Or.inr rfl) (@pe_op _ _ _ _ _ _ _ _ op_mul_str (@pe_ix _ _ _ _ _ _ _ ix_str (pv 1) (@pe_op _ _ _ _ _ _ _ _ op_mod (@pe_ix _ _ _ _ _ _ _ ix_list (pv 0) (@pe_int _ _ _ _) (fun _ _=>rfl)) (@pe_int _ _ _ _)) (fun _ _=>rfl)) (@pe_op _ _ _ _ _ _ _ _ op_mod (@pe_op _ _ _ _ _ _ _ _ op_fdiv (@pe_ix _ _ _ _ _ _ _ ix_list (pv 0) (@pe_int _ _ _ _) (fun _ _=>rfl)) (@pe_int _ _ _ _)) (@pe_int _ _ _ _))) (by rfl) (by first | exact .inl rfl | exact .inr rfl | assumption)) (@pss_cons _ _ _ _ _ (@ps_set _ _ (5) _ _ _ _ sc__law_pair.nd rfl (by first | exact Or.inl rfl | exact Or.inr rfl) (@pe_op _ _ _ _ _ _ _ _ op_add (@pe_int _ _ _ _) (@pe_op _ _ _ _ _ _ _ _ op_mod (@pe_ix _ _ _ _ _ _ _ ix_list (pv 0) (@pe_int _ _ _ _) (fun _ _=>rfl)) (@pe_int _ _ _ _))) (by rfl) (by first | exact .inl rfl | exact .inr rfl | assumption)) (@pss_cons _ _ _ _ _ (@ps_set _ _ (6) _ _ _ _ sc__law_pair.nd rfl (by first | exact Or.inl rfl | exact Or.inr rfl) (@pe_op _ _ _ _ _ _ _ _ op_mod (@pe_ix _ _ _ _ _ _ _ ix_list (pv 0) (@pe_int _ _ _ _) (fun _ _=>rfl)) (@pe_int _ _ _ _)) (by rfl) (by first | exact .inl rfl | exact .inr rfl | assumption)) (@pss_cons _ _ _ _ _ (@ps_set _ _ (7) _ _ _ _ sc__law_pair.nd rfl (by first | exact Or.inl rfl | exact Or.inr rfl) (@pe_ix _ _ _ _ _ _ _ ix_list (@pe_lst _ _ _ _ (@pa_cons _ _ _ _ _ (@pe_tup _ _ _ _ _ (@pa_cons _ _ _ _ _ (@pe_op _ _ _ _ _ _ _ _ op_sub (pv 5) (@pe_int _ _ _ _)) (@pa_cons _ _ _ _ _ (@pe_op _ _ _ _ _ _ _ _ op_add (pv 6) (@pe_int _ _ _ _)) (@pa_nil _) (by rfl)) (by rfl))) (@pa_cons _ _ _ _ _ (@pe_tup _ _ _ _ _ (@pa_cons _ _ _ _ _ (@pe_op _ _ _ _ _ _ _ _ op_mod (@pe_ix _ _ _ _ _ _ _ ix_list (pv 0) (@pe_int _ _ _ _) (fun _ _=>rfl)) (@pe_int _ _ _ _)) (@pa_cons _ _ _ _ _ (@pe_op _ _ _ _ _ _ _ _ op_mod (@pe_ix _ _ _ _ _ _ _ ix_list (pv 0) (@pe_int _ _ _ _) (fun _ _=>rfl)) (@pe_int _ _ _ _)) (@pa_nil _) (by rfl)) (by rfl))) (@pa_nil _) (by rfl)) (by rfl))) (@pe_callTy _ _ _ _ _ _ _ _ _ call_int1 (by rfl) T.b_int bt_int (@pa_cons _ _ _ _ _ (@pe_cmpR _ _ _ _ _ _ _ _ op_eq (@pe_op _ _ _ _ _ _ _ _ op_mod (@pe_ix _ _ _ _ _ _ _ ix_list (pv 0) (@pe_int _ _ _ _) (fun _ _=>rfl)) (@pe_int _ _ _ _)) (@pe_int _ _ _ _) (nomark _)) (@pa_nil _) (by rfl)) (by decide) (by decide) (by rfl) (by rfl)) (fun _ _=>rfl)) (by rfl) (by first | exact .inl rfl | exact .inr rfl | assumption)) (@pss_one _ _ _ (@ps_ret _ _ _ _ (@pe_tup _ _ _ _ _ (@pa_cons _ _ _ _ _ (@pe_op _ _ _ _ _ _ _ _ op_add_str (@pe_op _ _ _ _ _ _ _ _ op_add_str (@pe_op _ _ _ _ _ _ _ _ op_add_str (pv 2) (@pe_ix _ _ _ _ _ _ _ ix_str (pv 1) (pv 5) (fun _ _=>rfl))) (@pe_ix _ _ _ _ _ _ _ ix_str (pv 1) (pv 6) (fun _ _=>rfl))) (pv 4)) (@pa_cons _ _ _ _ _ (@pe_op _ _ _ _ _ _ _ _ op_add_str (@pe_op _ _ _ _ _ _ _ _ op_add_str (@pe_op _ _ _ _ _ _ _ _ op_add_str (pv 2) (@pe_ix _ _ _ _ _ _ _ ix_str (pv 1) (@pe_ix _ _ _ _ _ _ _ ix_tup (pv 7) (@pe_int _ _ _ _) (fun _ _=>rfl)) (fun _ _=>rfl))) (@pe_ix _ _ _ _ _ _ _ ix_str (pv 1) (@pe_ix _ _ _ _ _ _ _ ix_tup (pv 7) (@pe_int _ _ _ _) (fun _ _=>rfl)) (fun _ _=>rfl))) (pv 4)) (@pa_nil _) (by rfl)) (by rfl)))))))))))),?_⟩
  try dsimp only [cxOf,Cx.nox,Cx.wish]
  obtain ⟨x0,a0,l0,_⟩:=row_at lr br 0 (by decide) (by decide)
  obtain ⟨x1,a1,l1,_⟩:=row_at lr br 1 (by decide) (by decide)
  obtain ⟨x6,a6,l6,_⟩:=row_at lr br 6 (by decide) (by decide)
  obtain ⟨x7,a7,l7,_⟩:=row_at lr br 7 (by decide) (by decide)
  obtain ⟨x8,a8,l8,_⟩:=row_at lr br 8 (by decide) (by decide)
  obtain ⟨x9,a9,l9,_⟩:=row_at lr br 9 (by decide) (by decide)
  obtain ⟨x10,a10,l10,_⟩:=row_at lr br 10 (by decide) (by decide)
  have lSG:((cod SG).length:Int) = 94:=by decide +kernel
  have sg:∀ i:Int,0≤i→i < 94→∃ c,atI SG.cps.toList i = some c∧c∈cod SG:=fun i h0 h1=>at_cod h0 (by omega)
  refine ⟨rfl,_,rfl,rl,_,_,_,rfl,rfl,SqL.of hrl,a0,_,_,rfl,rfl,(by show (0:Int) < 4; decide),_,rfl,by omega,by omega,?_⟩
  refine for_range (lo:=0) (fun i σ H'=>∃ (z:Str) (v3:Option V),σ = [some (.ref rl),some (.str SG),some (.str z),v3,none,none,none,none]∧H' = H∧z.length = i∧∀ c∈cod z,c∈cod SG) ⟨_,none,rfl,rfl,rfl,(fun c hc=>by cases hc)⟩ ?_ ?_
  · rintro i σ H' hi ⟨z,v3,rfl,rfl,lz,hz⟩
    obtain ⟨xi,ai,li,_⟩:=row_at lr br (2 + (0 + (i:Int))) (by omega) (by omega)
    obtain ⟨c,hc,mc⟩:=sg (xi % 94) (by omega) (by omega)
    refine ⟨_,rfl,_,rfl,_,rfl,_,rfl,_,_,rfl,rfl,rl,_,_,_,rfl,rfl,SqL.of hrl,ai,_,_,rfl,rfl,(by show (0:Int) < 94; decide),_,_,c,rfl,rfl,small (by show SG.length≤1000000; decide +kernel),hc,_,_,rfl,rfl,small (by show z.length + 1≤1000000; omega),?_⟩
    have lz':(z ++ (⟨#[c]⟩:Str)).length = z.length + 1:=by rw [← cod_len,cod_app,List.length_append,cod_len,cod_len]; rfl
    refine ⟨z ++ ⟨#[c]⟩,_,rfl,rfl,by omega,fun u hu=>?_⟩
    rw [cod_app] at hu
    rcases List.mem_append.mp hu with hu | hu
    · exact hz u hu
    · have:u = c:=by simpa [cod] using hu
      rw [this]; exact mc
  · rintro σ H' ⟨z,v3,rfl,rfl,lz,hz⟩
    have lz3:z.length≤3:=by omega
    obtain ⟨c6,hc6,m6⟩:=sg (x6 % 94) (by omega) (by omega)
    obtain ⟨c7,hc7,m7⟩:=sg (1 + x7 % 93) (by omega) (by omega)
    obtain ⟨c8,hc8,m8⟩:=sg (x8 % 63) (by omega) (by omega)
    refine ⟨_,rfl,_,rfl,rl,_,_,_,rfl,rfl,SqL.of hrl,a6,_,_,rfl,rfl,(by show (0:Int) < 94; decide),_,_,c6,rfl,rfl,small (by show SG.length≤1000000; decide +kernel),hc6,_,rfl,rl,_,_,_,rfl,rfl,SqL.of hrl,a0,_,_,rfl,rfl,⟨by decide,by decide⟩,_,_,rfl,rfl,(by show (0:Int) < 3; decide),_,_,rfl,rfl,by omega,by omega,(by show 1≤1000; decide),?_⟩
    obtain ⟨w,ew,lw,hw⟩:∃ w:Str,PySem.Txt.mul ⟨#[c6]⟩ (x0 / 4 % 3) = w∧w.length≤2∧∀ c∈cod w,c∈cod SG:=by
      refine ⟨_,rfl,?_,?_⟩
      · have h3:x0 / 4 % 3 = 0∨x0 / 4 % 3 = 1∨x0 / 4 % 3 = 2:=by omega
        rcases h3 with h | h | h <;> rw [h]
        · exact (by decide:(0:Nat)≤2)
        · exact (by decide:(1:Nat)≤2)
        · exact (by decide:(2:Nat)≤2)
      · have h3:x0 / 4 % 3 = 0∨x0 / 4 % 3 = 1∨x0 / 4 % 3 = 2:=by omega
        intro c hc
        have:c = c6:=by
          rcases h3 with h | h | h
          · rw [h] at hc
            exact absurd hc (by show c ∉ ([]:List Nat); simp)
          · rw [h] at hc
            have hc:c∈[c6]:=hc
            simpa using hc
          · rw [h] at hc
            have hc:c∈[c6,c6]:=hc
            simpa using hc
        rw [this]; exact m6
    dsimp only [gName]
    rw [ew]
    refine ⟨_,rfl,rl,_,_,_,rfl,rfl,SqL.of hrl,a7,_,_,rfl,rfl,(by show (0:Int) < 93; decide),_,_,rfl,rfl,?_⟩
    refine ⟨_,rfl,rl,_,_,_,rfl,rfl,SqL.of hrl,a8,_,_,rfl,rfl,(by show (0:Int) < 63; decide),?_⟩
    refine ⟨_,rfl,_,_,rfl,rfl,_,rfl,_,_,rfl,rfl,small (by show 2≤1000000; decide),fun t1 ht1=>?_⟩
    have s1:=same_new ht1 (.tup [.int (1 + x7 % 93 - 1),.int (x8 % 63 + 31)])
    have e1:(upd H' t1 (.tup [.int (1 + x7 % 93 - 1),.int (x8 % 63 + 31)])) t1 = some (.tup [.int (1 + x7 % 93 - 1),.int (x8 % 63 + 31)]):=upd_same
    generalize upd H' t1 (.tup [.int (1 + x7 % 93 - 1),.int (x8 % 63 + 31)]) = H1 at s1 e1
    have hr1:=s1.get hrl
    refine ⟨_,rfl,rl,_,_,_,rfl,rfl,SqL.of hr1,a9,_,_,rfl,rfl,(by show (0:Int) < 94; decide),_,rfl,rl,_,_,_,rfl,rfl,SqL.of hr1,a10,_,_,rfl,rfl,(by show (0:Int) < 94; decide),small (by show 2≤1000000; decide),fun t2 ht2=>?_⟩
    have s2:=same_new ht2 (.tup [.int (x9 % 94),.int (x10 % 94)])
    have e2:(upd H1 t2 (.tup [.int (x9 % 94),.int (x10 % 94)])) t2 = some (.tup [.int (x9 % 94),.int (x10 % 94)]):=upd_same
    generalize upd H1 t2 (.tup [.int (x9 % 94),.int (x10 % 94)]) = H2 at s2 e2
    have e1':=s2.get e1
    have hr2:=s2.get hr1
    refine ⟨small (by show 2≤1000000; decide),fun l3 hl3=>?_⟩
    have s3:=same_new hl3 (.lst [.ref t1,.ref t2])
    have e3:(upd H2 l3 (.lst [.ref t1,.ref t2])) l3 = some (.lst [.ref t1,.ref t2]):=upd_same
    generalize upd H2 l3 (.lst [.ref t1,.ref t2]) = H3 at s3 e3
    have s03:=(s1.trans s2).trans s3
    obtain ⟨to,u,v,hto,hat,hu0,hu1,hv0,hv1⟩:∃ (to:Addr) (u v:Int),H3 to = some (.tup [.int u,.int v])∧atI [V.ref t1,V.ref t2] (if decide (V.int (x1 % 4) = V.int 3) = true then 1 else 0) = some (.ref to)∧0≤u∧u < 94∧0≤v∧v < 94:=by
      by_cases hc:decide (V.int (x1 % 4) = V.int 3) = true
      · rw [if_pos hc]
        exact ⟨t2,_,_,s3.get e2,rfl,by omega,by omega,by omega,by omega⟩
      · rw [if_neg hc]
        exact ⟨t1,_,_,s3.get e1',rfl,by omega,by omega,by omega,by omega⟩
    refine ⟨_,rfl,rl,_,_,_,rfl,rfl,SqL.of (s3.get hr2),a1,_,_,rfl,rfl,(by show (0:Int) < 4; decide),rfl,.inr ⟨_,rfl,l3,_,_,_,rfl,rfl,SqL.of e3,hat,?_⟩⟩
    obtain ⟨cu,hcu,mu⟩:=sg u hu0 hu1
    obtain ⟨cv,hcv,mv⟩:=sg v hv0 hv1
    have l1:∀ (z:Str) (c:Nat),(z ++ (⟨#[c]⟩:Str)).length = z.length + 1:=fun z c=>by rw [← cod_len,cod_app,List.length_append,cod_len,cod_len]; rfl
    have lapp:∀ (z y:Str),(z ++ y).length = z.length + y.length:=fun z y=>by rw [← cod_len,cod_app,List.length_append,cod_len,cod_len]
    have lsg:SG.length≤sizeLine:=small (by show SG.length≤1000000; decide +kernel)
    refine ⟨_,rfl,_,rfl,_,rfl,_,_,c7,rfl,rfl,lsg,hc7,_,_,rfl,rfl,small (by show z.length + 1≤1000000; omega),_,rfl,_,rfl,_,_,c8,rfl,rfl,lsg,hc8,_,_,rfl,rfl,small (by show (z ++ (⟨#[c7]⟩:Str)).length + 1≤1000000; rw [l1]; omega),_,rfl,_,_,rfl,rfl,small (by rw [l1,l1]; omega),?_⟩
    refine ⟨_,rfl,_,rfl,_,rfl,to,_,_,_,rfl,rfl,SqT.of hto,rfl,_,_,cu,rfl,rfl,lsg,hcu,_,_,rfl,rfl,small (by show z.length + 1≤1000000; omega),_,rfl,_,rfl,to,_,_,_,rfl,rfl,SqT.of hto,rfl,_,_,cv,rfl,rfl,lsg,hcv,_,_,rfl,rfl,small (by show (z ++ (⟨#[cu]⟩:Str)).length + 1≤1000000; rw [l1]; omega),_,rfl,_,_,rfl,rfl,small (by rw [l1,l1]; omega),small (by show 2≤1000000; decide),fun t4 ht4=>?_⟩
    have ok:∀ {c d:Nat},c∈cod SG→d∈cod SG→bkOk (.piece (z ++ ⟨#[c]⟩ ++ ⟨#[d]⟩ ++ w)):=fun {c d} hc hd=>by
      have ll:(z ++ (⟨#[c]⟩:Str) ++ (⟨#[d]⟩:Str) ++ w).length = z.length + 2 + w.length:=by rw [lapp,l1,l1]
      show (decide ((1:Int)≤((z ++ (⟨#[c]⟩:Str) ++ (⟨#[d]⟩:Str) ++ w).length:Int)) && decide (((z ++ (⟨#[c]⟩:Str) ++ (⟨#[d]⟩:Str) ++ w).length:Int)≤8) && allIn SG (z ++ ⟨#[c]⟩ ++ ⟨#[d]⟩ ++ w)) = true
      unfold allIn
      rw [Bool.and_eq_true,Bool.and_eq_true,decide_eq_true_eq,decide_eq_true_eq,List.all_eq_true,ll]
      refine ⟨⟨by omega,by omega⟩,fun u hu=>decide_eq_true ?_⟩
      rw [cod_app,cod_app,cod_app] at hu
      rcases List.mem_append.mp hu with hu | hu
      · rcases List.mem_append.mp hu with hu | hu
        · rcases List.mem_append.mp hu with hu | hu
          · exact hz u hu
          · have:u = c:=by simpa [cod] using hu
            rw [this]; exact hc
        · have:u = d:=by simpa [cod] using hu
          rw [this]; exact hd
      · exact hw u hu
    exact q t4 _ _ _ (s03.trans (same_new ht4 _)) upd_same (ok m7 m8) (ok mu mv)
def tgC (e:Cl):Tg:=(e.z,e.y,sumB e.bk)
theorem kit_tuple_str (K:PySem.W.Frag):PySem.W.kitOne K (.type "tuple") (.type "str") = some false:=kit_of (by decide +kernel) K
theorem eqv_true {x:Int}:(!decide (V.int x = V.int x)) = false:=by rw [decide_eq_true rfl]; rfl
theorem seq_mid2 {t a u:TS} {D:Ends} {σ:St} {H:Hp} (M:St→Hp→Prop) (h1:∀ N:St→Hp→Prop,(∀ σ' H',M σ' H'→N σ' H')→tSeq t a { D with nx:=N } σ H) (h2:∀ σ' H',M σ' H'→u D σ' H'):tSeq t (tSeq a u) D σ H:=h1 (u D) h2
theorem made {C:Addr} {H1 H2:Hp} {x dx:Addr} (nx:H1 x = none) (ndx:H1 dx = none) (k:∀ b o,(upd (upd H1 dx (.own x)) x (.ins C dx [])) b = some o→b≠x→H2 b = some o):Same H1 H2:=fun b o e=>by
  have n1:b≠x:=ne_of_none e nx
  have n2:b≠dx:=ne_of_none e ndx
  exact k b o (by rw [upd_ne n1,upd_ne n2]; exact e) n1
section
variable {CP CT:Addr} {H H':Hp} {x cl d:Addr} {q:Pl} {cs:List Cl} {bs:List (Int×Addr)} {kvs:List (MK×V)} {es:Array DictEntry} {ep:Nat} {ms:List Int}
theorem PAt.ext (h:PAt CP CT H x q cs bs) (k:∀ a o,H a = some o→(∀ φ,o≠.ext φ)→H' a = some o):PAt CP CT H' x q cs bs:=by
  refine ⟨⟨k _ _ h.t.1 (by intro φ z; cases z),k _ _ h.t.2.1 (by intro φ z; cases z),fun e he=>?_,h.t.2.2.2⟩,k _ _ h.d (by intro φ z; cases z),{ h.b with h:=k _ _ h.b.h (by intro φ z; cases z),d:=fun y hy=>⟨k _ _ (h.b.d y hy).1 (by intro φ z; cases z),(h.b.d y hy).2⟩ },h.n1,h.n2,h.n3,h.c,h.z,h.w,h.f1,h.f2⟩
  obtain ⟨a1,a2,a3,a4⟩:=h.t.2.2.1 e he
  exact ⟨k _ _ a1 (by intro φ z; cases z),k _ _ a2 (by intro φ z; cases z),rep_tup (fun c ys h=>k _ _ h (by intro φ z; cases z)) _ _ a3,a4⟩
def KeyOf (cs:List Cl) (e:Cl) (kv:MK×V):Prop:=kv.2 = .ref e.ta∧((∃ x,e.bk = .piece x∧kv.1 = .inl x)∨∃ x c,c∈cs∧c.bk = .piece x∧e.bk = .row 1 [tgC c,tgC c]∧kv.1 = .inr [.inr x,.inr x])
structure Iz (P:Program) (w:World) (CP CT:Addr) (H:Hp) (x:Addr) (q:Pl) (cs:List Cl) (bs:List (Int×Addr)) (d:Addr) (kvs:List (MK×V)) (es:Array DictEntry) (ep:Nat) (cl:Addr) (ms:List Int):Prop where
  pa:PAt CP CT H x q cs bs
  mx:Mx P w H d kvs es ep
  ln:kvs.length = cs.length
  ko:∀ (i:Nat) e kv,cs[i]? = some e→kvs[i]? = some kv→KeyOf cs e kv
  ok:∀ e∈cs,tgOk (tgC e)
  nb:(cs.map (·.bk)).Nodup
  m:H cl = some (.lst (ms.map V.int))
theorem Iz.same (s:Same H H') (h:Iz P w CP CT H x q cs bs d kvs es ep cl ms):Iz P w CP CT H' x q cs bs d kvs es ep cl ms:=
  { h with pa:=h.pa.same s,mx:=h.mx.same s,m:=s.get h.m }
theorem Iz.pair (I:Iz P w CP CT H x q cs bs d kvs es ep cl ms) {e:Cl} (he:e∈cs):∃ (i:Nat) (kv:MK×V),kvs[i]? = some kv∧KeyOf cs e kv∧cs[i]? = some e:=by
  obtain ⟨i,hi,rfl⟩:=List.getElem_of_mem he
  have hk:i < kvs.length:=by rw [I.ln]; exact hi
  exact ⟨i,kvs[i],List.getElem?_eq_getElem hk,I.ko i _ _ (List.getElem?_eq_getElem hi) (List.getElem?_eq_getElem hk),List.getElem?_eq_getElem hi⟩
theorem Iz.back (I:Iz P w CP CT H x q cs bs d kvs es ep cl ms) {k:MK} {v:V} (h:mkVal kvs k = some v):∃ e∈cs,KeyOf cs e (k,v):=by
  unfold mkVal at h
  obtain ⟨p,hp,rfl⟩:=Option.map_eq_some_iff.mp h
  have e0:=List.find?_some hp
  have e1:p.1 = k:=of_decide_eq_true e0
  obtain ⟨i,hi,rfl⟩:=List.getElem_of_mem (List.mem_of_find?_eq_some hp)
  have hc:i < cs.length:=by rw [← I.ln]; exact hi
  have:=I.ko i _ _ (List.getElem?_eq_getElem hc) (List.getElem?_eq_getElem hi)
  exact ⟨cs[i],List.getElem_mem hc,by rw [← e1]; exact this⟩
theorem Iz.zi (I:Iz P w CP CT H x q cs bs d kvs es ep cl ms) {a b:Cl} (ha:a∈cs) (hb:b∈cs) (e:tgC a = tgC b):a = b:=nodup_inj I.pa.t.2.2.2 ha hb (congrArg Prod.fst e)
theorem Iz.valP (I:Iz P w CP CT H x q cs bs d kvs es ep cl ms) {e:Cl} {z:Str} (he:e∈cs) (hb:e.bk = .piece z):mkVal kvs (.inl z) = some (.ref e.ta):=by
  obtain ⟨i,kv,hk,⟨h1,h2⟩,_⟩:=I.pair he
  have hv:=mkVal_at I.mx.n hk
  rcases h2 with ⟨y,e1,e2⟩ | ⟨y,c,_,_,e1,_⟩
  · rw [hb] at e1
    cases e1
    rw [e2,h1] at hv
    exact hv
  · rw [hb] at e1; cases e1
theorem Iz.valR (I:Iz P w CP CT H x q cs bs d kvs es ep cl ms) {e c:Cl} {z:Str} (he:e∈cs) (hc:c∈cs) (hbc:c.bk = .piece z) (hb:e.bk = .row 1 [tgC c,tgC c]):mkVal kvs (.inr [.inr z,.inr z]) = some (.ref e.ta):=by
  obtain ⟨i,kv,hk,⟨h1,h2⟩,_⟩:=I.pair he
  have hv:=mkVal_at I.mx.n hk
  rcases h2 with ⟨y,e1,e2⟩ | ⟨y,c',hc',hb',e1,e2⟩
  · rw [hb] at e1; cases e1
  · rw [hb] at e1
    injection e1 with _ e1
    injection e1 with e1 _
    obtain rfl:=I.zi hc hc' e1
    rw [hbc] at hb'
    cases hb'
    rw [e2,h1] at hv
    exact hv
theorem Iz.noP (I:Iz P w CP CT H x q cs bs d kvs es ep cl ms) {z:Str} (h:∀ e∈cs,e.bk≠.piece z):mkVal kvs (.inl z) = none:=by
  cases hv:mkVal kvs (.inl z) with
  | none=>rfl
  | some v=>
    obtain ⟨e,he,_,h2⟩:=I.back hv
    rcases h2 with ⟨y,e1,e2⟩ | ⟨y,c,_,_,_,e2⟩
    · cases e2
      exact absurd e1 (h e he)
    · cases e2
theorem Iz.noR (I:Iz P w CP CT H x q cs bs d kvs es ep cl ms) {z:Str} {c:Cl} (hc:c∈cs) (hbc:c.bk = .piece z) (h:∀ e∈cs,e.bk≠.row 1 [tgC c,tgC c]):mkVal kvs (.inr [.inr z,.inr z]) = none:=by
  cases hv:mkVal kvs (.inr [.inr z,.inr z]) with
  | none=>rfl
  | some v=>
    obtain ⟨e,he,_,h2⟩:=I.back hv
    rcases h2 with ⟨y,_,e2⟩ | ⟨y,c',hc',hb',e1,e2⟩
    · cases e2
    · have ey:z = y:=by
        have:=Sum.inr.inj e2
        injection this with this _
        exact Sum.inr.inj this
      subst ey
      obtain rfl:=nodup_inj I.nb hc hc' (hbc.trans hb'.symm)
      exact absurd e1 (h e he)
theorem Iz.add {P:Program} {w:World} {H2:Hp} {es':Array DictEntry} {ep':Nat} {bs':List (Int×Addr)} {q':Pl} {N:Cl} {zs:List Int} {k:MK} (I:Iz P w CP CT H x q cs bs d kvs es ep cl ms) (pa':PAt CP CT H' x q' ((cs ++ [N]).map (bump zs)) bs') (f:Frm (ownP x q cs bs) H H') (hne:∀ e∈cs,e.bk≠N.bk) (hN:tgOk (tgC N))
    (hk:(∃ z,N.bk = .piece z∧k = .inl z)∨∃ z c,c∈cs∧c.bk = .piece z∧N.bk = .row 1 [tgC c,tgC c]∧k = .inr [.inr z,.inr z]) (ho:∀ b o,H' b = some o→b≠d→H2 b = some o) (M:Mx P w H2 d (kvs ++ [(k,.ref N.ta)]) es' ep'):Iz P w CP CT H2 x q' ((cs ++ [N]).map (bump zs)) bs' d (kvs ++ [(k,.ref N.ta)]) es' ep' cl ms:=by
  have kd:H' d = some (DM d es ep):=f _ _ I.mx.o (I.pa.apart I.mx.o (by intro C d fs z; cases z) (by intro kvs z; cases z))
  have ne:∀ {b o},H' b = some o→(∀ φ,o≠.ext φ)→b≠d:=fun {b o} e n z=>by
    rw [z,kd] at e
    exact n _ (Option.some.inj e).symm
  have up:∀ {e:Cl} {kv:MK×V},KeyOf cs e kv→KeyOf ((cs ++ [N]).map (bump zs)) (bump zs e) kv:=fun {e kv} ⟨h1,h2⟩=>⟨h1,h2.imp id fun ⟨z,c,hc,h3,h4,h5⟩=>⟨z,bump zs c,List.mem_map.mpr ⟨c,List.mem_append.mpr (.inl hc),rfl⟩,h3,h4,h5⟩⟩
  refine ⟨pa'.ext fun a o e n=>ho a o e (ne e n),M,by simp [I.ln],fun i e kv he hkv=>?_,fun e he=>?_,?_,?_⟩
  · rw [List.getElem?_map] at he
    cases hi:(cs ++ [N])[i]? with
    | none=>rw [hi] at he; cases he
    | some e0=>
      rw [hi] at he
      cases he
      by_cases lt:i < cs.length
      · rw [List.getElem?_append_left lt] at hi
        rw [List.getElem?_append_left (by rw [I.ln]; exact lt)] at hkv
        exact up (I.ko i _ _ hi hkv)
      · have hi9:=(List.getElem?_eq_some_iff.mp hi).1
        have ei:i = cs.length:=by rw [List.length_append] at hi9; have:i < cs.length + 1:=hi9; omega
        subst ei
        rw [List.getElem?_append_right (Nat.le_refl _),Nat.sub_self] at hi
        rw [← I.ln,List.getElem?_append_right (Nat.le_refl _),Nat.sub_self] at hkv
        cases hi
        cases hkv
        exact up ⟨rfl,hk⟩
  · obtain ⟨e0,h0,rfl⟩:=List.mem_map.mp he
    rcases List.mem_append.mp h0 with h | h
    · exact I.ok e0 h
    · rw [List.mem_singleton.mp h]; exact hN
  · rw [List.map_map]
    show ((cs ++ [N]).map fun e=>e.bk).Nodup
    rw [List.map_append,List.nodup_append]
    refine ⟨I.nb,by simp,fun u hu' v hv=>?_⟩
    obtain ⟨e0,h0,rfl⟩:=List.mem_map.mp hu'
    have:v = N.bk:=List.mem_singleton.mp hv
    rw [this]
    exact hne e0 h0
  · have m':=f _ _ I.m (I.pa.apart I.m (by intro C d fs z; cases z) (by intro kvs z; cases z))
    exact ho _ _ m' (ne m' (by intro φ z; cases z))
theorem comp_keysM {fr:List (Option Nat)} {te:TE} {Q:VK} {σ:St} (M:Mx P w H d kvs es ep) (hn:kvs.length≤1000) (g:MK×V→V)
    (helt:∀ p∈kvs,∀ (y:V) (H':Hp) (R:VK),Same H H'→mkX H' p.1 y→R (g p) H'→te (some y :: stC fr σ) H' R)
    (hQ:∀ l H',H l = none→Same H H'→H' l = some (.lst (kvs.map g))→Q (.ref l) H'):tCompK (none :: fr) (gName 0) tYes te σ Q (ItM P w d kvs es ep) H:=by
  intro l hl
  refine ⟨fun i m σ' H'=>m = kvs.length - i∧i≤kvs.length∧(∃ y0,σ' = y0 :: stC fr σ)∧Same H H'∧H' l = some (.lst ((kvs.take i).map g)),⟨kvs.length,by simp,Nat.zero_le _,⟨_,rfl⟩,same_new hl _,by rw [upd_same]; rfl⟩,?_⟩
  rintro i m σ' H' ⟨rfl,hi,⟨y0,rfl⟩,hs,hl'⟩
  by_cases hlt:i < kvs.length
  · refine .inr ⟨⟨M.same hs,hlt⟩,?_⟩
    rintro y H'' ⟨rfl,k,v,e,hy⟩
    have hm:=List.mem_of_getElem? e
    refine helt (k,v) hm y _ _ hs hy ?_
    refine ⟨_,hl',smallLt ?_,kvs.length - (i + 1),by omega,rfl,hlt,⟨_,rfl⟩,same_upd hs hl _,?_⟩
    · rw [List.length_map,List.length_take]
      omega
    · rw [upd_same,List.take_add_one,e,List.map_append]; rfl
  · have e:i = kvs.length:=by omega
    subst e
    exact .inl ⟨⟨M.same hs,Nat.le_refl _⟩,hQ l H' hl hs (by rw [hl',List.take_of_length_le (Nat.le_refl _)])⟩
theorem comp_cells {sl:Addr} {te:TE} {Q:VK} {σ:St} (hsl:H sl = some (.lst (cs.map fun e=>V.ref e.ta))) (hn:cs.length≤1000) (g:Cl→V)
    (helt:∀ e∈cs,∀ (H':Hp) (R:VK),Same H H'→R (g e) H'→te (some (.ref e.ta) :: stC [] σ) H' R)
    (hQ:∀ l H',H l = none→Same H H'→H' l = some (.lst (cs.map g))→Q (.ref l) H'):tCompK [none] (gName 0) tYes te σ Q (Itl K sl) H:=by
  have lu:(cs.map fun e=>V.ref e.ta).length = cs.length:=List.length_map ..
  intro l hl
  refine ⟨fun i m σ' H'=>m = cs.length - i∧i≤cs.length∧(∃ y0,σ' = y0 :: stC [] σ)∧Same H H'∧H' l = some (.lst ((cs.take i).map g)),⟨cs.length,by simp,Nat.zero_le _,⟨_,rfl⟩,same_new hl _,by rw [upd_same]; rfl⟩,?_⟩
  rintro i m σ' H' ⟨rfl,hi,⟨y0,rfl⟩,hs,hl'⟩
  obtain ⟨h1,h2,h3⟩:=itIs_list (K:=K) (SqL.of hsl) H' hs i
  by_cases hlt:i < cs.length
  · refine .inr ⟨h1 (by omega),fun y H'' yy=>?_⟩
    obtain ⟨rfl,hx⟩:=h2 y H'' yy
    have hx:=hx (by omega)
    rw [List.getElem?_map,List.getElem?_eq_getElem hlt] at hx
    cases hx
    refine helt cs[i] (List.getElem_mem hlt) _ _ hs ?_
    refine ⟨_,hl',smallLt ?_,cs.length - (i + 1),by omega,rfl,hlt,⟨_,rfl⟩,same_upd hs hl _,?_⟩
    · rw [List.length_map,List.length_take]
      omega
    · rw [upd_same,List.take_add_one,List.getElem?_eq_getElem hlt,List.map_append]; rfl
  · have e:i = cs.length:=by omega
    subst e
    exact .inl ⟨h3 (by omega),hQ l H' hl hs (by rw [hl',List.take_of_length_le (Nat.le_refl _)])⟩
theorem for_keysM {g:TG} {tb:TS} {D:Ends} {σ:St} (Pv:Nat→St→Hp→Prop) (h0:Pv 0 σ H) (hl:∀ i σ H,i≤kvs.length→Pv i σ H→Mx P w H d kvs es ep)
    (hs:∀ (i:Nat) (p:MK×V) (y:V) (σ:St) (H:Hp),kvs[i]? = some p→Pv i σ H→mkX H p.1 y→g y σ H fun σ2 H2=>tb { D with nx:=Pv (i + 1),ct:=Pv (i + 1),bk:=D.nx } σ2 H2) (hd:∀ σ H,Pv kvs.length σ H→D.nx σ H) :
    ∃ W:Nat→Nat→St→Hp→Prop,(∃ m,W 0 m σ H)∧∀ i m σ H,W i m σ H→
      ((ItM P w d kvs es ep).stop i H∧D.nx σ H)∨((ItM P w d kvs es ep).go i H∧∃ N:St→Hp→Prop,(∀ σ' H',N σ' H'→∃ m',m' < m∧W (i + 1) m' σ' H')∧∀ y H',(ItM P w d kvs es ep).yld i H y H'→g y σ H' fun σ2 H2=>tb { D with nx:=N,ct:=N,bk:=D.nx } σ2 H2):=by
  refine ⟨fun i m σ H=>m = kvs.length - i∧i≤kvs.length∧Pv i σ H,⟨_,rfl,Nat.zero_le _,h0⟩,?_⟩
  rintro i m σ H ⟨rfl,hi,hp⟩
  by_cases hlt:i < kvs.length
  · refine .inr ⟨⟨hl i σ H hi hp,hlt⟩,Pv (i + 1),fun σ' H' hn=>⟨kvs.length - (i + 1),by omega,rfl,hlt,hn⟩,?_⟩
    rintro y H' ⟨rfl,k,v,e,hy⟩
    exact hs i (k,v) y σ _ e hp hy
  · obtain rfl:i = kvs.length:=by omega
    exact .inl ⟨⟨hl _ σ H hi hp,Nat.le_refl _⟩,hd σ H hp⟩
end
end
open M06
section
variable {P:Program} {w:World} {K:PySem.W.Frag} {mg:Str→Option Value} {base:Heap} {f C_Boards C_TakenCell C_Pool:Addr} {XC:Nat→Addr} {fd:FuncData}
def sp_law (K:PySem.W.Frag):Sp:=fun vs H Q _=>∃ (a:Addr) (ns:List Int),vs = [.ref a]∧SqL K H a (ns.map V.int)∧ns.length≤63∧∀ H',Q (.bl true) H'
theorem ok_law (T:Txt K mg C_Boards C_TakenCell C_Pool XC) (F:Fun K "law" "law" s_law f fd) (D_Pool_init:CDef P w K mg base 1 C_Pool "Pool" ["self","boards"] (sp_Pool_init K C_Pool)) (D_Boards_init:CDef P w K mg base 3 C_Boards "Boards" ["self","many"] (sp_Boards_init K C_Boards)) (D__law_row:Def P w K mg base 1 "_law_row" ["_law_cell","_law_many"] (sp__law_row K)) (D__law_pair:Def P w K mg base 2 "_law_pair" ["_law_row_here"] (sp__law_pair K)) (D_Pool_put:MDef P w K mg base 14 C_Pool "put" ["self","block","birth"] (sp_Pool_put K C_Pool C_TakenCell)) (D_Pool_block:MDef P w K mg base 1 C_Pool "block" ["self","tag"] (sp_Pool_block K C_Pool C_TakenCell)) (D__law_sum:Def P w K mg base 2 "_law_sum" ["_law_block"] (sp__law_sum K)):FnOk P w K mg base CX0 15 f fd ["_law_script"] (sp_law K):=by
  refine F.ok sc_law (fun vs H Q E h=>?_) (fun cdv A outer s H vs Q E hr h=>?_)
  · obtain ⟨a,ns,rfl,_⟩:=h
    rfl
  obtain ⟨a,ns,rfl,hS,hlen,hq⟩:=h
  have hu:=hu_of hr
  have hu9:=hu9_of hr
  refine ⟨_,(@pss_cons _ _ _ _ _ (@ps_set _ _ (1) _ _ _ _ sc_law.nd rfl (by first | exact Or.inl rfl | exact Or.inr rfl) (@pe_cls _ _ _ _ _ _ _ _ _ _ _ D_Pool_init (hr.mono (by decide)) rfl (@pa_cons _ _ _ _ _ (@pe_cls _ _ _ _ _ _ _ _ _ _ _ D_Boards_init (hr.mono (by decide)) rfl (@pa_cons _ _ _ _ _ (@pe_int _ _ _ _) (@pa_nil _) (by rfl)) (by decide) (by rfl) (by rfl)) (@pa_nil _) (by rfl)) (by decide) (by rfl) (by rfl)) (by rfl) (by first | exact .inl rfl | exact .inr rfl | assumption)) (@pss_cons _ _ _ _ _ (@ps_set _ _ (2) _ _ _ _ sc_law.nd rfl (by first | exact Or.inl rfl | exact Or.inr rfl) (@pe_dnewM _ (P) (w) _ (by rfl) (by rfl)) (by rfl) (by first | exact .inl rfl | exact .inr rfl | assumption)) (@pss_cons _ _ _ _ _ (@ps_for _ _ _ _ _ _ _ _ PassesOwn.never rfl (@pi_list _ _ _ _ (@pe_slice _ _ _ _ _ _ _ _ _ _ sl_list (pv 0) (@po_none _) (@po_some _ _ _ (@pe_int _ _ _ _)))) (@pg_name _ _ (3) _ sc_law.nd rfl (by first | exact Or.inl rfl | exact Or.inr rfl) (by first | exact .inl rfl | exact .inr rfl | assumption)) (@pss_cons _ _ _ _ _ (@ps_set _ _ (4) _ _ _ _ sc_law.nd rfl (by first | exact Or.inl rfl | exact Or.inr rfl) (@pe_fn _ _ _ _ _ _ _ _ _ _ D__law_row (hr.mono (by decide)) rfl (@pa_cons _ _ _ _ _ (pv 3) (@pa_cons _ _ _ _ _ (@pe_int _ _ _ _) (@pa_nil _) (by rfl)) (by rfl)) (by decide) (by rfl) (by rfl)) (by rfl) (by first | exact .inl rfl | exact .inr rfl | assumption)) (@pss_one _ _ _ (@ps_for _ _ _ _ _ _ _ _ PassesOwn.never rfl (@pi_tup _ _ _ _ (@pe_fn _ _ _ _ _ _ _ _ _ _ D__law_pair (hr.mono (by decide)) rfl (@pa_cons _ _ _ _ _ (pv 4) (@pa_nil _) (by rfl)) (by decide) (by rfl) (by rfl))) (@pg_name _ _ (5) _ sc_law.nd rfl (by first | exact Or.inl rfl | exact Or.inr rfl) (by first | exact .inl rfl | exact .inr rfl | assumption)) (@pss_cons _ _ _ _ _ (@ps_set _ _ (6) _ _ _ _ sc_law.nd rfl (by first | exact Or.inl rfl | exact Or.inr rfl) (@pe_mth _ _ _ _ _ _ _ _ _ _ _ _ _ _ (pv 1) T.cl_Pool D_Pool_put (hr.mono (by decide)) (@pa_cons _ _ _ _ _ (@pe_tup _ _ _ _ _ (@pa_cons _ _ _ _ _ (@pe_int _ _ _ _) (@pa_cons _ _ _ _ _ (pv 5) (@pa_nil _) (by rfl)) (by rfl))) (@pa_cons _ _ _ _ _ (@pe_callB _ _ _ _ _ _ _ _ _ (call_lenM (P:=P) (w:=w) (by rfl) (by rfl)) (by rfl) T.b_len bt_len (@pa_cons _ _ _ _ _ (pv 2) (@pa_nil _) (by rfl)) (by decide) (by decide) (by rfl) (by rfl)) (@pa_nil _) (by rfl)) (by rfl)) (by rfl) (by rfl) (by rfl)) (by rfl) (by first | exact .inl rfl | exact .inr rfl | assumption)) (@pss_cons _ _ _ _ _ (@ps_if _ _ _ _ _ _ _ _ (@PW.pt _ _ _ (@pw_or _ _ _ _ _ _ _ (@pt_cmpR _ _ _ _ _ _ _ _ (op_neR hu9) (@pe_dsetM _ (P) (w) _ _ _ _ _ _ _ _ (by rfl) (by rfl) hu (pv 2) (pv 5) (pv 6) ⟨rfl,rfl,rfl,rfl⟩) (pv 6) (nomark _)) (@pw_or1 _ _ _ _ (@pt_cmpR _ _ _ _ _ _ _ _ op_ne (@pe_ix _ _ _ _ _ _ _ ix_tup (pv 6) (@pe_int _ _ _ _) (fun _ _=>rfl)) (@pe_fn _ _ _ _ _ _ _ _ _ _ D__law_sum (hr.mono (by decide)) rfl (@pa_cons _ _ _ _ _ (@pe_tup _ _ _ _ _ (@pa_cons _ _ _ _ _ (@pe_int _ _ _ _) (@pa_cons _ _ _ _ _ (pv 5) (@pa_nil _) (by rfl)) (by rfl))) (@pa_nil _) (by rfl)) (by decide) (by rfl) (by rfl)) (nomark _))))) (@pss_one _ _ _ (@ps_ret _ _ _ _ (@pe_bl _ _ _ _))) (@pss_nil _)) (@pss_cons _ _ _ _ _ (@ps_set _ _ (7) _ _ _ _ sc_law.nd rfl (by first | exact Or.inl rfl | exact Or.inr rfl) (@pe_mth _ _ _ _ _ _ _ _ _ _ _ _ _ _ (pv 1) T.cl_Pool D_Pool_put (hr.mono (by decide)) (@pa_cons _ _ _ _ _ (@pe_tup _ _ _ _ _ (@pa_cons _ _ _ _ _ (@pe_int _ _ _ _) (@pa_cons _ _ _ _ _ (@pe_int _ _ _ _) (@pa_cons _ _ _ _ _ (@pe_tup _ _ _ _ _ (@pa_cons _ _ _ _ _ (pv 6) (@pa_cons _ _ _ _ _ (pv 6) (@pa_nil _) (by rfl)) (by rfl))) (@pa_nil _) (by rfl)) (by rfl)) (by rfl))) (@pa_cons _ _ _ _ _ (@pe_int _ _ _ _) (@pa_nil _) (by rfl)) (by rfl)) (by rfl) (by rfl) (by rfl)) (by rfl) (by first | exact .inl rfl | exact .inr rfl | assumption)) (@pss_one _ _ _ (@ps_if _ _ _ _ _ _ _ _ (@pt_cmpR _ _ _ _ _ _ _ _ (op_neR hu9) (@pe_dsetM _ (P) (w) _ _ _ _ _ _ _ _ (by rfl) (by rfl) hu (pv 2) (@pe_tup _ _ _ _ _ (@pa_cons _ _ _ _ _ (pv 5) (@pa_cons _ _ _ _ _ (pv 5) (@pa_nil _) (by rfl)) (by rfl))) (pv 7) ⟨rfl,rfl,rfl,rfl⟩) (pv 7) (nomark _)) (@pss_one _ _ _ (@ps_ret _ _ _ _ (@pe_bl _ _ _ _))) (@pss_nil _)))))) (by intro _; rfl)))) (by intro _; rfl)) (@pss_cons _ _ _ _ _ (@ps_setC _ ["_law_thing","_law_known"] [none,some 2] (8) _ _ _ _ _ _ _ _ _ _ _ _ _ _ sc_law.nd rfl (by first | exact Or.inl rfl | exact Or.inr rfl) rfl (@pi_keysM _ (P) (w) _ _ _ (by rfl) (by rfl) (pv 2)) (by rfl) rfl (by repeat (first | exact trivial | refine ⟨rfl,?_⟩)) (by repeat (first | exact trivial | refine ⟨fun h=>(by first | exact ⟨_,rfl⟩ | cases h),?_⟩)) (fun C s H fp=>⟨(@pg_name _ _ (0) _ (show (["_law_thing","_law_known"]:List Str).Nodup by decide +kernel) rfl (by first | exact Or.inl rfl | exact Or.inr rfl) (by first | exact .inl rfl | exact .inr rfl | assumption)),(@pifs_nil _),(@pe_dgetM _ (P) (w) _ _ _ _ _ (by rfl) (by rfl) hu (pv 1) (pv 0) (fun _ _=>rfl))⟩) (by intro _; rfl) (by rfl) (by first | exact .inl rfl | exact .inr rfl | assumption)) (@pss_cons _ _ _ _ _ (@ps_if _ _ _ _ _ _ _ _ (@pt_cmpR _ _ _ _ _ _ _ _ op_ne (@pe_callB _ _ _ _ _ _ _ _ _ call_lenSet (by rfl) T.b_len bt_len (@pa_cons _ _ _ _ _ (@pe_callTy _ _ _ _ _ _ _ _ _ (call_setI (K:=K) (by rfl) rfl) (by rfl) T.b_set bt_set (@pa_cons _ _ _ _ _ (@pe_comp0 _ ["_law_tag"] _ _ _ _ _ _ _ _ _ _ rfl (@pi_list _ _ _ _ (pv 8)) (by decide +kernel) (fun C s H fp=>⟨(@pg_name _ _ (0) _ (show (["_law_tag"]:List Str).Nodup by decide +kernel) rfl (by first | exact Or.inl rfl | exact Or.inr rfl) (by first | exact .inl rfl | exact .inr rfl | assumption)),(@pifs_nil _),(@pe_ix _ _ _ _ _ _ _ (ix_tupK (K:=K) (by rfl)) (pv 0) (@pe_int _ _ _ _) (fun _ _=>rfl))⟩) (by intro _; rfl)) (@pa_nil _) (by rfl)) (by decide) (by decide) (by rfl) (by rfl)) (@pa_nil _) (by rfl)) (by decide) (by decide) (by rfl) (by rfl)) (@pe_callB _ _ _ _ _ _ _ _ _ call_len_seq (by rfl) T.b_len bt_len (@pa_cons _ _ _ _ _ (pv 8) (@pa_nil _) (by rfl)) (by decide) (by decide) (by rfl) (by rfl)) (nomark _)) (@pss_one _ _ _ (@ps_ret _ _ _ _ (@pe_bl _ _ _ _))) (@pss_nil _)) (@pss_cons _ _ _ _ _ (@ps_for _ _ _ _ _ _ _ _ PassesOwn.never rfl (@pi_keysM _ (P) (w) _ _ _ (by rfl) (by rfl) (pv 2)) (@pg_name _ _ (9) _ sc_law.nd rfl (by first | exact Or.inl rfl | exact Or.inr rfl) (by first | exact .inl rfl | exact .inr rfl | assumption)) (@pss_cons _ _ _ _ _ (@ps_if _ _ _ _ _ _ _ _ (@PW.pt _ _ _ (@pw_and _ _ _ _ _ _ _ (@pt_val _ _ _ (@pe_callB _ _ _ _ _ _ _ _ _ call_isinst (by rfl) T.b_isinstance bt_isinstance (@pa_cons _ _ _ _ _ (pv 9) (@pa_cons _ _ _ _ _ (@pe_ty _ _ _ _ rfl T.b_str bt_str (by decide) (by decide)) (@pa_nil _) (by rfl)) (by rfl)) (by decide) (by decide) (by rfl) (by rfl)) (by intro _; rfl)) (@pw_and1 _ _ _ _ (@pt_cmpR _ _ _ _ _ _ _ _ (op_neT hu9) (@pe_mth _ _ _ _ _ _ _ _ _ _ _ _ _ _ (pv 1) T.cl_Pool D_Pool_block (hr.mono (by decide)) (@pa_cons _ _ _ _ _ (@pe_dgetM _ (P) (w) _ _ _ _ _ (by rfl) (by rfl) hu (pv 2) (pv 9) (fun _ _=>rfl)) (@pa_nil _) (by rfl)) (by rfl) (by rfl) (by rfl)) (@pe_tup _ _ _ _ _ (@pa_cons _ _ _ _ _ (@pe_int _ _ _ _) (@pa_cons _ _ _ _ _ (pv 9) (@pa_nil _) (by rfl)) (by rfl))) (nomark _))))) (@pss_one _ _ _ (@ps_ret _ _ _ _ (@pe_bl _ _ _ _))) (@pss_nil _)) (@pss_one _ _ _ (@ps_if _ _ _ _ _ _ _ _ (@PW.pt _ _ _ (@pw_and _ _ _ _ _ _ _ (@pt_not _ _ _ _ (@pt_val _ _ _ (@pe_callB _ _ _ _ _ _ _ _ _ call_isinst (by rfl) T.b_isinstance bt_isinstance (@pa_cons _ _ _ _ _ (pv 9) (@pa_cons _ _ _ _ _ (@pe_ty _ _ _ _ rfl T.b_str bt_str (by decide) (by decide)) (@pa_nil _) (by rfl)) (by rfl)) (by decide) (by decide) (by rfl) (by rfl)) (by intro _; rfl))) (@pw_and1 _ _ _ _ (@pt_cmpR _ _ _ _ _ _ _ _ (op_neT hu9) (@pe_mth _ _ _ _ _ _ _ _ _ _ _ _ _ _ (pv 1) T.cl_Pool D_Pool_block (hr.mono (by decide)) (@pa_cons _ _ _ _ _ (@pe_dgetM _ (P) (w) _ _ _ _ _ (by rfl) (by rfl) hu (pv 2) (pv 9) (fun _ _=>rfl)) (@pa_nil _) (by rfl)) (by rfl) (by rfl) (by rfl)) (@pe_tup _ _ _ _ _ (@pa_cons _ _ _ _ _ (@pe_int _ _ _ _) (@pa_cons _ _ _ _ _ (@pe_int _ _ _ _) (@pa_cons _ _ _ _ _ (@pe_op _ _ _ _ _ _ _ _ op_repT (@pe_tup _ _ _ _ _ (@pa_cons _ _ _ _ _ (@pe_dgetM _ (P) (w) _ _ _ _ _ (by rfl) (by rfl) hu (pv 2) (@pe_ix _ _ _ _ _ _ _ ix_tup (pv 9) (@pe_int _ _ _ _) (fun _ _=>rfl)) (fun _ _=>rfl)) (@pa_nil _) (by rfl))) (@pe_int _ _ _ _)) (@pa_nil _) (by rfl)) (by rfl)) (by rfl))) (nomark _))))) (@pss_one _ _ _ (@ps_ret _ _ _ _ (@pe_bl _ _ _ _))) (@pss_nil _)))) (by intro _; rfl)) (@pss_one _ _ _ (@ps_ret _ _ _ _ (@pe_bl _ _ _ _))))))))),?_⟩
  try dsimp only [cxOf,Cx.nox,Cx.wish]
  intro xb dxb nxb ndxb _
  refine ⟨xb,dxb,3,rfl,by decide,by decide,upd_same,fun H1 ds B1 n1 k1=>⟨rfl,?_⟩⟩
  have s1:=made nxb ndxb k1
  intro x dx nx ndx _
  refine ⟨x,dx,xb,rfl,upd_same,fun dt dz dd H2 k2 e1 e2 e3 hdt hdz hdd hx=>⟨rfl,?_⟩⟩
  have s2:=made nx ndx k2
  have hS2:=s2.seq (s1.seq hS)
  have pa2:PAt C_Pool C_TakenCell H2 x ⟨dx,xb,dt,dz,dd,1⟩ [] []:=⟨⟨hx,hdt,(fun _ h=>nomatch h),List.nodup_nil⟩,hdd,⟨hdz,List.nodup_nil,List.nodup_nil,(fun _ h=>nomatch h),(fun _ h=>nomatch h)⟩,e1,e2,e3,List.nodup_nil,(fun i e h=>by cases h),Nat.le_refl _,Int.le_refl _,(by show (1:Int)≤0 + 1; decide)⟩
  intro d hdn ep0 H3 ho3 M3
  have s3:Same H2 H3:=fun b o e=>by rw [ho3 b (fun z=>by rw [z,hdn] at e; cases e)]; exact e
  have hS3:=s3.seq hS2
  refine ⟨_,rfl,60,rfl,a,_,rfl,hS3,fun cl hcl=>?_⟩
  obtain ⟨ms,ems,lms⟩:∃ ms:List Int,cutV (ns.map V.int) none (some 60) = ms.map V.int∧ms.length≤60:=by
    refine ⟨ns.take 60,?_,?_⟩
    · rw [cut_hi (by decide),← List.map_take]; rfl
    · rw [List.length_take]; omega
  rw [ems]
  have s4:=same_new hcl (.lst (ms.map V.int))
  have I0:Iz P w C_Pool C_TakenCell (upd H3 cl (.lst (ms.map V.int))) x ⟨dx,xb,dt,dz,dd,1⟩ [] [] d [] #[] ep0 cl ms:=⟨pa2.same (s3.trans s4),M3.same s4,rfl,(fun i e kv h=>by cases h),(fun _ h=>nomatch h),List.nodup_nil,upd_same⟩
  generalize (upd H3 cl (.lst (ms.map V.int))) = H4 at I0
  refine ⟨cl,rfl,⟨_,SqL.of I0.m⟩,?_⟩
  refine for_list (K:=K) (a:=cl) (xs:=ms.map V.int) (fun i σ H'=>∃ q cs bs kvs es ep,∃ (v3 v4 v5 v6 v7:Option V),σ = [some (.ref a),some (.ref x),some (.ref d),v3,v4,v5,v6,v7,none,none]∧Iz P w C_Pool C_TakenCell H' x q cs bs d kvs es ep cl ms∧cs.length≤4 * i) ⟨_,[],[],[],_,_,none,none,none,none,none,rfl,I0,Nat.le_refl _⟩ ?_ ?_ ?_
  · rintro i σ H' _ ⟨q',cs,bs,kvs,es,ep,v3,v4,v5,v6,v7,_,I,_⟩
    exact SqL.of I.m
  · rintro i y σ H' hy ⟨q',cs,bs,kvs,es,ep,v3,v4,v5,v6,v7,rfl,I,lcs⟩
    obtain ⟨n,rfl,hn⟩:=ints_get hy
    have hi:i < ms.length:=(List.getElem?_eq_some_iff.mp hn).1
    refine ⟨_,rfl,n,12,rfl,by decide,by decide,fun r H1 row s1' nr hr lr br=>?_⟩
    refine ⟨_,rfl,r,row,rfl,hr,lr,br,fun pr z0 z1 H2 s2' hpr ok0 ok1=>?_⟩
    refine ⟨pr,rfl,⟨_,SqT.of hpr⟩,?_⟩
    have I2:=(I.same s1').same s2'
    refine for_tup (K:=K) (a:=pr) (xs:=[V.str z0,V.str z1]) (fun j σ H'=>∃ q cs bs kvs es ep,∃ (v3 v4 v5 v6 v7:Option V),σ = [some (.ref a),some (.ref x),some (.ref d),v3,v4,v5,v6,v7,none,none]∧Iz P w C_Pool C_TakenCell H' x q cs bs d kvs es ep cl ms∧H' pr = some (.tup [.str z0,.str z1])∧cs.length≤4 * i + 2 * j) ⟨_,_,_,_,_,_,_,_,_,_,_,rfl,I2,hpr,by omega⟩ ?_ ?_ ?_
    · rintro j σ H' _ ⟨q',cs,bs,kvs,es,ep,v3,v4,v5,v6,v7,_,_,h,_⟩
      exact SqT.of h
    · rintro j y σ H3 hy ⟨q',cs,bs,kvs,es,ep,v3,v4,v5,v6,v7,rfl,I,hpr3,lcs⟩
      have hj:j < 2:=(List.getElem?_eq_some_iff.mp hy).1
      obtain ⟨z,rfl,okz⟩:∃ z,y = V.str z∧bkOk (.piece z):=by
        rcases (show j = 0∨j = 1 by omega) with rfl | rfl
        · cases hy; exact ⟨z0,rfl,ok0⟩
        · cases hy; exact ⟨z1,rfl,ok1⟩
      have lk:=I.ln
      refine seq_mid2 (fun σ' H'=>∃ q cs bs kvs es ep,∃ (e:Cl),σ' = [some (.ref a),some (.ref x),some (.ref d),v3,v4,some (.str z),some (.ref e.ta),v7,none,none]∧Iz P w C_Pool C_TakenCell H' x q cs bs d kvs es ep cl ms∧H' pr = some (.tup [.str z0,.str z1])∧e∈cs∧e.bk = .piece z∧cs.length≤4 * i + 2 * j + 1) (fun N hN=>?_) ?_
      · refine ⟨_,rfl,x,q'.dp,_,rfl,I.pa.t.1,rfl,_,rfl,small (by show 2≤1000000; decide),fun t ht=>?_⟩
        have s5:=same_new ht (.tup [.int 0,.str z])
        have rt:Rep NL (upd H3 t (.tup [.int 0,.str z])) (bkT (.piece z)) (.ref t):=⟨t,_,rfl,upd_same,_,_,rfl,rfl,_,_,rfl,rfl,rfl⟩
        generalize (upd H3 t (.tup [.int 0,.str z])) = H5 at s5 rt
        have I5:=I.same s5
        have hpr5:=s5.get hpr3
        have fin:∀ {q cs bs kvs es ep} {e:Cl} {H':Hp} {R:Bool→Hp→Prop},Iz P w C_Pool C_TakenCell H' x q cs bs d kvs es ep cl ms→e∈cs→e.bk = .piece z→(∀ H'',Same H' H''→R false H'')→(tTest (tOp rNe (tOp (rIxT K) (tVar 6) (tC (V.int 2))) (tCall (sp__law_sum K) [] E0 (tCons (tTup (tCons (tC (V.int 0)) (tCons (tVar 5) tNil))) tNil)))) [some (.ref a),some (.ref x),some (.ref d),v3,v4,some (.str z),some (.ref e.ta),v7,none,none] H' R:=fun {q cs bs kvs es ep e H' R} I9 he eb hR=>by
          have c9:=(I9.pa.t.2.2.1 e he).2.1
          refine ⟨_,rfl,e.ta,_,_,_,rfl,rfl,SqT.of c9,rfl,_,rfl,small (by show 2≤1000000; decide),fun t9 ht9=>?_⟩
          refine ⟨.ref t9,.piece z,rfl,⟨t9,_,rfl,upd_same,_,_,rfl,rfl,_,_,rfl,rfl,rfl⟩,okz,fun H'' s9=>⟨rfl,_,rfl,?_⟩⟩
          rw [← eb,eqv_true]
          exact hR H'' ((same_new ht9 _).trans s9)
        refine ⟨_,rfl,d,kvs,es,ep,rfl,I5.mx,x,q',cs,bs,.ref t,.piece z,_,rfl,I5.pa,by omega,rt,okz,(fun t ht=>nomatch ht),fun e he eb H6 s6=>?_,fun hne H6 c dxc l ta bs' hcN hlN _ pa' f' _=>?_⟩
        · have I6:=I5.same s6
          have c6:=(I6.pa.t.2.2.1 e he).2.1
          have fits:∀ {R:Prop},R→R:=fun h=>h
          refine ⟨_,rfl,d,kvs,es,ep,rfl,I6.mx,_,rfl,_,rfl,kvs,es,ep,.inl z,I6.mx,rfl,Nat.lt_of_lt_of_le (show kvs.length < 1000 by omega) (small (by decide)),fun v hv=>?_,fun hv=>?_⟩
          · rw [I6.valP he eb] at hv
            cases hv
            refine ⟨_,rfl,tgT (tgC e),NL,NL,by show 2≤100; decide,tg_rep (t:=tgC e) c6,tg_rep (t:=tgC e) c6,_,rfl,iteFc rfl ?_⟩
            refine fin I6 he eb fun H7 s7=>iteFc rfl ?_
            exact hN _ _ ⟨_,_,_,_,_,_,e,rfl,I6.same s7,s7.get (s6.get hpr5),he,eb,by omega⟩
          · rw [I6.valP he eb] at hv
            cases hv
        · have kt:∀ b ys,H5 b = some (.tup ys)→H6 b = some (.tup ys):=fun b ys h=>f' b _ h (I5.pa.apart h (by intro C d fs z; cases z) (by intro kvs z; cases z))
          have M6:Mx P w H6 d kvs es ep:=I5.mx.keep (f' _ _ I5.mx.o (I5.pa.apart I5.mx.o (by intro C d fs z; cases z) (by intro kvs z; cases z))) kt
          have sb:=sum_in (.piece z)
          have mN:bump ((tagsB (.piece z)).map (·.1)) (newC ((cs.length:Int) + 1) (kvs.length:Int) (.piece z) (.ref t) c dxc ta l cs)∈(cs ++ [newC ((cs.length:Int) + 1) (kvs.length:Int) (.piece z) (.ref t) c dxc ta l cs]).map (bump ((tagsB (.piece z)).map (·.1))):=List.mem_map.mpr ⟨_,List.mem_append.mpr (.inr (List.mem_singleton.mpr rfl)),rfl⟩
          refine ⟨_,rfl,d,kvs,es,ep,rfl,M6,_,rfl,_,rfl,kvs,es,ep,.inl z,M6,rfl,Nat.lt_of_lt_of_le (show kvs.length < 1000 by omega) (small (by decide)),fun v hv=>?_,fun hv es' ep' H7 ho7 M7=>?_⟩
          · rw [I5.noP hne] at hv
            cases hv
          · have I7:=I5.add (N:=newC ((cs.length:Int) + 1) (kvs.length:Int) (.piece z) (.ref t) c dxc ta l cs) pa' f' hne ⟨⟨by show (1:Int)≤(cs.length:Int) + 1; omega,by show (cs.length:Int) + 1≤999999; omega⟩,⟨by show (0:Int)≤(kvs.length:Int); omega,by show (kvs.length:Int)≤999999999; omega⟩,sb.1,sb.2⟩ (.inl ⟨z,rfl,rfl⟩) (fun b o e n=>by rw [ho7 b n]; exact e) M7
            have c7:=(I7.pa.t.2.2.1 _ mN).2.1
            refine ⟨_,rfl,tgT (tgC (newC ((cs.length:Int) + 1) (kvs.length:Int) (.piece z) (.ref t) c dxc ta l cs)),NL,NL,by show 2≤100; decide,tg_rep (t:=tgC (newC ((cs.length:Int) + 1) (kvs.length:Int) (.piece z) (.ref t) c dxc ta l cs)) c7,tg_rep (t:=tgC (newC ((cs.length:Int) + 1) (kvs.length:Int) (.piece z) (.ref t) c dxc ta l cs)) c7,_,rfl,iteFc rfl ?_⟩
            refine fin (e:=bump ((tagsB (.piece z)).map (·.1)) (newC ((cs.length:Int) + 1) (kvs.length:Int) (.piece z) (.ref t) c dxc ta l cs)) I7 mN rfl fun H8 s8=>iteFc rfl ?_
            have hp7:H7 pr = some (.tup [.str z0,.str z1]):=by
              have h6:=kt _ _ hpr5
              rw [ho7 pr (fun z=>by rw [z,M6.o] at h6; cases h6)]
              exact h6
            exact hN _ _ ⟨_,_,_,_,_,_,bump ((tagsB (.piece z)).map (·.1)) (newC ((cs.length:Int) + 1) (kvs.length:Int) (.piece z) (.ref t) c dxc ta l cs),rfl,I7.same s8,s8.get hp7,mN,rfl,by rw [List.length_map,List.length_append]; show cs.length + 1≤_; omega⟩
      · rintro σ' H5 ⟨q5,cs5,bs5,kvs5,es5,ep5,e,rfl,I5,hpr5,he,eb,lc5⟩
        have c5:=(I5.pa.t.2.2.1 e he).2.1
        have lk5:=I5.ln
        refine ⟨_,rfl,x,q5.dp,_,rfl,I5.pa.t.1,rfl,_,rfl,_,rfl,small (by show 2≤1000000; decide),fun t3 ht3=>?_⟩
        have s6:=same_new ht3 (.tup [.ref e.ta,.ref e.ta])
        have h3:(upd H5 t3 (.tup [.ref e.ta,.ref e.ta])) t3 = some (.tup [.ref e.ta,.ref e.ta]):=upd_same
        generalize (upd H5 t3 (.tup [.ref e.ta,.ref e.ta])) = H6 at s6 h3
        refine ⟨small (by show 3≤1000000; decide),fun t4 ht4=>?_⟩
        have s7:=same_new ht4 (.tup [.int 1,.int 1,.ref t3])
        have h4:(upd H6 t4 (.tup [.int 1,.int 1,.ref t3])) t4 = some (.tup [.int 1,.int 1,.ref t3]):=upd_same
        generalize (upd H6 t4 (.tup [.int 1,.int 1,.ref t3])) = H7 at s7 h4
        have s57:=s6.trans s7
        have I7:=I5.same s57
        have hpr7:=s57.get hpr5
        have c7:=s57.get c5
        have rt:Rep NL H7 (bkT (.row 1 [tgC e,tgC e])) (.ref t4):=⟨t4,_,rfl,h4,_,_,rfl,rfl,_,_,rfl,rfl,_,_,rfl,⟨t3,_,rfl,s7.get h3,_,_,rfl,tg_rep (t:=tgC e) c7,_,_,rfl,tg_rep (t:=tgC e) c7,rfl⟩,rfl⟩
        have okr:bkOk (.row 1 [tgC e,tgC e]):=⟨⟨by decide,by decide⟩,by show 2≤8; decide,(fun h=>absurd h (by decide)),fun t ht=>by
          have:t = tgC e:=by simpa using ht
          rw [this]; exact I5.ok e he⟩
        have hn:∀ t∈tagsB (.row 1 [tgC e,tgC e]),∃ c∈cs5,c.z = t.1:=fun t ht=>by
          have ht:t∈[tgC e,tgC e]:=ht
          have:t = tgC e:=by simpa using ht
          exact ⟨e,he,by rw [this]; rfl⟩
        refine ⟨x,q5,cs5,bs5,.ref t4,.row 1 [tgC e,tgC e],9,rfl,I7.pa,by omega,rt,okr,hn,fun e' he' eb' H8 s8=>?_,fun hne H8 c dxc l ta bs' hcN hlN _ pa' f' _=>?_⟩
        · have I8:=I7.same s8
          refine ⟨_,rfl,d,kvs5,es5,ep5,rfl,I8.mx,_,rfl,_,rfl,small (by show 2≤1000000; decide),fun t5 ht5=>?_⟩
          have s9:=same_new ht5 (.tup [.str z,.str z])
          have h5:(upd H8 t5 (.tup [.str z,.str z])) t5 = some (.tup [.str z,.str z]):=upd_same
          generalize (upd H8 t5 (.tup [.str z,.str z])) = H9 at s9 h5
          have I9:=I8.same s9
          have c9:=(I9.pa.t.2.2.1 e' he').2.1
          refine ⟨_,rfl,kvs5,es5,ep5,.inr [.inr z,.inr z],I9.mx,⟨t5,rfl,h5⟩,Nat.lt_of_lt_of_le (show kvs5.length < 1000 by omega) (small (by decide)),fun v hv=>?_,fun hv=>?_⟩
          · rw [I9.valR he' he eb eb'] at hv
            cases hv
            refine ⟨_,rfl,tgT (tgC e'),NL,NL,by show 2≤100; decide,tg_rep (t:=tgC e') c9,tg_rep (t:=tgC e') c9,_,rfl,iteFc rfl ?_⟩
            exact ⟨_,_,_,_,_,_,_,_,_,_,_,rfl,I9,s9.get (s8.get hpr7),by omega⟩
          · rw [I9.valR he' he eb eb'] at hv
            cases hv
        · have kt:∀ b ys,H7 b = some (.tup ys)→H8 b = some (.tup ys):=fun b ys h=>f' b _ h (I7.pa.apart h (by intro C d fs z; cases z) (by intro kvs z; cases z))
          have M8:Mx P w H8 d kvs5 es5 ep5:=I7.mx.keep (f' _ _ I7.mx.o (I7.pa.apart I7.mx.o (by intro C d fs z; cases z) (by intro kvs z; cases z))) kt
          have sb:=sum_in (.row 1 [tgC e,tgC e])
          have mN:bump ((tagsB (.row 1 [tgC e,tgC e])).map (·.1)) (newC ((cs5.length:Int) + 1) 9 (.row 1 [tgC e,tgC e]) (.ref t4) c dxc ta l cs5)∈(cs5 ++ [newC ((cs5.length:Int) + 1) 9 (.row 1 [tgC e,tgC e]) (.ref t4) c dxc ta l cs5]).map (bump ((tagsB (.row 1 [tgC e,tgC e])).map (·.1))):=List.mem_map.mpr ⟨_,List.mem_append.mpr (.inr (List.mem_singleton.mpr rfl)),rfl⟩
          refine ⟨_,rfl,d,kvs5,es5,ep5,rfl,M8,_,rfl,_,rfl,small (by show 2≤1000000; decide),fun t5 ht5=>?_⟩
          have s9:=same_new ht5 (.tup [.str z,.str z])
          have h5:(upd H8 t5 (.tup [.str z,.str z])) t5 = some (.tup [.str z,.str z]):=upd_same
          generalize (upd H8 t5 (.tup [.str z,.str z])) = H9 at s9 h5
          have M9:=M8.same s9
          refine ⟨_,rfl,kvs5,es5,ep5,.inr [.inr z,.inr z],M9,⟨t5,rfl,h5⟩,Nat.lt_of_lt_of_le (show kvs5.length < 1000 by omega) (small (by decide)),fun v hv=>?_,fun hv es' ep' H10 ho M10=>?_⟩
          · rw [I7.noR he eb hne] at hv
            cases hv
          · have pa9:=pa'.same s9
            have f9:Frm (ownP x q5 cs5 bs5) H7 H9:=fun b o h n=>s9.get (f' b o h n)
            have I10:=I7.add (N:=newC ((cs5.length:Int) + 1) 9 (.row 1 [tgC e,tgC e]) (.ref t4) c dxc ta l cs5) pa9 f9 hne ⟨⟨by show (1:Int)≤(cs5.length:Int) + 1; omega,by show (cs5.length:Int) + 1≤999999; omega⟩,⟨by show (0:Int)≤9; decide,by show (9:Int)≤999999999; decide⟩,sb.1,sb.2⟩ (.inr ⟨z,e,he,eb,rfl,rfl⟩) (fun b o e n=>by rw [ho b n]; exact e) M10
            have c10:=(I10.pa.t.2.2.1 _ mN).2.1
            refine ⟨_,rfl,tgT (tgC (newC ((cs5.length:Int) + 1) 9 (.row 1 [tgC e,tgC e]) (.ref t4) c dxc ta l cs5)),NL,NL,by show 2≤100; decide,tg_rep (t:=tgC (newC ((cs5.length:Int) + 1) 9 (.row 1 [tgC e,tgC e]) (.ref t4) c dxc ta l cs5)) c10,tg_rep (t:=tgC (newC ((cs5.length:Int) + 1) 9 (.row 1 [tgC e,tgC e]) (.ref t4) c dxc ta l cs5)) c10,_,rfl,iteFc rfl ?_⟩
            have hp9:H10 pr = some (.tup [.str z0,.str z1]):=by
              have h6:=s9.get (kt _ _ hpr7)
              rw [ho pr (fun z=>by rw [z,M9.o] at h6; cases h6)]
              exact h6
            exact ⟨_,_,_,_,_,_,_,_,_,_,_,rfl,I10,hp9,by rw [List.length_map,List.length_append]; show cs5.length + 1≤_; omega⟩
    · rintro σ H' ⟨q',cs,bs,kvs,es,ep,v3,v4,v5,v6,v7,rfl,I,_,lcs⟩
      exact ⟨_,_,_,_,_,_,_,_,_,_,_,rfl,I,by have:[V.str z0,V.str z1].length = 2:=rfl; omega⟩
  · rintro σ H5 ⟨q',cs,bs,kvs,es,ep,v3,v4,v5,v6,v7,rfl,I,lcs⟩
    rw [List.length_map] at lcs
    have lk:=I.ln
    have lc:cs.length≤240:=by omega
    refine ⟨_,rfl,d,kvs,es,ep,rfl,I.mx,?_⟩
    refine comp_keysM (fr:=[some 2]) I.mx (by omega) (fun p=>p.2) (fun p hp y H' R s' hy hR=>?_) fun l1 H6 nl1 s6 hl1=>?_
    · obtain ⟨i,hi,rfl⟩:=List.getElem_of_mem hp
      exact ⟨_,rfl,_,rfl,d,kvs,es,ep,_,_,rfl,I.mx.same s',hy,mkVal_at I.mx.n (List.getElem?_eq_getElem hi),hR⟩
    have ev:kvs.map (fun p=>p.2) = cs.map fun e=>V.ref e.ta:=by
      refine List.ext_getElem? fun i=>?_
      rw [List.getElem?_map,List.getElem?_map]
      by_cases hi:i < cs.length
      · have hk:i < kvs.length:=by omega
        rw [List.getElem?_eq_getElem hi,List.getElem?_eq_getElem hk]
        exact congrArg some (I.ko i _ _ (List.getElem?_eq_getElem hi) (List.getElem?_eq_getElem hk)).1
      · rw [List.getElem?_eq_none (by omega),List.getElem?_eq_none (by omega)]
        rfl
    rw [ev] at hl1
    have I6:=I.same s6
    refine ⟨_,rfl,l1,rfl,⟨_,SqL.of hl1⟩,?_⟩
    refine comp_cells hl1 (by omega) (fun e=>.int e.z) (fun e he H' R s' hR=>⟨_,rfl,e.ta,_,_,_,rfl,rfl,SqT.of (s'.get (I6.pa.t.2.2.1 e he).2.1),rfl,hR⟩) fun l2 H7 nl2 s7 hl2=>?_
    rw [show cs.map (fun e=>V.int e.z) = (cs.map (·.z)).map V.int by rw [List.map_map]; rfl] at hl2
    refine ⟨l2,cs.map (·.z),rfl,SqL.of hl2,by rw [List.length_map]; omega,I.pa.t.2.2.2,fun p8 hp8=>?_⟩
    have s8:=s7.trans (same_new hp8 (.set (fun k=>decide (k∈cs.map (·.z))) (cs.map (·.z)).length))
    refine ⟨p8,_,_,rfl,upd_same,_,rfl,l1,_,rfl,.inl (SqL.of (s8.get hl1)),rfl,_,rfl,iteFc (by rw [List.length_map,List.length_map]; exact eqv_true) ?_⟩
    have I8:=I6.same s8
    refine ⟨_,rfl,d,kvs,es,ep,rfl,I8.mx,?_⟩
    refine for_keysM (fun i σ H'=>∃ (v9:Option V),σ = [some (.ref a),some (.ref x),some (.ref d),v3,v4,v5,v6,v7,some (.ref l1),v9]∧Iz P w C_Pool C_TakenCell H' x q' cs bs d kvs es ep cl ms) ⟨none,rfl,I8⟩ ?_ ?_ ?_
    · rintro i σ H' _ ⟨v9,_,I9⟩
      exact I9.mx
    · rintro i p y σ H9 hp ⟨v9,rfl,I9⟩ hy
      have hk:i < kvs.length:=(List.getElem?_eq_some_iff.mp hp).1
      have hc:i < cs.length:=by omega
      have he:=List.getElem_mem hc
      obtain ⟨kv2,hkey⟩:=I9.ko i _ _ (List.getElem?_eq_getElem hc) hp
      have hv:=mkVal_at I9.mx.n hp
      rw [kv2] at hv
      have ce:=I9.pa.t.2.2.1 _ he
      generalize cs[i] = e at he kv2 hkey hv ce
      rcases hkey with ⟨z,eb,ek⟩ | ⟨z,c,hcm,hcb,eb,ek⟩
      · rw [ek] at hy hv
        cases (show y = .str z from hy)
        have okz:bkOk (.piece z):=by rw [← eb]; exact ce.2.2.2
        refine ⟨_,rfl,_,_,_,_,rfl,.str _,kit_str_str K,_,rfl,iteTc rfl ?_⟩
        refine ⟨_,rfl,x,q'.dp,_,rfl,I9.pa.t.1,rfl,_,rfl,_,rfl,d,kvs,es,ep,.inl z,_,rfl,I9.mx,rfl,hv,x,q',cs,e,e.ta,_,_,rfl,I9.pa.t,I9.pa.d,he,ce.2.1,_,rfl,small (by show 2≤1000000; decide),fun t10 ht10=>?_⟩
        have s10:=same_new ht10 (.tup [.int 0,.str z])
        have r10:Rep NL (upd H9 t10 (.tup [.int 0,.str z])) (bkT (.piece z)) (.ref t10):=⟨t10,_,rfl,upd_same,_,_,rfl,rfl,_,_,rfl,rfl,rfl⟩
        refine ⟨bkT e.bk,bkT (.piece z),isT_bk ce.2.2.2,isT_bk okz,Rep.same s10 _ _ ce.2.2.1,r10,_,rfl,iteFc (by rw [eb,if_pos rfl,decide_eq_true rfl]; rfl) ?_⟩
        refine ⟨_,rfl,_,_,_,_,rfl,.str _,kit_str_str K,_,rfl,iteFc rfl (iteFc rfl ?_)⟩
        exact ⟨_,rfl,I9.same s10⟩
      · rw [ek] at hy hv
        obtain ⟨b,rfl,hb⟩:=hy
        have okr:bkOk (.row 1 [tgC c,tgC c]):=by rw [← eb]; exact ce.2.2.2
        have cc:=I9.pa.t.2.2.1 _ hcm
        refine ⟨_,rfl,_,_,_,_,rfl,.tup hb,kit_tuple_str K,_,rfl,iteFc rfl (iteFc rfl ?_)⟩
        refine ⟨_,rfl,_,_,_,_,rfl,.tup hb,kit_tuple_str K,_,rfl,iteTc rfl ?_⟩
        refine ⟨_,rfl,x,q'.dp,_,rfl,I9.pa.t.1,rfl,_,rfl,_,rfl,d,kvs,es,ep,.inr [.inr z,.inr z],_,rfl,I9.mx,⟨b,rfl,hb⟩,hv,x,q',cs,e,e.ta,_,_,rfl,I9.pa.t,I9.pa.d,he,ce.2.1,?_⟩
        refine ⟨_,rfl,_,rfl,b,_,_,_,rfl,rfl,SqT.of hb,rfl,d,kvs,es,ep,.inl z,_,rfl,I9.mx,rfl,I9.valP hcm hcb,small (by show 1≤1000000; decide),fun t1 ht1=>?_⟩
        have s10:=same_new ht1 (.tup [.ref c.ta])
        have h10:(upd H9 t1 (.tup [.ref c.ta])) t1 = some (.tup [.ref c.ta]):=upd_same
        generalize (upd H9 t1 (.tup [.ref c.ta])) = H10 at s10 h10
        refine ⟨t1,2,[.ref c.ta],rfl,rfl,h10,by simp,by decide,by decide,(by show 1 * 2≤100000; decide),fun t2 ht2=>?_⟩
        have s11:=same_new ht2 (.tup (List.replicate (2:Int).toNat [V.ref c.ta]).flatten)
        have h11:(upd H10 t2 (.tup (List.replicate (2:Int).toNat [V.ref c.ta]).flatten)) t2 = some (.tup [.ref c.ta,.ref c.ta]):=upd_same
        generalize (upd H10 t2 (.tup (List.replicate (2:Int).toNat [V.ref c.ta]).flatten)) = H11 at s11 h11
        refine ⟨small (by show 3≤1000000; decide),fun t3 ht3=>?_⟩
        have s12:=same_new ht3 (.tup [.int 1,.int 1,.ref t2])
        have h12:(upd H11 t3 (.tup [.int 1,.int 1,.ref t2])) t3 = some (.tup [.int 1,.int 1,.ref t2]):=upd_same
        generalize (upd H11 t3 (.tup [.int 1,.int 1,.ref t2])) = H12 at s12 h12
        have s13:=(s10.trans s11).trans s12
        have cc12:=s13.get cc.2.1
        have r12:Rep NL H12 (bkT (.row 1 [tgC c,tgC c])) (.ref t3):=⟨t3,_,rfl,h12,_,_,rfl,rfl,_,_,rfl,rfl,_,_,rfl,⟨t2,_,rfl,s12.get h11,_,_,rfl,tg_rep (t:=tgC c) cc12,_,_,rfl,tg_rep (t:=tgC c) cc12,rfl⟩,rfl⟩
        refine ⟨bkT e.bk,bkT (.row 1 [tgC c,tgC c]),isT_bk ce.2.2.2,isT_bk okr,Rep.same s13 _ _ ce.2.2.1,r12,_,rfl,iteFc (by rw [eb,if_pos rfl,decide_eq_true rfl]; rfl) ?_⟩
        exact ⟨_,rfl,I9.same s13⟩
    · rintro σ H9 ⟨v9,rfl,I9⟩
      exact hq H9
end
theorem all_mk {l:PySem.W.OpenLaw} {w:World} {K:PySem.W.Frag} {h:Heap} {mg:Str→Option Value} {fa:Addr} (X:K.In h) (G:h.Ns mainGlobals mg) (hfa:mg "law" = some (.ref fa))
    {f0:Addr} {od0 an0:Option Addr} {sl0:Array (Option Value)} {oc0 kV0 dc0 pm0 cd0 ct0:Value}
    {f1:Addr} {od1 an1:Option Addr} {sl1:Array (Option Value)} {oc1 kV1 dc1 pm1 cd1 ct1:Value}
    {f2:Addr} {od2 an2:Option Addr} {sl2:Array (Option Value)} {oc2 kV2 dc2 pm2 cd2 ct2:Value}
    {f3:Addr} {od3 an3:Option Addr} {sl3:Array (Option Value)} {oc3 kV3 dc3 pm3 cd3 ct3:Value}
    {f4:Addr} {od4 an4:Option Addr} {sl4:Array (Option Value)} {oc4 kV4 dc4 pm4 cd4 ct4:Value}
    {f5:Addr} {od5 an5:Option Addr} {sl5:Array (Option Value)} {oc5 kV5 dc5 pm5 cd5 ct5:Value}
    {f6:Addr} {od6 an6:Option Addr} {sl6:Array (Option Value)} {oc6 kV6 dc6 pm6 cd6 ct6:Value}
    {f7:Addr} {od7 an7:Option Addr} {sl7:Array (Option Value)} {oc7 kV7 dc7 pm7 cd7 ct7:Value}
    {f8:Addr} {od8 an8:Option Addr} {sl8:Array (Option Value)} {oc8 kV8 dc8 pm8 cd8 ct8:Value}
    {f9:Addr} {od9 an9:Option Addr} {sl9:Array (Option Value)} {oc9 kV9 dc9 pm9 cd9 ct9:Value}
    {f10:Addr} {od10 an10:Option Addr} {sl10:Array (Option Value)} {oc10 kV10 dc10 pm10 cd10 ct10:Value}
    {f11:Addr} {od11 an11:Option Addr} {sl11:Array (Option Value)} {oc11 kV11 dc11 pm11 cd11 ct11:Value}
    {f12:Addr} {od12 an12:Option Addr} {sl12:Array (Option Value)} {oc12 kV12 dc12 pm12 cd12 ct12:Value}
    {f13:Addr} {od13 an13:Option Addr} {sl13:Array (Option Value)} {oc13 kV13 dc13 pm13 cd13 ct13:Value}
    {f14:Addr} {od14 an14:Option Addr} {sl14:Array (Option Value)} {oc14 kV14 dc14 pm14 cd14 ct14:Value}
    {f15:Addr} {od15 an15:Option Addr} {sl15:Array (Option Value)} {oc15 kV15 dc15 pm15 cd15 ct15:Value}
    {f16:Addr} {od16 an16:Option Addr} {sl16:Array (Option Value)} {oc16 kV16 dc16 pm16 cd16 ct16:Value}
    {f17:Addr} {od17 an17:Option Addr} {sl17:Array (Option Value)} {oc17 kV17 dc17 pm17 cd17 ct17:Value}
    {f18:Addr} {od18 an18:Option Addr} {sl18:Array (Option Value)} {oc18 kV18 dc18 pm18 cd18 ct18:Value}
    {f19:Addr} {od19 an19:Option Addr} {sl19:Array (Option Value)} {oc19 kV19 dc19 pm19 cd19 ct19:Value}
    {f20:Addr} {od20 an20:Option Addr} {sl20:Array (Option Value)} {oc20 kV20 dc20 pm20 cd20 ct20:Value}
    {f21:Addr} {od21 an21:Option Addr} {sl21:Array (Option Value)} {oc21 kV21 dc21 pm21 cd21 ct21:Value}
    {f22:Addr} {od22 an22:Option Addr} {sl22:Array (Option Value)} {oc22 kV22 dc22 pm22 cd22 ct22:Value}
    {f23:Addr} {od23 an23:Option Addr} {sl23:Array (Option Value)} {oc23 kV23 dc23 pm23 cd23 ct23:Value}
    {f24:Addr} {od24 an24:Option Addr} {sl24:Array (Option Value)} {oc24 kV24 dc24 pm24 cd24 ct24:Value}
    {f25:Addr} {od25 an25:Option Addr} {sl25:Array (Option Value)} {oc25 kV25 dc25 pm25 cd25 ct25:Value}
    {f26:Addr} {od26 an26:Option Addr} {sl26:Array (Option Value)} {oc26 kV26 dc26 pm26 cd26 ct26:Value}
    {f27:Addr} {od27 an27:Option Addr} {sl27:Array (Option Value)} {oc27 kV27 dc27 pm27 cd27 ct27:Value}
    {f28:Addr} {od28 an28:Option Addr} {sl28:Array (Option Value)} {oc28 kV28 dc28 pm28 cd28 ct28:Value}
    {C_Boards:Addr}
    {C_TakenCell:Addr}
    {C_Pool:Addr}
    {X_Lost:Addr}
    {t_SIGNS:Tok}
    {t_NUMBER_WORD:Tok}
    {t_TEXT_WORD:Tok}
    {t_TUPLE_WORD:Tok}
    {t_PIECE:Tok}
    {t_ROW:Tok}
    {t_FOLDER:Tok}
    {t_FOLDER_ENTRY:Tok}
    {t_NAME_SIGNS:Tok}
    {t_MOST_NAME_SIGNS:Tok}
    {t_SUM_RESTS:Tok}
    {t_LEAST_BOARDS:Tok}
    {t_MOST_BOARDS:Tok}
    (a0:PySem.W.nsIn K mainGlobals "is_whole" = some (some (.ref f0))) (l0:K.lookup f0 = some ⟨oc0,od0,.func (PySem.W.fnOf "is_whole" "is_whole" (defArgs s_is_whole) (defBody s_is_whole) (defScope s_is_whole) .none kV0 dc0 pm0 an0 cd0 ct0),sl0⟩) (c0:PySem.W.codeIn K cd0 "is_whole" = true) (k0:PySem.W.keepIn K (.ref f0) = true)
    (a1:PySem.W.nsIn K mainGlobals "is_between" = some (some (.ref f1))) (l1:K.lookup f1 = some ⟨oc1,od1,.func (PySem.W.fnOf "is_between" "is_between" (defArgs s_is_between) (defBody s_is_between) (defScope s_is_between) .none kV1 dc1 pm1 an1 cd1 ct1),sl1⟩) (c1:PySem.W.codeIn K cd1 "is_between" = true) (k1:PySem.W.keepIn K (.ref f1) = true)
    (a2:PySem.W.nsIn K mainGlobals "number_of" = some (some (.ref f2))) (l2:K.lookup f2 = some ⟨oc2,od2,.func (PySem.W.fnOf "number_of" "number_of" (defArgs s_number_of) (defBody s_number_of) (defScope s_number_of) .none kV2 dc2 pm2 an2 cd2 ct2),sl2⟩) (c2:PySem.W.codeIn K cd2 "number_of" = true) (k2:PySem.W.keepIn K (.ref f2) = true)
    (a3:PySem.W.nsIn K mainGlobals "is_text" = some (some (.ref f3))) (l3:K.lookup f3 = some ⟨oc3,od3,.func (PySem.W.fnOf "is_text" "is_text" (defArgs s_is_text) (defBody s_is_text) (defScope s_is_text) .none kV3 dc3 pm3 an3 cd3 ct3),sl3⟩) (c3:PySem.W.codeIn K cd3 "is_text" = true) (k3:PySem.W.keepIn K (.ref f3) = true)
    (a4:PySem.W.nsIn K mainGlobals "words_of" = some (some (.ref f4))) (l4:K.lookup f4 = some ⟨oc4,od4,.func (PySem.W.fnOf "words_of" "words_of" (defArgs s_words_of) (defBody s_words_of) (defScope s_words_of) .none kV4 dc4 pm4 an4 cd4 ct4),sl4⟩) (c4:PySem.W.codeIn K cd4 "words_of" = true) (k4:PySem.W.keepIn K (.ref f4) = true)
    (a5:PySem.W.nsIn K mainGlobals "is_name" = some (some (.ref f5))) (l5:K.lookup f5 = some ⟨oc5,od5,.func (PySem.W.fnOf "is_name" "is_name" (defArgs s_is_name) (defBody s_is_name) (defScope s_is_name) .none kV5 dc5 pm5 an5 cd5 ct5),sl5⟩) (c5:PySem.W.codeIn K cd5 "is_name" = true) (k5:PySem.W.keepIn K (.ref f5) = true)
    (a6:PySem.W.nsIn K mainGlobals "sum_of" = some (some (.ref f6))) (l6:K.lookup f6 = some ⟨oc6,od6,.func (PySem.W.fnOf "sum_of" "sum_of" (defArgs s_sum_of) (defBody s_sum_of) (defScope s_sum_of) .none kV6 dc6 pm6 an6 cd6 ct6),sl6⟩) (c6:PySem.W.codeIn K cd6 "sum_of" = true) (k6:PySem.W.keepIn K (.ref f6) = true)
    (a7:PySem.W.nsIn K mainGlobals "numbers_told" = some (some (.ref f7))) (l7:K.lookup f7 = some ⟨oc7,od7,.func (PySem.W.fnOf "numbers_told" "numbers_told" (defArgs s_numbers_told) (defBody s_numbers_told) (defScope s_numbers_told) .none kV7 dc7 pm7 an7 cd7 ct7),sl7⟩) (c7:PySem.W.codeIn K cd7 "numbers_told" = true) (k7:PySem.W.keepIn K (.ref f7) = true)
    (a8:PySem.W.nsIn K mainGlobals "size_of" = some (some (.ref f8))) (l8:K.lookup f8 = some ⟨oc8,od8,.func (PySem.W.fnOf "size_of" "size_of" (defArgs s_size_of) (defBody s_size_of) (defScope s_size_of) .none kV8 dc8 pm8 an8 cd8 ct8),sl8⟩) (c8:PySem.W.codeIn K cd8 "size_of" = true) (k8:PySem.W.keepIn K (.ref f8) = true)
    (a9:PySem.W.nsIn K mainGlobals "tags_in" = some (some (.ref f9))) (l9:K.lookup f9 = some ⟨oc9,od9,.func (PySem.W.fnOf "tags_in" "tags_in" (defArgs s_tags_in) (defBody s_tags_in) (defScope s_tags_in) .none kV9 dc9 pm9 an9 cd9 ct9),sl9⟩) (c9:PySem.W.codeIn K cd9 "tags_in" = true) (k9:PySem.W.keepIn K (.ref f9) = true)
    (a10:PySem.W.findIn K (.ref C_TakenCell) "__init__" = some (some (.ref f10))) (i10:PySem.W.isFn K (.ref f10) = true) (l10:K.lookup f10 = some ⟨oc10,od10,.func (PySem.W.fnOf "__init__" "TakenCell.__init__" (defArgs s_TakenCell_init) (defBody s_TakenCell_init) (defScope s_TakenCell_init) .none kV10 dc10 pm10 an10 cd10 ct10),sl10⟩) (c10:PySem.W.codeIn K cd10 "TakenCell.__init__" = true) (k10:PySem.W.keepIn K (.ref f10) = true)
    (a11:PySem.W.findIn K (.ref C_Pool) "__init__" = some (some (.ref f11))) (i11:PySem.W.isFn K (.ref f11) = true) (l11:K.lookup f11 = some ⟨oc11,od11,.func (PySem.W.fnOf "__init__" "Pool.__init__" (defArgs s_Pool_init) (defBody s_Pool_init) (defScope s_Pool_init) .none kV11 dc11 pm11 an11 cd11 ct11),sl11⟩) (c11:PySem.W.codeIn K cd11 "Pool.__init__" = true) (k11:PySem.W.keepIn K (.ref f11) = true)
    (a12:PySem.W.findIn K (.ref C_Pool) "put" = some (some (.ref f12))) (i12:PySem.W.isFn K (.ref f12) = true) (l12:K.lookup f12 = some ⟨oc12,od12,.func (PySem.W.fnOf "put" "Pool.put" (defArgs s_Pool_put) (defBody s_Pool_put) (defScope s_Pool_put) .none kV12 dc12 pm12 an12 cd12 ct12),sl12⟩) (c12:PySem.W.codeIn K cd12 "Pool.put" = true) (k12:PySem.W.keepIn K (.ref f12) = true)
    (a13:PySem.W.findIn K (.ref C_Pool) "alike" = some (some (.ref f13))) (i13:PySem.W.isFn K (.ref f13) = true) (l13:K.lookup f13 = some ⟨oc13,od13,.func (PySem.W.fnOf "alike" "Pool.alike" (defArgs s_Pool_alike) (defBody s_Pool_alike) (defScope s_Pool_alike) .none kV13 dc13 pm13 an13 cd13 ct13),sl13⟩) (c13:PySem.W.codeIn K cd13 "Pool.alike" = true) (k13:PySem.W.keepIn K (.ref f13) = true)
    (a14:PySem.W.findIn K (.ref C_Pool) "free_number" = some (some (.ref f14))) (i14:PySem.W.isFn K (.ref f14) = true) (l14:K.lookup f14 = some ⟨oc14,od14,.func (PySem.W.fnOf "free_number" "Pool.free_number" (defArgs s_Pool_free_number) (defBody s_Pool_free_number) (defScope s_Pool_free_number) .none kV14 dc14 pm14 an14 cd14 ct14),sl14⟩) (c14:PySem.W.codeIn K cd14 "Pool.free_number" = true) (k14:PySem.W.keepIn K (.ref f14) = true)
    (a15:PySem.W.findIn K (.ref C_Pool) "take" = some (some (.ref f15))) (i15:PySem.W.isFn K (.ref f15) = true) (l15:K.lookup f15 = some ⟨oc15,od15,.func (PySem.W.fnOf "take" "Pool.take" (defArgs s_Pool_take) (defBody s_Pool_take) (defScope s_Pool_take) .none kV15 dc15 pm15 an15 cd15 ct15),sl15⟩) (c15:PySem.W.codeIn K cd15 "Pool.take" = true) (k15:PySem.W.keepIn K (.ref f15) = true)
    (a16:PySem.W.findIn K (.ref C_Pool) "entries_of" = some (some (.ref f16))) (i16:PySem.W.isFn K (.ref f16) = true) (l16:K.lookup f16 = some ⟨oc16,od16,.func (PySem.W.fnOf "entries_of" "Pool.entries_of" (defArgs s_Pool_entries_of) (defBody s_Pool_entries_of) (defScope s_Pool_entries_of) .none kV16 dc16 pm16 an16 cd16 ct16),sl16⟩) (c16:PySem.W.codeIn K cd16 "Pool.entries_of" = true) (k16:PySem.W.keepIn K (.ref f16) = true)
    (a17:PySem.W.findIn K (.ref C_Pool) "steps_of" = some (some (.ref f17))) (i17:PySem.W.isFn K (.ref f17) = true) (l17:K.lookup f17 = some ⟨oc17,od17,.func (PySem.W.fnOf "steps_of" "Pool.steps_of" (defArgs s_Pool_steps_of) (defBody s_Pool_steps_of) (defScope s_Pool_steps_of) .none kV17 dc17 pm17 an17 cd17 ct17),sl17⟩) (c17:PySem.W.codeIn K cd17 "Pool.steps_of" = true) (k17:PySem.W.keepIn K (.ref f17) = true)
    (a18:PySem.W.findIn K (.ref C_Pool) "block" = some (some (.ref f18))) (i18:PySem.W.isFn K (.ref f18) = true) (l18:K.lookup f18 = some ⟨oc18,od18,.func (PySem.W.fnOf "block" "Pool.block" (defArgs s_Pool_block) (defBody s_Pool_block) (defScope s_Pool_block) .none kV18 dc18 pm18 an18 cd18 ct18),sl18⟩) (c18:PySem.W.codeIn K cd18 "Pool.block" = true) (k18:PySem.W.keepIn K (.ref f18) = true)
    (a19:PySem.W.findIn K (.ref C_Pool) "hold" = some (some (.ref f19))) (i19:PySem.W.isFn K (.ref f19) = true) (l19:K.lookup f19 = some ⟨oc19,od19,.func (PySem.W.fnOf "hold" "Pool.hold" (defArgs s_Pool_hold) (defBody s_Pool_hold) (defScope s_Pool_hold) .none kV19 dc19 pm19 an19 cd19 ct19),sl19⟩) (c19:PySem.W.codeIn K cd19 "Pool.hold" = true) (k19:PySem.W.keepIn K (.ref f19) = true)
    (a20:PySem.W.findIn K (.ref C_Pool) "tag" = some (some (.ref f20))) (i20:PySem.W.isFn K (.ref f20) = true) (l20:K.lookup f20 = some ⟨oc20,od20,.func (PySem.W.fnOf "tag" "Pool.tag" (defArgs s_Pool_tag) (defBody s_Pool_tag) (defScope s_Pool_tag) .none kV20 dc20 pm20 an20 cd20 ct20),sl20⟩) (c20:PySem.W.codeIn K cd20 "Pool.tag" = true) (k20:PySem.W.keepIn K (.ref f20) = true)
    (a21:PySem.W.findIn K (.ref C_Pool) "entries" = some (some (.ref f21))) (i21:PySem.W.isFn K (.ref f21) = true) (l21:K.lookup f21 = some ⟨oc21,od21,.func (PySem.W.fnOf "entries" "Pool.entries" (defArgs s_Pool_entries) (defBody s_Pool_entries) (defScope s_Pool_entries) .none kV21 dc21 pm21 an21 cd21 ct21),sl21⟩) (c21:PySem.W.codeIn K cd21 "Pool.entries" = true) (k21:PySem.W.keepIn K (.ref f21) = true)
    (a22:PySem.W.findIn K (.ref C_Pool) "deep" = some (some (.ref f22))) (i22:PySem.W.isFn K (.ref f22) = true) (l22:K.lookup f22 = some ⟨oc22,od22,.func (PySem.W.fnOf "deep" "Pool.deep" (defArgs s_Pool_deep) (defBody s_Pool_deep) (defScope s_Pool_deep) .none kV22 dc22 pm22 an22 cd22 ct22),sl22⟩) (c22:PySem.W.codeIn K cd22 "Pool.deep" = true) (k22:PySem.W.keepIn K (.ref f22) = true)
    (a23:PySem.W.findIn K (.ref C_Boards) "__init__" = some (some (.ref f23))) (i23:PySem.W.isFn K (.ref f23) = true) (l23:K.lookup f23 = some ⟨oc23,od23,.func (PySem.W.fnOf "__init__" "Boards.__init__" (defArgs s_Boards_init) (defBody s_Boards_init) (defScope s_Boards_init) .none kV23 dc23 pm23 an23 cd23 ct23),sl23⟩) (c23:PySem.W.codeIn K cd23 "Boards.__init__" = true) (k23:PySem.W.keepIn K (.ref f23) = true)
    (a24:PySem.W.nsIn K mainGlobals "_law_row" = some (some (.ref f24))) (l24:K.lookup f24 = some ⟨oc24,od24,.func (PySem.W.fnOf "_law_row" "_law_row" (defArgs s__law_row) (defBody s__law_row) (defScope s__law_row) .none kV24 dc24 pm24 an24 cd24 ct24),sl24⟩) (c24:PySem.W.codeIn K cd24 "_law_row" = true) (k24:PySem.W.keepIn K (.ref f24) = true)
    (a25:PySem.W.nsIn K mainGlobals "_law_signs" = some (some (.ref f25))) (l25:K.lookup f25 = some ⟨oc25,od25,.func (PySem.W.fnOf "_law_signs" "_law_signs" (defArgs s__law_signs) (defBody s__law_signs) (defScope s__law_signs) .none kV25 dc25 pm25 an25 cd25 ct25),sl25⟩) (c25:PySem.W.codeIn K cd25 "_law_signs" = true) (k25:PySem.W.keepIn K (.ref f25) = true)
    (a26:PySem.W.nsIn K mainGlobals "_law_sum" = some (some (.ref f26))) (l26:K.lookup f26 = some ⟨oc26,od26,.func (PySem.W.fnOf "_law_sum" "_law_sum" (defArgs s__law_sum) (defBody s__law_sum) (defScope s__law_sum) .none kV26 dc26 pm26 an26 cd26 ct26),sl26⟩) (c26:PySem.W.codeIn K cd26 "_law_sum" = true) (k26:PySem.W.keepIn K (.ref f26) = true)
    (a27:PySem.W.nsIn K mainGlobals "_law_pair" = some (some (.ref f27))) (l27:K.lookup f27 = some ⟨oc27,od27,.func (PySem.W.fnOf "_law_pair" "_law_pair" (defArgs s__law_pair) (defBody s__law_pair) (defScope s__law_pair) .none kV27 dc27 pm27 an27 cd27 ct27),sl27⟩) (c27:PySem.W.codeIn K cd27 "_law_pair" = true) (k27:PySem.W.keepIn K (.ref f27) = true)
    (a28:PySem.W.nsIn K mainGlobals "law" = some (some (.ref f28))) (l28:K.lookup f28 = some ⟨oc28,od28,.func (PySem.W.fnOf "law" "law" (defArgs s_law) (defBody s_law) (defScope s_law) .none kV28 dc28 pm28 an28 cd28 ct28),sl28⟩) (c28:PySem.W.codeIn K cd28 "law" = true) (k28:PySem.W.keepIn K (.ref f28) = true)
    (aC_Boards:PySem.W.nsIn K mainGlobals "Boards" = some (some (.ref C_Boards))) (pg_Boards:PySem.W.plainGet K C_Boards Str.empty = true) (hd_Boards:PySem.W.hasDictIn K C_Boards = true) (po_Boards:PySem.W.plainOver K C_Boards = true) (sa_Boards:PySem.W.findIn K (.ref C_Boards) "__setattr__" = some (some (.builtin "object.__setattr__"))) (mk_Boards:PySem.W.makesIn K C_Boards = true) (kc_Boards:PySem.W.keepIn K (.ref C_Boards) = true)
    (n_Boards_shelves:PySem.W.findIn K (.ref C_Boards) "shelves" = some none)
    (n_Boards_writes:PySem.W.findIn K (.ref C_Boards) "writes" = some none)
    (n_Boards_writes_left:PySem.W.findIn K (.ref C_Boards) "writes_left" = some none)
    (aC_TakenCell:PySem.W.nsIn K mainGlobals "TakenCell" = some (some (.ref C_TakenCell))) (pg_TakenCell:PySem.W.plainGet K C_TakenCell Str.empty = true) (hd_TakenCell:PySem.W.hasDictIn K C_TakenCell = true) (po_TakenCell:PySem.W.plainOver K C_TakenCell = true) (sa_TakenCell:PySem.W.findIn K (.ref C_TakenCell) "__setattr__" = some (some (.builtin "object.__setattr__"))) (mk_TakenCell:PySem.W.makesIn K C_TakenCell = true) (kc_TakenCell:PySem.W.keepIn K (.ref C_TakenCell) = true)
    (n_TakenCell_own_tag:PySem.W.findIn K (.ref C_TakenCell) "own_tag" = some none)
    (n_TakenCell_own_size:PySem.W.findIn K (.ref C_TakenCell) "own_size" = some none)
    (n_TakenCell_named:PySem.W.findIn K (.ref C_TakenCell) "named" = some none)
    (n_TakenCell_times_named:PySem.W.findIn K (.ref C_TakenCell) "times_named" = some none)
    (n_TakenCell_entries_beneath:PySem.W.findIn K (.ref C_TakenCell) "entries_beneath" = some none)
    (n_TakenCell_steps_beneath:PySem.W.findIn K (.ref C_TakenCell) "steps_beneath" = some none)
    (aC_Pool:PySem.W.nsIn K mainGlobals "Pool" = some (some (.ref C_Pool))) (pg_Pool:PySem.W.plainGet K C_Pool Str.empty = true) (hd_Pool:PySem.W.hasDictIn K C_Pool = true) (po_Pool:PySem.W.plainOver K C_Pool = true) (sa_Pool:PySem.W.findIn K (.ref C_Pool) "__setattr__" = some (some (.builtin "object.__setattr__"))) (mk_Pool:PySem.W.makesIn K C_Pool = true) (kc_Pool:PySem.W.keepIn K (.ref C_Pool) = true)
    (n_Pool_boards:PySem.W.findIn K (.ref C_Pool) "boards" = some none)
    (n_Pool_taken:PySem.W.findIn K (.ref C_Pool) "taken" = some none)
    (n_Pool_by_sums:PySem.W.findIn K (.ref C_Pool) "by_sums" = some none)
    (n_Pool_draft:PySem.W.findIn K (.ref C_Pool) "draft" = some none)
    (n_Pool_first_maybe_free:PySem.W.findIn K (.ref C_Pool) "first_maybe_free" = some none)
    (x_Lost:PySem.W.nsIn K mainGlobals "Lost" = some (some (.ref X_Lost)))
    (z_abs:PySem.W.nsIn K mainGlobals "abs" = some none)
    (z_all:PySem.W.nsIn K mainGlobals "all" = some none)
    (z_bool:PySem.W.nsIn K mainGlobals "bool" = some none)
    (z_int:PySem.W.nsIn K mainGlobals "int" = some none)
    (z_isinstance:PySem.W.nsIn K mainGlobals "isinstance" = some none)
    (z_len:PySem.W.nsIn K mainGlobals "len" = some none)
    (z_list:PySem.W.nsIn K mainGlobals "list" = some none)
    (z_max:PySem.W.nsIn K mainGlobals "max" = some none)
    (z_range:PySem.W.nsIn K mainGlobals "range" = some none)
    (z_set:PySem.W.nsIn K mainGlobals "set" = some none)
    (z_sorted:PySem.W.nsIn K mainGlobals "sorted" = some none)
    (z_str:PySem.W.nsIn K mainGlobals "str" = some none)
    (z_sum:PySem.W.nsIn K mainGlobals "sum" = some none)
    (w_SIGNS:PySem.W.nsIn K mainGlobals "SIGNS" = some (some (.str (PySem.Str.ofString " !\"#$&'()*+,-./0123456789:;<=>?@ABCDEFGHIJKLMNOPQRSTUVWXYZ[\\]^_`abcdefghijklmnopqrstuvwxyz{|}~") t_SIGNS)))
    (w_NUMBER_WORD:PySem.W.nsIn K mainGlobals "NUMBER_WORD" = some (some (.int 0 t_NUMBER_WORD)))
    (w_TEXT_WORD:PySem.W.nsIn K mainGlobals "TEXT_WORD" = some (some (.int 1 t_TEXT_WORD)))
    (w_TUPLE_WORD:PySem.W.nsIn K mainGlobals "TUPLE_WORD" = some (some (.int 2 t_TUPLE_WORD)))
    (w_PIECE:PySem.W.nsIn K mainGlobals "PIECE" = some (some (.int 0 t_PIECE)))
    (w_ROW:PySem.W.nsIn K mainGlobals "ROW" = some (some (.int 1 t_ROW)))
    (w_FOLDER:PySem.W.nsIn K mainGlobals "FOLDER" = some (some (.int 2 t_FOLDER)))
    (w_FOLDER_ENTRY:PySem.W.nsIn K mainGlobals "FOLDER_ENTRY" = some (some (.int 2 t_FOLDER_ENTRY)))
    (w_NAME_SIGNS:PySem.W.nsIn K mainGlobals "NAME_SIGNS" = some (some (.str (PySem.Str.ofString "0123456789abcdefghijklmnopqrstuvwxyz") t_NAME_SIGNS)))
    (w_MOST_NAME_SIGNS:PySem.W.nsIn K mainGlobals "MOST_NAME_SIGNS" = some (some (.int 8 t_MOST_NAME_SIGNS)))
    (w_SUM_RESTS:PySem.W.nsIn K mainGlobals "SUM_RESTS" = some (some (.int 997 t_SUM_RESTS)))
    (w_LEAST_BOARDS:PySem.W.nsIn K mainGlobals "LEAST_BOARDS" = some (some (.int 2 t_LEAST_BOARDS)))
    (w_MOST_BOARDS:PySem.W.nsIn K mainGlobals "MOST_BOARDS" = some (some (.int 4 t_MOST_BOARDS))) :
    ∃ fd:FuncData,(∀ (s:Shared) (v:Value),BindsTo s fd ⟨[v],[]⟩ [("_law_script",v)])∧∀ base:Heap,K.In base→base.Ns mainGlobals mg→FnOk l.prog w K mg base CX0 15 fa fd ["_law_script"] (sp_law K):=by
  have e:=hfa.symm.trans (PySem.W.mg_of X G a28)
  cases e
  have T:Txt K mg C_Boards C_TakenCell C_Pool (fun n=>match n with | 0=>X_Lost | _=>0):=⟨⟨pg_Boards,hd_Boards,po_Boards,sa_Boards⟩,n_Boards_shelves,n_Boards_writes,n_Boards_writes_left,⟨pg_TakenCell,hd_TakenCell,po_TakenCell,sa_TakenCell⟩,n_TakenCell_own_tag,n_TakenCell_own_size,n_TakenCell_named,n_TakenCell_times_named,n_TakenCell_entries_beneath,n_TakenCell_steps_beneath,⟨pg_Pool,hd_Pool,po_Pool,sa_Pool⟩,n_Pool_boards,n_Pool_taken,n_Pool_by_sums,n_Pool_draft,n_Pool_first_maybe_free,PySem.W.mg_of X G x_Lost,PySem.W.mg_none_of X G z_abs,PySem.W.mg_none_of X G z_all,PySem.W.mg_none_of X G z_bool,PySem.W.mg_none_of X G z_int,PySem.W.mg_none_of X G z_isinstance,PySem.W.mg_none_of X G z_len,PySem.W.mg_none_of X G z_list,PySem.W.mg_none_of X G z_max,PySem.W.mg_none_of X G z_range,PySem.W.mg_none_of X G z_set,PySem.W.mg_none_of X G z_sorted,PySem.W.mg_none_of X G z_str,PySem.W.mg_none_of X G z_sum,⟨_,PySem.W.mg_of X G w_SIGNS⟩,⟨_,PySem.W.mg_of X G w_NUMBER_WORD⟩,⟨_,PySem.W.mg_of X G w_TEXT_WORD⟩,⟨_,PySem.W.mg_of X G w_TUPLE_WORD⟩,⟨_,PySem.W.mg_of X G w_PIECE⟩,⟨_,PySem.W.mg_of X G w_ROW⟩,⟨_,PySem.W.mg_of X G w_FOLDER⟩,⟨_,PySem.W.mg_of X G w_FOLDER_ENTRY⟩,⟨_,PySem.W.mg_of X G w_NAME_SIGNS⟩,⟨_,PySem.W.mg_of X G w_MOST_NAME_SIGNS⟩,⟨_,PySem.W.mg_of X G w_SUM_RESTS⟩,⟨_,PySem.W.mg_of X G w_LEAST_BOARDS⟩,⟨_,PySem.W.mg_of X G w_MOST_BOARDS⟩⟩
  have F0:=fun_mk (st:=s_is_whole) l0 c0 k0
  have b0:=F0.binds (ps:=["thing"]) fun _ _ _ _ _ _ us hl=>match us,hl with | [_],_=>rfl
  have F1:=fun_mk (st:=s_is_between) l1 c1 k1
  have b1:=F1.binds (ps:=["thing","least","most"]) fun _ _ _ _ _ _ us hl=>match us,hl with | [_,_,_],_=>rfl
  have F2:=fun_mk (st:=s_number_of) l2 c2 k2
  have b2:=F2.binds (ps:=["sign"]) fun _ _ _ _ _ _ us hl=>match us,hl with | [_],_=>rfl
  have F3:=fun_mk (st:=s_is_text) l3 c3 k3
  have b3:=F3.binds (ps:=["thing","least","most"]) fun _ _ _ _ _ _ us hl=>match us,hl with | [_,_,_],_=>rfl
  have F4:=fun_mk (st:=s_words_of) l4 c4 k4
  have b4:=F4.binds (ps:=["thing"]) fun _ _ _ _ _ _ us hl=>match us,hl with | [_],_=>rfl
  have F5:=fun_mk (st:=s_is_name) l5 c5 k5
  have b5:=F5.binds (ps:=["thing"]) fun _ _ _ _ _ _ us hl=>match us,hl with | [_],_=>rfl
  have F6:=fun_mk (st:=s_sum_of) l6 c6 k6
  have b6:=F6.binds (ps:=["block"]) fun _ _ _ _ _ _ us hl=>match us,hl with | [_],_=>rfl
  have F7:=fun_mk (st:=s_numbers_told) l7 c7 k7
  have b7:=F7.binds (ps:=["block"]) fun _ _ _ _ _ _ us hl=>match us,hl with | [_],_=>rfl
  have F8:=fun_mk (st:=s_size_of) l8 c8 k8
  have b8:=F8.binds (ps:=["block"]) fun _ _ _ _ _ _ us hl=>match us,hl with | [_],_=>rfl
  have F9:=fun_mk (st:=s_tags_in) l9 c9 k9
  have b9:=F9.binds (ps:=["block"]) fun _ _ _ _ _ _ us hl=>match us,hl with | [_],_=>rfl
  have F10:=fun_mk (st:=s_TakenCell_init) l10 c10 k10
  have b10:=F10.binds (ps:=["self","own_tag","block"]) fun _ _ _ _ _ _ us hl=>match us,hl with | [_,_,_],_=>rfl
  have F11:=fun_mk (st:=s_Pool_init) l11 c11 k11
  have b11:=F11.binds (ps:=["self","boards"]) fun _ _ _ _ _ _ us hl=>match us,hl with | [_,_],_=>rfl
  have F12:=fun_mk (st:=s_Pool_put) l12 c12 k12
  have b12:=F12.binds (ps:=["self","block","birth"]) fun _ _ _ _ _ _ us hl=>match us,hl with | [_,_,_],_=>rfl
  have F13:=fun_mk (st:=s_Pool_alike) l13 c13 k13
  have b13:=F13.binds (ps:=["self","block"]) fun _ _ _ _ _ _ us hl=>match us,hl with | [_,_],_=>rfl
  have F14:=fun_mk (st:=s_Pool_free_number) l14 c14 k14
  have b14:=F14.binds (ps:=["self"]) fun _ _ _ _ _ _ us hl=>match us,hl with | [_],_=>rfl
  have F15:=fun_mk (st:=s_Pool_take) l15 c15 k15
  have b15:=F15.binds (ps:=["self","tag","block"]) fun _ _ _ _ _ _ us hl=>match us,hl with | [_,_,_],_=>rfl
  have F16:=fun_mk (st:=s_Pool_entries_of) l16 c16 k16
  have b16:=F16.binds (ps:=["self","folder"]) fun _ _ _ _ _ _ us hl=>match us,hl with | [_,_],_=>rfl
  have F17:=fun_mk (st:=s_Pool_steps_of) l17 c17 k17
  have b17:=F17.binds (ps:=["self","folder"]) fun _ _ _ _ _ _ us hl=>match us,hl with | [_,_],_=>rfl
  have F18:=fun_mk (st:=s_Pool_block) l18 c18 k18
  have b18:=F18.binds (ps:=["self","tag"]) fun _ _ _ _ _ _ us hl=>match us,hl with | [_,_],_=>rfl
  have F19:=fun_mk (st:=s_Pool_hold) l19 c19 k19
  have b19:=F19.binds (ps:=["self","tag"]) fun _ _ _ _ _ _ us hl=>match us,hl with | [_,_],_=>rfl
  have F20:=fun_mk (st:=s_Pool_tag) l20 c20 k20
  have b20:=F20.binds (ps:=["self","number"]) fun _ _ _ _ _ _ us hl=>match us,hl with | [_,_],_=>rfl
  have F21:=fun_mk (st:=s_Pool_entries) l21 c21 k21
  have b21:=F21.binds (ps:=["self","number"]) fun _ _ _ _ _ _ us hl=>match us,hl with | [_,_],_=>rfl
  have F22:=fun_mk (st:=s_Pool_deep) l22 c22 k22
  have b22:=F22.binds (ps:=["self","number"]) fun _ _ _ _ _ _ us hl=>match us,hl with | [_,_],_=>rfl
  have F23:=fun_mk (st:=s_Boards_init) l23 c23 k23
  have b23:=F23.binds (ps:=["self","many"]) fun _ _ _ _ _ _ us hl=>match us,hl with | [_,_],_=>rfl
  have F24:=fun_mk (st:=s__law_row) l24 c24 k24
  have b24:=F24.binds (ps:=["_law_cell","_law_many"]) fun _ _ _ _ _ _ us hl=>match us,hl with | [_,_],_=>rfl
  have F25:=fun_mk (st:=s__law_signs) l25 c25 k25
  have b25:=F25.binds (ps:=[]) fun _ _ _ _ _ _ us hl=>match us,hl with | [],_=>rfl
  have F26:=fun_mk (st:=s__law_sum) l26 c26 k26
  have b26:=F26.binds (ps:=["_law_block"]) fun _ _ _ _ _ _ us hl=>match us,hl with | [_],_=>rfl
  have F27:=fun_mk (st:=s__law_pair) l27 c27 k27
  have b27:=F27.binds (ps:=["_law_row_here"]) fun _ _ _ _ _ _ us hl=>match us,hl with | [_],_=>rfl
  have F28:=fun_mk (st:=s_law) l28 c28 k28
  refine ⟨PySem.W.fnOf "law" "law" (defArgs s_law) (defBody s_law) (defScope s_law) .none kV28 dc28 pm28 an28 cd28 ct28,fun s v=>.of_eq rfl,fun base _ _=>?_⟩
  have D_is_whole:Def l.prog w K mg base 1 "is_whole" ["thing"] (sp_is_whole K):=⟨_,_,ok_is_whole T F0 ,PySem.W.mg_of X G a0,k0,b0⟩
  have D_number_of:Def l.prog w K mg base 1 "number_of" ["sign"] (sp_number_of K):=⟨_,_,ok_number_of T F2 ,PySem.W.mg_of X G a2,k2,b2⟩
  have D_is_text:Def l.prog w K mg base 1 "is_text" ["thing","least","most"] (sp_is_text K):=⟨_,_,ok_is_text T F3 ,PySem.W.mg_of X G a3,k3,b3⟩
  have D_tags_in:Def l.prog w K mg base 1 "tags_in" ["block"] (sp_tags_in K):=⟨_,_,ok_tags_in T F9 ,PySem.W.mg_of X G a9,k9,b9⟩
  have D_Pool_init:CDef l.prog w K mg base 1 C_Pool "Pool" ["self","boards"] (sp_Pool_init K C_Pool):=⟨_,_,ok_Pool_init T F11 ,⟨mk_Pool,a11,i11,kc_Pool⟩,PySem.W.mg_of X G aC_Pool,b11⟩
  have D_Pool_free_number:MDef l.prog w K mg base 1 C_Pool "free_number" ["self"] (sp_Pool_free_number K C_Pool C_TakenCell):=⟨_,_,ok_Pool_free_number T F14 ,⟨a14,i14,k14⟩,b14⟩
  have D_Pool_block:MDef l.prog w K mg base 1 C_Pool "block" ["self","tag"] (sp_Pool_block K C_Pool C_TakenCell):=⟨_,_,ok_Pool_block T F18 ,⟨a18,i18,k18⟩,b18⟩
  have D_Pool_hold:MDef l.prog w K mg base 1 C_Pool "hold" ["self","tag"] (sp_Pool_hold K C_Pool C_TakenCell):=⟨_,_,ok_Pool_hold T F19 ,⟨a19,i19,k19⟩,b19⟩
  have D_Pool_tag:MDef l.prog w K mg base 1 C_Pool "tag" ["self","number"] (sp_Pool_tag K C_Pool C_TakenCell):=⟨_,_,ok_Pool_tag T F20 ,⟨a20,i20,k20⟩,b20⟩
  have D_Pool_entries:MDef l.prog w K mg base 1 C_Pool "entries" ["self","number"] (sp_Pool_entries K C_Pool C_TakenCell):=⟨_,_,ok_Pool_entries T F21 ,⟨a21,i21,k21⟩,b21⟩
  have D_Pool_deep:MDef l.prog w K mg base 1 C_Pool "deep" ["self","number"] (sp_Pool_deep K C_Pool C_TakenCell):=⟨_,_,ok_Pool_deep T F22 ,⟨a22,i22,k22⟩,b22⟩
  have D__law_row:Def l.prog w K mg base 1 "_law_row" ["_law_cell","_law_many"] (sp__law_row K):=⟨_,_,ok__law_row T F24 ,PySem.W.mg_of X G a24,k24,b24⟩
  have D__law_signs:Def l.prog w K mg base 1 "_law_signs" [] (sp__law_signs K):=⟨_,_,ok__law_signs T F25 ,PySem.W.mg_of X G a25,k25,b25⟩
  have D_is_between:Def l.prog w K mg base 2 "is_between" ["thing","least","most"] (sp_is_between K):=⟨_,_,ok_is_between T F1 D_is_whole,PySem.W.mg_of X G a1,k1,b1⟩
  have D_is_name:Def l.prog w K mg base 2 "is_name" ["thing"] (sp_is_name K):=⟨_,_,ok_is_name T F5 D_is_text,PySem.W.mg_of X G a5,k5,b5⟩
  have D_numbers_told:Def l.prog w K mg base 2 "numbers_told" ["block"] (sp_numbers_told K):=⟨_,_,ok_numbers_told T F7 D_number_of,PySem.W.mg_of X G a7,k7,b7⟩
  have D_Pool_entries_of:MDef l.prog w K mg base 2 C_Pool "entries_of" ["self","folder"] (sp_Pool_entries_of K C_Pool C_TakenCell):=⟨_,_,ok_Pool_entries_of T F16 D_Pool_entries,⟨a16,i16,k16⟩,b16⟩
  have D_Pool_steps_of:MDef l.prog w K mg base 2 C_Pool "steps_of" ["self","folder"] (sp_Pool_steps_of K C_Pool C_TakenCell):=⟨_,_,ok_Pool_steps_of T F17 D_Pool_deep,⟨a17,i17,k17⟩,b17⟩
  have D__law_sum:Def l.prog w K mg base 2 "_law_sum" ["_law_block"] (sp__law_sum K):=⟨_,_,ok__law_sum T F26 D__law_signs,PySem.W.mg_of X G a26,k26,b26⟩
  have D__law_pair:Def l.prog w K mg base 2 "_law_pair" ["_law_row_here"] (sp__law_pair K):=⟨_,_,ok__law_pair T F27 D__law_signs,PySem.W.mg_of X G a27,k27,b27⟩
  have D_sum_of:Def l.prog w K mg base 3 "sum_of" ["block"] (sp_sum_of K):=⟨_,_,ok_sum_of T F6 D_numbers_told,PySem.W.mg_of X G a6,k6,b6⟩
  have D_Boards_init:CDef l.prog w K mg base 3 C_Boards "Boards" ["self","many"] (sp_Boards_init K C_Boards):=⟨_,_,ok_Boards_init T F23 D_is_between,⟨mk_Boards,a23,i23,kc_Boards⟩,PySem.W.mg_of X G aC_Boards,b23⟩
  have D_Pool_alike:MDef l.prog w K mg base 4 C_Pool "alike" ["self","block"] (sp_Pool_alike K C_Pool C_TakenCell):=⟨_,_,ok_Pool_alike T F13 D_sum_of D_Pool_block D_Pool_tag,⟨a13,i13,k13⟩,b13⟩
  have D_words_of:Def l.prog w K mg base 9 "words_of" ["thing"] (sp_words_of K):=⟨_,_,ok_words_of T F4 D_is_whole D_number_of (PySem.W.mg_of X G a4) k4 b4,PySem.W.mg_of X G a4,k4,b4⟩
  have D_size_of:Def l.prog w K mg base 10 "size_of" ["block"] (sp_size_of K):=⟨_,_,ok_size_of T F8 D_words_of,PySem.W.mg_of X G a8,k8,b8⟩
  have D_TakenCell_init:CDef l.prog w K mg base 11 C_TakenCell "TakenCell" ["self","own_tag","block"] (sp_TakenCell_init K C_TakenCell):=⟨_,_,ok_TakenCell_init T F10 D_size_of D_tags_in,⟨mk_TakenCell,a10,i10,kc_TakenCell⟩,PySem.W.mg_of X G aC_TakenCell,b10⟩
  have D_Pool_take:MDef l.prog w K mg base 13 C_Pool "take" ["self","tag","block"] (sp_Pool_take K C_Pool C_TakenCell):=⟨_,_,ok_Pool_take T F15 D_TakenCell_init D_Pool_entries_of D_Pool_steps_of D_Pool_hold,⟨a15,i15,k15⟩,b15⟩
  have D_Pool_put:MDef l.prog w K mg base 14 C_Pool "put" ["self","block","birth"] (sp_Pool_put K C_Pool C_TakenCell):=⟨_,_,ok_Pool_put T F12 D_Pool_alike D_Pool_take D_Pool_free_number D_sum_of,⟨a12,i12,k12⟩,b12⟩
  exact ok_law T F28 D_Pool_init D_Boards_init D__law_row D__law_pair D_Pool_put D_Pool_block D__law_sum
theorem walk {l:PySem.W.OpenLaw} {q:Program} {loose:List Str} {XP:(Str→Option Value)→Heap→Prop} {YP:World→Heap→Prop} {d:DefRec} {K:Params→PySem.W.Frag} (hn:l.most = some 63) (hdf:d.params.defaults = [])
    (hY:∀ (w:World) (h:Heap),YP w h→(K w.params).In h)
    (F:∀ (w:World) (mg:Str→Option Value) (fa:Addr) (h:Heap),(K w.params).In h→h.Ns mainGlobals mg→mg d.name = some (.ref fa)→
      ∃ fd:FuncData,(∀ (s:Shared) (u:Value),BindsTo s fd ⟨[u],[]⟩ [("_law_script",u)])∧∀ base:Heap,(K w.params).In base→base.Ns mainGlobals mg→FnOk l.prog w (K w.params) mg base CX0 15 fa fd ["_law_script"] (sp_law (K w.params))) :
    PySem.W.WalkO q loose XP YP l.row.toRowW d [] (fun f vs=>PySem.call f vs):=
  L2.walk_of (n:=63) (k:=15) (x:="_law_script") (CX:=fun _=>CX0) (sp:=fun w=>sp_law (K w.params)) hn (by decide) hdf ⟨rfl,by decide,by decide⟩ hY F (fun _ _ a ns hl _ hS=>⟨a,ns,rfl,hS,hl,fun _=>rfl⟩) fun _ _ _ _ _ z=>z
end K29
def PySem.W.Fast.tw15641715125113993005:Type:=PySem.Expr
theorem PySem.W.Fast.te15641715125113993005:PySem.Expr = PySem.W.Fast.tw15641715125113993005:=rfl
def PySem.W.Fast.tw90343872475197607:Type:=PySem.Params
theorem PySem.W.Fast.te90343872475197607:PySem.Params = PySem.W.Fast.tw90343872475197607:=rfl
open PySem PySem.W PyProof.Rows
set_option maxRecDepth 100000 in
set_option maxHeartbeats 0 in
theorem PySem.Challenge.cw_stemshelf_k29_alike_by_words_holds : PySem.Challenge.rw_stemshelf_k29_alike_by_words.Holds := by
  w_on; o_law; k_head; (case hw=>w_witness2)
  k_fill
  refine K29.walk (l:=PySem.Challenge.rw_stemshelf_k29_alike_by_words) rfl rfl (fun w h Y=>PySem.W.kIn_of Y) ?F
  case F=>
    intro w mg fa h KX G hmg
    refine' K29.all_mk KX G hmg ?a0 ?l0 ?c0 ?k0 ?a1 ?l1 ?c1 ?k1 ?a2 ?l2 ?c2 ?k2 ?a3 ?l3 ?c3 ?k3 ?a4 ?l4 ?c4 ?k4 ?a5 ?l5 ?c5 ?k5 ?a6 ?l6 ?c6 ?k6 ?a7 ?l7 ?c7 ?k7 ?a8 ?l8 ?c8 ?k8 ?a9 ?l9 ?c9 ?k9 ?a10 ?i10 ?l10 ?c10 ?k10 ?a11 ?i11 ?l11 ?c11 ?k11 ?a12 ?i12 ?l12 ?c12 ?k12 ?a13 ?i13 ?l13 ?c13 ?k13 ?a14 ?i14 ?l14 ?c14 ?k14 ?a15 ?i15 ?l15 ?c15 ?k15 ?a16 ?i16 ?l16 ?c16 ?k16 ?a17 ?i17 ?l17 ?c17 ?k17 ?a18 ?i18 ?l18 ?c18 ?k18 ?a19 ?i19 ?l19 ?c19 ?k19 ?a20 ?i20 ?l20 ?c20 ?k20 ?a21 ?i21 ?l21 ?c21 ?k21 ?a22 ?i22 ?l22 ?c22 ?k22 ?a23 ?i23 ?l23 ?c23 ?k23 ?a24 ?l24 ?c24 ?k24 ?a25 ?l25 ?c25 ?k25 ?a26 ?l26 ?c26 ?k26 ?a27 ?l27 ?c27 ?k27 ?a28 ?l28 ?c28 ?k28 ?aC_Boards ?pg_Boards ?hd_Boards ?po_Boards ?sa_Boards ?mk_Boards ?kc_Boards ?n_Boards_shelves ?n_Boards_writes ?n_Boards_writes_left ?aC_TakenCell ?pg_TakenCell ?hd_TakenCell ?po_TakenCell ?sa_TakenCell ?mk_TakenCell ?kc_TakenCell ?n_TakenCell_own_tag ?n_TakenCell_own_size ?n_TakenCell_named ?n_TakenCell_times_named ?n_TakenCell_entries_beneath ?n_TakenCell_steps_beneath ?aC_Pool ?pg_Pool ?hd_Pool ?po_Pool ?sa_Pool ?mk_Pool ?kc_Pool ?n_Pool_boards ?n_Pool_taken ?n_Pool_by_sums ?n_Pool_draft ?n_Pool_first_maybe_free ?x_Lost ?z_abs ?z_all ?z_bool ?z_int ?z_isinstance ?z_len ?z_list ?z_max ?z_range ?z_set ?z_sorted ?z_str ?z_sum ?w_SIGNS ?w_NUMBER_WORD ?w_TEXT_WORD ?w_TUPLE_WORD ?w_PIECE ?w_ROW ?w_FOLDER ?w_FOLDER_ENTRY ?w_NAME_SIGNS ?w_MOST_NAME_SIGNS ?w_SUM_RESTS ?w_LEAST_BOARDS ?w_MOST_BOARDS
    (case aC_Boards=>k_is)
    (case aC_TakenCell=>k_is)
    (case aC_Pool=>k_is)
    (case x_Lost=>k_is)
    (case a0=>k_is)
    (case l0=>k_is)
    (case c0=>k_is)
    (case k0=>k_is)
    (case a1=>k_is)
    (case l1=>k_is)
    (case c1=>k_is)
    (case k1=>k_is)
    (case a2=>k_is)
    (case l2=>k_is)
    (case c2=>k_is)
    (case k2=>k_is)
    (case a3=>k_is)
    (case l3=>k_is)
    (case c3=>k_is)
    (case k3=>k_is)
    (case a4=>k_is)
    (case l4=>k_is)
    (case c4=>k_is)
    (case k4=>k_is)
    (case a5=>k_is)
    (case l5=>k_is)
    (case c5=>k_is)
    (case k5=>k_is)
    (case a6=>k_is)
    (case l6=>k_is)
    (case c6=>k_is)
    (case k6=>k_is)
    (case a7=>k_is)
    (case l7=>k_is)
    (case c7=>k_is)
    (case k7=>k_is)
    (case a8=>k_is)
    (case l8=>k_is)
    (case c8=>k_is)
    (case k8=>k_is)
    (case a9=>k_is)
    (case l9=>k_is)
    (case c9=>k_is)
    (case k9=>k_is)
    (case a10=>k_is)
    (case i10=>k_is)
    (case l10=>k_is)
    (case c10=>k_is)
    (case k10=>k_is)
    (case a11=>k_is)
    (case i11=>k_is)
    (case l11=>k_is)
    (case c11=>k_is)
    (case k11=>k_is)
    (case a12=>k_is)
    (case i12=>k_is)
    (case l12=>k_is)
    (case c12=>k_is)
    (case k12=>k_is)
    (case a13=>k_is)
    (case i13=>k_is)
    (case l13=>k_is)
    (case c13=>k_is)
    (case k13=>k_is)
    (case a14=>k_is)
    (case i14=>k_is)
    (case l14=>k_is)
    (case c14=>k_is)
    (case k14=>k_is)
    (case a15=>k_is)
    (case i15=>k_is)
    (case l15=>k_is)
    (case c15=>k_is)
    (case k15=>k_is)
    (case a16=>k_is)
    (case i16=>k_is)
    (case l16=>k_is)
    (case c16=>k_is)
    (case k16=>k_is)
    (case a17=>k_is)
    (case i17=>k_is)
    (case l17=>k_is)
    (case c17=>k_is)
    (case k17=>k_is)
    (case a18=>k_is)
    (case i18=>k_is)
    (case l18=>k_is)
    (case c18=>k_is)
    (case k18=>k_is)
    (case a19=>k_is)
    (case i19=>k_is)
    (case l19=>k_is)
    (case c19=>k_is)
    (case k19=>k_is)
    (case a20=>k_is)
    (case i20=>k_is)
    (case l20=>k_is)
    (case c20=>k_is)
    (case k20=>k_is)
    (case a21=>k_is)
    (case i21=>k_is)
    (case l21=>k_is)
    (case c21=>k_is)
    (case k21=>k_is)
    (case a22=>k_is)
    (case i22=>k_is)
    (case l22=>k_is)
    (case c22=>k_is)
    (case k22=>k_is)
    (case a23=>k_is)
    (case i23=>k_is)
    (case l23=>k_is)
    (case c23=>k_is)
    (case k23=>k_is)
    (case a24=>k_is)
    (case l24=>k_is)
    (case c24=>k_is)
    (case k24=>k_is)
    (case a25=>k_is)
    (case l25=>k_is)
    (case c25=>k_is)
    (case k25=>k_is)
    (case a26=>k_is)
    (case l26=>k_is)
    (case c26=>k_is)
    (case k26=>k_is)
    (case a27=>k_is)
    (case l27=>k_is)
    (case c27=>k_is)
    (case k27=>k_is)
    (case a28=>k_is)
    (case l28=>k_is)
    (case c28=>k_is)
    (case k28=>k_is)
    (case pg_Boards=>k_is)
    (case hd_Boards=>k_is)
    (case po_Boards=>k_is)
    (case sa_Boards=>k_is)
    (case mk_Boards=>k_is)
    (case kc_Boards=>k_is)
    (case n_Boards_shelves=>k_is)
    (case n_Boards_writes=>k_is)
    (case n_Boards_writes_left=>k_is)
    (case pg_TakenCell=>k_is)
    (case hd_TakenCell=>k_is)
    (case po_TakenCell=>k_is)
    (case sa_TakenCell=>k_is)
    (case mk_TakenCell=>k_is)
    (case kc_TakenCell=>k_is)
    (case n_TakenCell_own_tag=>k_is)
    (case n_TakenCell_own_size=>k_is)
    (case n_TakenCell_named=>k_is)
    (case n_TakenCell_times_named=>k_is)
    (case n_TakenCell_entries_beneath=>k_is)
    (case n_TakenCell_steps_beneath=>k_is)
    (case pg_Pool=>k_is)
    (case hd_Pool=>k_is)
    (case po_Pool=>k_is)
    (case sa_Pool=>k_is)
    (case mk_Pool=>k_is)
    (case kc_Pool=>k_is)
    (case n_Pool_boards=>k_is)
    (case n_Pool_taken=>k_is)
    (case n_Pool_by_sums=>k_is)
    (case n_Pool_draft=>k_is)
    (case n_Pool_first_maybe_free=>k_is)
    (case z_abs=>k_is)
    (case z_all=>k_is)
    (case z_bool=>k_is)
    (case z_int=>k_is)
    (case z_isinstance=>k_is)
    (case z_len=>k_is)
    (case z_list=>k_is)
    (case z_max=>k_is)
    (case z_range=>k_is)
    (case z_set=>k_is)
    (case z_sorted=>k_is)
    (case z_str=>k_is)
    (case z_sum=>k_is)
    (case w_SIGNS=>k_is)
    (case w_NUMBER_WORD=>k_is)
    (case w_TEXT_WORD=>k_is)
    (case w_TUPLE_WORD=>k_is)
    (case w_PIECE=>k_is)
    (case w_ROW=>k_is)
    (case w_FOLDER=>k_is)
    (case w_FOLDER_ENTRY=>k_is)
    (case w_NAME_SIGNS=>k_is)
    (case w_MOST_NAME_SIGNS=>k_is)
    (case w_SUM_RESTS=>k_is)
    (case w_LEAST_BOARDS=>k_is)
    (case w_MOST_BOARDS=>k_is)
